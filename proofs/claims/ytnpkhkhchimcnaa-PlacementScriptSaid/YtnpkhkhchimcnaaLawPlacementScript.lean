/-
  The walk of the law PlacementScript: for all inputs it returns true.
-/
import Derived.Test.YtnpkhkhchimcnaaPmAdd
import Derived.Test.YtnpkhkhchimcnaaPmRemM
import Derived.Test.YtnpkhkhchimcnaaPmInitM
import Derived.Test.YtnpkhkhchimcnaaPmPend
import Derived.Test.YtnpkhkhchimcnaaPmTake
import Derived.Test.YtnpkhkhchimcnaaPmOpen
import Derived.Test.YtnpkhkhchimcnaaFree3
import Derived.Test.YtnpkhkhchimcnaaPmCopy
import Derived.Deep.DeepCutAuto
namespace Go.Proofs.Ytnpkhkhchimcnaa.lawPlacementScript
open Go.ChangeShapes Go.WideShapes Go.ChangeAt Go.RowKit Go.Shelf plain words ord mem pm

theorem op_two {w w' : World} {B ga gb : Nat} {v : PV} {ca cb : Array Value} (h : OP w B v) (hc : Chg (fun k => k = ga ∨ k = gb) w w') (ha : w.heap[ga]? = some (.cells ca 25 (0, 0))) (hb : w.heap[gb]? = some (.cells cb 25 (0, 0))) : OP w' B v := by
  have one : ∀ {α : Type} {E : El α} {x : Value} {n : Nat} {l : List α}, E.e ≠ 25 → Ow E w B x n l → Ow E w' B x n l := fun hne ho => ho.chg hc fun g hg e => by
    obtain ⟨c, hcur⟩ := ho.type hg
    rcases e with rfl | rfl
    · exact blk_type hcur ha hne rfl
    · exact blk_type hcur hb hne rfl
  exact ⟨one (by decide) h.n, one (by decide) h.s, fun r hr => one (by decide) (h.each r hr)⟩
theorem od_op {w : World} {B : Nat} {v : PV} (h : OD w B v) : OP w B v := ⟨h.n, h.s, h.each⟩
theorem rises_of {v : PV} (h : PlOk v.pl) : Rises v.pl.ss := fun l hl => (h.each l hl).rise
set_option maxHeartbeats 4000000 in
set_option maxRecDepth 100000 in
theorem walk_ok (a0 : Option Addr) (len0 cap0 : Nat) (z0 : List Int) (a1 : Int) (a2 : Option Addr) (len2 cap2 : Nat) (w : World) (w0 : IsRow .i64 w a0 len0 cap0 z0) (w1 : (Lit.int .i64 a1).wf = true) (ws : IsLs TE (fun _ => True) w a2 len2 cap2) :
    Calls Try.prog 6 #[.slice a0 len0 cap0, .int .i64 a1, .slice a2 len2 cap2] w fun e w' => e = .returned (.bool true) ∧ Below w.heap.size w w' := by
  obtain ⟨hls, hcap, hmost⟩ := row_ls w0
  obtain ⟨l, hl⟩ : ∃ l, z0.take len0 = l := ⟨_, rfl⟩
  rw [hl] at hls
  clear w0 w1 hl
  obtain ⟨st, hst, _, hcap2, hmost2, hnil2⟩ := ws
  have HST := Lib.hid hst
  clear hst
  have HL := Lib.hid hls
  have HLN := Lib.hid hls.1
  clear hls
  by_cases hbig : 256 < len0
  · have hbz : (256 : Int) < (len0 : Int) := by omega
    clear hbig
    go_enter Try.func6, Try.ntmps6
    go_wp2_with (fail)
    go_ret
    exact ⟨rfl, Below.refl _ _⟩
  have hbz : ¬ (256 : Int) < (len0 : Int) := by omega
  by_cases hbig2 : 256 < len2
  · have hbz2 : (256 : Int) < (len2 : Int) := by omega
    clear hbig2
    go_enter Try.func6, Try.ntmps6
    go_wp2_with (fail)
    go_ret
    exact ⟨rfl, Below.refl _ _⟩
  · have hbz2 : ¬ (256 : Int) < (len2 : Int) := by omega
    have HPI := Lib.hid (pinit_sx w w.heap.size len0 cap0 a0 l HL.out (Nat.le_refl _) (by omega) a1)
    have HRI := Lib.hid (fun (u : World) (hu : Below w.heap.size w u) => rinit_y u w.heap.size len0 cap0 a0 l (HL.out.below hu (Nat.le_refl _)) hu.size (by omega) hcap hmost a1)
    obtain ⟨er, her⟩ : ∃ er, initErr l a1 = er := ⟨_, rfl⟩
    rw [rinitErr_eq, her, rinit_pl] at HRI
    rw [her] at HPI
    have HER := Lib.hid her
    clear her
    go_enter Try.func6, Try.ntmps6
    go_wp2_with (fail)
    refine HPI.out.mono ?_
    rintro e w2 ⟨⟨ver, nA, nc, nodes, sA, sc, rs⟩, rfl, hvp, hvok, hb2⟩
    obtain ⟨w3, hw3⟩ : ∃ w3, w2.alloc (.cells #[.int .i64 ver, .slice nA nodes.length nc, .slice sA rs.length sc] 25) = w3 := ⟨_, rfl⟩
    have HB3 := Lib.hid (show Below w.heap.size w w3 by rw [← hw3]; exact hb2.alloc hb2.size _)
    have HV := Lib.hid hvp
    have HOP3 := Lib.hid (show OP w3 w.heap.size (⟨ver, nA, nc, nodes, sA, sc, rs⟩ : PV) by rw [← hw3]; exact hvok.below (below_al _ _) (Nat.le_refl _))
    have HOK := Lib.hid (show PVok w3 w2.heap.size (⟨ver, nA, nc, nodes, sA, sc, rs⟩ : PV) by rw [← hw3]; exact hvok.ok.below (below_al _ _) (Nat.le_refl _))
    have HG := Lib.hid (show IsV3 25 w3 w2.heap.size (.int .i64 ver) (.slice nA nodes.length nc) (.slice sA rs.length sc) by rw [← hw3]; exact alloc_new _ _)
    have HW3 := Lib.hid hw3
    have hs2 := hb2.size
    have hs3 : w2.heap.size < w3.heap.size := blk_lt HG.out
    clear hvp hvok hb2 hw3 HPI
    go_wp2_with (fail)
    rw [HW3.out]
    refine (HRI.out w3 HB3.out).mono ?_
    rintro e w4 ⟨⟨ver2, nA2, nc2, nodes2, sA2, sc2, rs2⟩, rfl, hvp2, hvok2, hb4⟩
    obtain ⟨w5, hw5⟩ : ∃ w5, w4.alloc (.cells #[.int .i64 ver2, .slice nA2 nodes2.length nc2, .slice sA2 rs2.length sc2] 25) = w5 := ⟨_, rfl⟩
    have hb5 : Below w3.heap.size w3 w5 := by rw [← hw5]; exact hb4.alloc hb4.size _
    have HV2 := Lib.hid hvp2
    have HOK2 := Lib.hid (show PVok w5 w4.heap.size (⟨ver2, nA2, nc2, nodes2, sA2, sc2, rs2⟩ : PV) by rw [← hw5]; exact hvok2.below (below_al _ _) (Nat.le_refl _))
    have HG2 := Lib.hid (show IsV3 25 w5 w4.heap.size (.int .i64 ver2) (.slice nA2 nodes2.length nc2) (.slice sA2 rs2.length sc2) by rw [← hw5]; exact alloc_new _ _)
    have HP5 := Lib.hid hb5
    have HB5 := Lib.hid (HB3.out.trans (hb5.mono HB3.out.size))
    have hs5 := hb5.size
    have hs4 := hb4.size
    have hs45 : w4.heap.size < w5.heap.size := blk_lt HG2.out
    have HG5 := Lib.hid (blk_below hb5 HG.out hs3)
    have HW5 := Lib.hid hw5
    clear hb4 hb5 hw5 HRI hvp2 hvok2
    have hpq : (⟨ver, nA, nc, nodes, sA, sc, rs⟩ : PV).pl = (⟨ver2, nA2, nc2, nodes2, sA2, sc2, rs2⟩ : PV).pl := by rw [HV.out, HV2.out]
    have HSM := Lib.hid (same_l w5 w5.heap.size (⟨ver, nA, nc, nodes, sA, sc, rs⟩ : PV) (⟨ver2, nA2, nc2, nodes2, sA2, sc2, rs2⟩ : PV) ((HOK.out.more (C := w3.heap.size) (by omega)).below HP5.out (Nat.le_refl _) |>.more (by omega)) (HOK2.out.more (by omega)) (Nat.le_refl _) hpq)
    simp only [PV.val] at HSM
    clear hpq
    have HOP5 := Lib.hid (HOP3.out.below HP5.out (Nat.le_refl _))
    have hw25 : w2.heap.size < w5.heap.size := by omega
    obtain ⟨⟨c0, c1, c2⟩, _⟩ := isv3_cells HG5.out
    obtain ⟨⟨d0, d1, d2⟩, _⟩ := isv3_cells HG2.out
    have HW5b := HW5.out
    go_wp2_with (fail)
    clear HW5b
    refine HSM.out.mono ?_
    rintro e w6 ⟨rfl, hb6⟩
    have HP6 := Lib.hid hb6
    have HB6 := Lib.hid (HB5.out.trans (hb6.mono HB5.out.size))
    have hs6 := hb6.size
    clear hb6 c0 c1 c2 d0 d1 d2
    have HRR := Lib.hid (Below.refl w6.heap.size w6)
    by_cases he0 : er = 0
    · subst he0
      obtain ⟨hok, _, _, _, _⟩ := init_ok HER.out
      have HPS := Lib.hid (show PlOk (⟨ver, nA, nc, nodes, sA, sc, rs⟩ : PV).pl by rw [HV.out]; exact hok)
      have HG6 := Lib.hid (blk_below HP6.out HG5.out hw25)
      have HOP6 := Lib.hid (HOP5.out.below HP6.out (Nat.le_refl _))
      have hw26 : w.heap.size ≤ w2.heap.size := hs2
      clear hok
      go_wp2_with (fail)
      go_loopg [6, 11, 12, 13, 14, 15, 16, 17, 18, 19, 20, 21] len2 (fun gg s6 s11 s12 s13 s14 s15 s16 s17 s18 s19 s20 s21 wr => ∃ i : Nat, s11 = .int .i64 i ∧ s6 = .bool false ∧ i ≤ len2 ∧ len2 - i ≤ gg ∧ Aside (∃ v : PV, pm.Boxed wr w2.heap.size v ∧ OP wr w.heap.size v ∧ PlOk v.pl ∧ Below w.heap.size w wr))
      case atStart => exact ⟨0, rfl, rfl, by omega, by omega, ⟨_, HG6.out, HOP6.out, HPS.out, HB6.out⟩⟩
      case round =>
        obtain ⟨i, rfl, rfl, hi, hg, HR⟩ := hrel
        obtain ⟨v, hbx, hop, hpok, hbw⟩ := HR.out
        have hsr := hbw.size
        have hb2l : w2.heap.size < wr.heap.size := blk_lt hbx
        by_cases hlt : i < len2
        · have hltz : (i : Int) < (len2 : Int) := by omega
          have i0 : (0 : Int) ≤ (i : Int) := by omega
          obtain ⟨o, ho⟩ := HST.out.get hlt
          obtain ⟨k, a, b⟩ := o
          have HO := Lib.hid ho
          have HBX := Lib.hid hbx
          have HOPV := Lib.hid hop
          have HPOK := Lib.hid hpok
          have HBWR := Lib.hid hbw
          have HCP := Lib.hid (copied_l wr wr.heap.size v hop.ok (Nat.le_refl _) hpok.sizes.1 hpok.sizes.2.1 hpok.sizes.2.2.1 hpok.sizes.2.2.2.1 hpok.sizes.2.2.2.2)
          obtain ⟨pl0, hpl0⟩ : ∃ pl0, v.pl = pl0 := ⟨_, rfl⟩
          rw [hpl0] at HCP
          have HPL0 := Lib.hid hpl0
          obtain ⟨⟨c0, c1, c2⟩, _⟩ := isv3_cells hbx
          obtain ⟨ver', nA', nc', nodes', sA', sc', rs'⟩ := v
          simp only [PV.val] at HCP
          clear hbx hop hpok hbw HR ho hpl0
          obtain ⟨wp, hwp⟩ : ∃ wp, wp = wr := ⟨wr, rfl⟩
          obtain rfl := hwp
          go_wp2_with (fail)
          refine HCP.out.mono ?_
          rintro e wk ⟨⟨uv, uA, uc, un, uB, ud, ur⟩, rfl, hplu, hou, hbu⟩
          obtain ⟨wv, hwv⟩ : ∃ wv, wk.alloc (.cells #[.int .i64 uv, .slice uA un.length uc, .slice uB ur.length ud] 25) = wv := ⟨_, rfl⟩
          have hbv : Below wk.heap.size wk wv := by rw [← hwv]; exact below_al _ _
          have hgu : IsV3 25 wv wk.heap.size (.int .i64 uv) (.slice uA un.length uc) (.slice uB ur.length ud) := by rw [← hwv]; exact alloc_new _ _
          have HPV2 := Lib.hid (hbu.trans (hbv.mono hbu.size))
          have HBWV := Lib.hid (HBWR.out.trans (HPV2.out.mono hsr))
          have hsv := HPV2.out.size
          have hsk := hbu.size
          have HGU := Lib.hid hgu
          have hsu : wk.heap.size < wv.heap.size := blk_lt hgu
          have HPLU := Lib.hid hplu
          have HOU := Lib.hid ((od_op hou).ok.below hbv (Nat.le_refl _))
          have HWV := Lib.hid hwv
          clear hplu hou hbu hbv hgu hwv c0 c1 c2
          obtain ⟨bs, os, hAs, hbs, s0, s1, s2⟩ := step_at HST.out HO.out
          subst hAs
          simp only at s0 s1 s2
          have HSC := Lib.hid (fun (u : World) (hu : Below w.heap.size w u) => And.intro ((hu.cell (p := ⟨bs, os + i * 3, none⟩) hbs).trans s0) (And.intro ((hu.cell (p := ⟨bs, os + i * 3 + 1, none⟩) hbs).trans s1) ((hu.cell (p := ⟨bs, os + i * 3 + 2, none⟩) hbs).trans s2)))
          clear s0 s1 s2
          obtain ⟨s0, s1, s2⟩ := HSC.out wv HBWV.out
          have hbsw : bs < wv.heap.size := by omega
          have hvw : OP wv w.heap.size (⟨ver', nA', nc', nodes', sA', sc', rs'⟩ : PV) := HOPV.out.below HPV2.out (Nat.le_refl _)
          have HSTP := Lib.hid (fun (u : World) (hu : Below wv.heap.size wv u) => step_l u wv.heap.size (⟨ver', nA', nc', nodes', sA', sc', rs'⟩ : PV) (hvw.ok.below hu (Nat.le_refl _)) hu.size k a b)
          rw [HPL0.out] at HSTP
          obtain ⟨er, her⟩ : ∃ er, stepErr pl0 k a b = er := ⟨_, rfl⟩
          obtain ⟨pl, hpl⟩ : ∃ pl, stepPl pl0 k a b = pl := ⟨_, rfl⟩
          rw [her, hpl] at HSTP
          have HSO := Lib.hid (show er = 0 → PlOk pl from fun e => by
            rw [e] at her
            obtain ⟨h1, h2, h3⟩ := step_ok her
            rw [hpl] at h1
            exact h1)
          have HPW := Lib.hid (blk_below HPV2.out HBX.out hb2l)
          obtain ⟨⟨c0, c1, c2⟩, _⟩ := isv3_cells HPW.out
          have hb2v : w2.heap.size < wv.heap.size := by omega
          simp only [PV.val] at HSTP
          clear her hpl hvw
          have HWVo := HWV.out
          go_upto_region 11 with (fail)
          clear HWVo
          have q0 := Wf.at_ (F := fun _ => False) c0 (fun e => e)
          have q1 := Wf.at_ (F := fun _ => False) c1 (fun e => e)
          have q2 := Wf.at_ (F := fun _ => False) c2 (fun e => e)
          have q3 := Wf.at_ (F := fun _ => False) s0 (fun e => e)
          have q4 := Wf.at_ (F := fun _ => False) s1 (fun e => e)
          have q5 := Wf.at_ (F := fun _ => False) s2 (fun e => e)
          go_cut [13, 14, 15, 16] (fun s13 s14 s15 s16 wx => ∃ (ga gb : Nat) (er2 : Int) (x y : PV), s13 = .pointer (some ⟨ga, 0, none⟩) ∧ s14 = .int .i64 er2 ∧ s15 = .pointer (some ⟨gb, 0, none⟩) ∧ s16 = .int .i64 er2 ∧ pm.Boxed wx ga x ∧ pm.Boxed wx gb y ∧ x.pl = pl ∧ er2 = er ∧ y.pl = pl ∧ OP wx wv.heap.size x ∧ OP wx wv.heap.size y ∧ wv.heap.size ≤ ga ∧ wv.heap.size ≤ gb ∧ ga ≠ gb ∧ Below wv.heap.size wv wx)
          case first =>
            refine fr3.wp_region_tree (F := fun _ => False) ((.reads [0, 1, 2, 3, 4] (.three 5 false (.reads [6, 7, 8, 9, 10] (.two 11 false (.one 12 false (.one 13 true (.reads [14] (.one 15 true (.reads [16] .stop))))) 12 false (.one 11 false (.one 13 true (.reads [14] (.one 15 true (.reads [16] .stop))))))) 11 false (.two 5 false (.reads [6, 7, 8, 9, 10] (.one 12 false (.one 13 true (.reads [14] (.one 15 true (.reads [16] .stop)))))) 12 false (.one 5 false (.reads [6, 7, 8, 9, 10] (.one 13 true (.reads [14] (.one 15 true (.reads [16] .stop))))))) 12 false (.two 5 false (.reads [6, 7, 8, 9, 10] (.one 11 false (.one 13 true (.reads [14] (.one 15 true (.reads [16] .stop)))))) 11 false (.one 5 false (.reads [6, 7, 8, 9, 10] (.one 13 true (.reads [14] (.one 15 true (.reads [16] .stop)))))))))) (by kernel_rfl) (by kernel_rfl) ?_
            refine fr3.tr_reads _ (by dsimp only [pick, ord.at_]) ?_
            repeat (go_big_quiet_step (fail))
            refine wpQuiet_nil ?_
            refine fr3.tr_three ?_ ?_ ?_
            · refine fr.act_s _ (by dsimp only [pick, ord.at_]) ?_
              intro K1 g1 g2
              clear g1
              go_wp2_with (fail)
              refine (HSTP.out (wv.drew) (Below.refl _ _).drew).mono ?_
              rintro e wn1 ⟨⟨xv, xA, xc, xn, xB, xd, xr⟩, ⟨yv, yA, yc, yn, yB, yd, yr⟩, rfl, hplx, hply, hopx, hopy, hbb⟩
              have hb1 : Below (wv).heap.size (wv) wn1 := (Below.refl _ _).drew.trans hbb
              have HPX := Lib.hid (And.intro hplx hply)
              have HOX := Lib.hid (And.intro hopx hopy)
              clear hplx hply hopx hopy hbb
              go_wp2_with (fail)
              refine g2 _ _ (Chg.of_below hb1) ?_
              clear g2
              have HN1 := Lib.hid hb1
              have HW1 := Lib.hid hb1
              have hz1 := hb1.size
              clear hb1
              refine fr3.tr_reads _ (by dsimp only [pick, ord.at_]) ?_
              repeat (go_big_quiet_step (fail))
              refine wpQuiet_nil ?_
              refine fr3.tr_two ?_ ?_
              · refine fr.act_s _ (by dsimp only [pick, ord.at_]) ?_
                intro K1 g1 g2
                clear g1
                go_wp2_with (fail)
                refine g2 _ _ (Chg.of_below (below_al _ _)) ?_
                clear g2
                obtain ⟨wn2, hw2⟩ : ∃ wn2, wn1.alloc (.cells #[.int .i64 0, .slice none 0 0, .slice none 0 0] 25) = wn2 := ⟨_, rfl⟩
                have hb2 : Below (wn1).heap.size (wn1) wn2 := by rw [← hw2]; exact below_al _ _
                have GA := Lib.hid (show IsV3 25 wn2 (wn1).heap.size (.int .i64 0) (.slice none 0 0) (.slice none 0 0) by rw [← hw2]; exact alloc_new (wn1) _)
                rw [hw2]
                clear hw2
                have HN2 := Lib.hid hb2
                have HW2 := Lib.hid (HW1.out.trans (hb2.mono HW1.out.size))
                have hz2 := hb2.size
                clear hb2
                refine fr3.tr_one _ (by dsimp only [pick, ord.at_]) ?_
                intro K1 g1 g2
                clear g1
                go_wp2_with (fail)
                refine g2 _ _ (Chg.of_below (below_al _ _)) ?_
                clear g2
                obtain ⟨wn3, hw3⟩ : ∃ wn3, wn2.alloc (.cells #[.int .i64 0, .slice none 0 0, .slice none 0 0] 25) = wn3 := ⟨_, rfl⟩
                have hb3 : Below (wn2).heap.size (wn2) wn3 := by rw [← hw3]; exact below_al _ _
                have GB := Lib.hid (show IsV3 25 wn3 (wn2).heap.size (.int .i64 0) (.slice none 0 0) (.slice none 0 0) by rw [← hw3]; exact alloc_new (wn2) _)
                rw [hw3]
                clear hw3
                have HN3 := Lib.hid hb3
                have HW3 := Lib.hid (HW2.out.trans (hb3.mono HW2.out.size))
                have hz3 := hb3.size
                clear hb3
                have hltA : (wn1).heap.size < wn2.heap.size := blk_lt GA.out
                have GA3 := Lib.hid (blk_below (show Below wn2.heap.size wn2 wn3 from HN3.out) GA.out hltA)
                have hltB : (wn2).heap.size < wn3.heap.size := blk_lt GB.out
                have GB3 := Lib.hid (blk_below (show Below wn3.heap.size wn3 wn3 from Below.refl _ _) GB.out hltB)
                obtain ⟨ga, hga⟩ : ∃ ga, (wn1).heap.size = ga := ⟨_, rfl⟩
                obtain ⟨gb, hgb⟩ : ∃ gb, (wn2).heap.size = gb := ⟨_, rfl⟩
                have hgab : ga ≠ gb := by rw [← hga, ← hgb]; omega
                have hgaw : wv.heap.size ≤ ga := by rw [← hga]; omega
                have hgbw : wv.heap.size ≤ gb := by rw [← hgb]; omega
                have GA4 := GA3.out
                have GB4 := GB3.out
                rw [hga] at GA4
                rw [hgb] at GB4
                have GA5 := Lib.hid GA4
                have GB5 := Lib.hid GB4
                have HX3 := Lib.hid (show OP wn3 wv.heap.size ⟨xv, xA, xc, xn, xB, xd, xr⟩ ∧ OP wn3 wv.heap.size ⟨yv, yA, yc, yn, yB, yd, yr⟩ from
                  ⟨(HOX.out.1.below (show Below wn1.heap.size wn1 wn3 from HN2.out.trans (HN3.out.mono hz2)) (Nat.le_refl _)).base (by have := HW3.out.size; show wv.heap.size ≤ (wv.drew).heap.size; first | exact Nat.le_refl _ | omega), (HOX.out.2.below (show Below wn1.heap.size wn1 wn3 from HN2.out.trans (HN3.out.mono hz2)) (Nat.le_refl _)).base (by show wv.heap.size ≤ (wv.drew).heap.size; first | exact Nat.le_refl _ | omega)⟩)
                obtain ⟨⟨a0, a1', a2'⟩, af0, af1, af2⟩ := isv3_cells GA4
                obtain ⟨⟨b0, b1', b2'⟩, bf0, bf1, bf2⟩ := isv3_cells GB4
                have hlA : ga < wn3.heap.size := blk_lt GA4
                have hlB : gb < wn3.heap.size := blk_lt GB4
                simp only [hga, hgb]
                clear hga hgb GA4 GB4
                refine fr3.tr_write _ (by dsimp only [pick, ord.at_]) ?_
                intro K2 g3
                go_wp2_with (fail)
                obtain ⟨wS, hwS⟩ : ∃ wS, ((wn3.setCell ⟨ga, 0, none⟩ (.int .i64 xv)).setCell ⟨ga, 1, none⟩ (.slice xA xn.length xc)).setCell ⟨ga, 2, none⟩ (.slice xB xr.length xd) = wS := ⟨_, rfl⟩
                have gA6 : IsV3 25 wS ga (.int .i64 xv) (.slice xA xn.length xc) (.slice xB xr.length xd) := by rw [← hwS]; exact set3 GA5.out
                have gB6 : IsV3 25 wS gb (.int .i64 0) (.slice none 0 0) (.slice none 0 0) := by rw [← hwS]; exact set3_ne GB5.out (fun e => hgab e.symm) _ _ _
                have hcS : Chg (fun b => b = ga ∨ b = gb) wn3 wS := by rw [← hwS]; exact (chg_set3 _ _ _).mono (S' := fun b => b = ga ∨ b = gb) (fun _ _ e => .inl e)
                rw [hwS]
                have GA6 := Lib.hid gA6
                have GB6 := Lib.hid gB6
                have HCS := Lib.hid hcS
                clear a0 a1' a2' af0 af1 af2 b0 b1' b2' bf0 bf1 bf2 hwS gA6 hcS
                obtain ⟨⟨b0, b1', b2'⟩, bf0, bf1, bf2⟩ := isv3_cells gB6
                have hlB6 : gb < wS.heap.size := blk_lt gB6
                clear gB6
                refine fr3.tr_reads _ (by dsimp only [pick, ord.at_]) ?_
                repeat (go_big_quiet_step (fail))
                refine wpQuiet_nil ?_
                refine fr3.tr_write _ (by dsimp only [pick, ord.at_]) ?_
                intro K3 g4
                go_wp2_with (fail)
                refine fr3.tr_reads _ (by dsimp only [pick, ord.at_]) ?_
                repeat (go_big_quiet_step (fail))
                refine wpQuiet_nil ?_
                refine fr3.tr_stop ?_
                refine NoPanic.normal ?_
                go_wp2_with (fail)
                go_meet
                have hcc := HCS.out.trans ((chg_set3 (g := gb) (w := wS) (.int .i64 yv) (.slice yA yn.length yc) (.slice yB yr.length yd)).mono (S' := fun b => b = ga ∨ b = gb) (fun _ _ e => .inr e)) (fun _ _ e => e)
                have hty : ∀ (z : PV), OP wn3 wv.heap.size z → OP (((wS.setCell ⟨gb, 0, none⟩ (.int .i64 yv)).setCell ⟨gb, 1, none⟩ (.slice yA yn.length yc)).setCell ⟨gb, 2, none⟩ (.slice yB yr.length yd)) wv.heap.size z := fun z hz =>
                  op_two hz hcc GA5.out GB5.out
                refine ⟨ga, gb, er, ⟨xv, xA, xc, xn, xB, xd, xr⟩, ⟨yv, yA, yc, yn, yB, yd, yr⟩, rfl, rfl, rfl, rfl, set3_ne GA6.out hgab _ _ _, set3 GB6.out, HPX.out.1, rfl, HPX.out.2, hty _ HX3.out.1, hty _ HX3.out.2, hgaw, hgbw, hgab, ?_⟩
                exact HW3.out.trans (hcc.below (B := wv.heap.size) HW3.out.size (fun k e => by rcases e with e | e <;> omega))
              · refine fr.act_s _ (by dsimp only [pick, ord.at_]) ?_
                intro K1 g1 g2
                clear g1
                go_wp2_with (fail)
                refine g2 _ _ (Chg.of_below (below_al _ _)) ?_
                clear g2
                obtain ⟨wn2, hw2⟩ : ∃ wn2, wn1.alloc (.cells #[.int .i64 0, .slice none 0 0, .slice none 0 0] 25) = wn2 := ⟨_, rfl⟩
                have hb2 : Below (wn1).heap.size (wn1) wn2 := by rw [← hw2]; exact below_al _ _
                have GB := Lib.hid (show IsV3 25 wn2 (wn1).heap.size (.int .i64 0) (.slice none 0 0) (.slice none 0 0) by rw [← hw2]; exact alloc_new (wn1) _)
                rw [hw2]
                clear hw2
                have HN2 := Lib.hid hb2
                have HW2 := Lib.hid (HW1.out.trans (hb2.mono HW1.out.size))
                have hz2 := hb2.size
                clear hb2
                refine fr3.tr_one _ (by dsimp only [pick, ord.at_]) ?_
                intro K1 g1 g2
                clear g1
                go_wp2_with (fail)
                refine g2 _ _ (Chg.of_below (below_al _ _)) ?_
                clear g2
                obtain ⟨wn3, hw3⟩ : ∃ wn3, wn2.alloc (.cells #[.int .i64 0, .slice none 0 0, .slice none 0 0] 25) = wn3 := ⟨_, rfl⟩
                have hb3 : Below (wn2).heap.size (wn2) wn3 := by rw [← hw3]; exact below_al _ _
                have GA := Lib.hid (show IsV3 25 wn3 (wn2).heap.size (.int .i64 0) (.slice none 0 0) (.slice none 0 0) by rw [← hw3]; exact alloc_new (wn2) _)
                rw [hw3]
                clear hw3
                have HN3 := Lib.hid hb3
                have HW3 := Lib.hid (HW2.out.trans (hb3.mono HW2.out.size))
                have hz3 := hb3.size
                clear hb3
                have hltB : (wn1).heap.size < wn2.heap.size := blk_lt GB.out
                have GB3 := Lib.hid (blk_below (show Below wn2.heap.size wn2 wn3 from HN3.out) GB.out hltB)
                have hltA : (wn2).heap.size < wn3.heap.size := blk_lt GA.out
                have GA3 := Lib.hid (blk_below (show Below wn3.heap.size wn3 wn3 from Below.refl _ _) GA.out hltA)
                obtain ⟨ga, hga⟩ : ∃ ga, (wn2).heap.size = ga := ⟨_, rfl⟩
                obtain ⟨gb, hgb⟩ : ∃ gb, (wn1).heap.size = gb := ⟨_, rfl⟩
                have hgab : ga ≠ gb := by rw [← hga, ← hgb]; omega
                have hgaw : wv.heap.size ≤ ga := by rw [← hga]; omega
                have hgbw : wv.heap.size ≤ gb := by rw [← hgb]; omega
                have GA4 := GA3.out
                have GB4 := GB3.out
                rw [hga] at GA4
                rw [hgb] at GB4
                have GA5 := Lib.hid GA4
                have GB5 := Lib.hid GB4
                have HX3 := Lib.hid (show OP wn3 wv.heap.size ⟨xv, xA, xc, xn, xB, xd, xr⟩ ∧ OP wn3 wv.heap.size ⟨yv, yA, yc, yn, yB, yd, yr⟩ from
                  ⟨(HOX.out.1.below (show Below wn1.heap.size wn1 wn3 from HN2.out.trans (HN3.out.mono hz2)) (Nat.le_refl _)).base (by have := HW3.out.size; show wv.heap.size ≤ (wv.drew).heap.size; first | exact Nat.le_refl _ | omega), (HOX.out.2.below (show Below wn1.heap.size wn1 wn3 from HN2.out.trans (HN3.out.mono hz2)) (Nat.le_refl _)).base (by show wv.heap.size ≤ (wv.drew).heap.size; first | exact Nat.le_refl _ | omega)⟩)
                obtain ⟨⟨a0, a1', a2'⟩, af0, af1, af2⟩ := isv3_cells GA4
                obtain ⟨⟨b0, b1', b2'⟩, bf0, bf1, bf2⟩ := isv3_cells GB4
                have hlA : ga < wn3.heap.size := blk_lt GA4
                have hlB : gb < wn3.heap.size := blk_lt GB4
                simp only [hga, hgb]
                clear hga hgb GA4 GB4
                refine fr3.tr_write _ (by dsimp only [pick, ord.at_]) ?_
                intro K2 g3
                go_wp2_with (fail)
                obtain ⟨wS, hwS⟩ : ∃ wS, ((wn3.setCell ⟨ga, 0, none⟩ (.int .i64 xv)).setCell ⟨ga, 1, none⟩ (.slice xA xn.length xc)).setCell ⟨ga, 2, none⟩ (.slice xB xr.length xd) = wS := ⟨_, rfl⟩
                have gA6 : IsV3 25 wS ga (.int .i64 xv) (.slice xA xn.length xc) (.slice xB xr.length xd) := by rw [← hwS]; exact set3 GA5.out
                have gB6 : IsV3 25 wS gb (.int .i64 0) (.slice none 0 0) (.slice none 0 0) := by rw [← hwS]; exact set3_ne GB5.out (fun e => hgab e.symm) _ _ _
                have hcS : Chg (fun b => b = ga ∨ b = gb) wn3 wS := by rw [← hwS]; exact (chg_set3 _ _ _).mono (S' := fun b => b = ga ∨ b = gb) (fun _ _ e => .inl e)
                rw [hwS]
                have GA6 := Lib.hid gA6
                have GB6 := Lib.hid gB6
                have HCS := Lib.hid hcS
                clear a0 a1' a2' af0 af1 af2 b0 b1' b2' bf0 bf1 bf2 hwS gA6 hcS
                obtain ⟨⟨b0, b1', b2'⟩, bf0, bf1, bf2⟩ := isv3_cells gB6
                have hlB6 : gb < wS.heap.size := blk_lt gB6
                clear gB6
                refine fr3.tr_reads _ (by dsimp only [pick, ord.at_]) ?_
                repeat (go_big_quiet_step (fail))
                refine wpQuiet_nil ?_
                refine fr3.tr_write _ (by dsimp only [pick, ord.at_]) ?_
                intro K3 g4
                go_wp2_with (fail)
                refine fr3.tr_reads _ (by dsimp only [pick, ord.at_]) ?_
                repeat (go_big_quiet_step (fail))
                refine wpQuiet_nil ?_
                refine fr3.tr_stop ?_
                refine NoPanic.normal ?_
                go_wp2_with (fail)
                go_meet
                have hcc := HCS.out.trans ((chg_set3 (g := gb) (w := wS) (.int .i64 yv) (.slice yA yn.length yc) (.slice yB yr.length yd)).mono (S' := fun b => b = ga ∨ b = gb) (fun _ _ e => .inr e)) (fun _ _ e => e)
                have hty : ∀ (z : PV), OP wn3 wv.heap.size z → OP (((wS.setCell ⟨gb, 0, none⟩ (.int .i64 yv)).setCell ⟨gb, 1, none⟩ (.slice yA yn.length yc)).setCell ⟨gb, 2, none⟩ (.slice yB yr.length yd)) wv.heap.size z := fun z hz =>
                  op_two hz hcc GA5.out GB5.out
                refine ⟨ga, gb, er, ⟨xv, xA, xc, xn, xB, xd, xr⟩, ⟨yv, yA, yc, yn, yB, yd, yr⟩, rfl, rfl, rfl, rfl, set3_ne GA6.out hgab _ _ _, set3 GB6.out, HPX.out.1, rfl, HPX.out.2, hty _ HX3.out.1, hty _ HX3.out.2, hgaw, hgbw, hgab, ?_⟩
                exact HW3.out.trans (hcc.below (B := wv.heap.size) HW3.out.size (fun k e => by rcases e with e | e <;> omega))
            · refine fr.act_s _ (by dsimp only [pick, ord.at_]) ?_
              intro K1 g1 g2
              clear g1
              go_wp2_with (fail)
              refine g2 _ _ (Chg.of_below ((below_al _ _).drew)) ?_
              clear g2
              obtain ⟨wn1, hw1⟩ : ∃ wn1, (wv.alloc (.cells #[.int .i64 0, .slice none 0 0, .slice none 0 0] 25)).drew = wn1 := ⟨_, rfl⟩
              have hb1 : Below (wv).heap.size (wv) wn1 := by rw [← hw1]; exact (below_al _ _).drew
              have GA := Lib.hid (show IsV3 25 wn1 (wv).heap.size (.int .i64 0) (.slice none 0 0) (.slice none 0 0) by rw [← hw1]; exact alloc_new (wv) _)
              rw [hw1]
              clear hw1
              have HN1 := Lib.hid hb1
              have HW1 := Lib.hid hb1
              have hz1 := hb1.size
              clear hb1
              refine fr3.tr_two ?_ ?_
              · refine fr.act_s _ (by dsimp only [pick, ord.at_]) ?_
                intro K1 g1 g2
                clear g1
                go_wp2_with (fail)
                refine (HSTP.out (wn1) HW1.out).mono ?_
                rintro e wn2 ⟨⟨xv, xA, xc, xn, xB, xd, xr⟩, ⟨yv, yA, yc, yn, yB, yd, yr⟩, rfl, hplx, hply, hopx, hopy, hbb⟩
                have hb2 : Below (wn1).heap.size (wn1) wn2 := hbb
                have HPX := Lib.hid (And.intro hplx hply)
                have HOX := Lib.hid (And.intro hopx hopy)
                clear hplx hply hopx hopy hbb
                go_wp2_with (fail)
                refine g2 _ _ (Chg.of_below hb2) ?_
                clear g2
                have HN2 := Lib.hid hb2
                have HW2 := Lib.hid (HW1.out.trans (hb2.mono HW1.out.size))
                have hz2 := hb2.size
                clear hb2
                refine fr3.tr_reads _ (by dsimp only [pick, ord.at_]) ?_
                repeat (go_big_quiet_step (fail))
                refine wpQuiet_nil ?_
                refine fr3.tr_one _ (by dsimp only [pick, ord.at_]) ?_
                intro K1 g1 g2
                clear g1
                go_wp2_with (fail)
                refine g2 _ _ (Chg.of_below (below_al _ _)) ?_
                clear g2
                obtain ⟨wn3, hw3⟩ : ∃ wn3, wn2.alloc (.cells #[.int .i64 0, .slice none 0 0, .slice none 0 0] 25) = wn3 := ⟨_, rfl⟩
                have hb3 : Below (wn2).heap.size (wn2) wn3 := by rw [← hw3]; exact below_al _ _
                have GB := Lib.hid (show IsV3 25 wn3 (wn2).heap.size (.int .i64 0) (.slice none 0 0) (.slice none 0 0) by rw [← hw3]; exact alloc_new (wn2) _)
                rw [hw3]
                clear hw3
                have HN3 := Lib.hid hb3
                have HW3 := Lib.hid (HW2.out.trans (hb3.mono HW2.out.size))
                have hz3 := hb3.size
                clear hb3
                have hltA : (wv).heap.size < wn1.heap.size := blk_lt GA.out
                have GA3 := Lib.hid (blk_below (show Below wn1.heap.size wn1 wn3 from HN2.out.trans (HN3.out.mono hz2)) GA.out hltA)
                have hltB : (wn2).heap.size < wn3.heap.size := blk_lt GB.out
                have GB3 := Lib.hid (blk_below (show Below wn3.heap.size wn3 wn3 from Below.refl _ _) GB.out hltB)
                obtain ⟨ga, hga⟩ : ∃ ga, (wv).heap.size = ga := ⟨_, rfl⟩
                obtain ⟨gb, hgb⟩ : ∃ gb, (wn2).heap.size = gb := ⟨_, rfl⟩
                have hgab : ga ≠ gb := by rw [← hga, ← hgb]; omega
                have hgaw : wv.heap.size ≤ ga := by rw [← hga]; omega
                have hgbw : wv.heap.size ≤ gb := by rw [← hgb]; omega
                have GA4 := GA3.out
                have GB4 := GB3.out
                rw [hga] at GA4
                rw [hgb] at GB4
                have GA5 := Lib.hid GA4
                have GB5 := Lib.hid GB4
                have HX3 := Lib.hid (show OP wn3 wv.heap.size ⟨xv, xA, xc, xn, xB, xd, xr⟩ ∧ OP wn3 wv.heap.size ⟨yv, yA, yc, yn, yB, yd, yr⟩ from
                  ⟨(HOX.out.1.below (show Below wn2.heap.size wn2 wn3 from HN3.out) (Nat.le_refl _)).base (by have := HW3.out.size; show wv.heap.size ≤ (wn1).heap.size; first | exact Nat.le_refl _ | omega), (HOX.out.2.below (show Below wn2.heap.size wn2 wn3 from HN3.out) (Nat.le_refl _)).base (by show wv.heap.size ≤ (wn1).heap.size; first | exact Nat.le_refl _ | omega)⟩)
                obtain ⟨⟨a0, a1', a2'⟩, af0, af1, af2⟩ := isv3_cells GA4
                obtain ⟨⟨b0, b1', b2'⟩, bf0, bf1, bf2⟩ := isv3_cells GB4
                have hlA : ga < wn3.heap.size := blk_lt GA4
                have hlB : gb < wn3.heap.size := blk_lt GB4
                simp only [hga, hgb]
                clear hga hgb GA4 GB4
                refine fr3.tr_write _ (by dsimp only [pick, ord.at_]) ?_
                intro K2 g3
                go_wp2_with (fail)
                obtain ⟨wS, hwS⟩ : ∃ wS, ((wn3.setCell ⟨ga, 0, none⟩ (.int .i64 xv)).setCell ⟨ga, 1, none⟩ (.slice xA xn.length xc)).setCell ⟨ga, 2, none⟩ (.slice xB xr.length xd) = wS := ⟨_, rfl⟩
                have gA6 : IsV3 25 wS ga (.int .i64 xv) (.slice xA xn.length xc) (.slice xB xr.length xd) := by rw [← hwS]; exact set3 GA5.out
                have gB6 : IsV3 25 wS gb (.int .i64 0) (.slice none 0 0) (.slice none 0 0) := by rw [← hwS]; exact set3_ne GB5.out (fun e => hgab e.symm) _ _ _
                have hcS : Chg (fun b => b = ga ∨ b = gb) wn3 wS := by rw [← hwS]; exact (chg_set3 _ _ _).mono (S' := fun b => b = ga ∨ b = gb) (fun _ _ e => .inl e)
                rw [hwS]
                have GA6 := Lib.hid gA6
                have GB6 := Lib.hid gB6
                have HCS := Lib.hid hcS
                clear a0 a1' a2' af0 af1 af2 b0 b1' b2' bf0 bf1 bf2 hwS gA6 hcS
                obtain ⟨⟨b0, b1', b2'⟩, bf0, bf1, bf2⟩ := isv3_cells gB6
                have hlB6 : gb < wS.heap.size := blk_lt gB6
                clear gB6
                refine fr3.tr_reads _ (by dsimp only [pick, ord.at_]) ?_
                repeat (go_big_quiet_step (fail))
                refine wpQuiet_nil ?_
                refine fr3.tr_write _ (by dsimp only [pick, ord.at_]) ?_
                intro K3 g4
                go_wp2_with (fail)
                refine fr3.tr_reads _ (by dsimp only [pick, ord.at_]) ?_
                repeat (go_big_quiet_step (fail))
                refine wpQuiet_nil ?_
                refine fr3.tr_stop ?_
                refine NoPanic.normal ?_
                go_wp2_with (fail)
                go_meet
                have hcc := HCS.out.trans ((chg_set3 (g := gb) (w := wS) (.int .i64 yv) (.slice yA yn.length yc) (.slice yB yr.length yd)).mono (S' := fun b => b = ga ∨ b = gb) (fun _ _ e => .inr e)) (fun _ _ e => e)
                have hty : ∀ (z : PV), OP wn3 wv.heap.size z → OP (((wS.setCell ⟨gb, 0, none⟩ (.int .i64 yv)).setCell ⟨gb, 1, none⟩ (.slice yA yn.length yc)).setCell ⟨gb, 2, none⟩ (.slice yB yr.length yd)) wv.heap.size z := fun z hz =>
                  op_two hz hcc GA5.out GB5.out
                refine ⟨ga, gb, er, ⟨xv, xA, xc, xn, xB, xd, xr⟩, ⟨yv, yA, yc, yn, yB, yd, yr⟩, rfl, rfl, rfl, rfl, set3_ne GA6.out hgab _ _ _, set3 GB6.out, HPX.out.1, rfl, HPX.out.2, hty _ HX3.out.1, hty _ HX3.out.2, hgaw, hgbw, hgab, ?_⟩
                exact HW3.out.trans (hcc.below (B := wv.heap.size) HW3.out.size (fun k e => by rcases e with e | e <;> omega))
              · refine fr.act_s _ (by dsimp only [pick, ord.at_]) ?_
                intro K1 g1 g2
                clear g1
                go_wp2_with (fail)
                refine g2 _ _ (Chg.of_below (below_al _ _)) ?_
                clear g2
                obtain ⟨wn2, hw2⟩ : ∃ wn2, wn1.alloc (.cells #[.int .i64 0, .slice none 0 0, .slice none 0 0] 25) = wn2 := ⟨_, rfl⟩
                have hb2 : Below (wn1).heap.size (wn1) wn2 := by rw [← hw2]; exact below_al _ _
                have GB := Lib.hid (show IsV3 25 wn2 (wn1).heap.size (.int .i64 0) (.slice none 0 0) (.slice none 0 0) by rw [← hw2]; exact alloc_new (wn1) _)
                rw [hw2]
                clear hw2
                have HN2 := Lib.hid hb2
                have HW2 := Lib.hid (HW1.out.trans (hb2.mono HW1.out.size))
                have hz2 := hb2.size
                clear hb2
                refine fr3.tr_one _ (by dsimp only [pick, ord.at_]) ?_
                intro K1 g1 g2
                clear g1
                go_wp2_with (fail)
                refine (HSTP.out (wn2) HW2.out).mono ?_
                rintro e wn3 ⟨⟨xv, xA, xc, xn, xB, xd, xr⟩, ⟨yv, yA, yc, yn, yB, yd, yr⟩, rfl, hplx, hply, hopx, hopy, hbb⟩
                have hb3 : Below (wn2).heap.size (wn2) wn3 := hbb
                have HPX := Lib.hid (And.intro hplx hply)
                have HOX := Lib.hid (And.intro hopx hopy)
                clear hplx hply hopx hopy hbb
                go_wp2_with (fail)
                refine g2 _ _ (Chg.of_below hb3) ?_
                clear g2
                have HN3 := Lib.hid hb3
                have HW3 := Lib.hid (HW2.out.trans (hb3.mono HW2.out.size))
                have hz3 := hb3.size
                clear hb3
                refine fr3.tr_reads _ (by dsimp only [pick, ord.at_]) ?_
                repeat (go_big_quiet_step (fail))
                refine wpQuiet_nil ?_
                have hltA : (wv).heap.size < wn1.heap.size := blk_lt GA.out
                have GA3 := Lib.hid (blk_below (show Below wn1.heap.size wn1 wn3 from HN2.out.trans (HN3.out.mono hz2)) GA.out hltA)
                have hltB : (wn1).heap.size < wn2.heap.size := blk_lt GB.out
                have GB3 := Lib.hid (blk_below (show Below wn2.heap.size wn2 wn3 from HN3.out) GB.out hltB)
                obtain ⟨ga, hga⟩ : ∃ ga, (wv).heap.size = ga := ⟨_, rfl⟩
                obtain ⟨gb, hgb⟩ : ∃ gb, (wn1).heap.size = gb := ⟨_, rfl⟩
                have hgab : ga ≠ gb := by rw [← hga, ← hgb]; omega
                have hgaw : wv.heap.size ≤ ga := by rw [← hga]; omega
                have hgbw : wv.heap.size ≤ gb := by rw [← hgb]; omega
                have GA4 := GA3.out
                have GB4 := GB3.out
                rw [hga] at GA4
                rw [hgb] at GB4
                have GA5 := Lib.hid GA4
                have GB5 := Lib.hid GB4
                have HX3 := Lib.hid (show OP wn3 wv.heap.size ⟨xv, xA, xc, xn, xB, xd, xr⟩ ∧ OP wn3 wv.heap.size ⟨yv, yA, yc, yn, yB, yd, yr⟩ from
                  ⟨(HOX.out.1.below (show Below wn3.heap.size wn3 wn3 from Below.refl _ _) (Nat.le_refl _)).base (by have := HW3.out.size; show wv.heap.size ≤ (wn2).heap.size; first | exact Nat.le_refl _ | omega), (HOX.out.2.below (show Below wn3.heap.size wn3 wn3 from Below.refl _ _) (Nat.le_refl _)).base (by show wv.heap.size ≤ (wn2).heap.size; first | exact Nat.le_refl _ | omega)⟩)
                obtain ⟨⟨a0, a1', a2'⟩, af0, af1, af2⟩ := isv3_cells GA4
                obtain ⟨⟨b0, b1', b2'⟩, bf0, bf1, bf2⟩ := isv3_cells GB4
                have hlA : ga < wn3.heap.size := blk_lt GA4
                have hlB : gb < wn3.heap.size := blk_lt GB4
                simp only [hga, hgb]
                clear hga hgb GA4 GB4
                refine fr3.tr_write _ (by dsimp only [pick, ord.at_]) ?_
                intro K2 g3
                go_wp2_with (fail)
                obtain ⟨wS, hwS⟩ : ∃ wS, ((wn3.setCell ⟨ga, 0, none⟩ (.int .i64 xv)).setCell ⟨ga, 1, none⟩ (.slice xA xn.length xc)).setCell ⟨ga, 2, none⟩ (.slice xB xr.length xd) = wS := ⟨_, rfl⟩
                have gA6 : IsV3 25 wS ga (.int .i64 xv) (.slice xA xn.length xc) (.slice xB xr.length xd) := by rw [← hwS]; exact set3 GA5.out
                have gB6 : IsV3 25 wS gb (.int .i64 0) (.slice none 0 0) (.slice none 0 0) := by rw [← hwS]; exact set3_ne GB5.out (fun e => hgab e.symm) _ _ _
                have hcS : Chg (fun b => b = ga ∨ b = gb) wn3 wS := by rw [← hwS]; exact (chg_set3 _ _ _).mono (S' := fun b => b = ga ∨ b = gb) (fun _ _ e => .inl e)
                rw [hwS]
                have GA6 := Lib.hid gA6
                have GB6 := Lib.hid gB6
                have HCS := Lib.hid hcS
                clear a0 a1' a2' af0 af1 af2 b0 b1' b2' bf0 bf1 bf2 hwS gA6 hcS
                obtain ⟨⟨b0, b1', b2'⟩, bf0, bf1, bf2⟩ := isv3_cells gB6
                have hlB6 : gb < wS.heap.size := blk_lt gB6
                clear gB6
                refine fr3.tr_reads _ (by dsimp only [pick, ord.at_]) ?_
                repeat (go_big_quiet_step (fail))
                refine wpQuiet_nil ?_
                refine fr3.tr_write _ (by dsimp only [pick, ord.at_]) ?_
                intro K3 g4
                go_wp2_with (fail)
                refine fr3.tr_reads _ (by dsimp only [pick, ord.at_]) ?_
                repeat (go_big_quiet_step (fail))
                refine wpQuiet_nil ?_
                refine fr3.tr_stop ?_
                refine NoPanic.normal ?_
                go_wp2_with (fail)
                go_meet
                have hcc := HCS.out.trans ((chg_set3 (g := gb) (w := wS) (.int .i64 yv) (.slice yA yn.length yc) (.slice yB yr.length yd)).mono (S' := fun b => b = ga ∨ b = gb) (fun _ _ e => .inr e)) (fun _ _ e => e)
                have hty : ∀ (z : PV), OP wn3 wv.heap.size z → OP (((wS.setCell ⟨gb, 0, none⟩ (.int .i64 yv)).setCell ⟨gb, 1, none⟩ (.slice yA yn.length yc)).setCell ⟨gb, 2, none⟩ (.slice yB yr.length yd)) wv.heap.size z := fun z hz =>
                  op_two hz hcc GA5.out GB5.out
                refine ⟨ga, gb, er, ⟨xv, xA, xc, xn, xB, xd, xr⟩, ⟨yv, yA, yc, yn, yB, yd, yr⟩, rfl, rfl, rfl, rfl, set3_ne GA6.out hgab _ _ _, set3 GB6.out, HPX.out.1, rfl, HPX.out.2, hty _ HX3.out.1, hty _ HX3.out.2, hgaw, hgbw, hgab, ?_⟩
                exact HW3.out.trans (hcc.below (B := wv.heap.size) HW3.out.size (fun k e => by rcases e with e | e <;> omega))
            · refine fr.act_s _ (by dsimp only [pick, ord.at_]) ?_
              intro K1 g1 g2
              clear g1
              go_wp2_with (fail)
              refine g2 _ _ (Chg.of_below ((below_al _ _).drew)) ?_
              clear g2
              obtain ⟨wn1, hw1⟩ : ∃ wn1, (wv.alloc (.cells #[.int .i64 0, .slice none 0 0, .slice none 0 0] 25)).drew = wn1 := ⟨_, rfl⟩
              have hb1 : Below (wv).heap.size (wv) wn1 := by rw [← hw1]; exact (below_al _ _).drew
              have GB := Lib.hid (show IsV3 25 wn1 (wv).heap.size (.int .i64 0) (.slice none 0 0) (.slice none 0 0) by rw [← hw1]; exact alloc_new (wv) _)
              rw [hw1]
              clear hw1
              have HN1 := Lib.hid hb1
              have HW1 := Lib.hid hb1
              have hz1 := hb1.size
              clear hb1
              refine fr3.tr_two ?_ ?_
              · refine fr.act_s _ (by dsimp only [pick, ord.at_]) ?_
                intro K1 g1 g2
                clear g1
                go_wp2_with (fail)
                refine (HSTP.out (wn1) HW1.out).mono ?_
                rintro e wn2 ⟨⟨xv, xA, xc, xn, xB, xd, xr⟩, ⟨yv, yA, yc, yn, yB, yd, yr⟩, rfl, hplx, hply, hopx, hopy, hbb⟩
                have hb2 : Below (wn1).heap.size (wn1) wn2 := hbb
                have HPX := Lib.hid (And.intro hplx hply)
                have HOX := Lib.hid (And.intro hopx hopy)
                clear hplx hply hopx hopy hbb
                go_wp2_with (fail)
                refine g2 _ _ (Chg.of_below hb2) ?_
                clear g2
                have HN2 := Lib.hid hb2
                have HW2 := Lib.hid (HW1.out.trans (hb2.mono HW1.out.size))
                have hz2 := hb2.size
                clear hb2
                refine fr3.tr_reads _ (by dsimp only [pick, ord.at_]) ?_
                repeat (go_big_quiet_step (fail))
                refine wpQuiet_nil ?_
                refine fr3.tr_one _ (by dsimp only [pick, ord.at_]) ?_
                intro K1 g1 g2
                clear g1
                go_wp2_with (fail)
                refine g2 _ _ (Chg.of_below (below_al _ _)) ?_
                clear g2
                obtain ⟨wn3, hw3⟩ : ∃ wn3, wn2.alloc (.cells #[.int .i64 0, .slice none 0 0, .slice none 0 0] 25) = wn3 := ⟨_, rfl⟩
                have hb3 : Below (wn2).heap.size (wn2) wn3 := by rw [← hw3]; exact below_al _ _
                have GA := Lib.hid (show IsV3 25 wn3 (wn2).heap.size (.int .i64 0) (.slice none 0 0) (.slice none 0 0) by rw [← hw3]; exact alloc_new (wn2) _)
                rw [hw3]
                clear hw3
                have HN3 := Lib.hid hb3
                have HW3 := Lib.hid (HW2.out.trans (hb3.mono HW2.out.size))
                have hz3 := hb3.size
                clear hb3
                have hltB : (wv).heap.size < wn1.heap.size := blk_lt GB.out
                have GB3 := Lib.hid (blk_below (show Below wn1.heap.size wn1 wn3 from HN2.out.trans (HN3.out.mono hz2)) GB.out hltB)
                have hltA : (wn2).heap.size < wn3.heap.size := blk_lt GA.out
                have GA3 := Lib.hid (blk_below (show Below wn3.heap.size wn3 wn3 from Below.refl _ _) GA.out hltA)
                obtain ⟨ga, hga⟩ : ∃ ga, (wn2).heap.size = ga := ⟨_, rfl⟩
                obtain ⟨gb, hgb⟩ : ∃ gb, (wv).heap.size = gb := ⟨_, rfl⟩
                have hgab : ga ≠ gb := by rw [← hga, ← hgb]; omega
                have hgaw : wv.heap.size ≤ ga := by rw [← hga]; omega
                have hgbw : wv.heap.size ≤ gb := by rw [← hgb]; omega
                have GA4 := GA3.out
                have GB4 := GB3.out
                rw [hga] at GA4
                rw [hgb] at GB4
                have GA5 := Lib.hid GA4
                have GB5 := Lib.hid GB4
                have HX3 := Lib.hid (show OP wn3 wv.heap.size ⟨xv, xA, xc, xn, xB, xd, xr⟩ ∧ OP wn3 wv.heap.size ⟨yv, yA, yc, yn, yB, yd, yr⟩ from
                  ⟨(HOX.out.1.below (show Below wn2.heap.size wn2 wn3 from HN3.out) (Nat.le_refl _)).base (by have := HW3.out.size; show wv.heap.size ≤ (wn1).heap.size; first | exact Nat.le_refl _ | omega), (HOX.out.2.below (show Below wn2.heap.size wn2 wn3 from HN3.out) (Nat.le_refl _)).base (by show wv.heap.size ≤ (wn1).heap.size; first | exact Nat.le_refl _ | omega)⟩)
                obtain ⟨⟨a0, a1', a2'⟩, af0, af1, af2⟩ := isv3_cells GA4
                obtain ⟨⟨b0, b1', b2'⟩, bf0, bf1, bf2⟩ := isv3_cells GB4
                have hlA : ga < wn3.heap.size := blk_lt GA4
                have hlB : gb < wn3.heap.size := blk_lt GB4
                simp only [hga, hgb]
                clear hga hgb GA4 GB4
                refine fr3.tr_write _ (by dsimp only [pick, ord.at_]) ?_
                intro K2 g3
                go_wp2_with (fail)
                obtain ⟨wS, hwS⟩ : ∃ wS, ((wn3.setCell ⟨ga, 0, none⟩ (.int .i64 xv)).setCell ⟨ga, 1, none⟩ (.slice xA xn.length xc)).setCell ⟨ga, 2, none⟩ (.slice xB xr.length xd) = wS := ⟨_, rfl⟩
                have gA6 : IsV3 25 wS ga (.int .i64 xv) (.slice xA xn.length xc) (.slice xB xr.length xd) := by rw [← hwS]; exact set3 GA5.out
                have gB6 : IsV3 25 wS gb (.int .i64 0) (.slice none 0 0) (.slice none 0 0) := by rw [← hwS]; exact set3_ne GB5.out (fun e => hgab e.symm) _ _ _
                have hcS : Chg (fun b => b = ga ∨ b = gb) wn3 wS := by rw [← hwS]; exact (chg_set3 _ _ _).mono (S' := fun b => b = ga ∨ b = gb) (fun _ _ e => .inl e)
                rw [hwS]
                have GA6 := Lib.hid gA6
                have GB6 := Lib.hid gB6
                have HCS := Lib.hid hcS
                clear a0 a1' a2' af0 af1 af2 b0 b1' b2' bf0 bf1 bf2 hwS gA6 hcS
                obtain ⟨⟨b0, b1', b2'⟩, bf0, bf1, bf2⟩ := isv3_cells gB6
                have hlB6 : gb < wS.heap.size := blk_lt gB6
                clear gB6
                refine fr3.tr_reads _ (by dsimp only [pick, ord.at_]) ?_
                repeat (go_big_quiet_step (fail))
                refine wpQuiet_nil ?_
                refine fr3.tr_write _ (by dsimp only [pick, ord.at_]) ?_
                intro K3 g4
                go_wp2_with (fail)
                refine fr3.tr_reads _ (by dsimp only [pick, ord.at_]) ?_
                repeat (go_big_quiet_step (fail))
                refine wpQuiet_nil ?_
                refine fr3.tr_stop ?_
                refine NoPanic.normal ?_
                go_wp2_with (fail)
                go_meet
                have hcc := HCS.out.trans ((chg_set3 (g := gb) (w := wS) (.int .i64 yv) (.slice yA yn.length yc) (.slice yB yr.length yd)).mono (S' := fun b => b = ga ∨ b = gb) (fun _ _ e => .inr e)) (fun _ _ e => e)
                have hty : ∀ (z : PV), OP wn3 wv.heap.size z → OP (((wS.setCell ⟨gb, 0, none⟩ (.int .i64 yv)).setCell ⟨gb, 1, none⟩ (.slice yA yn.length yc)).setCell ⟨gb, 2, none⟩ (.slice yB yr.length yd)) wv.heap.size z := fun z hz =>
                  op_two hz hcc GA5.out GB5.out
                refine ⟨ga, gb, er, ⟨xv, xA, xc, xn, xB, xd, xr⟩, ⟨yv, yA, yc, yn, yB, yd, yr⟩, rfl, rfl, rfl, rfl, set3_ne GA6.out hgab _ _ _, set3 GB6.out, HPX.out.1, rfl, HPX.out.2, hty _ HX3.out.1, hty _ HX3.out.2, hgaw, hgbw, hgab, ?_⟩
                exact HW3.out.trans (hcc.below (B := wv.heap.size) HW3.out.size (fun k e => by rcases e with e | e <;> omega))
              · refine fr.act_s _ (by dsimp only [pick, ord.at_]) ?_
                intro K1 g1 g2
                clear g1
                go_wp2_with (fail)
                refine g2 _ _ (Chg.of_below (below_al _ _)) ?_
                clear g2
                obtain ⟨wn2, hw2⟩ : ∃ wn2, wn1.alloc (.cells #[.int .i64 0, .slice none 0 0, .slice none 0 0] 25) = wn2 := ⟨_, rfl⟩
                have hb2 : Below (wn1).heap.size (wn1) wn2 := by rw [← hw2]; exact below_al _ _
                have GA := Lib.hid (show IsV3 25 wn2 (wn1).heap.size (.int .i64 0) (.slice none 0 0) (.slice none 0 0) by rw [← hw2]; exact alloc_new (wn1) _)
                rw [hw2]
                clear hw2
                have HN2 := Lib.hid hb2
                have HW2 := Lib.hid (HW1.out.trans (hb2.mono HW1.out.size))
                have hz2 := hb2.size
                clear hb2
                refine fr3.tr_one _ (by dsimp only [pick, ord.at_]) ?_
                intro K1 g1 g2
                clear g1
                go_wp2_with (fail)
                refine (HSTP.out (wn2) HW2.out).mono ?_
                rintro e wn3 ⟨⟨xv, xA, xc, xn, xB, xd, xr⟩, ⟨yv, yA, yc, yn, yB, yd, yr⟩, rfl, hplx, hply, hopx, hopy, hbb⟩
                have hb3 : Below (wn2).heap.size (wn2) wn3 := hbb
                have HPX := Lib.hid (And.intro hplx hply)
                have HOX := Lib.hid (And.intro hopx hopy)
                clear hplx hply hopx hopy hbb
                go_wp2_with (fail)
                refine g2 _ _ (Chg.of_below hb3) ?_
                clear g2
                have HN3 := Lib.hid hb3
                have HW3 := Lib.hid (HW2.out.trans (hb3.mono HW2.out.size))
                have hz3 := hb3.size
                clear hb3
                refine fr3.tr_reads _ (by dsimp only [pick, ord.at_]) ?_
                repeat (go_big_quiet_step (fail))
                refine wpQuiet_nil ?_
                have hltB : (wv).heap.size < wn1.heap.size := blk_lt GB.out
                have GB3 := Lib.hid (blk_below (show Below wn1.heap.size wn1 wn3 from HN2.out.trans (HN3.out.mono hz2)) GB.out hltB)
                have hltA : (wn1).heap.size < wn2.heap.size := blk_lt GA.out
                have GA3 := Lib.hid (blk_below (show Below wn2.heap.size wn2 wn3 from HN3.out) GA.out hltA)
                obtain ⟨ga, hga⟩ : ∃ ga, (wn1).heap.size = ga := ⟨_, rfl⟩
                obtain ⟨gb, hgb⟩ : ∃ gb, (wv).heap.size = gb := ⟨_, rfl⟩
                have hgab : ga ≠ gb := by rw [← hga, ← hgb]; omega
                have hgaw : wv.heap.size ≤ ga := by rw [← hga]; omega
                have hgbw : wv.heap.size ≤ gb := by rw [← hgb]; omega
                have GA4 := GA3.out
                have GB4 := GB3.out
                rw [hga] at GA4
                rw [hgb] at GB4
                have GA5 := Lib.hid GA4
                have GB5 := Lib.hid GB4
                have HX3 := Lib.hid (show OP wn3 wv.heap.size ⟨xv, xA, xc, xn, xB, xd, xr⟩ ∧ OP wn3 wv.heap.size ⟨yv, yA, yc, yn, yB, yd, yr⟩ from
                  ⟨(HOX.out.1.below (show Below wn3.heap.size wn3 wn3 from Below.refl _ _) (Nat.le_refl _)).base (by have := HW3.out.size; show wv.heap.size ≤ (wn2).heap.size; first | exact Nat.le_refl _ | omega), (HOX.out.2.below (show Below wn3.heap.size wn3 wn3 from Below.refl _ _) (Nat.le_refl _)).base (by show wv.heap.size ≤ (wn2).heap.size; first | exact Nat.le_refl _ | omega)⟩)
                obtain ⟨⟨a0, a1', a2'⟩, af0, af1, af2⟩ := isv3_cells GA4
                obtain ⟨⟨b0, b1', b2'⟩, bf0, bf1, bf2⟩ := isv3_cells GB4
                have hlA : ga < wn3.heap.size := blk_lt GA4
                have hlB : gb < wn3.heap.size := blk_lt GB4
                simp only [hga, hgb]
                clear hga hgb GA4 GB4
                refine fr3.tr_write _ (by dsimp only [pick, ord.at_]) ?_
                intro K2 g3
                go_wp2_with (fail)
                obtain ⟨wS, hwS⟩ : ∃ wS, ((wn3.setCell ⟨ga, 0, none⟩ (.int .i64 xv)).setCell ⟨ga, 1, none⟩ (.slice xA xn.length xc)).setCell ⟨ga, 2, none⟩ (.slice xB xr.length xd) = wS := ⟨_, rfl⟩
                have gA6 : IsV3 25 wS ga (.int .i64 xv) (.slice xA xn.length xc) (.slice xB xr.length xd) := by rw [← hwS]; exact set3 GA5.out
                have gB6 : IsV3 25 wS gb (.int .i64 0) (.slice none 0 0) (.slice none 0 0) := by rw [← hwS]; exact set3_ne GB5.out (fun e => hgab e.symm) _ _ _
                have hcS : Chg (fun b => b = ga ∨ b = gb) wn3 wS := by rw [← hwS]; exact (chg_set3 _ _ _).mono (S' := fun b => b = ga ∨ b = gb) (fun _ _ e => .inl e)
                rw [hwS]
                have GA6 := Lib.hid gA6
                have GB6 := Lib.hid gB6
                have HCS := Lib.hid hcS
                clear a0 a1' a2' af0 af1 af2 b0 b1' b2' bf0 bf1 bf2 hwS gA6 hcS
                obtain ⟨⟨b0, b1', b2'⟩, bf0, bf1, bf2⟩ := isv3_cells gB6
                have hlB6 : gb < wS.heap.size := blk_lt gB6
                clear gB6
                refine fr3.tr_reads _ (by dsimp only [pick, ord.at_]) ?_
                repeat (go_big_quiet_step (fail))
                refine wpQuiet_nil ?_
                refine fr3.tr_write _ (by dsimp only [pick, ord.at_]) ?_
                intro K3 g4
                go_wp2_with (fail)
                refine fr3.tr_reads _ (by dsimp only [pick, ord.at_]) ?_
                repeat (go_big_quiet_step (fail))
                refine wpQuiet_nil ?_
                refine fr3.tr_stop ?_
                refine NoPanic.normal ?_
                go_wp2_with (fail)
                go_meet
                have hcc := HCS.out.trans ((chg_set3 (g := gb) (w := wS) (.int .i64 yv) (.slice yA yn.length yc) (.slice yB yr.length yd)).mono (S' := fun b => b = ga ∨ b = gb) (fun _ _ e => .inr e)) (fun _ _ e => e)
                have hty : ∀ (z : PV), OP wn3 wv.heap.size z → OP (((wS.setCell ⟨gb, 0, none⟩ (.int .i64 yv)).setCell ⟨gb, 1, none⟩ (.slice yA yn.length yc)).setCell ⟨gb, 2, none⟩ (.slice yB yr.length yd)) wv.heap.size z := fun z hz =>
                  op_two hz hcc GA5.out GB5.out
                refine ⟨ga, gb, er, ⟨xv, xA, xc, xn, xB, xd, xr⟩, ⟨yv, yA, yc, yn, yB, yd, yr⟩, rfl, rfl, rfl, rfl, set3_ne GA6.out hgab _ _ _, set3 GB6.out, HPX.out.1, rfl, HPX.out.2, hty _ HX3.out.1, hty _ HX3.out.2, hgaw, hgbw, hgab, ?_⟩
                exact HW3.out.trans (hcc.below (B := wv.heap.size) HW3.out.size (fun k e => by rcases e with e | e <;> omega))
          case rest =>
            clear q0 q1 q2 q3 q4 q5 c0 c1 c2 s0 s1 s2
            obtain ⟨ga, gb, er2, x, y, rfl, rfl, rfl, rfl, hgA, hgB, hplx, rfl, hply, hopx, hopy, h1, h2, h3, hbc⟩ := hcut
            have HGA := Lib.hid hgA
            have HOX2 := Lib.hid hopx
            have HBC := Lib.hid hbc
            have hsc := hbc.size
            have HPLX := Lib.hid hplx
            have HSXY := Lib.hid (fun (u : World) (hu : Below wc.heap.size wc u) => same_l u wc.heap.size x y (hopx.ok.below hu (Nat.le_refl _)) (hopy.ok.below hu (Nat.le_refl _)) hu.size (by rw [hplx, hply]))
            have hpq : (⟨ver', nA', nc', nodes', sA', sc', rs'⟩ : PV).pl = (⟨uv, uA, uc, un, uB, ud, ur⟩ : PV).pl := by rw [HPL0.out, HPLU.out]
            have HSPU := Lib.hid (fun (u : World) (hu : Below wc.heap.size wc u) => same_l u wc.heap.size (⟨ver', nA', nc', nodes', sA', sc', rs'⟩ : PV) (⟨uv, uA, uc, un, uB, ud, ur⟩ : PV) ((((HOPV.out.below HPV2.out (Nat.le_refl _)).below hbc (Nat.le_refl _)).ok).below hu (Nat.le_refl _)) (((HOU.out.below hbc (by omega)).below hu (by omega)).more (by omega)) hu.size hpq)
            have HPC := Lib.hid (blk_below hbc HPW.out hb2v)
            have HUC := Lib.hid (blk_below hbc HGU.out hsu)
            have hgl : ga < wc.heap.size := blk_lt hgA
            have hgl2 : gb < wc.heap.size := blk_lt hgB
            have hb2c : w2.heap.size < wc.heap.size := by omega
            have huc : wk.heap.size < wc.heap.size := by omega
            obtain ⟨xv, xA, xc, xn, xB, xd, xr⟩ := x
            obtain ⟨yv, yA, yc, yn, yB, yd, yr⟩ := y
            obtain ⟨⟨x0, x1, x2⟩, _⟩ := isv3_cells hgA
            obtain ⟨⟨y0, y1, y2⟩, _⟩ := isv3_cells hgB
            simp only [PV.val] at HSXY HSPU
            clear hgA hgB hplx hply hopx hopy hbc hpq
            go_wp2_with (fail)
            refine (HSXY.out wc (Below.refl _ _)).mono ?_
            rintro e wd ⟨rfl, hbd⟩
            have HBD := Lib.hid hbd
            have hsd := hbd.size
            clear hbd x0 x1 x2 y0 y1 y2
            obtain ⟨⟨c0, c1, c2⟩, _⟩ := isv3_cells (blk_below HBD.out HPC.out hb2c)
            obtain ⟨⟨d0, d1, d2⟩, _⟩ := isv3_cells (blk_below HBD.out HUC.out huc)
            have hb2d : w2.heap.size < wd.heap.size := by omega
            have hud : wk.heap.size < wd.heap.size := by omega
            go_wp2_with (fail)
            refine (HSPU.out wd HBD.out).mono ?_
            rintro e we ⟨rfl, hbe⟩
            have HBE := Lib.hid (HBD.out.trans (hbe.mono hsd))
            have hse := HBE.out.size
            clear hbe c0 c1 c2 d0 d1 d2
            obtain ⟨⟨x0, x1, x2⟩, _⟩ := isv3_cells (blk_below HBE.out HGA.out hgl)
            have hpw := blk_below HBE.out HPC.out hb2c
            obtain ⟨⟨c0, c1, c2⟩, f0, f1, f2⟩ := isv3_cells hpw
            have HPWE := Lib.hid hpw
            have hgle : ga < we.heap.size := by omega
            have hb2e : w2.heap.size < we.heap.size := by omega
            have HOPE := Lib.hid (show OP we wv.heap.size (⟨xv, xA, xc, xn, xB, xd, xr⟩ : PV) from HOX2.out.below HBE.out (Nat.le_refl _))
            have HOVE := Lib.hid (show OP we w.heap.size (⟨ver', nA', nc', nodes', sA', sc', rs'⟩ : PV) from (((HOPV.out.below HPV2.out (Nat.le_refl _)).below HBC.out (Nat.le_refl _))).below HBE.out (Nat.le_refl _))
            have HBWE := Lib.hid (HBWV.out.trans ((HBC.out.trans (HBE.out.mono hsc)).mono HBWV.out.size))
            clear hpw
            go_upto_if 90 with (fail)
            go_cut [6] (fun s6 wx => s6 = .bool false ∧ ∃ v' : PV, pm.Boxed wx w2.heap.size v' ∧ OP wx w.heap.size v' ∧ PlOk v'.pl ∧ Below w.heap.size w wx)
            case first =>
              by_cases her : er2 = 0
              · have HN := Lib.hid (show PlOk (⟨xv, xA, xc, xn, xB, xd, xr⟩ : PV).pl by rw [HPLX.out]; exact HSO.out her)
                have hez : (er2 == 0) = true := by simp [her]
                clear her
                go_wp2_with (fail)
                go_meet
                refine ⟨rfl, ⟨xv, xA, xc, xn, xB, xd, xr⟩, set3 HPWE.out, (HOPE.out.chg (chg_set3 _ _ _) (fun k e => by omega)).base (by omega), HN.out, ?_⟩
                exact below_set3 HBWE.out (by omega) _ _ _
              · have hez : (er2 == 0) = false := by simp [her]
                clear her
                go_wp2_with (fail)
                go_meet
                exact ⟨rfl, _, HPWE.out, HOVE.out, HPOK.out, HBWE.out⟩
            case rest =>
              clear x0 x1 x2 c0 c1 c2 f0 f1 f2 HBX HOPV HPOK HPW HGA HOX2 HPC HUC HPWE HOPE HOVE HSXY HSPU HSTP HCP HSO
              obtain ⟨rfl, v', hbx', hop', hpok', hbw'⟩ := hcut
              have hsw := hbw'.size
              have hl2 : w2.heap.size < wc.heap.size := blk_lt hbx'
              obtain ⟨SS, hSS⟩ : ∃ SS, v'.pl.ss = SS := ⟨_, rfl⟩
              have HLD := Lib.hid (fun (u : World) (hu : Below wc.heap.size wc u) (n : Int) => pload_x u wc.heap.size v' (hop'.ok.below hu (Nat.le_refl _)) hu.size n)
              have HLY := Lib.hid (fun (u : World) (hu : Below wc.heap.size wc u) (n : Int) => rload_y u wc.heap.size v' (hop'.ok.below hu (Nat.le_refl _)) hu.size (rises_of hpok') n)
              have HFX := Lib.hid (fun (u : World) (hu : Below wc.heap.size wc u) (n : Int) => pfind_x u wc.heap.size v' (hop'.ok.below hu (Nat.le_refl _)) hu.size a n)
              have HFY := Lib.hid (fun (u : World) (hu : Below wc.heap.size wc u) (n : Int) => rfind_y u wc.heap.size v' (hop'.ok.below hu (Nat.le_refl _)) hu.size a n)
              rw [hSS] at HLD HLY HFX HFY
              have HBX2 := Lib.hid hbx'
              have HSA := Lib.hid (fun (u : World) (hu : Below wc.heap.size wc u) => HSC.out u (hbw'.trans (hu.mono hsw)))
              have HINV := Lib.hid (show OP wc w.heap.size v' ∧ PlOk v'.pl ∧ Below w.heap.size w wc from ⟨hop', hpok', hbw'⟩)
              obtain ⟨ver3, nA3, nc3, nodes3, sA3, sc3, rs3⟩ := v'
              simp only [PV.val] at HLD HLY HFX HFY
              have HRC := Lib.hid (Below.refl wc.heap.size wc)
              obtain ⟨wC, hwC⟩ : ∃ wC, wC = wc := ⟨wc, rfl⟩
              obtain rfl := hwC
              clear hbx' hop' hpok' hbw' hSS
              go_wp2_with (fail)
              go_loopg [6, 17, 18, 19, 20, 21] 10 (fun gg s6 s17 s18 s19 s20 s21 wz => ∃ k2 : Nat, s17 = .int .i64 ((k2 : Int) - 1) ∧ s6 = .bool false ∧ k2 ≤ 10 ∧ 10 - k2 ≤ gg ∧ Aside (Below wC.heap.size wC wz))
              case atStart => exact ⟨0, by go_num, rfl, by omega, by omega, HRC.out⟩
              case round =>
                obtain ⟨k2, rfl, rfl, hk2, hg2, HBZ⟩ := hrel
                obtain ⟨wz, hwz⟩ : ∃ wz, wz = wr := ⟨wr, rfl⟩
                obtain rfl := hwz
                have hsz := HBZ.out.size
                by_cases hlt2 : k2 < 10
                · have hltz2 : (k2 : Int) - 1 ≤ 8 := by omega
                  obtain ⟨n, hn⟩ : ∃ n, (k2 : Int) - 1 = n := ⟨_, rfl⟩
                  have HN := Lib.hid hn
                  rw [hn] at hltz2 ⊢
                  obtain ⟨f, hf⟩ : ∃ f, fnd (byNode n) (shardAt SS a) = f := ⟨_, rfl⟩
                  obtain ⟨bf, hbf⟩ : ∃ bf, fis (byNode n) (shardAt SS a) = bf := ⟨_, rfl⟩
                  have HF1 := Lib.hid (fun (u : World) (hu : Below wC.heap.size wC u) => HFX.out u hu n)
                  have HF2 := Lib.hid (fun (u : World) (hu : Below wC.heap.size wC u) => HFY.out u hu n)
                  rw [hf, hbf] at HF1 HF2
                  obtain ⟨f1, f2, f3⟩ := f
                  simp only [oV] at HF1 HF2
                  obtain ⟨⟨c0, c1, c2⟩, _⟩ := isv3_cells (blk_below HBZ.out HBX2.out hl2)
                  obtain ⟨s0, s1, s2⟩ := HSA.out wz HBZ.out
                  have hbsz : bs < wz.heap.size := by omega
                  have hl2z : w2.heap.size < wz.heap.size := by omega
                  have HFZ1 := Lib.hid (fun (u : World) (hu : Below wz.heap.size wz u) => HF1.out u (HBZ.out.trans (hu.mono hsz)))
                  clear hn hf hbf
                  go_upto_region 19 with (fail)
                  have q0 := Wf.at_ (F := fun _ => False) c0 (fun e => e)
                  have q1 := Wf.at_ (F := fun _ => False) c1 (fun e => e)
                  have q2 := Wf.at_ (F := fun _ => False) c2 (fun e => e)
                  have q3 := Wf.at_ (F := fun _ => False) s0 (fun e => e)
                  have q4 := Wf.at_ (F := fun _ => False) s1 (fun e => e)
                  have q5 := Wf.at_ (F := fun _ => False) s2 (fun e => e)
                  go_cut [18, 19] (fun s18 s19 wx => ∃ gf : Nat, s18 = .pointer (some ⟨gf, 0, none⟩) ∧ s19 = .bool bf ∧ IsV3 44 wx gf (.int .i64 f1) (.int .i64 f2) (.int .i64 f3) ∧ wz.heap.size ≤ gf ∧ Below wz.heap.size wz wx)
                  case first =>
                    refine fr.wp_region_tree (F := fun _ => False) ((.reads [0, 1, 2, 3, 4, 5, 6] (.two 7 false (.reads [8, 9, 10] (.one 11 false (.one 12 true (.reads [13] .stop)))) 11 false (.one 7 false (.reads [8, 9, 10] (.one 12 true (.reads [13] .stop))))))) (by kernel_rfl) (by kernel_rfl) ?_
                    refine fr.tr_reads _ (by dsimp only [pick, ord.at_]) ?_
                    repeat (go_big_quiet_step (fail))
                    refine wpQuiet_nil ?_
                    refine fr.tr_two ?_ ?_
                    · refine fr.act_s _ (by dsimp only [pick, ord.at_]) ?_
                      intro K1 g1 g2
                      clear g1
                      go_wp2_with (fail)
                      refine (HFZ1.out (wz.drew) (Below.refl _ _).drew).mono ?_
                      rintro e wn1 ⟨rfl, hbb⟩
                      have hb1 : Below wz.heap.size wz wn1 := (Below.refl _ _).drew.trans hbb
                      clear hbb
                      go_wp2_with (fail)
                      refine g2 _ _ (Chg.of_below hb1) ?_
                      clear g2
                      have HW1 := Lib.hid hb1
                      have hz1 := hb1.size
                      clear hb1
                      refine fr.tr_reads _ (by dsimp only [pick, ord.at_]) ?_
                      repeat (go_big_quiet_step (fail))
                      refine wpQuiet_nil ?_
                      refine fr.tr_one _ (by dsimp only [pick, ord.at_]) ?_
                      intro K1 g1 g2
                      clear g1
                      go_wp2_with (fail)
                      refine g2 _ _ (Chg.of_below (below_al _ _)) ?_
                      clear g2
                      obtain ⟨wn2, hw2⟩ : ∃ wn2, wn1.alloc (.cells #[.int .i64 0, .int .i64 0, .int .i64 0] 44) = wn2 := ⟨_, rfl⟩
                      have HW2 := Lib.hid (show Below wz.heap.size wz wn2 from HW1.out.trans (by rw [← hw2]; exact (below_al _ _).mono hz1))
                      obtain ⟨gf, hgf⟩ : ∃ gf, wn1.heap.size = gf := ⟨_, rfl⟩
                      have GF := Lib.hid (show IsV3 44 wn2 gf (.int .i64 0) (.int .i64 0) (.int .i64 0) by rw [← hgf, ← hw2]; exact alloc_new wn1 _)
                      have hgw : wz.heap.size ≤ gf := by rw [← hgf]; exact hz1
                      rw [hw2]
                      simp only [hgf]
                      clear hw2 hgf
                      have hlg : gf < wn2.heap.size := blk_lt GF.out
                      obtain ⟨⟨z0, z1, z2⟩, zf0, zf1, zf2⟩ := isv3_cells GF.out
                      refine fr.tr_write _ (by dsimp only [pick, ord.at_]) ?_
                      intro K2 g3
                      go_wp2_with (fail)
                      refine fr.tr_reads _ (by dsimp only [pick, ord.at_]) ?_
                      repeat (go_big_quiet_step (fail))
                      refine wpQuiet_nil ?_
                      refine fr.tr_stop ?_
                      refine NoPanic.normal ?_
                      go_wp2_with (fail)
                      go_meet
                      refine ⟨gf, rfl, rfl, set3 GF.out, hgw, ?_⟩
                      exact below_set3 HW2.out hgw _ _ _
                    · refine fr.act_s _ (by dsimp only [pick, ord.at_]) ?_
                      intro K1 g1 g2
                      clear g1
                      go_wp2_with (fail)
                      refine g2 _ _ (Chg.of_below ((below_al _ _).drew)) ?_
                      clear g2
                      obtain ⟨wn1, hw1⟩ : ∃ wn1, (wz.alloc (.cells #[.int .i64 0, .int .i64 0, .int .i64 0] 44)).drew = wn1 := ⟨_, rfl⟩
                      have HW1 := Lib.hid (show Below wz.heap.size wz wn1 by rw [← hw1]; exact (below_al _ _).drew)
                      have GE := Lib.hid (show IsV3 44 wn1 wz.heap.size (.int .i64 0) (.int .i64 0) (.int .i64 0) by rw [← hw1]; exact alloc_new wz _)
                      rw [hw1]
                      clear hw1
                      have hz1 := HW1.out.size
                      have hle1 : wz.heap.size < wn1.heap.size := blk_lt GE.out
                      refine fr.tr_one _ (by dsimp only [pick, ord.at_]) ?_
                      intro K1 g1 g2
                      clear g1
                      go_wp2_with (fail)
                      refine (HFZ1.out wn1 HW1.out).mono ?_
                      rintro e wn2 ⟨rfl, hbb⟩
                      have HW2 := Lib.hid (show Below wz.heap.size wz wn2 from HW1.out.trans (hbb.mono hz1))
                      have GF0 := Lib.hid (blk_below hbb GE.out hle1)
                      go_wp2_with (fail)
                      refine g2 _ _ (Chg.of_below hbb) ?_
                      clear g2 hbb
                      obtain ⟨gf, hgf⟩ : ∃ gf, wz.heap.size = gf := ⟨_, rfl⟩
                      have GF := Lib.hid (show IsV3 44 wn2 gf (.int .i64 0) (.int .i64 0) (.int .i64 0) by rw [← hgf]; exact GF0.out)
                      have hgw : wz.heap.size ≤ gf := by rw [hgf]; exact Nat.le_refl _
                      simp only [hgf]
                      clear hgf
                      refine fr.tr_reads _ (by dsimp only [pick, ord.at_]) ?_
                      repeat (go_big_quiet_step (fail))
                      refine wpQuiet_nil ?_
                      have hlg : gf < wn2.heap.size := blk_lt GF.out
                      obtain ⟨⟨z0, z1, z2⟩, zf0, zf1, zf2⟩ := isv3_cells GF.out
                      refine fr.tr_write _ (by dsimp only [pick, ord.at_]) ?_
                      intro K2 g3
                      go_wp2_with (fail)
                      refine fr.tr_reads _ (by dsimp only [pick, ord.at_]) ?_
                      repeat (go_big_quiet_step (fail))
                      refine wpQuiet_nil ?_
                      refine fr.tr_stop ?_
                      refine NoPanic.normal ?_
                      go_wp2_with (fail)
                      go_meet
                      refine ⟨gf, rfl, rfl, set3 GF.out, hgw, ?_⟩
                      exact below_set3 HW2.out hgw _ _ _
                  case rest =>
                    clear q0 q1 q2 q3 q4 q5 c0 c1 c2 s0 s1 s2
                    obtain ⟨g1, rfl, rfl, hg1, hgz, hbm⟩ := hcut
                    obtain ⟨wm, hwm⟩ : ∃ wm, wm = wc := ⟨wc, rfl⟩
                    obtain rfl := hwm
                    have HG1 := Lib.hid hg1
                    have HBM := Lib.hid (HBZ.out.trans (hbm.mono hsz))
                    have hsm := HBM.out.size
                    have hg1l : g1 < wm.heap.size := blk_lt hg1
                    clear hg1 hbm
                    obtain ⟨⟨c0, c1, c2⟩, _⟩ := isv3_cells (blk_below HBM.out HBX2.out hl2)
                    obtain ⟨s0, s1, s2⟩ := HSA.out wm HBM.out
                    have hbsm : bs < wm.heap.size := by omega
                    have hl2m : w2.heap.size < wm.heap.size := by omega
                    have HFZ2 := Lib.hid (fun (u : World) (hu : Below wm.heap.size wm u) => HF2.out u (HBM.out.trans (hu.mono hsm)))
                    go_upto_region 20 with (fail)
                    have q0 := Wf.at_ (F := fun _ => False) c0 (fun e => e)
                    have q1 := Wf.at_ (F := fun _ => False) c1 (fun e => e)
                    have q2 := Wf.at_ (F := fun _ => False) c2 (fun e => e)
                    have q3 := Wf.at_ (F := fun _ => False) s0 (fun e => e)
                    have q4 := Wf.at_ (F := fun _ => False) s1 (fun e => e)
                    have q5 := Wf.at_ (F := fun _ => False) s2 (fun e => e)
                    go_cut [20, 21] (fun s20 s21 wx => ∃ gf : Nat, s20 = .pointer (some ⟨gf, 0, none⟩) ∧ s21 = .bool bf ∧ IsV3 44 wx gf (.int .i64 f1) (.int .i64 f2) (.int .i64 f3) ∧ wm.heap.size ≤ gf ∧ Below wm.heap.size wm wx)
                    case first =>
                      refine fr.wp_region_tree (F := fun _ => False) ((.reads [0, 1, 2, 3, 4, 5, 6] (.two 7 false (.reads [8, 9, 10] (.one 11 false (.one 12 true (.reads [13] .stop)))) 11 false (.one 7 false (.reads [8, 9, 10] (.one 12 true (.reads [13] .stop))))))) (by kernel_rfl) (by kernel_rfl) ?_
                      refine fr.tr_reads _ (by dsimp only [pick, ord.at_]) ?_
                      repeat (go_big_quiet_step (fail))
                      refine wpQuiet_nil ?_
                      refine fr.tr_two ?_ ?_
                      · refine fr.act_s _ (by dsimp only [pick, ord.at_]) ?_
                        intro K1 g1 g2
                        clear g1
                        go_wp2_with (fail)
                        refine (HFZ2.out (wm.drew) (Below.refl _ _).drew).mono ?_
                        rintro e wn1 ⟨rfl, hbb⟩
                        have hb1 : Below wm.heap.size wm wn1 := (Below.refl _ _).drew.trans hbb
                        clear hbb
                        go_wp2_with (fail)
                        refine g2 _ _ (Chg.of_below hb1) ?_
                        clear g2
                        have HW1 := Lib.hid hb1
                        have hz1 := hb1.size
                        clear hb1
                        refine fr.tr_reads _ (by dsimp only [pick, ord.at_]) ?_
                        repeat (go_big_quiet_step (fail))
                        refine wpQuiet_nil ?_
                        refine fr.tr_one _ (by dsimp only [pick, ord.at_]) ?_
                        intro K1 g1 g2
                        clear g1
                        go_wp2_with (fail)
                        refine g2 _ _ (Chg.of_below (below_al _ _)) ?_
                        clear g2
                        obtain ⟨wn2, hw2⟩ : ∃ wn2, wn1.alloc (.cells #[.int .i64 0, .int .i64 0, .int .i64 0] 44) = wn2 := ⟨_, rfl⟩
                        have HW2 := Lib.hid (show Below wm.heap.size wm wn2 from HW1.out.trans (by rw [← hw2]; exact (below_al _ _).mono hz1))
                        obtain ⟨gf, hgf⟩ : ∃ gf, wn1.heap.size = gf := ⟨_, rfl⟩
                        have GF := Lib.hid (show IsV3 44 wn2 gf (.int .i64 0) (.int .i64 0) (.int .i64 0) by rw [← hgf, ← hw2]; exact alloc_new wn1 _)
                        have hgw : wm.heap.size ≤ gf := by rw [← hgf]; exact hz1
                        rw [hw2]
                        simp only [hgf]
                        clear hw2 hgf
                        have hlg : gf < wn2.heap.size := blk_lt GF.out
                        obtain ⟨⟨z0, z1, z2⟩, zf0, zf1, zf2⟩ := isv3_cells GF.out
                        refine fr.tr_write _ (by dsimp only [pick, ord.at_]) ?_
                        intro K2 g3
                        go_wp2_with (fail)
                        refine fr.tr_reads _ (by dsimp only [pick, ord.at_]) ?_
                        repeat (go_big_quiet_step (fail))
                        refine wpQuiet_nil ?_
                        refine fr.tr_stop ?_
                        refine NoPanic.normal ?_
                        go_wp2_with (fail)
                        go_meet
                        refine ⟨gf, rfl, rfl, set3 GF.out, hgw, ?_⟩
                        exact below_set3 HW2.out hgw _ _ _
                      · refine fr.act_s _ (by dsimp only [pick, ord.at_]) ?_
                        intro K1 g1 g2
                        clear g1
                        go_wp2_with (fail)
                        refine g2 _ _ (Chg.of_below ((below_al _ _).drew)) ?_
                        clear g2
                        obtain ⟨wn1, hw1⟩ : ∃ wn1, (wm.alloc (.cells #[.int .i64 0, .int .i64 0, .int .i64 0] 44)).drew = wn1 := ⟨_, rfl⟩
                        have HW1 := Lib.hid (show Below wm.heap.size wm wn1 by rw [← hw1]; exact (below_al _ _).drew)
                        have GE := Lib.hid (show IsV3 44 wn1 wm.heap.size (.int .i64 0) (.int .i64 0) (.int .i64 0) by rw [← hw1]; exact alloc_new wm _)
                        rw [hw1]
                        clear hw1
                        have hz1 := HW1.out.size
                        have hle1 : wm.heap.size < wn1.heap.size := blk_lt GE.out
                        refine fr.tr_one _ (by dsimp only [pick, ord.at_]) ?_
                        intro K1 g1 g2
                        clear g1
                        go_wp2_with (fail)
                        refine (HFZ2.out wn1 HW1.out).mono ?_
                        rintro e wn2 ⟨rfl, hbb⟩
                        have HW2 := Lib.hid (show Below wm.heap.size wm wn2 from HW1.out.trans (hbb.mono hz1))
                        have GF0 := Lib.hid (blk_below hbb GE.out hle1)
                        go_wp2_with (fail)
                        refine g2 _ _ (Chg.of_below hbb) ?_
                        clear g2 hbb
                        obtain ⟨gf, hgf⟩ : ∃ gf, wm.heap.size = gf := ⟨_, rfl⟩
                        have GF := Lib.hid (show IsV3 44 wn2 gf (.int .i64 0) (.int .i64 0) (.int .i64 0) by rw [← hgf]; exact GF0.out)
                        have hgw : wm.heap.size ≤ gf := by rw [hgf]; exact Nat.le_refl _
                        simp only [hgf]
                        clear hgf
                        refine fr.tr_reads _ (by dsimp only [pick, ord.at_]) ?_
                        repeat (go_big_quiet_step (fail))
                        refine wpQuiet_nil ?_
                        have hlg : gf < wn2.heap.size := blk_lt GF.out
                        obtain ⟨⟨z0, z1, z2⟩, zf0, zf1, zf2⟩ := isv3_cells GF.out
                        refine fr.tr_write _ (by dsimp only [pick, ord.at_]) ?_
                        intro K2 g3
                        go_wp2_with (fail)
                        refine fr.tr_reads _ (by dsimp only [pick, ord.at_]) ?_
                        repeat (go_big_quiet_step (fail))
                        refine wpQuiet_nil ?_
                        refine fr.tr_stop ?_
                        refine NoPanic.normal ?_
                        go_wp2_with (fail)
                        go_meet
                        refine ⟨gf, rfl, rfl, set3 GF.out, hgw, ?_⟩
                        exact below_set3 HW2.out hgw _ _ _
                    case rest =>
                      clear q0 q1 q2 q3 q4 q5 c0 c1 c2 s0 s1 s2
                      obtain ⟨g2, rfl, rfl, hg2o, hgm, hbo⟩ := hcut
                      obtain ⟨wo, hwo⟩ : ∃ wo, wo = wc := ⟨wc, rfl⟩
                      obtain rfl := hwo
                      have hso := hbo.size
                      have HBO := Lib.hid (HBM.out.trans (hbo.mono hsm))
                      have hg2l : g2 < wo.heap.size := blk_lt hg2o
                      have hg1o : g1 < wo.heap.size := by omega
                      have hl2o : w2.heap.size < wo.heap.size := by omega
                      obtain ⟨⟨y0, y1, y2⟩, _⟩ := isv3_cells hg2o
                      obtain ⟨⟨x0, x1, x2⟩, _⟩ := isv3_cells (blk_below hbo HG1.out hg1l)
                      obtain ⟨⟨c0, c1, c2⟩, _⟩ := isv3_cells (blk_below HBO.out HBX2.out hl2)
                      have hE : ∀ u : World, (binOp .neq 44 (.agg #[.int .i64 f1, .int .i64 f2, .int .i64 f3]) (.agg #[.int .i64 f1, .int .i64 f2, .int .i64 f3])).run Try.prog u = .ok (.bool false) u := fun u => neq_owner f1 f2 f3 u
                      have hG := guard_owner
                      have hbb : (bf != bf) = false := by cases bf <;> rfl
                      obtain ⟨L, hL⟩ : ∃ L, pm.load SS n = L := ⟨_, rfl⟩
                      have HL1 := Lib.hid (fun (u : World) (hu : Below wC.heap.size wC u) => HLD.out u hu n)
                      have HL2 := Lib.hid (fun (u : World) (hu : Below wC.heap.size wC u) => HLY.out u hu n)
                      rw [hL] at HL1 HL2
                      clear hL hg2o hbo
                      go_upto_region 21 with (fail)
                      have q0 := Wb.at_ c0
                      have q1 := Wb.at_ c1
                      have q2 := Wb.at_ c2
                      have q3 := Wb.at_ x0
                      have q4 := Wb.at_ x1
                      have q5 := Wb.at_ x2
                      have q6 := Wb.at_ y0
                      have q7 := Wb.at_ y1
                      have q8 := Wb.at_ y2
                      refine wp_region_plan [([0, 1, 2, 3, 4, 5, 6, 7, 8, 9, 10, 12, 13], some (11, false)), ([], some (14, false)), ([15, 16], none)] (by kernel_rfl) (by kernel_rfl) ?_
                      refine seg_act _ (by dsimp only [pick, ord.at_]) _ (by dsimp only [pick, ord.at_]) ?_
                      repeat (go_big_quiet_step (fail))
                      refine wpQuiet_nil ?_
                      intro K1 g1 g2
                      clear g1
                      go_wp2_with (fail)
                      refine (HL1.out wo.drew HBO.out.drew).mono ?_
                      rintro e wE ⟨rfl, hbE⟩
                      have HBE2 := Lib.hid (show Below wC.heap.size wC wE from HBO.out.trans (((Below.refl _ _).drew.trans hbE).mono (B' := wC.heap.size) HBO.out.size))
                      have hbE2 := (show Below wo.heap.size wo wE from (Below.refl _ _).drew.trans hbE)
                      go_wp2_with (fail)
                      refine g2 _ _ hbE2 ?_
                      clear g2 hbE hbE2
                      refine seg_act _ (by dsimp only [pick, ord.at_]) _ (by dsimp only [pick, ord.at_]) ?_
                      repeat (go_big_quiet_step (fail))
                      refine wpQuiet_nil ?_
                      intro K1 g1 g2
                      clear g1
                      go_wp2_with (fail)
                      refine (HL2.out wE HBE2.out).mono ?_
                      rintro e wF ⟨rfl, hbF⟩
                      have HBF := Lib.hid (HBE2.out.trans (hbF.mono HBE2.out.size))
                      go_wp2_with (fail)
                      refine g2 _ _ hbF ?_
                      clear g2 hbF q0 q1 q2 q3 q4 q5 q6 q7 q8 c0 c1 c2 x0 x1 x2 y0 y1 y2 hE hG
                      have hLL : ((L : Int) != (L : Int)) = false := by simp
                      refine seg_end _ (by dsimp only [pick, ord.at_]) ?_
                      repeat (go_big_quiet_step (fail))
                      refine wpQuiet_nil ?_
                      refine NoPanic.normal ?_
                      have HWK := Lib.hid (show wrap64 (n + 1) = ((k2 + 1 : Nat) : Int) - 1 by have := HN.out; rw [IntWalk.wrap64_in _ (by omega)]; omega)
                      go_wp2_with (fail)
                      go_roundg (10 - (k2 + 1))
                      case measure => omega
                      case rel => exact ⟨k2 + 1, congrArg _ HWK.out, rfl, by omega, by omega, HBF.out⟩
                · obtain rfl : k2 = 10 := by omega
                  have hltz2 : ¬ ((10 : Nat) : Int) - 1 ≤ 8 := by omega
                  have HIB := Lib.hid (show OP wz w.heap.size ⟨ver3, nA3, nc3, nodes3, sA3, sc3, rs3⟩ ∧ Below w.heap.size w wz from ⟨HINV.out.1.below HBZ.out (Nat.le_refl _), HINV.out.2.2.trans (HBZ.out.mono hsw)⟩)
                  have HBB := Lib.hid (blk_below HBZ.out HBX2.out hl2)
                  go_wp2_with (fail)
                  go_roundg (len2 - (i + 1))
                  case measure => omega
                  case rel => exact ⟨i + 1, by go_num, rfl, by omega, by omega, ⟨_, HBB.out, HIB.out.1, HINV.out.2.1, HIB.out.2⟩⟩
        · obtain rfl : i = len2 := by omega
          have hltz : ¬ (i : Int) < (i : Int) := by omega
          have HBWR := Lib.hid hbw
          clear hbx hop hpok hbw HR
          go_wp2_with (fail)
          go_ret
          exact ⟨rfl, HBWR.out⟩
    · have hez : (er == 0) = false := by simp [he0]
      clear he0
      go_wp2_with (fail)
      go_loopg [6, 11] 0 (fun gg s6 s11 wr => s11 = .int .i64 0 ∧ s6 = .bool false ∧ Aside (Below w.heap.size w wr))
      case atStart => exact ⟨rfl, rfl, HB6.out⟩
      case round =>
        obtain ⟨rfl, rfl, HB⟩ := hrel
        by_cases hl0 : 0 < len2
        · have hltz : (0 : Int) < (len2 : Int) := by omega
          go_wp2_with (fail)
          go_ret
          exact ⟨rfl, HB.out⟩
        · have hltz : ¬ (0 : Int) < (len2 : Int) := by omega
          go_wp2_with (fail)
          go_ret
          exact ⟨rfl, HB.out⟩
end Go.Proofs.Ytnpkhkhchimcnaa.lawPlacementScript
