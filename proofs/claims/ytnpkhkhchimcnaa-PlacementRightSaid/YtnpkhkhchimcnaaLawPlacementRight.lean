/-
  The walk of the law PlacementRight: for all inputs it returns true.
-/
import Derived.Test.YtnpkhkhchimcnaaPmAdd
import Derived.Test.YtnpkhkhchimcnaaPmRemM
import Derived.Test.YtnpkhkhchimcnaaPmInitM
import Derived.Test.YtnpkhkhchimcnaaPmPend
import Derived.Test.YtnpkhkhchimcnaaPmTake
import Derived.Test.YtnpkhkhchimcnaaPmOpen
import Derived.Test.YtnpkhkhchimcnaaFree3
import Derived.Deep.DeepCutAuto
namespace Go.Proofs.Ytnpkhkhchimcnaa.lawPlacementRight
open Go.ChangeShapes Go.WideShapes Go.ChangeAt Go.RowKit Go.Shelf plain words ord mem pm

theorem op_two {w w' : World} {B ga gb : Nat} {v : PV} {ca cb : Array Value} (h : OP w B v) (hc : Chg (fun k => k = ga ∨ k = gb) w w') (ha : w.heap[ga]? = some (.cells ca 25 (0, 0))) (hb : w.heap[gb]? = some (.cells cb 25 (0, 0))) : OP w' B v := by
  have one : ∀ {α : Type} {E : El α} {x : Value} {n : Nat} {l : List α}, E.e ≠ 25 → Ow E w B x n l → Ow E w' B x n l := fun hne ho => ho.chg hc fun g hg e => by
    obtain ⟨c, hcur⟩ := ho.type hg
    rcases e with rfl | rfl
    · exact blk_type hcur ha hne rfl
    · exact blk_type hcur hb hne rfl
  exact ⟨one (by decide) h.n, one (by decide) h.s, fun r hr => one (by decide) (h.each r hr)⟩
set_option maxHeartbeats 4000000 in
set_option maxRecDepth 100000 in
theorem walk_ok (a0 : Option Addr) (len0 cap0 : Nat) (z0 : List Int) (a1 : Int) (a2 : Option Addr) (len2 cap2 : Nat) (w : World) (w0 : IsRow .i64 w a0 len0 cap0 z0) (w1 : (Lit.int .i64 a1).wf = true) (ws : IsLs TE (fun _ => True) w a2 len2 cap2) :
    Calls Try.prog 8 #[.slice a0 len0 cap0, .int .i64 a1, .slice a2 len2 cap2] w fun e w' => e = .returned (.bool true) ∧ Below w.heap.size w w' := by
  obtain ⟨hls, hcap, hmost⟩ := row_ls w0
  obtain ⟨l, hl⟩ : ∃ l, z0.take len0 = l := ⟨_, rfl⟩
  rw [hl] at hls
  clear w0 w1 hl
  obtain ⟨st, hst, _, hcap2, hmost2, hnil2⟩ := ws
  have HST := Lib.hid hst
  clear hst
  have HL := Lib.hid hls
  have HLN := Lib.hid hls.1
  clear hls
  by_cases hbig : 256 < len0
  · have hbz : (256 : Int) < (len0 : Int) := by omega
    clear hbig
    go_enter Try.func8, Try.ntmps8
    go_wp2_with (fail)
    go_ret
    exact ⟨rfl, Below.refl _ _⟩
  have hbz : ¬ (256 : Int) < (len0 : Int) := by omega
  by_cases hbig2 : 256 < len2
  · have hbz2 : (256 : Int) < (len2 : Int) := by omega
    clear hbig2
    go_enter Try.func8, Try.ntmps8
    go_wp2_with (fail)
    go_ret
    exact ⟨rfl, Below.refl _ _⟩
  · have hbz2 : ¬ (256 : Int) < (len2 : Int) := by omega
    have HPI := Lib.hid (pinit_sx w w.heap.size len0 cap0 a0 l HL.out (Nat.le_refl _) (by omega) a1)
    have HRI := Lib.hid (fun (u : World) (hu : Below w.heap.size w u) => rinit_y u w.heap.size len0 cap0 a0 l (HL.out.below hu (Nat.le_refl _)) hu.size (by omega) hcap hmost a1)
    obtain ⟨er, her⟩ : ∃ er, initErr l a1 = er := ⟨_, rfl⟩
    rw [rinitErr_eq, her, rinit_pl] at HRI
    rw [her] at HPI
    have HER := Lib.hid her
    clear her
    go_enter Try.func8, Try.ntmps8
    go_wp2_with (fail)
    refine HPI.out.mono ?_
    rintro e w2 ⟨⟨ver, nA, nc, nodes, sA, sc, rs⟩, rfl, hvp, hvok, hb2⟩
    obtain ⟨w3, hw3⟩ : ∃ w3, w2.alloc (.cells #[.int .i64 ver, .slice nA nodes.length nc, .slice sA rs.length sc] 25) = w3 := ⟨_, rfl⟩
    have HB3 := Lib.hid (show Below w.heap.size w w3 by rw [← hw3]; exact hb2.alloc hb2.size _)
    have HV := Lib.hid hvp
    have HOP3 := Lib.hid (show OP w3 w.heap.size (⟨ver, nA, nc, nodes, sA, sc, rs⟩ : PV) by rw [← hw3]; exact hvok.below (below_al _ _) (Nat.le_refl _))
    have HOK := Lib.hid (show PVok w3 w2.heap.size (⟨ver, nA, nc, nodes, sA, sc, rs⟩ : PV) by rw [← hw3]; exact hvok.ok.below (below_al _ _) (Nat.le_refl _))
    have HG := Lib.hid (show IsV3 25 w3 w2.heap.size (.int .i64 ver) (.slice nA nodes.length nc) (.slice sA rs.length sc) by rw [← hw3]; exact alloc_new _ _)
    have HW3 := Lib.hid hw3
    have hs2 := hb2.size
    have hs3 : w2.heap.size < w3.heap.size := blk_lt HG.out
    clear hvp hvok hb2 hw3 HPI
    go_wp2_with (fail)
    rw [HW3.out]
    refine (HRI.out w3 HB3.out).mono ?_
    rintro e w4 ⟨⟨ver2, nA2, nc2, nodes2, sA2, sc2, rs2⟩, rfl, hvp2, hvok2, hb4⟩
    obtain ⟨w5, hw5⟩ : ∃ w5, w4.alloc (.cells #[.int .i64 ver2, .slice nA2 nodes2.length nc2, .slice sA2 rs2.length sc2] 25) = w5 := ⟨_, rfl⟩
    have hb5 : Below w3.heap.size w3 w5 := by rw [← hw5]; exact hb4.alloc hb4.size _
    have HV2 := Lib.hid hvp2
    have HOK2 := Lib.hid (show PVok w5 w4.heap.size (⟨ver2, nA2, nc2, nodes2, sA2, sc2, rs2⟩ : PV) by rw [← hw5]; exact hvok2.below (below_al _ _) (Nat.le_refl _))
    have HG2 := Lib.hid (show IsV3 25 w5 w4.heap.size (.int .i64 ver2) (.slice nA2 nodes2.length nc2) (.slice sA2 rs2.length sc2) by rw [← hw5]; exact alloc_new _ _)
    have HP5 := Lib.hid hb5
    have HB5 := Lib.hid (HB3.out.trans (hb5.mono HB3.out.size))
    have hs5 := hb5.size
    have hs4 := hb4.size
    have hs45 : w4.heap.size < w5.heap.size := blk_lt HG2.out
    have HG5 := Lib.hid (blk_below hb5 HG.out hs3)
    have HW5 := Lib.hid hw5
    clear hb4 hb5 hw5 HRI hvp2 hvok2
    by_cases he0 : er = 0
    · subst he0
      obtain ⟨hok, hbu, hver, hnd, hlen⟩ := init_ok HER.out
      obtain ⟨p, hp⟩ : ∃ p, initPl l a1 = p := ⟨_, rfl⟩
      rw [hp] at hok hbu hver hnd hlen HV HV2
      have HOKP := Lib.hid hok
      have HBU := Lib.hid hbu
      have HVER := Lib.hid hver
      have HND := Lib.hid hnd
      have HLEN := Lib.hid hlen
      have hnl : p.nodes.length = len0 := by rw [hnd, srt_len]; exact HLN.out
      have HNL := Lib.hid hnl
      have hn3 : 3 ≤ len0 := by rw [← hnl]; exact hok.nodes.many
      have HPV := Lib.hid (show ∀ u, Below w3.heap.size w3 u → PVok u w3.heap.size (⟨ver, nA, nc, nodes, sA, sc, rs⟩ : PV) from fun u hu => (HOK.out.more (C := w3.heap.size) (by omega)).below hu (Nat.le_refl _))
      have hsl := HOK.out.len.1
      have HVC := Lib.hid (fun (u : World) (hu : Below w3.heap.size w3 u) => (isv3_cells (blk_below hu HG.out hs3)).1)
      have hw25 : w2.heap.size < w5.heap.size := by omega
      clear hok hbu hver hnd hlen hnl hp
      have HW5b := HW5.out
      have HG5b := HG5
      obtain ⟨S, hS⟩ : ∃ S, p.ss.length = S := ⟨_, rfl⟩
      have hS8 : S ≤ 8 := by rw [← hS]; exact HOKP.out.few
      have ha1 : a1 = (S : Int) := by rw [← HLEN.out, hS]
      have HS := Lib.hid hS
      have HA1 := Lib.hid ha1
      have HOP5 := Lib.hid (HOP3.out.below HP5.out (Nat.le_refl _))
      have hw25 : w.heap.size ≤ w2.heap.size := hs2
      have HPS := Lib.hid (show PlOk (⟨ver, nA, nc, nodes, sA, sc, rs⟩ : PV).pl ∧ (⟨ver, nA, nc, nodes, sA, sc, rs⟩ : PV).pl.ss.length = S by rw [HV.out]; exact ⟨HOKP.out, hS⟩)
      clear hS ha1
      go_wp2_with (fail)
      clear HW5b
      go_loopg [6, 11, 12, 13, 14, 15, 16, 17] len2 (fun gg s6 s11 s12 s13 s14 s15 s16 s17 wr => ∃ i : Nat, s11 = .int .i64 i ∧ s6 = .bool false ∧ i ≤ len2 ∧ len2 - i ≤ gg ∧ Aside (∃ v : PV, pm.Boxed wr w2.heap.size v ∧ OP wr w.heap.size v ∧ PlOk v.pl ∧ v.pl.ss.length = S ∧ Below w.heap.size w wr))
      case atStart => exact ⟨0, rfl, rfl, by omega, by omega, ⟨_, HG5.out, HOP5.out, HPS.out.1, HPS.out.2, HB5.out⟩⟩
      case round =>
        obtain ⟨i, rfl, rfl, hi, hg, HR⟩ := hrel
        obtain ⟨v, hbx, hop, hpok, hvS, hbw⟩ := HR.out
        have hsr := hbw.size
        have hb2l : w2.heap.size < wr.heap.size := blk_lt hbx
        by_cases hlt : i < len2
        · have hltz : (i : Int) < (len2 : Int) := by omega
          have i0 : (0 : Int) ≤ (i : Int) := by omega
          obtain ⟨o, ho⟩ := HST.out.get hlt
          obtain ⟨bs, os, hAs, hbs, s0, s1, s2⟩ := step_at (HST.out.below hbw (Nat.le_refl _)) ho
          subst hAs
          obtain ⟨k, a, b⟩ := o
          simp only at s0 s1 s2
          have hbsw : bs < wr.heap.size := by omega
          have HBX := Lib.hid hbx
          have HOPV := Lib.hid hop
          have HPOK := Lib.hid hpok
          have HVS := Lib.hid hvS
          have HBWR := Lib.hid hbw
          have HSTP := Lib.hid (fun (u : World) (hu : Below wr.heap.size wr u) => step_l u wr.heap.size v (hop.ok.below hu (Nat.le_refl _)) hu.size k a b)
          obtain ⟨er, her⟩ : ∃ er, stepErr v.pl k a b = er := ⟨_, rfl⟩
          obtain ⟨pl, hpl⟩ : ∃ pl, stepPl v.pl k a b = pl := ⟨_, rfl⟩
          rw [her, hpl] at HSTP
          have HSO := Lib.hid (show er = 0 → PlOk pl ∧ pl.ver = v.pl.ver + 1 ∧ pl.ss.length = S from fun e => by
            rw [e] at her
            obtain ⟨h1, h2, h3⟩ := step_ok her
            rw [hpl] at h1 h2 h3
            exact ⟨h1, h2, by rw [h3, hvS]⟩)
          obtain ⟨⟨c0, c1, c2⟩, _⟩ := isv3_cells hbx
          obtain ⟨ver', nA', nc', nodes', sA', sc', rs'⟩ := v
          simp only [PV.val] at HSTP
          clear hbx hop hpok hvS hbw HR ho her hpl
          go_upto_region 10 with (fail)
          have q0 := Wf.at_ (F := fun _ => False) c0 (fun e => e)
          have q1 := Wf.at_ (F := fun _ => False) c1 (fun e => e)
          have q2 := Wf.at_ (F := fun _ => False) c2 (fun e => e)
          have q3 := Wf.at_ (F := fun _ => False) s0 (fun e => e)
          have q4 := Wf.at_ (F := fun _ => False) s1 (fun e => e)
          have q5 := Wf.at_ (F := fun _ => False) s2 (fun e => e)
          go_cut [12, 13, 14, 15] (fun s12 s13 s14 s15 wx => ∃ (ga gb : Nat) (er2 : Int) (x y : PV), s12 = .pointer (some ⟨ga, 0, none⟩) ∧ s13 = .int .i64 er2 ∧ s14 = .pointer (some ⟨gb, 0, none⟩) ∧ s15 = .int .i64 er2 ∧ pm.Boxed wx ga x ∧ pm.Boxed wx gb y ∧ x.pl = pl ∧ er2 = er ∧ y.pl = pl ∧ OP wx wr.heap.size x ∧ OP wx wr.heap.size y ∧ wr.heap.size ≤ ga ∧ wr.heap.size ≤ gb ∧ ga ≠ gb ∧ Below wr.heap.size wr wx)
          case first =>
            refine fr3.wp_region_tree (F := fun _ => False) ((.reads [0, 1, 2, 3, 4] (.three 5 false (.reads [6, 7, 8, 9, 10] (.two 11 false (.one 12 false (.one 13 true (.reads [14] (.one 15 true (.reads [16] .stop))))) 12 false (.one 11 false (.one 13 true (.reads [14] (.one 15 true (.reads [16] .stop))))))) 11 false (.two 5 false (.reads [6, 7, 8, 9, 10] (.one 12 false (.one 13 true (.reads [14] (.one 15 true (.reads [16] .stop)))))) 12 false (.one 5 false (.reads [6, 7, 8, 9, 10] (.one 13 true (.reads [14] (.one 15 true (.reads [16] .stop))))))) 12 false (.two 5 false (.reads [6, 7, 8, 9, 10] (.one 11 false (.one 13 true (.reads [14] (.one 15 true (.reads [16] .stop)))))) 11 false (.one 5 false (.reads [6, 7, 8, 9, 10] (.one 13 true (.reads [14] (.one 15 true (.reads [16] .stop)))))))))) (by kernel_rfl) (by kernel_rfl) ?_
            refine fr3.tr_reads _ (by dsimp only [pick, ord.at_]) ?_
            repeat (go_big_quiet_step (fail))
            refine wpQuiet_nil ?_
            refine fr3.tr_three ?_ ?_ ?_
            · refine fr.act_s _ (by dsimp only [pick, ord.at_]) ?_
              intro K1 g1 g2
              clear g1
              go_wp2_with (fail)
              refine (HSTP.out (wr.drew) (Below.refl _ _).drew).mono ?_
              rintro e wn1 ⟨⟨xv, xA, xc, xn, xB, xd, xr⟩, ⟨yv, yA, yc, yn, yB, yd, yr⟩, rfl, hplx, hply, hopx, hopy, hbb⟩
              have hb1 : Below (wr).heap.size (wr) wn1 := (Below.refl _ _).drew.trans hbb
              have HPX := Lib.hid (And.intro hplx hply)
              have HOX := Lib.hid (And.intro hopx hopy)
              clear hplx hply hopx hopy hbb
              go_wp2_with (fail)
              refine g2 _ _ (Chg.of_below hb1) ?_
              clear g2
              have HN1 := Lib.hid hb1
              have HW1 := Lib.hid hb1
              have hz1 := hb1.size
              clear hb1
              refine fr3.tr_reads _ (by dsimp only [pick, ord.at_]) ?_
              repeat (go_big_quiet_step (fail))
              refine wpQuiet_nil ?_
              refine fr3.tr_two ?_ ?_
              · refine fr.act_s _ (by dsimp only [pick, ord.at_]) ?_
                intro K1 g1 g2
                clear g1
                go_wp2_with (fail)
                refine g2 _ _ (Chg.of_below (below_al _ _)) ?_
                clear g2
                obtain ⟨wn2, hw2⟩ : ∃ wn2, wn1.alloc (.cells #[.int .i64 0, .slice none 0 0, .slice none 0 0] 25) = wn2 := ⟨_, rfl⟩
                have hb2 : Below (wn1).heap.size (wn1) wn2 := by rw [← hw2]; exact below_al _ _
                have GA := Lib.hid (show IsV3 25 wn2 (wn1).heap.size (.int .i64 0) (.slice none 0 0) (.slice none 0 0) by rw [← hw2]; exact alloc_new (wn1) _)
                rw [hw2]
                clear hw2
                have HN2 := Lib.hid hb2
                have HW2 := Lib.hid (HW1.out.trans (hb2.mono HW1.out.size))
                have hz2 := hb2.size
                clear hb2
                refine fr3.tr_one _ (by dsimp only [pick, ord.at_]) ?_
                intro K1 g1 g2
                clear g1
                go_wp2_with (fail)
                refine g2 _ _ (Chg.of_below (below_al _ _)) ?_
                clear g2
                obtain ⟨wn3, hw3⟩ : ∃ wn3, wn2.alloc (.cells #[.int .i64 0, .slice none 0 0, .slice none 0 0] 25) = wn3 := ⟨_, rfl⟩
                have hb3 : Below (wn2).heap.size (wn2) wn3 := by rw [← hw3]; exact below_al _ _
                have GB := Lib.hid (show IsV3 25 wn3 (wn2).heap.size (.int .i64 0) (.slice none 0 0) (.slice none 0 0) by rw [← hw3]; exact alloc_new (wn2) _)
                rw [hw3]
                clear hw3
                have HN3 := Lib.hid hb3
                have HW3 := Lib.hid (HW2.out.trans (hb3.mono HW2.out.size))
                have hz3 := hb3.size
                clear hb3
                have hltA : (wn1).heap.size < wn2.heap.size := blk_lt GA.out
                have GA3 := Lib.hid (blk_below (show Below wn2.heap.size wn2 wn3 from HN3.out) GA.out hltA)
                have hltB : (wn2).heap.size < wn3.heap.size := blk_lt GB.out
                have GB3 := Lib.hid (blk_below (show Below wn3.heap.size wn3 wn3 from Below.refl _ _) GB.out hltB)
                obtain ⟨ga, hga⟩ : ∃ ga, (wn1).heap.size = ga := ⟨_, rfl⟩
                obtain ⟨gb, hgb⟩ : ∃ gb, (wn2).heap.size = gb := ⟨_, rfl⟩
                have hgab : ga ≠ gb := by rw [← hga, ← hgb]; omega
                have hgaw : wr.heap.size ≤ ga := by rw [← hga]; omega
                have hgbw : wr.heap.size ≤ gb := by rw [← hgb]; omega
                have GA4 := GA3.out
                have GB4 := GB3.out
                rw [hga] at GA4
                rw [hgb] at GB4
                have GA5 := Lib.hid GA4
                have GB5 := Lib.hid GB4
                have HX3 := Lib.hid (show OP wn3 wr.heap.size ⟨xv, xA, xc, xn, xB, xd, xr⟩ ∧ OP wn3 wr.heap.size ⟨yv, yA, yc, yn, yB, yd, yr⟩ from
                  ⟨(HOX.out.1.below (show Below wn1.heap.size wn1 wn3 from HN2.out.trans (HN3.out.mono hz2)) (Nat.le_refl _)).base (by have := HW3.out.size; show wr.heap.size ≤ (wr.drew).heap.size; first | exact Nat.le_refl _ | omega), (HOX.out.2.below (show Below wn1.heap.size wn1 wn3 from HN2.out.trans (HN3.out.mono hz2)) (Nat.le_refl _)).base (by show wr.heap.size ≤ (wr.drew).heap.size; first | exact Nat.le_refl _ | omega)⟩)
                obtain ⟨⟨a0, a1', a2'⟩, af0, af1, af2⟩ := isv3_cells GA4
                obtain ⟨⟨b0, b1', b2'⟩, bf0, bf1, bf2⟩ := isv3_cells GB4
                have hlA : ga < wn3.heap.size := blk_lt GA4
                have hlB : gb < wn3.heap.size := blk_lt GB4
                simp only [hga, hgb]
                clear hga hgb GA4 GB4
                refine fr3.tr_write _ (by dsimp only [pick, ord.at_]) ?_
                intro K2 g3
                go_wp2_with (fail)
                obtain ⟨wS, hwS⟩ : ∃ wS, ((wn3.setCell ⟨ga, 0, none⟩ (.int .i64 xv)).setCell ⟨ga, 1, none⟩ (.slice xA xn.length xc)).setCell ⟨ga, 2, none⟩ (.slice xB xr.length xd) = wS := ⟨_, rfl⟩
                have gA6 : IsV3 25 wS ga (.int .i64 xv) (.slice xA xn.length xc) (.slice xB xr.length xd) := by rw [← hwS]; exact set3 GA5.out
                have gB6 : IsV3 25 wS gb (.int .i64 0) (.slice none 0 0) (.slice none 0 0) := by rw [← hwS]; exact set3_ne GB5.out (fun e => hgab e.symm) _ _ _
                have hcS : Chg (fun b => b = ga ∨ b = gb) wn3 wS := by rw [← hwS]; exact (chg_set3 _ _ _).mono (S' := fun b => b = ga ∨ b = gb) (fun _ _ e => .inl e)
                rw [hwS]
                have GA6 := Lib.hid gA6
                have GB6 := Lib.hid gB6
                have HCS := Lib.hid hcS
                clear a0 a1' a2' af0 af1 af2 b0 b1' b2' bf0 bf1 bf2 hwS gA6 hcS
                obtain ⟨⟨b0, b1', b2'⟩, bf0, bf1, bf2⟩ := isv3_cells gB6
                have hlB6 : gb < wS.heap.size := blk_lt gB6
                clear gB6
                refine fr3.tr_reads _ (by dsimp only [pick, ord.at_]) ?_
                repeat (go_big_quiet_step (fail))
                refine wpQuiet_nil ?_
                refine fr3.tr_write _ (by dsimp only [pick, ord.at_]) ?_
                intro K3 g4
                go_wp2_with (fail)
                refine fr3.tr_reads _ (by dsimp only [pick, ord.at_]) ?_
                repeat (go_big_quiet_step (fail))
                refine wpQuiet_nil ?_
                refine fr3.tr_stop ?_
                refine NoPanic.normal ?_
                go_wp2_with (fail)
                go_meet
                have hcc := HCS.out.trans ((chg_set3 (g := gb) (w := wS) (.int .i64 yv) (.slice yA yn.length yc) (.slice yB yr.length yd)).mono (S' := fun b => b = ga ∨ b = gb) (fun _ _ e => .inr e)) (fun _ _ e => e)
                have hty : ∀ (z : PV), OP wn3 wr.heap.size z → OP (((wS.setCell ⟨gb, 0, none⟩ (.int .i64 yv)).setCell ⟨gb, 1, none⟩ (.slice yA yn.length yc)).setCell ⟨gb, 2, none⟩ (.slice yB yr.length yd)) wr.heap.size z := fun z hz =>
                  op_two hz hcc GA5.out GB5.out
                refine ⟨ga, gb, er, ⟨xv, xA, xc, xn, xB, xd, xr⟩, ⟨yv, yA, yc, yn, yB, yd, yr⟩, rfl, rfl, rfl, rfl, set3_ne GA6.out hgab _ _ _, set3 GB6.out, HPX.out.1, rfl, HPX.out.2, hty _ HX3.out.1, hty _ HX3.out.2, hgaw, hgbw, hgab, ?_⟩
                exact HW3.out.trans (hcc.below (B := wr.heap.size) HW3.out.size (fun k e => by rcases e with e | e <;> omega))
              · refine fr.act_s _ (by dsimp only [pick, ord.at_]) ?_
                intro K1 g1 g2
                clear g1
                go_wp2_with (fail)
                refine g2 _ _ (Chg.of_below (below_al _ _)) ?_
                clear g2
                obtain ⟨wn2, hw2⟩ : ∃ wn2, wn1.alloc (.cells #[.int .i64 0, .slice none 0 0, .slice none 0 0] 25) = wn2 := ⟨_, rfl⟩
                have hb2 : Below (wn1).heap.size (wn1) wn2 := by rw [← hw2]; exact below_al _ _
                have GB := Lib.hid (show IsV3 25 wn2 (wn1).heap.size (.int .i64 0) (.slice none 0 0) (.slice none 0 0) by rw [← hw2]; exact alloc_new (wn1) _)
                rw [hw2]
                clear hw2
                have HN2 := Lib.hid hb2
                have HW2 := Lib.hid (HW1.out.trans (hb2.mono HW1.out.size))
                have hz2 := hb2.size
                clear hb2
                refine fr3.tr_one _ (by dsimp only [pick, ord.at_]) ?_
                intro K1 g1 g2
                clear g1
                go_wp2_with (fail)
                refine g2 _ _ (Chg.of_below (below_al _ _)) ?_
                clear g2
                obtain ⟨wn3, hw3⟩ : ∃ wn3, wn2.alloc (.cells #[.int .i64 0, .slice none 0 0, .slice none 0 0] 25) = wn3 := ⟨_, rfl⟩
                have hb3 : Below (wn2).heap.size (wn2) wn3 := by rw [← hw3]; exact below_al _ _
                have GA := Lib.hid (show IsV3 25 wn3 (wn2).heap.size (.int .i64 0) (.slice none 0 0) (.slice none 0 0) by rw [← hw3]; exact alloc_new (wn2) _)
                rw [hw3]
                clear hw3
                have HN3 := Lib.hid hb3
                have HW3 := Lib.hid (HW2.out.trans (hb3.mono HW2.out.size))
                have hz3 := hb3.size
                clear hb3
                have hltB : (wn1).heap.size < wn2.heap.size := blk_lt GB.out
                have GB3 := Lib.hid (blk_below (show Below wn2.heap.size wn2 wn3 from HN3.out) GB.out hltB)
                have hltA : (wn2).heap.size < wn3.heap.size := blk_lt GA.out
                have GA3 := Lib.hid (blk_below (show Below wn3.heap.size wn3 wn3 from Below.refl _ _) GA.out hltA)
                obtain ⟨ga, hga⟩ : ∃ ga, (wn2).heap.size = ga := ⟨_, rfl⟩
                obtain ⟨gb, hgb⟩ : ∃ gb, (wn1).heap.size = gb := ⟨_, rfl⟩
                have hgab : ga ≠ gb := by rw [← hga, ← hgb]; omega
                have hgaw : wr.heap.size ≤ ga := by rw [← hga]; omega
                have hgbw : wr.heap.size ≤ gb := by rw [← hgb]; omega
                have GA4 := GA3.out
                have GB4 := GB3.out
                rw [hga] at GA4
                rw [hgb] at GB4
                have GA5 := Lib.hid GA4
                have GB5 := Lib.hid GB4
                have HX3 := Lib.hid (show OP wn3 wr.heap.size ⟨xv, xA, xc, xn, xB, xd, xr⟩ ∧ OP wn3 wr.heap.size ⟨yv, yA, yc, yn, yB, yd, yr⟩ from
                  ⟨(HOX.out.1.below (show Below wn1.heap.size wn1 wn3 from HN2.out.trans (HN3.out.mono hz2)) (Nat.le_refl _)).base (by have := HW3.out.size; show wr.heap.size ≤ (wr.drew).heap.size; first | exact Nat.le_refl _ | omega), (HOX.out.2.below (show Below wn1.heap.size wn1 wn3 from HN2.out.trans (HN3.out.mono hz2)) (Nat.le_refl _)).base (by show wr.heap.size ≤ (wr.drew).heap.size; first | exact Nat.le_refl _ | omega)⟩)
                obtain ⟨⟨a0, a1', a2'⟩, af0, af1, af2⟩ := isv3_cells GA4
                obtain ⟨⟨b0, b1', b2'⟩, bf0, bf1, bf2⟩ := isv3_cells GB4
                have hlA : ga < wn3.heap.size := blk_lt GA4
                have hlB : gb < wn3.heap.size := blk_lt GB4
                simp only [hga, hgb]
                clear hga hgb GA4 GB4
                refine fr3.tr_write _ (by dsimp only [pick, ord.at_]) ?_
                intro K2 g3
                go_wp2_with (fail)
                obtain ⟨wS, hwS⟩ : ∃ wS, ((wn3.setCell ⟨ga, 0, none⟩ (.int .i64 xv)).setCell ⟨ga, 1, none⟩ (.slice xA xn.length xc)).setCell ⟨ga, 2, none⟩ (.slice xB xr.length xd) = wS := ⟨_, rfl⟩
                have gA6 : IsV3 25 wS ga (.int .i64 xv) (.slice xA xn.length xc) (.slice xB xr.length xd) := by rw [← hwS]; exact set3 GA5.out
                have gB6 : IsV3 25 wS gb (.int .i64 0) (.slice none 0 0) (.slice none 0 0) := by rw [← hwS]; exact set3_ne GB5.out (fun e => hgab e.symm) _ _ _
                have hcS : Chg (fun b => b = ga ∨ b = gb) wn3 wS := by rw [← hwS]; exact (chg_set3 _ _ _).mono (S' := fun b => b = ga ∨ b = gb) (fun _ _ e => .inl e)
                rw [hwS]
                have GA6 := Lib.hid gA6
                have GB6 := Lib.hid gB6
                have HCS := Lib.hid hcS
                clear a0 a1' a2' af0 af1 af2 b0 b1' b2' bf0 bf1 bf2 hwS gA6 hcS
                obtain ⟨⟨b0, b1', b2'⟩, bf0, bf1, bf2⟩ := isv3_cells gB6
                have hlB6 : gb < wS.heap.size := blk_lt gB6
                clear gB6
                refine fr3.tr_reads _ (by dsimp only [pick, ord.at_]) ?_
                repeat (go_big_quiet_step (fail))
                refine wpQuiet_nil ?_
                refine fr3.tr_write _ (by dsimp only [pick, ord.at_]) ?_
                intro K3 g4
                go_wp2_with (fail)
                refine fr3.tr_reads _ (by dsimp only [pick, ord.at_]) ?_
                repeat (go_big_quiet_step (fail))
                refine wpQuiet_nil ?_
                refine fr3.tr_stop ?_
                refine NoPanic.normal ?_
                go_wp2_with (fail)
                go_meet
                have hcc := HCS.out.trans ((chg_set3 (g := gb) (w := wS) (.int .i64 yv) (.slice yA yn.length yc) (.slice yB yr.length yd)).mono (S' := fun b => b = ga ∨ b = gb) (fun _ _ e => .inr e)) (fun _ _ e => e)
                have hty : ∀ (z : PV), OP wn3 wr.heap.size z → OP (((wS.setCell ⟨gb, 0, none⟩ (.int .i64 yv)).setCell ⟨gb, 1, none⟩ (.slice yA yn.length yc)).setCell ⟨gb, 2, none⟩ (.slice yB yr.length yd)) wr.heap.size z := fun z hz =>
                  op_two hz hcc GA5.out GB5.out
                refine ⟨ga, gb, er, ⟨xv, xA, xc, xn, xB, xd, xr⟩, ⟨yv, yA, yc, yn, yB, yd, yr⟩, rfl, rfl, rfl, rfl, set3_ne GA6.out hgab _ _ _, set3 GB6.out, HPX.out.1, rfl, HPX.out.2, hty _ HX3.out.1, hty _ HX3.out.2, hgaw, hgbw, hgab, ?_⟩
                exact HW3.out.trans (hcc.below (B := wr.heap.size) HW3.out.size (fun k e => by rcases e with e | e <;> omega))
            · refine fr.act_s _ (by dsimp only [pick, ord.at_]) ?_
              intro K1 g1 g2
              clear g1
              go_wp2_with (fail)
              refine g2 _ _ (Chg.of_below ((below_al _ _).drew)) ?_
              clear g2
              obtain ⟨wn1, hw1⟩ : ∃ wn1, (wr.alloc (.cells #[.int .i64 0, .slice none 0 0, .slice none 0 0] 25)).drew = wn1 := ⟨_, rfl⟩
              have hb1 : Below (wr).heap.size (wr) wn1 := by rw [← hw1]; exact (below_al _ _).drew
              have GA := Lib.hid (show IsV3 25 wn1 (wr).heap.size (.int .i64 0) (.slice none 0 0) (.slice none 0 0) by rw [← hw1]; exact alloc_new (wr) _)
              rw [hw1]
              clear hw1
              have HN1 := Lib.hid hb1
              have HW1 := Lib.hid hb1
              have hz1 := hb1.size
              clear hb1
              refine fr3.tr_two ?_ ?_
              · refine fr.act_s _ (by dsimp only [pick, ord.at_]) ?_
                intro K1 g1 g2
                clear g1
                go_wp2_with (fail)
                refine (HSTP.out (wn1) HW1.out).mono ?_
                rintro e wn2 ⟨⟨xv, xA, xc, xn, xB, xd, xr⟩, ⟨yv, yA, yc, yn, yB, yd, yr⟩, rfl, hplx, hply, hopx, hopy, hbb⟩
                have hb2 : Below (wn1).heap.size (wn1) wn2 := hbb
                have HPX := Lib.hid (And.intro hplx hply)
                have HOX := Lib.hid (And.intro hopx hopy)
                clear hplx hply hopx hopy hbb
                go_wp2_with (fail)
                refine g2 _ _ (Chg.of_below hb2) ?_
                clear g2
                have HN2 := Lib.hid hb2
                have HW2 := Lib.hid (HW1.out.trans (hb2.mono HW1.out.size))
                have hz2 := hb2.size
                clear hb2
                refine fr3.tr_reads _ (by dsimp only [pick, ord.at_]) ?_
                repeat (go_big_quiet_step (fail))
                refine wpQuiet_nil ?_
                refine fr3.tr_one _ (by dsimp only [pick, ord.at_]) ?_
                intro K1 g1 g2
                clear g1
                go_wp2_with (fail)
                refine g2 _ _ (Chg.of_below (below_al _ _)) ?_
                clear g2
                obtain ⟨wn3, hw3⟩ : ∃ wn3, wn2.alloc (.cells #[.int .i64 0, .slice none 0 0, .slice none 0 0] 25) = wn3 := ⟨_, rfl⟩
                have hb3 : Below (wn2).heap.size (wn2) wn3 := by rw [← hw3]; exact below_al _ _
                have GB := Lib.hid (show IsV3 25 wn3 (wn2).heap.size (.int .i64 0) (.slice none 0 0) (.slice none 0 0) by rw [← hw3]; exact alloc_new (wn2) _)
                rw [hw3]
                clear hw3
                have HN3 := Lib.hid hb3
                have HW3 := Lib.hid (HW2.out.trans (hb3.mono HW2.out.size))
                have hz3 := hb3.size
                clear hb3
                have hltA : (wr).heap.size < wn1.heap.size := blk_lt GA.out
                have GA3 := Lib.hid (blk_below (show Below wn1.heap.size wn1 wn3 from HN2.out.trans (HN3.out.mono hz2)) GA.out hltA)
                have hltB : (wn2).heap.size < wn3.heap.size := blk_lt GB.out
                have GB3 := Lib.hid (blk_below (show Below wn3.heap.size wn3 wn3 from Below.refl _ _) GB.out hltB)
                obtain ⟨ga, hga⟩ : ∃ ga, (wr).heap.size = ga := ⟨_, rfl⟩
                obtain ⟨gb, hgb⟩ : ∃ gb, (wn2).heap.size = gb := ⟨_, rfl⟩
                have hgab : ga ≠ gb := by rw [← hga, ← hgb]; omega
                have hgaw : wr.heap.size ≤ ga := by rw [← hga]; omega
                have hgbw : wr.heap.size ≤ gb := by rw [← hgb]; omega
                have GA4 := GA3.out
                have GB4 := GB3.out
                rw [hga] at GA4
                rw [hgb] at GB4
                have GA5 := Lib.hid GA4
                have GB5 := Lib.hid GB4
                have HX3 := Lib.hid (show OP wn3 wr.heap.size ⟨xv, xA, xc, xn, xB, xd, xr⟩ ∧ OP wn3 wr.heap.size ⟨yv, yA, yc, yn, yB, yd, yr⟩ from
                  ⟨(HOX.out.1.below (show Below wn2.heap.size wn2 wn3 from HN3.out) (Nat.le_refl _)).base (by have := HW3.out.size; show wr.heap.size ≤ (wn1).heap.size; first | exact Nat.le_refl _ | omega), (HOX.out.2.below (show Below wn2.heap.size wn2 wn3 from HN3.out) (Nat.le_refl _)).base (by show wr.heap.size ≤ (wn1).heap.size; first | exact Nat.le_refl _ | omega)⟩)
                obtain ⟨⟨a0, a1', a2'⟩, af0, af1, af2⟩ := isv3_cells GA4
                obtain ⟨⟨b0, b1', b2'⟩, bf0, bf1, bf2⟩ := isv3_cells GB4
                have hlA : ga < wn3.heap.size := blk_lt GA4
                have hlB : gb < wn3.heap.size := blk_lt GB4
                simp only [hga, hgb]
                clear hga hgb GA4 GB4
                refine fr3.tr_write _ (by dsimp only [pick, ord.at_]) ?_
                intro K2 g3
                go_wp2_with (fail)
                obtain ⟨wS, hwS⟩ : ∃ wS, ((wn3.setCell ⟨ga, 0, none⟩ (.int .i64 xv)).setCell ⟨ga, 1, none⟩ (.slice xA xn.length xc)).setCell ⟨ga, 2, none⟩ (.slice xB xr.length xd) = wS := ⟨_, rfl⟩
                have gA6 : IsV3 25 wS ga (.int .i64 xv) (.slice xA xn.length xc) (.slice xB xr.length xd) := by rw [← hwS]; exact set3 GA5.out
                have gB6 : IsV3 25 wS gb (.int .i64 0) (.slice none 0 0) (.slice none 0 0) := by rw [← hwS]; exact set3_ne GB5.out (fun e => hgab e.symm) _ _ _
                have hcS : Chg (fun b => b = ga ∨ b = gb) wn3 wS := by rw [← hwS]; exact (chg_set3 _ _ _).mono (S' := fun b => b = ga ∨ b = gb) (fun _ _ e => .inl e)
                rw [hwS]
                have GA6 := Lib.hid gA6
                have GB6 := Lib.hid gB6
                have HCS := Lib.hid hcS
                clear a0 a1' a2' af0 af1 af2 b0 b1' b2' bf0 bf1 bf2 hwS gA6 hcS
                obtain ⟨⟨b0, b1', b2'⟩, bf0, bf1, bf2⟩ := isv3_cells gB6
                have hlB6 : gb < wS.heap.size := blk_lt gB6
                clear gB6
                refine fr3.tr_reads _ (by dsimp only [pick, ord.at_]) ?_
                repeat (go_big_quiet_step (fail))
                refine wpQuiet_nil ?_
                refine fr3.tr_write _ (by dsimp only [pick, ord.at_]) ?_
                intro K3 g4
                go_wp2_with (fail)
                refine fr3.tr_reads _ (by dsimp only [pick, ord.at_]) ?_
                repeat (go_big_quiet_step (fail))
                refine wpQuiet_nil ?_
                refine fr3.tr_stop ?_
                refine NoPanic.normal ?_
                go_wp2_with (fail)
                go_meet
                have hcc := HCS.out.trans ((chg_set3 (g := gb) (w := wS) (.int .i64 yv) (.slice yA yn.length yc) (.slice yB yr.length yd)).mono (S' := fun b => b = ga ∨ b = gb) (fun _ _ e => .inr e)) (fun _ _ e => e)
                have hty : ∀ (z : PV), OP wn3 wr.heap.size z → OP (((wS.setCell ⟨gb, 0, none⟩ (.int .i64 yv)).setCell ⟨gb, 1, none⟩ (.slice yA yn.length yc)).setCell ⟨gb, 2, none⟩ (.slice yB yr.length yd)) wr.heap.size z := fun z hz =>
                  op_two hz hcc GA5.out GB5.out
                refine ⟨ga, gb, er, ⟨xv, xA, xc, xn, xB, xd, xr⟩, ⟨yv, yA, yc, yn, yB, yd, yr⟩, rfl, rfl, rfl, rfl, set3_ne GA6.out hgab _ _ _, set3 GB6.out, HPX.out.1, rfl, HPX.out.2, hty _ HX3.out.1, hty _ HX3.out.2, hgaw, hgbw, hgab, ?_⟩
                exact HW3.out.trans (hcc.below (B := wr.heap.size) HW3.out.size (fun k e => by rcases e with e | e <;> omega))
              · refine fr.act_s _ (by dsimp only [pick, ord.at_]) ?_
                intro K1 g1 g2
                clear g1
                go_wp2_with (fail)
                refine g2 _ _ (Chg.of_below (below_al _ _)) ?_
                clear g2
                obtain ⟨wn2, hw2⟩ : ∃ wn2, wn1.alloc (.cells #[.int .i64 0, .slice none 0 0, .slice none 0 0] 25) = wn2 := ⟨_, rfl⟩
                have hb2 : Below (wn1).heap.size (wn1) wn2 := by rw [← hw2]; exact below_al _ _
                have GB := Lib.hid (show IsV3 25 wn2 (wn1).heap.size (.int .i64 0) (.slice none 0 0) (.slice none 0 0) by rw [← hw2]; exact alloc_new (wn1) _)
                rw [hw2]
                clear hw2
                have HN2 := Lib.hid hb2
                have HW2 := Lib.hid (HW1.out.trans (hb2.mono HW1.out.size))
                have hz2 := hb2.size
                clear hb2
                refine fr3.tr_one _ (by dsimp only [pick, ord.at_]) ?_
                intro K1 g1 g2
                clear g1
                go_wp2_with (fail)
                refine (HSTP.out (wn2) HW2.out).mono ?_
                rintro e wn3 ⟨⟨xv, xA, xc, xn, xB, xd, xr⟩, ⟨yv, yA, yc, yn, yB, yd, yr⟩, rfl, hplx, hply, hopx, hopy, hbb⟩
                have hb3 : Below (wn2).heap.size (wn2) wn3 := hbb
                have HPX := Lib.hid (And.intro hplx hply)
                have HOX := Lib.hid (And.intro hopx hopy)
                clear hplx hply hopx hopy hbb
                go_wp2_with (fail)
                refine g2 _ _ (Chg.of_below hb3) ?_
                clear g2
                have HN3 := Lib.hid hb3
                have HW3 := Lib.hid (HW2.out.trans (hb3.mono HW2.out.size))
                have hz3 := hb3.size
                clear hb3
                refine fr3.tr_reads _ (by dsimp only [pick, ord.at_]) ?_
                repeat (go_big_quiet_step (fail))
                refine wpQuiet_nil ?_
                have hltA : (wr).heap.size < wn1.heap.size := blk_lt GA.out
                have GA3 := Lib.hid (blk_below (show Below wn1.heap.size wn1 wn3 from HN2.out.trans (HN3.out.mono hz2)) GA.out hltA)
                have hltB : (wn1).heap.size < wn2.heap.size := blk_lt GB.out
                have GB3 := Lib.hid (blk_below (show Below wn2.heap.size wn2 wn3 from HN3.out) GB.out hltB)
                obtain ⟨ga, hga⟩ : ∃ ga, (wr).heap.size = ga := ⟨_, rfl⟩
                obtain ⟨gb, hgb⟩ : ∃ gb, (wn1).heap.size = gb := ⟨_, rfl⟩
                have hgab : ga ≠ gb := by rw [← hga, ← hgb]; omega
                have hgaw : wr.heap.size ≤ ga := by rw [← hga]; omega
                have hgbw : wr.heap.size ≤ gb := by rw [← hgb]; omega
                have GA4 := GA3.out
                have GB4 := GB3.out
                rw [hga] at GA4
                rw [hgb] at GB4
                have GA5 := Lib.hid GA4
                have GB5 := Lib.hid GB4
                have HX3 := Lib.hid (show OP wn3 wr.heap.size ⟨xv, xA, xc, xn, xB, xd, xr⟩ ∧ OP wn3 wr.heap.size ⟨yv, yA, yc, yn, yB, yd, yr⟩ from
                  ⟨(HOX.out.1.below (show Below wn3.heap.size wn3 wn3 from Below.refl _ _) (Nat.le_refl _)).base (by have := HW3.out.size; show wr.heap.size ≤ (wn2).heap.size; first | exact Nat.le_refl _ | omega), (HOX.out.2.below (show Below wn3.heap.size wn3 wn3 from Below.refl _ _) (Nat.le_refl _)).base (by show wr.heap.size ≤ (wn2).heap.size; first | exact Nat.le_refl _ | omega)⟩)
                obtain ⟨⟨a0, a1', a2'⟩, af0, af1, af2⟩ := isv3_cells GA4
                obtain ⟨⟨b0, b1', b2'⟩, bf0, bf1, bf2⟩ := isv3_cells GB4
                have hlA : ga < wn3.heap.size := blk_lt GA4
                have hlB : gb < wn3.heap.size := blk_lt GB4
                simp only [hga, hgb]
                clear hga hgb GA4 GB4
                refine fr3.tr_write _ (by dsimp only [pick, ord.at_]) ?_
                intro K2 g3
                go_wp2_with (fail)
                obtain ⟨wS, hwS⟩ : ∃ wS, ((wn3.setCell ⟨ga, 0, none⟩ (.int .i64 xv)).setCell ⟨ga, 1, none⟩ (.slice xA xn.length xc)).setCell ⟨ga, 2, none⟩ (.slice xB xr.length xd) = wS := ⟨_, rfl⟩
                have gA6 : IsV3 25 wS ga (.int .i64 xv) (.slice xA xn.length xc) (.slice xB xr.length xd) := by rw [← hwS]; exact set3 GA5.out
                have gB6 : IsV3 25 wS gb (.int .i64 0) (.slice none 0 0) (.slice none 0 0) := by rw [← hwS]; exact set3_ne GB5.out (fun e => hgab e.symm) _ _ _
                have hcS : Chg (fun b => b = ga ∨ b = gb) wn3 wS := by rw [← hwS]; exact (chg_set3 _ _ _).mono (S' := fun b => b = ga ∨ b = gb) (fun _ _ e => .inl e)
                rw [hwS]
                have GA6 := Lib.hid gA6
                have GB6 := Lib.hid gB6
                have HCS := Lib.hid hcS
                clear a0 a1' a2' af0 af1 af2 b0 b1' b2' bf0 bf1 bf2 hwS gA6 hcS
                obtain ⟨⟨b0, b1', b2'⟩, bf0, bf1, bf2⟩ := isv3_cells gB6
                have hlB6 : gb < wS.heap.size := blk_lt gB6
                clear gB6
                refine fr3.tr_reads _ (by dsimp only [pick, ord.at_]) ?_
                repeat (go_big_quiet_step (fail))
                refine wpQuiet_nil ?_
                refine fr3.tr_write _ (by dsimp only [pick, ord.at_]) ?_
                intro K3 g4
                go_wp2_with (fail)
                refine fr3.tr_reads _ (by dsimp only [pick, ord.at_]) ?_
                repeat (go_big_quiet_step (fail))
                refine wpQuiet_nil ?_
                refine fr3.tr_stop ?_
                refine NoPanic.normal ?_
                go_wp2_with (fail)
                go_meet
                have hcc := HCS.out.trans ((chg_set3 (g := gb) (w := wS) (.int .i64 yv) (.slice yA yn.length yc) (.slice yB yr.length yd)).mono (S' := fun b => b = ga ∨ b = gb) (fun _ _ e => .inr e)) (fun _ _ e => e)
                have hty : ∀ (z : PV), OP wn3 wr.heap.size z → OP (((wS.setCell ⟨gb, 0, none⟩ (.int .i64 yv)).setCell ⟨gb, 1, none⟩ (.slice yA yn.length yc)).setCell ⟨gb, 2, none⟩ (.slice yB yr.length yd)) wr.heap.size z := fun z hz =>
                  op_two hz hcc GA5.out GB5.out
                refine ⟨ga, gb, er, ⟨xv, xA, xc, xn, xB, xd, xr⟩, ⟨yv, yA, yc, yn, yB, yd, yr⟩, rfl, rfl, rfl, rfl, set3_ne GA6.out hgab _ _ _, set3 GB6.out, HPX.out.1, rfl, HPX.out.2, hty _ HX3.out.1, hty _ HX3.out.2, hgaw, hgbw, hgab, ?_⟩
                exact HW3.out.trans (hcc.below (B := wr.heap.size) HW3.out.size (fun k e => by rcases e with e | e <;> omega))
            · refine fr.act_s _ (by dsimp only [pick, ord.at_]) ?_
              intro K1 g1 g2
              clear g1
              go_wp2_with (fail)
              refine g2 _ _ (Chg.of_below ((below_al _ _).drew)) ?_
              clear g2
              obtain ⟨wn1, hw1⟩ : ∃ wn1, (wr.alloc (.cells #[.int .i64 0, .slice none 0 0, .slice none 0 0] 25)).drew = wn1 := ⟨_, rfl⟩
              have hb1 : Below (wr).heap.size (wr) wn1 := by rw [← hw1]; exact (below_al _ _).drew
              have GB := Lib.hid (show IsV3 25 wn1 (wr).heap.size (.int .i64 0) (.slice none 0 0) (.slice none 0 0) by rw [← hw1]; exact alloc_new (wr) _)
              rw [hw1]
              clear hw1
              have HN1 := Lib.hid hb1
              have HW1 := Lib.hid hb1
              have hz1 := hb1.size
              clear hb1
              refine fr3.tr_two ?_ ?_
              · refine fr.act_s _ (by dsimp only [pick, ord.at_]) ?_
                intro K1 g1 g2
                clear g1
                go_wp2_with (fail)
                refine (HSTP.out (wn1) HW1.out).mono ?_
                rintro e wn2 ⟨⟨xv, xA, xc, xn, xB, xd, xr⟩, ⟨yv, yA, yc, yn, yB, yd, yr⟩, rfl, hplx, hply, hopx, hopy, hbb⟩
                have hb2 : Below (wn1).heap.size (wn1) wn2 := hbb
                have HPX := Lib.hid (And.intro hplx hply)
                have HOX := Lib.hid (And.intro hopx hopy)
                clear hplx hply hopx hopy hbb
                go_wp2_with (fail)
                refine g2 _ _ (Chg.of_below hb2) ?_
                clear g2
                have HN2 := Lib.hid hb2
                have HW2 := Lib.hid (HW1.out.trans (hb2.mono HW1.out.size))
                have hz2 := hb2.size
                clear hb2
                refine fr3.tr_reads _ (by dsimp only [pick, ord.at_]) ?_
                repeat (go_big_quiet_step (fail))
                refine wpQuiet_nil ?_
                refine fr3.tr_one _ (by dsimp only [pick, ord.at_]) ?_
                intro K1 g1 g2
                clear g1
                go_wp2_with (fail)
                refine g2 _ _ (Chg.of_below (below_al _ _)) ?_
                clear g2
                obtain ⟨wn3, hw3⟩ : ∃ wn3, wn2.alloc (.cells #[.int .i64 0, .slice none 0 0, .slice none 0 0] 25) = wn3 := ⟨_, rfl⟩
                have hb3 : Below (wn2).heap.size (wn2) wn3 := by rw [← hw3]; exact below_al _ _
                have GA := Lib.hid (show IsV3 25 wn3 (wn2).heap.size (.int .i64 0) (.slice none 0 0) (.slice none 0 0) by rw [← hw3]; exact alloc_new (wn2) _)
                rw [hw3]
                clear hw3
                have HN3 := Lib.hid hb3
                have HW3 := Lib.hid (HW2.out.trans (hb3.mono HW2.out.size))
                have hz3 := hb3.size
                clear hb3
                have hltB : (wr).heap.size < wn1.heap.size := blk_lt GB.out
                have GB3 := Lib.hid (blk_below (show Below wn1.heap.size wn1 wn3 from HN2.out.trans (HN3.out.mono hz2)) GB.out hltB)
                have hltA : (wn2).heap.size < wn3.heap.size := blk_lt GA.out
                have GA3 := Lib.hid (blk_below (show Below wn3.heap.size wn3 wn3 from Below.refl _ _) GA.out hltA)
                obtain ⟨ga, hga⟩ : ∃ ga, (wn2).heap.size = ga := ⟨_, rfl⟩
                obtain ⟨gb, hgb⟩ : ∃ gb, (wr).heap.size = gb := ⟨_, rfl⟩
                have hgab : ga ≠ gb := by rw [← hga, ← hgb]; omega
                have hgaw : wr.heap.size ≤ ga := by rw [← hga]; omega
                have hgbw : wr.heap.size ≤ gb := by rw [← hgb]; omega
                have GA4 := GA3.out
                have GB4 := GB3.out
                rw [hga] at GA4
                rw [hgb] at GB4
                have GA5 := Lib.hid GA4
                have GB5 := Lib.hid GB4
                have HX3 := Lib.hid (show OP wn3 wr.heap.size ⟨xv, xA, xc, xn, xB, xd, xr⟩ ∧ OP wn3 wr.heap.size ⟨yv, yA, yc, yn, yB, yd, yr⟩ from
                  ⟨(HOX.out.1.below (show Below wn2.heap.size wn2 wn3 from HN3.out) (Nat.le_refl _)).base (by have := HW3.out.size; show wr.heap.size ≤ (wn1).heap.size; first | exact Nat.le_refl _ | omega), (HOX.out.2.below (show Below wn2.heap.size wn2 wn3 from HN3.out) (Nat.le_refl _)).base (by show wr.heap.size ≤ (wn1).heap.size; first | exact Nat.le_refl _ | omega)⟩)
                obtain ⟨⟨a0, a1', a2'⟩, af0, af1, af2⟩ := isv3_cells GA4
                obtain ⟨⟨b0, b1', b2'⟩, bf0, bf1, bf2⟩ := isv3_cells GB4
                have hlA : ga < wn3.heap.size := blk_lt GA4
                have hlB : gb < wn3.heap.size := blk_lt GB4
                simp only [hga, hgb]
                clear hga hgb GA4 GB4
                refine fr3.tr_write _ (by dsimp only [pick, ord.at_]) ?_
                intro K2 g3
                go_wp2_with (fail)
                obtain ⟨wS, hwS⟩ : ∃ wS, ((wn3.setCell ⟨ga, 0, none⟩ (.int .i64 xv)).setCell ⟨ga, 1, none⟩ (.slice xA xn.length xc)).setCell ⟨ga, 2, none⟩ (.slice xB xr.length xd) = wS := ⟨_, rfl⟩
                have gA6 : IsV3 25 wS ga (.int .i64 xv) (.slice xA xn.length xc) (.slice xB xr.length xd) := by rw [← hwS]; exact set3 GA5.out
                have gB6 : IsV3 25 wS gb (.int .i64 0) (.slice none 0 0) (.slice none 0 0) := by rw [← hwS]; exact set3_ne GB5.out (fun e => hgab e.symm) _ _ _
                have hcS : Chg (fun b => b = ga ∨ b = gb) wn3 wS := by rw [← hwS]; exact (chg_set3 _ _ _).mono (S' := fun b => b = ga ∨ b = gb) (fun _ _ e => .inl e)
                rw [hwS]
                have GA6 := Lib.hid gA6
                have GB6 := Lib.hid gB6
                have HCS := Lib.hid hcS
                clear a0 a1' a2' af0 af1 af2 b0 b1' b2' bf0 bf1 bf2 hwS gA6 hcS
                obtain ⟨⟨b0, b1', b2'⟩, bf0, bf1, bf2⟩ := isv3_cells gB6
                have hlB6 : gb < wS.heap.size := blk_lt gB6
                clear gB6
                refine fr3.tr_reads _ (by dsimp only [pick, ord.at_]) ?_
                repeat (go_big_quiet_step (fail))
                refine wpQuiet_nil ?_
                refine fr3.tr_write _ (by dsimp only [pick, ord.at_]) ?_
                intro K3 g4
                go_wp2_with (fail)
                refine fr3.tr_reads _ (by dsimp only [pick, ord.at_]) ?_
                repeat (go_big_quiet_step (fail))
                refine wpQuiet_nil ?_
                refine fr3.tr_stop ?_
                refine NoPanic.normal ?_
                go_wp2_with (fail)
                go_meet
                have hcc := HCS.out.trans ((chg_set3 (g := gb) (w := wS) (.int .i64 yv) (.slice yA yn.length yc) (.slice yB yr.length yd)).mono (S' := fun b => b = ga ∨ b = gb) (fun _ _ e => .inr e)) (fun _ _ e => e)
                have hty : ∀ (z : PV), OP wn3 wr.heap.size z → OP (((wS.setCell ⟨gb, 0, none⟩ (.int .i64 yv)).setCell ⟨gb, 1, none⟩ (.slice yA yn.length yc)).setCell ⟨gb, 2, none⟩ (.slice yB yr.length yd)) wr.heap.size z := fun z hz =>
                  op_two hz hcc GA5.out GB5.out
                refine ⟨ga, gb, er, ⟨xv, xA, xc, xn, xB, xd, xr⟩, ⟨yv, yA, yc, yn, yB, yd, yr⟩, rfl, rfl, rfl, rfl, set3_ne GA6.out hgab _ _ _, set3 GB6.out, HPX.out.1, rfl, HPX.out.2, hty _ HX3.out.1, hty _ HX3.out.2, hgaw, hgbw, hgab, ?_⟩
                exact HW3.out.trans (hcc.below (B := wr.heap.size) HW3.out.size (fun k e => by rcases e with e | e <;> omega))
              · refine fr.act_s _ (by dsimp only [pick, ord.at_]) ?_
                intro K1 g1 g2
                clear g1
                go_wp2_with (fail)
                refine g2 _ _ (Chg.of_below (below_al _ _)) ?_
                clear g2
                obtain ⟨wn2, hw2⟩ : ∃ wn2, wn1.alloc (.cells #[.int .i64 0, .slice none 0 0, .slice none 0 0] 25) = wn2 := ⟨_, rfl⟩
                have hb2 : Below (wn1).heap.size (wn1) wn2 := by rw [← hw2]; exact below_al _ _
                have GA := Lib.hid (show IsV3 25 wn2 (wn1).heap.size (.int .i64 0) (.slice none 0 0) (.slice none 0 0) by rw [← hw2]; exact alloc_new (wn1) _)
                rw [hw2]
                clear hw2
                have HN2 := Lib.hid hb2
                have HW2 := Lib.hid (HW1.out.trans (hb2.mono HW1.out.size))
                have hz2 := hb2.size
                clear hb2
                refine fr3.tr_one _ (by dsimp only [pick, ord.at_]) ?_
                intro K1 g1 g2
                clear g1
                go_wp2_with (fail)
                refine (HSTP.out (wn2) HW2.out).mono ?_
                rintro e wn3 ⟨⟨xv, xA, xc, xn, xB, xd, xr⟩, ⟨yv, yA, yc, yn, yB, yd, yr⟩, rfl, hplx, hply, hopx, hopy, hbb⟩
                have hb3 : Below (wn2).heap.size (wn2) wn3 := hbb
                have HPX := Lib.hid (And.intro hplx hply)
                have HOX := Lib.hid (And.intro hopx hopy)
                clear hplx hply hopx hopy hbb
                go_wp2_with (fail)
                refine g2 _ _ (Chg.of_below hb3) ?_
                clear g2
                have HN3 := Lib.hid hb3
                have HW3 := Lib.hid (HW2.out.trans (hb3.mono HW2.out.size))
                have hz3 := hb3.size
                clear hb3
                refine fr3.tr_reads _ (by dsimp only [pick, ord.at_]) ?_
                repeat (go_big_quiet_step (fail))
                refine wpQuiet_nil ?_
                have hltB : (wr).heap.size < wn1.heap.size := blk_lt GB.out
                have GB3 := Lib.hid (blk_below (show Below wn1.heap.size wn1 wn3 from HN2.out.trans (HN3.out.mono hz2)) GB.out hltB)
                have hltA : (wn1).heap.size < wn2.heap.size := blk_lt GA.out
                have GA3 := Lib.hid (blk_below (show Below wn2.heap.size wn2 wn3 from HN3.out) GA.out hltA)
                obtain ⟨ga, hga⟩ : ∃ ga, (wn1).heap.size = ga := ⟨_, rfl⟩
                obtain ⟨gb, hgb⟩ : ∃ gb, (wr).heap.size = gb := ⟨_, rfl⟩
                have hgab : ga ≠ gb := by rw [← hga, ← hgb]; omega
                have hgaw : wr.heap.size ≤ ga := by rw [← hga]; omega
                have hgbw : wr.heap.size ≤ gb := by rw [← hgb]; omega
                have GA4 := GA3.out
                have GB4 := GB3.out
                rw [hga] at GA4
                rw [hgb] at GB4
                have GA5 := Lib.hid GA4
                have GB5 := Lib.hid GB4
                have HX3 := Lib.hid (show OP wn3 wr.heap.size ⟨xv, xA, xc, xn, xB, xd, xr⟩ ∧ OP wn3 wr.heap.size ⟨yv, yA, yc, yn, yB, yd, yr⟩ from
                  ⟨(HOX.out.1.below (show Below wn3.heap.size wn3 wn3 from Below.refl _ _) (Nat.le_refl _)).base (by have := HW3.out.size; show wr.heap.size ≤ (wn2).heap.size; first | exact Nat.le_refl _ | omega), (HOX.out.2.below (show Below wn3.heap.size wn3 wn3 from Below.refl _ _) (Nat.le_refl _)).base (by show wr.heap.size ≤ (wn2).heap.size; first | exact Nat.le_refl _ | omega)⟩)
                obtain ⟨⟨a0, a1', a2'⟩, af0, af1, af2⟩ := isv3_cells GA4
                obtain ⟨⟨b0, b1', b2'⟩, bf0, bf1, bf2⟩ := isv3_cells GB4
                have hlA : ga < wn3.heap.size := blk_lt GA4
                have hlB : gb < wn3.heap.size := blk_lt GB4
                simp only [hga, hgb]
                clear hga hgb GA4 GB4
                refine fr3.tr_write _ (by dsimp only [pick, ord.at_]) ?_
                intro K2 g3
                go_wp2_with (fail)
                obtain ⟨wS, hwS⟩ : ∃ wS, ((wn3.setCell ⟨ga, 0, none⟩ (.int .i64 xv)).setCell ⟨ga, 1, none⟩ (.slice xA xn.length xc)).setCell ⟨ga, 2, none⟩ (.slice xB xr.length xd) = wS := ⟨_, rfl⟩
                have gA6 : IsV3 25 wS ga (.int .i64 xv) (.slice xA xn.length xc) (.slice xB xr.length xd) := by rw [← hwS]; exact set3 GA5.out
                have gB6 : IsV3 25 wS gb (.int .i64 0) (.slice none 0 0) (.slice none 0 0) := by rw [← hwS]; exact set3_ne GB5.out (fun e => hgab e.symm) _ _ _
                have hcS : Chg (fun b => b = ga ∨ b = gb) wn3 wS := by rw [← hwS]; exact (chg_set3 _ _ _).mono (S' := fun b => b = ga ∨ b = gb) (fun _ _ e => .inl e)
                rw [hwS]
                have GA6 := Lib.hid gA6
                have GB6 := Lib.hid gB6
                have HCS := Lib.hid hcS
                clear a0 a1' a2' af0 af1 af2 b0 b1' b2' bf0 bf1 bf2 hwS gA6 hcS
                obtain ⟨⟨b0, b1', b2'⟩, bf0, bf1, bf2⟩ := isv3_cells gB6
                have hlB6 : gb < wS.heap.size := blk_lt gB6
                clear gB6
                refine fr3.tr_reads _ (by dsimp only [pick, ord.at_]) ?_
                repeat (go_big_quiet_step (fail))
                refine wpQuiet_nil ?_
                refine fr3.tr_write _ (by dsimp only [pick, ord.at_]) ?_
                intro K3 g4
                go_wp2_with (fail)
                refine fr3.tr_reads _ (by dsimp only [pick, ord.at_]) ?_
                repeat (go_big_quiet_step (fail))
                refine wpQuiet_nil ?_
                refine fr3.tr_stop ?_
                refine NoPanic.normal ?_
                go_wp2_with (fail)
                go_meet
                have hcc := HCS.out.trans ((chg_set3 (g := gb) (w := wS) (.int .i64 yv) (.slice yA yn.length yc) (.slice yB yr.length yd)).mono (S' := fun b => b = ga ∨ b = gb) (fun _ _ e => .inr e)) (fun _ _ e => e)
                have hty : ∀ (z : PV), OP wn3 wr.heap.size z → OP (((wS.setCell ⟨gb, 0, none⟩ (.int .i64 yv)).setCell ⟨gb, 1, none⟩ (.slice yA yn.length yc)).setCell ⟨gb, 2, none⟩ (.slice yB yr.length yd)) wr.heap.size z := fun z hz =>
                  op_two hz hcc GA5.out GB5.out
                refine ⟨ga, gb, er, ⟨xv, xA, xc, xn, xB, xd, xr⟩, ⟨yv, yA, yc, yn, yB, yd, yr⟩, rfl, rfl, rfl, rfl, set3_ne GA6.out hgab _ _ _, set3 GB6.out, HPX.out.1, rfl, HPX.out.2, hty _ HX3.out.1, hty _ HX3.out.2, hgaw, hgbw, hgab, ?_⟩
                exact HW3.out.trans (hcc.below (B := wr.heap.size) HW3.out.size (fun k e => by rcases e with e | e <;> omega))
          case rest =>
            clear q0 q1 q2 q3 q4 q5 c0 c1 c2 s0 s1 s2
            obtain ⟨ga, gb, er2, x, y, rfl, rfl, rfl, rfl, hgA, hgB, hplx, rfl, hply, hopx, hopy, h1, h2, h3, hbc⟩ := hcut
            have HGA := Lib.hid hgA
            have HOX2 := Lib.hid hopx
            have HBC := Lib.hid hbc
            have hsc := hbc.size
            have HPLX := Lib.hid hplx
            have hpw := blk_below hbc HBX.out hb2l
            have hgl : ga < wc.heap.size := blk_lt hgA
            have hb2c : w2.heap.size < wc.heap.size := by omega
            obtain ⟨xv, xA, xc, xn, xB, xd, xr⟩ := x
            obtain ⟨⟨x0, x1, x2⟩, _⟩ := isv3_cells hgA
            obtain ⟨⟨c0, c1, c2⟩, f0, f1, f2⟩ := isv3_cells hpw
            have HPW := Lib.hid hpw
            clear hgA hgB hplx hply hopx hopy hbc hpw
            go_upto_if 66 with (fail)
            go_cut [6] (fun s6 wx => s6 = .bool false ∧ ∃ v' : PV, pm.Boxed wx w2.heap.size v' ∧ OP wx w.heap.size v' ∧ PlOk v'.pl ∧ v'.pl.ss.length = S ∧ Below w.heap.size w wx)
            case first =>
              by_cases her : er2 = 0
              · obtain ⟨h1, h2, h3⟩ := HSO.out her
                have hver : xv = ver' + 1 := by
                  rw [← HPLX.out] at h2
                  exact h2
                have hmx : ver' < 1099511627776 := by have := h1.hi; rw [← HPLX.out] at this; have h4 : xv ≤ 1099511627776 := this; omega
                have hmn : 1 ≤ ver' := HPOK.out.lo
                have wr1 : IntKind.i64.wrap (ver' + 1) = ver' + 1 := by rw [IntWalk.i64_in _ (by omega)]
                have HN := Lib.hid (show PlOk (⟨xv, xA, xc, xn, xB, xd, xr⟩ : PV).pl ∧ (⟨xv, xA, xc, xn, xB, xd, xr⟩ : PV).pl.ss.length = S by rw [HPLX.out]; exact ⟨h1, h3⟩)
                subst hver
                subst her
                clear h1 h2 h3
                go_wp2_with (fail)
                go_meet
                refine ⟨rfl, ⟨ver' + 1, xA, xc, xn, xB, xd, xr⟩, set3 HPW.out, (HOX2.out.chg (chg_set3 _ _ _) (fun k e => by omega)).base (by omega), HN.out.1, HN.out.2, ?_⟩
                exact below_set3 (HBWR.out.trans (HBC.out.mono (by omega))) (by omega) _ _ _
              · have hez : (er2 == 0) = false := by simp [her]
                clear her
                go_wp2_with (fail)
                go_meet
                refine ⟨rfl, _, HPW.out, HOPV.out.below HBC.out (Nat.le_refl _), HPOK.out, HVS.out, HBWR.out.trans (HBC.out.mono (by omega))⟩
            case rest =>
              clear x0 x1 x2 c0 c1 c2 f0 f1 f2 HBX HOPV HPOK HVS HPW HGA HOX2
              obtain ⟨rfl, v', hbx', hop', hpok', hvS', hbw'⟩ := hcut
              have hsw := hbw'.size
              have hl2 : w2.heap.size < wc.heap.size := blk_lt hbx'
              have HCK := Lib.hid (rcheck_y wc wc.heap.size v' hop'.ok (Nat.le_refl _))
              rw [chk_ok hpok'] at HCK
              have HLD := Lib.hid (fun (u : World) (hu : Below wc.heap.size wc u) (n : Int) => pload_x u wc.heap.size v' (hop'.ok.below hu (Nat.le_refl _)) hu.size n)
              have hsum := ld8_all hpok'.each
              rw [hvS'] at hsum
              have hld8 : ∀ n, pm.load v'.pl.ss n ≤ 8 := fun n => Nat.le_trans (load_le _ _) (by rw [hvS']; exact hS8)
              have HSUM := Lib.hid hsum
              have HL8 := Lib.hid hld8
              have HBX2 := Lib.hid hbx'
              have HINV := Lib.hid (show OP wc w.heap.size v' ∧ PlOk v'.pl ∧ v'.pl.ss.length = S ∧ Below w.heap.size w wc from ⟨hop', hpok', hvS', hbw'⟩)
              obtain ⟨SS, hSS⟩ : ∃ SS, v'.pl.ss = SS := ⟨_, rfl⟩
              rw [hSS] at HLD HSUM HL8
              obtain ⟨⟨c0, c1, c2⟩, _⟩ := isv3_cells hbx'
              obtain ⟨ver3, nA3, nc3, nodes3, sA3, sc3, rs3⟩ := v'
              simp only [PV.val] at HCK HLD
              clear hbx' hop' hpok' hvS' hbw' hsum hld8 hSS
              go_wp2_with (fail)
              refine HCK.out.mono ?_
              rintro e wD ⟨rfl, hbD⟩
              have HBD := Lib.hid hbD
              have hsD := hbD.size
              have HRD := Lib.hid (Below.refl wD.heap.size wD)
              clear hbD c0 c1 c2
              go_wp2_with (fail)
              go_loopg [16, 17] 8 (fun gg s16 s17 wz => ∃ k2 : Nat, s17 = .int .i64 k2 ∧ s16 = .int .i64 (ld8 SS k2 : Nat) ∧ k2 ≤ 8 ∧ 8 - k2 ≤ gg ∧ Aside (Below wD.heap.size wD wz) ∧ ld8 SS k2 ≤ 8 * k2)
              case atStart => exact ⟨0, rfl, rfl, by omega, by omega, HRD.out, Nat.zero_le _⟩
              case round =>
                obtain ⟨k2, rfl, rfl, hk2, hg2, HBZ, hle⟩ := hrel
                have hsz := HBZ.out.size
                have HBDZ := Lib.hid (HBD.out.trans (HBZ.out.mono hsD))
                obtain ⟨⟨c0, c1, c2⟩, _⟩ := isv3_cells (blk_below HBDZ.out HBX2.out hl2)
                have hl2z : w2.heap.size < wr.heap.size := by omega
                by_cases hlt2 : k2 < 8
                · have hltz2 : (k2 : Int) < 8 := by omega
                  obtain ⟨L, hL⟩ : ∃ L, pm.load SS (k2 : Int) = L := ⟨_, rfl⟩
                  have hL8 := HL8.out (k2 : Int)
                  rw [hL] at hL8
                  have hnext := ld8_succ SS k2
                  rw [hL] at hnext
                  obtain ⟨T, hT⟩ : ∃ T, ld8 SS k2 = T := ⟨_, rfl⟩
                  rw [hT] at hnext hle
                  have HNX := Lib.hid hnext
                  have HLD2 := Lib.hid (hL ▸ HLD.out wr HBDZ.out (k2 : Int))
                  have hwrap : IntKind.i64.wrap ((T : Int) + (L : Int)) = (T : Int) + (L : Int) := by rw [IntWalk.i64_in _ (by omega)]
                  rw [hT]
                  clear hL hnext hT
                  go_wp2_with (fail)
                  refine HLD2.out.mono ?_
                  rintro e wE ⟨rfl, hbE⟩
                  have HBE := Lib.hid (HBZ.out.trans (hbE.mono hsz))
                  clear hbE c0 c1 c2
                  go_wp2_with (fail)
                  go_roundg (8 - (k2 + 1))
                  case measure => omega
                  case rel => exact ⟨k2 + 1, by go_num, by rw [HNX.out]; congr 1, by omega, by omega, HBE.out, by rw [HNX.out]; omega⟩
                · obtain rfl : k2 = 8 := by omega
                  have hltz2 : ¬ ((8 : Nat) : Int) < 8 := by omega
                  have hs8 := HSUM.out
                  rw [hs8]
                  have ha1 := HA1.out
                  have h3 : IntKind.i64.wrap (3 * a1) = 3 * a1 := by rw [IntWalk.i64_in _ (by omega)]
                  have hne : (((3 * S : Nat) : Int) != 3 * a1) = false := by rw [ha1]; simp
                  have HIB := Lib.hid (show OP wr w.heap.size ⟨ver3, nA3, nc3, nodes3, sA3, sc3, rs3⟩ ∧ Below w.heap.size w wr from ⟨HINV.out.1.below HBDZ.out (Nat.le_refl _), HINV.out.2.2.2.trans (HBDZ.out.mono hsw)⟩)
                  have HBB := Lib.hid (blk_below HBDZ.out HBX2.out hl2)
                  clear hs8 ha1 c0 c1 c2
                  go_wp2_with (fail)
                  go_roundg (len2 - (i + 1))
                  case measure => omega
                  case rel => exact ⟨i + 1, by go_num, rfl, by omega, by omega, ⟨_, HBB.out, HIB.out.1, HINV.out.2.1, HINV.out.2.2.1, HIB.out.2⟩⟩
        · obtain rfl : i = len2 := by omega
          have hltz : ¬ (i : Int) < (i : Int) := by omega
          have HBWR := Lib.hid hbw
          clear hbx hop hpok hvS hbw HR
          go_wp2_with (fail)
          go_ret
          exact ⟨rfl, HBWR.out⟩
    · have hez : (er == 0) = false := by simp [he0]
      have hr2 : (er != 0) = true := by simp [he0]
      clear he0
      have hW5 := HW5.out
      go_wp2_with (fail)
      go_ret
      exact ⟨by simp, HB5.out⟩
end Go.Proofs.Ytnpkhkhchimcnaa.lawPlacementRight
