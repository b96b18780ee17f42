/-
  The walk of the law PlacementSettles: for all inputs it returns true.
-/
import Derived.Test.YtnpkhkhchimcnaaPmAdd
import Derived.Test.YtnpkhkhchimcnaaPmRemM
import Derived.Test.YtnpkhkhchimcnaaPmInitM
import Derived.Test.YtnpkhkhchimcnaaPmPend
import Derived.Test.YtnpkhkhchimcnaaPmTake
namespace Go.Proofs.Ytnpkhkhchimcnaa.lawPlacementSettles
open Go.ChangeShapes Go.WideShapes Go.ChangeAt Go.RowKit Go.Shelf plain words ord mem pm

def kind3 (k : Int) : Int := (k.tmod 3 + 3).tmod 3
theorem kind3_cases (k : Int) : kind3 k = 0 ∨ kind3 k = 1 ∨ kind3 k = 2 := by
  unfold kind3
  have h1 := Int.tmod_lt_of_pos k (show (0 : Int) < 3 by decide)
  have h2 := Int.lt_tmod_of_pos k (show (0 : Int) < 3 by decide)
  have h3 := Int.tmod_nonneg 3 (show 0 ≤ k.tmod 3 + 3 by omega)
  have h4 := Int.tmod_lt_of_pos (k.tmod 3 + 3) (show (0 : Int) < 3 by decide)
  omega
theorem kind3_wrap (k : Int) : IntKind.i64.wrap (k.tmod 3 + 3) = k.tmod 3 + 3 := by
  have h1 := Int.tmod_lt_of_pos k (show (0 : Int) < 3 by decide)
  have h2 := Int.lt_tmod_of_pos k (show (0 : Int) < 3 by decide)
  rw [IntWalk.i64_in _ (by omega)]
/-- what taking over keeps -/
structure Sx (p0 : Pl) (K a : Int) (i : Nat) (q : Pl) : Prop where
  ok : PlOk q
  ver : q.ver = 2 + i
  len : q.ss.length = p0.ss.length
  left : cnt q.ss + i ≤ 24
  gone : 0 < K → Gone q.ss a
theorem Sx.step {p0 q : Pl} {K a : Int} {i : Nat} (h : Sx p0 K a i q) (hb : busy q.ss = true) : ∃ (j : Nat) (n : Int), pend q.ss = ((j : Int), n) ∧ doneErr q j n = 0 ∧ Sx p0 K a (i + 1) (donePl q j n) := by
  obtain ⟨j, l, n, f, hp, hl, hm⟩ := pend_some hb
  have hi : i ≤ 24 := by have := h.left; omega
  have hv : q.ver < 1099511627776 := by rw [h.ver]; omega
  obtain ⟨e, e2⟩ := done_set h.ok hl hm hv
  refine ⟨j, n, hp, e, ?_⟩
  rw [e2]
  have hc := cnt_done h.ok hl hm
  have hleft := h.left
  refine ⟨set_okpl h.ok hl hm hv, ?_, ?_, ?_, fun hk => gone_done h.ok hl hm (h.gone hk)⟩
  · show q.ver + 1 = _; rw [h.ver]; omega
  · show (q.ss.set j _).length = _; rw [List.length_set]; exact h.len
  · show cnt (q.ss.set j _) + _ ≤ _; omega
theorem Sx.start {p0 q : Pl} {K a b : Int} (hok : PlOk p0) (hv : p0.ver = 1) (hq : stepPl p0 K a b = q) (he : stepErr p0 K a b = 0) (hK : K = 0 ∨ K = 1 ∨ K = 2) : Sx p0 K a 0 q := by
  obtain ⟨h1, h2, h3⟩ := step_ok he
  rw [hq] at h1 h2 h3
  refine ⟨h1, by rw [h2, hv]; rfl, h3, ?_, fun hk => ?_⟩
  · have := cnt_le h1.each; have := h1.few; omega
  · rw [← hq]; exact step_gone he (by omega)
set_option maxHeartbeats 4000000 in
set_option maxRecDepth 100000 in
theorem walk_ok (a0 : Option Addr) (len0 cap0 : Nat) (z0 : List Int) (a1 : Int) (a20 a21 a22 : Int) (w : World) (w0 : IsRow .i64 w a0 len0 cap0 z0) (w1 : (Lit.int .i64 a1).wf = true) (w20 : (Lit.int .i64 a20).wf = true) (w21 : (Lit.int .i64 a21).wf = true) (w22 : (Lit.int .i64 a22).wf = true) :
    Calls Try.prog 9 #[.slice a0 len0 cap0, .int .i64 a1, .agg #[.int .i64 a20, .int .i64 a21, .int .i64 a22]] w fun e w' => e = .returned (.bool true) ∧ Below w.heap.size w w' := by
  obtain ⟨hls, hcap, hmost⟩ := row_ls w0
  obtain ⟨l, hl⟩ : ∃ l, z0.take len0 = l := ⟨_, rfl⟩
  rw [hl] at hls
  clear w0 w1 w20 w21 w22 hl
  have HL := Lib.hid hls
  have HLN := Lib.hid hls.1
  clear hls
  by_cases hbig : 256 < len0
  · have hbz : (256 : Int) < (len0 : Int) := by omega
    clear hbig
    go_enter Try.func9, Try.ntmps9
    go_wp2_with (fail)
    go_ret
    exact ⟨rfl, below_al _ _⟩
  · have hbz : ¬ (256 : Int) < (len0 : Int) := by omega
    obtain ⟨wz, hwz⟩ : ∃ wz, w.alloc (.cells #[.int .i64 a20, .int .i64 a21, .int .i64 a22] 37) = wz := ⟨_, rfl⟩
    have hbz0 : Below w.heap.size w wz := by rw [← hwz]; exact below_al _ _
    have hgz : IsV3 37 wz w.heap.size (.int .i64 a20) (.int .i64 a21) (.int .i64 a22) := by rw [← hwz]; exact alloc_new _ _
    have hzl : w.heap.size < wz.heap.size := blk_lt hgz
    have HBZ := Lib.hid hbz0
    have HGZ := Lib.hid hgz
    have HWZ := Lib.hid hwz
    have HPI := Lib.hid (pinit_sx wz w.heap.size len0 cap0 a0 l (HL.out.below hbz0 (Nat.le_refl _)) (by omega) (by omega) a1)
    have HRI := Lib.hid (fun (u : World) (hu : Below w.heap.size w u) => rinit_y u w.heap.size len0 cap0 a0 l (HL.out.below hu (Nat.le_refl _)) hu.size (by omega) hcap hmost a1)
    obtain ⟨er, her⟩ : ∃ er, initErr l a1 = er := ⟨_, rfl⟩
    rw [rinitErr_eq, her, rinit_pl] at HRI
    rw [her] at HPI
    have HER := Lib.hid her
    clear her hwz hgz hbz0
    go_enter Try.func9, Try.ntmps9
    go_wp2_with (fail)
    rw [HWZ.out]
    refine HPI.out.mono ?_
    rintro e w2 ⟨⟨ver, nA, nc, nodes, sA, sc, rs⟩, rfl, hvp, hvok, hb2⟩
    obtain ⟨w3, hw3⟩ : ∃ w3, w2.alloc (.cells #[.int .i64 ver, .slice nA nodes.length nc, .slice sA rs.length sc] 25) = w3 := ⟨_, rfl⟩
    have HZ3 := Lib.hid (show Below wz.heap.size wz w3 by rw [← hw3]; exact hb2.alloc hb2.size _)
    have HB3 := Lib.hid (HBZ.out.trans (HZ3.out.mono HBZ.out.size))
    have HOP3 := Lib.hid (show OP w3 wz.heap.size (⟨ver, nA, nc, nodes, sA, sc, rs⟩ : PV) by rw [← hw3]; exact hvok.below (below_al _ _) (Nat.le_refl _))
    have HV := Lib.hid hvp
    have HOK := Lib.hid (show PVok w3 w2.heap.size (⟨ver, nA, nc, nodes, sA, sc, rs⟩ : PV) by rw [← hw3]; exact hvok.ok.below (below_al _ _) (Nat.le_refl _))
    have HG := Lib.hid (show IsV3 25 w3 w2.heap.size (.int .i64 ver) (.slice nA nodes.length nc) (.slice sA rs.length sc) by rw [← hw3]; exact alloc_new _ _)
    have HW3 := Lib.hid hw3
    have hs2 := hb2.size
    have hs3 : w2.heap.size < w3.heap.size := blk_lt HG.out
    clear hvp hvok hb2 hw3 HPI
    go_wp2_with (fail)
    rw [HW3.out]
    refine (HRI.out w3 HB3.out).mono ?_
    rintro e w4 ⟨⟨ver2, nA2, nc2, nodes2, sA2, sc2, rs2⟩, rfl, hvp2, hvok2, hb4⟩
    obtain ⟨w5, hw5⟩ : ∃ w5, w4.alloc (.cells #[.int .i64 ver2, .slice nA2 nodes2.length nc2, .slice sA2 rs2.length sc2] 25) = w5 := ⟨_, rfl⟩
    have hb5 : Below w3.heap.size w3 w5 := by rw [← hw5]; exact hb4.alloc hb4.size _
    have HV2 := Lib.hid hvp2
    have HOK2 := Lib.hid (show PVok w5 w4.heap.size (⟨ver2, nA2, nc2, nodes2, sA2, sc2, rs2⟩ : PV) by rw [← hw5]; exact hvok2.below (below_al _ _) (Nat.le_refl _))
    have HG2 := Lib.hid (show IsV3 25 w5 w4.heap.size (.int .i64 ver2) (.slice nA2 nodes2.length nc2) (.slice sA2 rs2.length sc2) by rw [← hw5]; exact alloc_new _ _)
    have HP5 := Lib.hid hb5
    have HB5 := Lib.hid (HB3.out.trans (hb5.mono HB3.out.size))
    have hs5 := hb5.size
    have hs4 := hb4.size
    have hs45 : w4.heap.size < w5.heap.size := blk_lt HG2.out
    have HG5 := Lib.hid (blk_below hb5 HG.out hs3)
    have HW5 := Lib.hid hw5
    clear hb4 hb5 hw5 HRI hvp2 hvok2
    by_cases he0 : er = 0
    · subst he0
      obtain ⟨hok, hbu, hver, hnd, hlen⟩ := init_ok HER.out
      obtain ⟨p, hp⟩ : ∃ p, initPl l a1 = p := ⟨_, rfl⟩
      rw [hp] at hok hbu hver hnd hlen HV HV2
      have HOKP := Lib.hid hok
      have HBU := Lib.hid hbu
      have HVER := Lib.hid hver
      have HND := Lib.hid hnd
      have HLEN := Lib.hid hlen
      have hnl : p.nodes.length = len0 := by rw [hnd, srt_len]; exact HLN.out
      have HNL := Lib.hid hnl
      have hn3 : 3 ≤ len0 := by rw [← hnl]; exact hok.nodes.many
      have HPV := Lib.hid (show ∀ u, Below w3.heap.size w3 u → PVok u w3.heap.size (⟨ver, nA, nc, nodes, sA, sc, rs⟩ : PV) from fun u hu => (HOK.out.more (C := w3.heap.size) (by omega)).below hu (Nat.le_refl _))
      have hsl := HOK.out.len.1
      have HVC := Lib.hid (fun (u : World) (hu : Below w3.heap.size w3 u) => (isv3_cells (blk_below hu HG.out hs3)).1)
      have hw25 : w2.heap.size < w5.heap.size := by omega
      clear hok hbu hver hnd hlen hnl hp
      have HSTP := Lib.hid (step_l w5 w3.heap.size _ (HPV.out w5 HP5.out) HP5.out.size (kind3 a20) a21 a22)
      rw [HV.out] at HSTP
      simp only [PV.val] at HSTP
      have HK := Lib.hid (kind3_cases a20)
      obtain ⟨K, hK⟩ : ∃ K, kind3 a20 = K := ⟨_, rfl⟩
      rw [hK] at HSTP HK
      have hKr : (a20.tmod 3 + 3).tmod 3 = K := hK
      have hKw := kind3_wrap a20
      obtain ⟨c0, c1, c2⟩ := HVC.out w5 HP5.out
      obtain ⟨⟨z0, z1, z2⟩, _⟩ := isv3_cells (blk_below (HZ3.out.trans (HP5.out.mono HZ3.out.size)) HGZ.out hzl)
      have hz5 : w.heap.size < w5.heap.size := by omega
      have hW5 := HW5.out
      obtain ⟨ea, hea⟩ : ∃ ea, stepErr p K a21 a22 = ea := ⟨_, rfl⟩
      rw [hea] at HSTP
      have HEA := Lib.hid hea
      have HKR := Lib.hid hKr
      have HKW := Lib.hid hKw
      clear hea hK
      go_wp2_with (fail)
      refine HSTP.out.mono ?_
      rintro e w6 ⟨⟨qv, qA, qc, qn, qB, qd, qr⟩, ⟨yv, yA, yc, yn, yB, yd, yr⟩, rfl, hplq, hply, hopq, hopy, hb6⟩
      clear hply hopy hW5 z0 z1 z2 c0 c1 c2 hKr hKw
      obtain ⟨wq, hwq⟩ : ∃ wq, (w6.alloc (.cells #[.int .i64 0, .slice none 0 0, .slice none 0 0] 25)).alloc (.cells #[.int .i64 0, .slice none 0 0, .slice none 0 0] 25) = wq := ⟨_, rfl⟩
      have hbq : Below w6.heap.size w6 wq := by rw [← hwq]; exact (below_al _ _).trans ((below_al _ _).mono (by simp))
      have ga : IsV3 25 wq w6.heap.size (.int .i64 0) (.slice none 0 0) (.slice none 0 0) := by rw [← hwq]; exact alloc_old _ (alloc_new _ _)
      have gb : IsV3 25 wq (w6.heap.size + 1) (.int .i64 0) (.slice none 0 0) (.slice none 0 0) := by rw [← hwq]; have := alloc_new (w6.alloc (.cells #[.int .i64 0, .slice none 0 0, .slice none 0 0] 25)) (.cells #[.int .i64 0, .slice none 0 0, .slice none 0 0] 25); rwa [World.size_alloc] at this
      have hlb : w6.heap.size + 1 < wq.heap.size := blk_lt gb
      obtain ⟨⟨a0', a1', a2'⟩, af0, af1, af2⟩ := isv3_cells ga
      obtain ⟨⟨b0', b1', b2'⟩, bf0, bf1, bf2⟩ := isv3_cells gb
      obtain ⟨w8, hw8⟩ : ∃ w8, (((((wq.setCell ⟨w6.heap.size, 0, none⟩ (.int .i64 qv)).setCell ⟨w6.heap.size, 1, none⟩ (.slice qA qn.length qc)).setCell ⟨w6.heap.size, 2, none⟩ (.slice qB qr.length qd)).setCell ⟨w6.heap.size + 1, 0, none⟩ (.int .i64 yv)).setCell ⟨w6.heap.size + 1, 1, none⟩ (.slice yA yn.length yc)).setCell ⟨w6.heap.size + 1, 2, none⟩ (.slice yB yr.length yd) = w8 := ⟨_, rfl⟩
      have hb8 : Below w6.heap.size w6 w8 := by rw [← hw8]; exact below_set3 (below_set3 hbq (Nat.le_refl _) _ _ _) (by omega) _ _ _
      have g8 : IsV3 25 w8 w6.heap.size (.int .i64 qv) (.slice qA qn.length qc) (.slice qB qr.length qd) := by rw [← hw8]; exact set3_ne (set3 ga) (by omega) _ _ _
      have hs6 := hb6.size
      have hs8 := hb8.size
      have hl8 : w6.heap.size < w8.heap.size := blk_lt g8
      have HP8 := Lib.hid (HP5.out.trans ((hb6.trans (hb8.mono hs6)).mono hs5))
      have HG8 := Lib.hid g8
      have HOP8 := Lib.hid ((hopq.below hb8 (Nat.le_refl _)).base (C := w3.heap.size) hs5)
      have HPLQ := Lib.hid hplq
      have HB8 := Lib.hid (HB3.out.trans (HP8.out.mono HB3.out.size))
      have HZ8 := Lib.hid (blk_below (HZ3.out.trans (HP8.out.mono HZ3.out.size)) HGZ.out hzl)
      clear hb6 hb8 g8 hplq hopq hbq ga gb
      by_cases hea0 : ea = 0
      · subst hea0
        have HS0 := Lib.hid (show Sx p K a21 0 (⟨qv, qA, qc, qn, qB, qd, qr⟩ : PV).pl by rw [HPLQ.out]; exact Sx.start HOKP.out HVER.out rfl HEA.out HK.out)
        have h38 : w3.heap.size ≤ w8.heap.size := HP8.out.size
        have hwz8 : w.heap.size ≠ w6.heap.size := by omega
        go_wp2_with (fail)
        clear a0' a1' a2' af0 af1 af2 b0' b1' b2' bf0 bf1 bf2 hwq hw8
        go_loopg [6, 15, 16, 17, 18, 19] 25 (fun gg s6 s15 s16 s17 s18 s19 wr => ∃ i : Nat, s15 = .int .i64 i ∧ s6 = .bool false ∧ i ≤ 25 ∧ 25 - i ≤ gg ∧ Aside (∃ v : PV, pm.Boxed wr w6.heap.size v ∧ OP wr w3.heap.size v ∧ Sx p K a21 i v.pl ∧ Chg (fun b => b = w6.heap.size) w8 wr))
        case atStart => exact ⟨0, rfl, rfl, by omega, by omega, ⟨_, HG8.out, HOP8.out, HS0.out, Chg.refl _ _⟩⟩
        case round =>
          obtain ⟨i, rfl, rfl, hi, hg, HR⟩ := hrel
          clear HG8 HOP8 HS0
          obtain ⟨v, hbx, hop, hsx, hch⟩ := HR.out
          by_cases hlt : i ≤ 24
          · have hltz : (i : Int) ≤ 24 := by omega
            have hsr := hch.size
            have hbl : w6.heap.size < wr.heap.size := blk_lt hbx
            have HPE := Lib.hid (pending_l wr wr.heap.size v hop.ok (Nat.le_refl _))
            have HBX := Lib.hid hbx
            have HSX := Lib.hid hsx
            have HCH := Lib.hid hch
            have HOPR := Lib.hid hop
            obtain ⟨ss, hss⟩ : ∃ ss, v.pl.ss = ss := ⟨_, rfl⟩
            have HSS := Lib.hid hss
            have HDN := Lib.hid (fun (u : World) (hu : Below wr.heap.size wr u) (s n : Int) => pdone_sx u wr.heap.size v (hop.ok.below hu (Nat.le_refl _)) hu.size s n)
            have HVR := Lib.hid (fun (u : World) (hu : Below wr.heap.size wr u) => isv3_cells (blk_below hu hbx hbl))
            obtain ⟨⟨c0, c1, c2⟩, _⟩ := isv3_cells hbx
            cases hbu : busy v.pl.ss with
            | false =>
              have HBF := Lib.hid hbu
              rw [pend_none hbu] at HPE
              have hlenS : v.rs.length ≤ 8 := by have := hsx.ok.few; simp only [PV.pl, List.length_map] at this; exact this
              have HCALM := Lib.hid (hsx.ok.calm hbu)
              have HGN := Lib.hid hsx.gone
              obtain ⟨ver', nA', nc', nodes', sA', sc', rs'⟩ := v
              simp only [PV.val] at HPE hlenS
              obtain ⟨N', hN'⟩ : ∃ N', rs'.length = N' := ⟨_, rfl⟩
              have HN' := Lib.hid hN'
              rw [hN'] at HPE
              clear hbx hop hsx hch hbu hss HR
              go_wp2_with (fail)
              refine HPE.out.mono ?_
              rintro e w9 ⟨rfl, hb9⟩
              have HB9 := Lib.hid hb9
              have hs9 := hb9.size
              have HOP9 := Lib.hid (HOPR.out.below hb9 (Nat.le_refl _))
              have HZ9 := Lib.hid (blk_below hb9 (HCH.out.blk HZ8.out hwz8) (show w.heap.size < wr.heap.size by omega))
              have HV9 := Lib.hid (HVR.out w9 hb9).1
              have HBX9 := Lib.hid (show IsV3 25 w9 w6.heap.size (.int .i64 ver') (.slice nA' nodes'.length nc') (.slice sA' N' sc') by have := blk_below hb9 HBX.out hbl; simp only [hN'] at this; exact this)
              clear hb9 c0 c1 c2
              obtain ⟨⟨c0, c1, c2⟩, _⟩ := isv3_cells HBX9.out
              obtain ⟨⟨z0, z1, z2⟩, _⟩ := isv3_cells HZ9.out
              have hl9 : w6.heap.size < w9.heap.size := by omega
              have hz9 : w.heap.size < w9.heap.size := by omega
              have HBW := Lib.hid (HB8.out.trans ((HCH.out.below (show w.heap.size ≤ w8.heap.size by omega) (fun k e => by omega)).trans (HB9.out.mono (by omega))))
              go_wp2_with (fail)
              clear c0 c1 c2 z0 z1 z2
              go_loopg [6, 20, 21] N' (fun gg s6 s20 s21 wq => ∃ i2 : Nat, s20 = .int .i64 i2 ∧ s6 = .bool false ∧ i2 ≤ N' ∧ N' - i2 ≤ gg ∧ Aside (Below w9.heap.size w9 wq))
              case atStart => exact ⟨0, rfl, rfl, by omega, by omega, Below.refl _ _⟩
              case round =>
                obtain ⟨i2, rfl, rfl, hi2, hg2, HQ⟩ := hrel
                have hsq := HQ.out.size
                have hlq : w6.heap.size < wr.heap.size := by omega
                have hzq : w.heap.size < wr.heap.size := by omega
                obtain ⟨⟨c0, c1, c2⟩, _⟩ := isv3_cells (blk_below HQ.out HBX9.out hl9)
                obtain ⟨⟨z0, z1, z2⟩, _⟩ := isv3_cells (blk_below HQ.out HZ9.out hz9)
                by_cases hlt2 : i2 < N'
                · have hltz2 : (i2 : Int) < (N' : Int) := by omega
                  have i20 : (0 : Int) ≤ (i2 : Int) := by omega
                  obtain ⟨r, hr⟩ : ∃ r, rs'[i2]? = some r := ⟨_, List.getElem?_eq_getElem (by rw [HN'.out]; exact hlt2)⟩
                  have hrl : r.l ∈ (⟨ver', nA', nc', nodes', sA', sc', rs'⟩ : PV).pl.ss := List.mem_map_of_mem (List.mem_of_getElem? hr)
                  have hcl := HCALM.out r.l hrl
                  have hgn : 0 < K → holds r.l a21 = false := fun hk => HGN.out hk r.l hrl
                  obtain ⟨b, off, hA, hb, l0, ho⟩ := ((HOP9.out.below HQ.out (Nat.le_refl _)).ok.s).at_ hr
                  simp only at hA
                  subst hA
                  have HO := Lib.hid (show ∀ u, Below wr.heap.size wr u → Ls OE u wr.heap.size r.A r.l.length r.l from fun u hu => (ho.below hu (Nat.le_refl _)).ls)
                  obtain ⟨rA, rc, L⟩ := r
                  have h3 := hcl.three
                  simp only [Rw3.val] at l0 HO h3
                  rw [h3] at l0 HO
                  have HCL := Lib.hid hcl
                  have HGN2 := Lib.hid hgn
                  have HL0 := Lib.hid (fun (u : World) (hu : Below wr.heap.size wr u) => (hu.cell (p := ⟨b, off + i2, none⟩) hb).trans l0)
                  have HR0 := Lib.hid (Below.refl wr.heap.size wr)
                  have H3 := Lib.hid h3
                  obtain ⟨wv, hwv⟩ : ∃ wv, wv = wr := ⟨wr, rfl⟩
                  obtain rfl := hwv
                  clear hr hrl hcl hgn ho h3
                  go_wp2_with (fail)
                  clear c0 c1 c2 z0 z1 z2 l0
                  go_loopg [6, 21] 3 (fun gg3 s6 s21 wz => ∃ k : Nat, s21 = .int .i64 k ∧ s6 = .bool false ∧ k ≤ 3 ∧ 3 - k ≤ gg3 ∧ Aside (Below wv.heap.size wv wz))
                  case atStart => exact ⟨0, rfl, rfl, by omega, by omega, HR0.out⟩
                  case round =>
                    obtain ⟨k, rfl, rfl, hk, hg3, HQ3⟩ := hrel
                    have hsq3 := HQ3.out.size
                    have HQQ := Lib.hid (HQ.out.trans (HQ3.out.mono hsq))
                    have hlq3 : w6.heap.size < wr.heap.size := by omega
                    have hzq3 : w.heap.size < wr.heap.size := by omega
                    obtain ⟨⟨c0, c1, c2⟩, _⟩ := isv3_cells (blk_below HQQ.out HBX9.out hl9)
                    obtain ⟨⟨z0, z1, z2⟩, _⟩ := isv3_cells (blk_below HQQ.out HZ9.out hz9)
                    have l0 := HL0.out wr HQ3.out
                    have hbw : b < wr.heap.size := by omega
                    by_cases hlt3 : k < 3
                    · have hltz3 : (k : Int) < 3 := by omega
                      have k0 : (0 : Int) ≤ (k : Int) := by omega
                      obtain ⟨x, hx⟩ : ∃ x, L[k]? = some x := ⟨_, List.getElem?_eq_getElem (by rw [H3.out]; exact hlt3)⟩
                      obtain ⟨b3, off3, hA3, hb3, y0, y1, y2⟩ := own_at (HO.out wr HQ3.out) hx
                      have hxm := List.mem_of_getElem? hx
                      have hx2 := (HCL.out.each x hxm).2
                      obtain ⟨x1, x2, x3⟩ := x
                      subst hA3
                      simp only [Prod.mk.injEq] at hx2
                      obtain ⟨rfl, rfl⟩ := hx2
                      simp only at y0 y1 y2
                      have hbw3 : b3 < wr.heap.size := by omega
                      have hKr := HKR.out
                      have hKw := HKW.out
                      have hst : ((2 : Int) != 2) = false := rfl
                      have hne : 0 < K → (x1 == a21) = false := fun hk0 => by
                        cases he : (x1 == a21) with
                        | false => rfl
                        | true =>
                          have := HGN2.out hk0
                          rw [(HCL.out.holds_iff a21).2 ⟨_, hxm, by simpa using he⟩] at this; cases this
                      clear hx hxm
                      by_cases hK0 : 0 < K
                      · have hKz : decide ((0 : Int) < K) = true := decide_eq_true hK0
                        have hxe := hne hK0
                        clear hne
                        go_wp2_with (fail)
                        have q0 := Wb.at_ c0
                        have q1 := Wb.at_ c1
                        have q2 := Wb.at_ c2
                        have q3 := Wb.at_ z0
                        have q4 := Wb.at_ z1
                        have q5 := Wb.at_ l0
                        have q6 := Wb.at_ y0
                        have q7 := Wb.at_ y1
                        refine wp_region_plan [([0, 1, 2, 3, 4, 5, 6, 7, 8, 9, 10, 11, 12, 13, 14, 15, 16, 17, 18, 19, 20, 21, 22, 23, 24, 25, 26, 27, 28, 29, 30, 31], none)] (by kernel_rfl) (by kernel_rfl) ?_
                        refine seg_end _ (by dsimp only [pick, ord.at_]) ?_
                        repeat (go_big_quiet_step (fail))
                        refine wpQuiet_nil ?_
                        refine NoPanic.normal ?_
                        clear q0 q1 q2 q3 q4 q5 q6 q7 c0 c1 c2 z0 z1 z2 l0 y0 y1 y2 hKr hKw
                        go_wp2_with (fail)
                        go_roundg (3 - (k + 1))
                        case measure => omega
                        case rel => exact ⟨k + 1, by go_num, rfl, by omega, by omega, HQ3.out.drew⟩
                      · have hKz : decide ((0 : Int) < K) = false := decide_eq_false hK0
                        clear hne
                        go_wp2_with (fail)
                        have q0 := Wb.at_ c0
                        have q1 := Wb.at_ c1
                        have q2 := Wb.at_ c2
                        have q3 := Wb.at_ z0
                        have q4 := Wb.at_ z1
                        have q5 := Wb.at_ l0
                        have q6 := Wb.at_ y0
                        have q7 := Wb.at_ y1
                        refine wp_region_plan [([0, 1, 2, 3, 4, 5, 6, 7, 8, 9, 10, 11, 12, 13, 14, 15, 16, 17, 18, 19, 20, 21, 22, 23, 24, 25, 26, 27, 28, 29, 30, 31], none)] (by kernel_rfl) (by kernel_rfl) ?_
                        refine seg_end _ (by dsimp only [pick, ord.at_]) ?_
                        repeat (go_big_quiet_step (fail))
                        refine wpQuiet_nil ?_
                        refine NoPanic.normal ?_
                        clear q0 q1 q2 q3 q4 q5 q6 q7 c0 c1 c2 z0 z1 z2 l0 y0 y1 y2 hKr hKw
                        go_wp2_with (fail)
                        go_roundg (3 - (k + 1))
                        case measure => omega
                        case rel => exact ⟨k + 1, by go_num, rfl, by omega, by omega, HQ3.out.drew⟩
                    · obtain rfl : k = 3 := by omega
                      have hltz3 : ¬ ((3 : Nat) : Int) < 3 := by omega
                      go_wp2_with (fail)
                      go_roundg (N' - (i2 + 1))
                      case measure => omega
                      case rel => exact ⟨i2 + 1, by go_num, rfl, by omega, by omega, HQQ.out⟩
                · obtain rfl : i2 = N' := by omega
                  have hltz2 : ¬ (i2 : Int) < (i2 : Int) := by omega
                  have HFW := Lib.hid (HBW.out.trans (HQ.out.mono (by omega)))
                  go_wp2_with (fail)
                  go_ret
                  exact ⟨rfl, HFW.out⟩
            | true =>
              obtain ⟨j, n, hp, he, hnext⟩ := hsx.step hbu
              have HNXT := Lib.hid hnext
              have hdn := HDN.out
              rw [hp] at HPE
              have HDN2 := Lib.hid (fun (u : World) (hu : Below wr.heap.size wr u) => he ▸ HDN.out u hu (j : Int) n)
              have hj0 : ¬ ((j : Int) < 0) := by omega
              obtain ⟨Q, hQ⟩ : ∃ Q, donePl v.pl (j : Int) n = Q := ⟨_, rfl⟩
              rw [hQ] at HDN2 HNXT
              obtain ⟨ver', nA', nc', nodes', sA', sc', rs'⟩ := v
              simp only [PV.val] at HPE HDN2
              clear hbx hop hsx hch hbu hss HR hp he hnext hQ hdn HDN
              go_wp2_with (fail)
              refine HPE.out.mono ?_
              rintro e w9 ⟨rfl, hb9⟩
              have HB9 := Lib.hid hb9
              have hs9 := hb9.size
              clear hb9 c0 c1 c2
              obtain ⟨⟨c0, c1, c2⟩, _⟩ := HVR.out w9 HB9.out
              have hl9 : w6.heap.size < w9.heap.size := by omega
              go_wp2_with (fail)
              refine (HDN2.out w9 HB9.out).mono ?_
              rintro e w10 ⟨⟨xv, xA, xc, xn, xB, xd, xr⟩, rfl, hplx, hopx, hb10⟩
              obtain ⟨w11, hw11⟩ : ∃ w11, w10.alloc (.cells #[.int .i64 xv, .slice xA xn.length xc, .slice xB xr.length xd] 25) = w11 := ⟨_, rfl⟩
              have hb11 : Below w10.heap.size w10 w11 := by rw [← hw11]; exact below_al _ _
              have g11 : IsV3 25 w11 w10.heap.size (.int .i64 xv) (.slice xA xn.length xc) (.slice xB xr.length xd) := by rw [← hw11]; exact alloc_new _ _
              have hs10 := hb10.size
              have hl11 : w10.heap.size < w11.heap.size := blk_lt g11
              have HB11 := Lib.hid (HB9.out.trans ((hb10.trans (hb11.mono hs10)).mono hs9))
              have hs11 := HB11.out.size
              have hop11 := hopx.below hb11 (Nat.le_refl _)
              have hbx11 := blk_below HB11.out HBX.out hbl
              clear c0 c1 c2
              obtain ⟨⟨c0, c1, c2⟩, f0, f1, f2⟩ := isv3_cells hbx11
              obtain ⟨⟨x0, x1, x2⟩, _⟩ := isv3_cells g11
              have hlr : w6.heap.size < w11.heap.size := by omega
              have HNEXT := Lib.hid (show pm.Boxed (((w11.setCell ⟨w6.heap.size, 0, none⟩ (.int .i64 xv)).setCell ⟨w6.heap.size, 1, none⟩ (.slice xA xn.length xc)).setCell ⟨w6.heap.size, 2, none⟩ (.slice xB xr.length xd)) w6.heap.size (⟨xv, xA, xc, xn, xB, xd, xr⟩ : PV) ∧
                  OP (((w11.setCell ⟨w6.heap.size, 0, none⟩ (.int .i64 xv)).setCell ⟨w6.heap.size, 1, none⟩ (.slice xA xn.length xc)).setCell ⟨w6.heap.size, 2, none⟩ (.slice xB xr.length xd)) w3.heap.size (⟨xv, xA, xc, xn, xB, xd, xr⟩ : PV) ∧
                  Sx p K a21 (i + 1) (⟨xv, xA, xc, xn, xB, xd, xr⟩ : PV).pl ∧
                  Chg (fun b => b = w6.heap.size) w8 (((w11.setCell ⟨w6.heap.size, 0, none⟩ (.int .i64 xv)).setCell ⟨w6.heap.size, 1, none⟩ (.slice xA xn.length xc)).setCell ⟨w6.heap.size, 2, none⟩ (.slice xB xr.length xd)) from by
                refine ⟨set3 hbx11, (hop11.chg (chg_set3 _ _ _) (fun k e => by omega)).base (by omega), by rw [hplx]; exact HNXT.out, ?_⟩
                exact (HCH.out.trans ((Chg.of_below HB11.out).mono (S' := fun b => b = w6.heap.size) (fun _ _ e => e.elim)) (fun _ _ e => e)).trans (chg_set3 _ _ _) (fun _ _ e => e))
              clear hplx hopx hb10 hb11 g11 hop11 hbx11
              go_wp2_with (fail)
              go_roundg (25 - (i + 1))
              case measure => omega
              case rel => exact ⟨i + 1, by go_num, rfl, by omega, by omega, ⟨_, HNEXT.out⟩⟩
          · exact absurd hsx.left (by omega)
      · have hez : (ea == 0) = false := by simp [hea0]
        have hr2 : (ea != 0) = true := by simp [hea0]
        clear hea0
        go_wp2_with (fail)
        go_ret
        exact ⟨by simp, HB8.out⟩
    · have hez : (er == 0) = false := by simp [he0]
      have hr2 : (er != 0) = true := by simp [he0]
      clear he0
      have hW5 := HW5.out
      go_wp2_with (fail)
      go_ret
      exact ⟨by simp, HB5.out⟩
end Go.Proofs.Ytnpkhkhchimcnaa.lawPlacementSettles
