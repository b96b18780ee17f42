/-
  The walk of the law KvBytes: for all inputs it returns true.
-/
import Derived.Test.YtdbhoglbmphjjaaKvDX
import Derived.Test.YtdbhoglbmphjjaaKvDXY
import Derived.Test.YtdbhoglbmphjjaaKvE
import Derived.Test.YtdbhoglbmphjjaaKvLaw
import Derived.Test.YtdbhoglbmphjjaaPmOpenP
namespace Go.Proofs.Ytdbhoglbmphjjaa.lawKvBytes
open Go.ChangeShapes Go.WideShapes Go.ChangeAt Go.RowKit Go.Shelf plain words ord mem pm kv

theorem od_ok {w : World} {B : Nat} {v : PV} (h : OD w B v) : PVok w w.heap.size v := OP.ok ⟨h.n, h.s, h.each⟩
theorem encP_few {p : Pl} (h : PlOk p) : (encP p).length ≤ 1000000 := by
  have h1 := ok_nl h
  have h2 := h.few
  have h3 := encN_len p.nodes
  have h4 := encSs_len p.ss (fun q hq => ok_ll (h.each q hq))
  have n1 := num_len p.ver
  have n2 := num_len p.nodes.length
  have n3 := num_len p.ss.length
  unfold encP
  simp only [List.length_append]
  omega
theorem dec_enc {p : Pl} (h : chk p = 0) : decE (encP p) = 0 ∧ decP (encP p) = p := by
  have hs := rdP_enc (small_ok (chk_iff.1 h))
  have hg : GoodB (encP p) := ⟨by rw [hs.2], by rw [hs.2], by rw [hs.1]; exact h⟩
  unfold decE decP
  rw [if_pos hg, if_pos hg]
  exact ⟨rfl, hs.1⟩
set_option maxHeartbeats 4000000 in
set_option maxRecDepth 100000 in
theorem walk_ok (a0 : PV) (A : Option Addr) (n c : Nat) (z : List Int) (w : World) (h0 : PVok w w.heap.size a0) (h1 : IsRow .u8 w A n c z) :
    Calls Try.prog 3 #[a0.val, .slice A n c] w fun e w' => e = .returned (.bool true) ∧ Below w.heap.size w w' := by
  obtain ⟨b, hb, hm1, hc1, hA⟩ := h1.bytes
  obtain ⟨hc1, hc1m⟩ := hc1
  unfold maxLen at hc1m
  obtain ⟨w3, hw3⟩ : ∃ w3, w.alloc (boxO a0) = w3 := ⟨_, rfl⟩
  have hb3 : Below w.heap.size w w3 := by rw [← hw3]; exact below_al _ _
  have gp : pm.Boxed w3 w.heap.size a0 := by rw [← hw3]; exact alloc_new _ _
  have hl3 : w.heap.size < w3.heap.size := blk_lt gp
  have HOK := Lib.hid (fun (u : World) (hu : Below w3.heap.size w3 u) => ((h0.below hb3 (Nat.le_refl _)).below hu (by omega)))
  have HHV := Lib.hid (heavy_kl w3 w.heap.size a0 (HOK.out w3 (Below.refl _ _)) (by omega))
  have HEX := Lib.hid (fun (u : World) (hu : Below w3.heap.size w3 u) => encode_x u w.heap.size a0 (HOK.out u hu) (by have := hu.size; omega))
  have HEY := Lib.hid (fun (u : World) (hu : Below w3.heap.size w3 u) => encode_y u w.heap.size a0 (HOK.out u hu) (by have := hu.size; omega))
  have HDX := Lib.hid (fun (u : World) (hu : Below w3.heap.size w3 u) (hn : n ≤ 4096) => decode_x u w.heap.size n c A b ((hb.below hb3 (Nat.le_refl _)).below hu (by omega)) (by have := hu.size; omega) hc1 hc1m (by omega))
  have HDY := Lib.hid (fun (u : World) (hu : Below w3.heap.size w3 u) (hn : n ≤ 4096) => decode_y u w.heap.size n c A b ((hb.below hb3 (Nat.le_refl _)).below hu (by omega)) (by have := hu.size; omega) hc1 hc1m (by omega))
  have HB3 := Lib.hid hb3
  have HGP := Lib.hid gp
  have HW3 := Lib.hid hw3
  obtain ⟨p, hp⟩ : ∃ p, a0.pl = p := ⟨_, rfl⟩
  rw [hp] at HEX HEY
  have HPV := Lib.hid hp
  obtain ⟨hv, hhv⟩ : ∃ hv, heavyKB a0 = hv := ⟨_, rfl⟩
  rw [hhv] at HHV
  obtain ⟨ee, hee⟩ : ∃ ee, encE p = ee := ⟨_, rfl⟩
  obtain ⟨eb, heb⟩ : ∃ eb, encB p = eb := ⟨_, rfl⟩
  obtain ⟨nb, hnb⟩ : ∃ nb, eb.length = nb := ⟨_, rfl⟩
  obtain ⟨de, hde⟩ : ∃ de, decE b = de := ⟨_, rfl⟩
  have HDE := Lib.hid hde
  have HEE := Lib.hid hee
  have HEB := Lib.hid heb
  have HNB := Lib.hid hnb
  have HSM := Lib.hid (fun (u : World) (v v2 : PV) (k1 : PVok u u.heap.size v) (k2 : PVok u u.heap.size v2) (he : v.pl = v2.pl) => same_k u u.heap.size v v2 k1 k2 (Nat.le_refl _) he)
  obtain ⟨ver, nA, nc, nodes, sA, sc, rs⟩ := a0
  simp only [PV.val, boxO, pm.Boxed] at HHV HEX HEY HDX HDY HW3 HSM ⊢
  have HVC := Lib.hid (fun (u : World) (hu : Below w3.heap.size w3 u) => (isv3_cells (blk_below hu HGP.out (by omega))).1)
  obtain ⟨c0, c1, c2⟩ := HVC.out w3 (Below.refl _ _)
  have HR3 := Lib.hid (Below.refl w3.heap.size w3)
  clear h0 hw3 hb3 gp hp hhv hee heb hnb hde h1 hb hm1 hA
  go_enter Try.func3, Try.ntmps3
  go_wp2_with (fail)
  rw [HW3.out]
  go_wp2_with (fail)
  refine HHV.out.mono ?_
  rintro e w4 ⟨rfl, hb4⟩
  have HB4 := Lib.hid hb4
  have hs4 := hb4.size
  clear hb4 c0 c1 c2
  obtain ⟨c0, c1, c2⟩ := HVC.out w4 HB4.out
  have hl4 : w.heap.size < w4.heap.size := by omega
  cases hv with
  | true =>
    have HBW := Lib.hid (HB3.out.trans (HB4.out.mono (by omega)))
    go_wp2_with (fail)
    go_ret
    exact ⟨by simp, HBW.out⟩
  | false =>
    by_cases hn4 : 4096 < n
    · have hnz : (4096 : Int) < (n : Int) := by omega
      have HBW := Lib.hid (HB3.out.trans (HB4.out.mono (by omega)))
      clear hn4
      go_wp2_with (fail)
      go_ret
      exact ⟨by simp, HBW.out⟩
    have hnz : ¬ (4096 : Int) < (n : Int) := by omega
    go_wp2_with (fail)
    refine (HEX.out w4 HB4.out).mono ?_
    rintro e w5 ⟨Ax, cx, rfl, hox, hb5, hnx⟩
    simp only [HEB.out, HEE.out, HNB.out] at hox ⊢
    have HB5 := Lib.hid (HB4.out.trans (hb5.mono hs4))
    have hs5 := HB5.out.size
    have HOX := Lib.hid hox
    clear hb5 hox hnx c0 c1 c2
    obtain ⟨c0, c1, c2⟩ := HVC.out w5 HB5.out
    have hl5 : w.heap.size < w5.heap.size := by omega
    go_wp2_with (fail)
    refine (HEY.out w5 HB5.out).mono ?_
    rintro e w6 ⟨Ay, cy, rfl, hoy, hb6, hny⟩
    simp only [HEB.out, HEE.out, HNB.out] at hoy ⊢
    have HB6 := Lib.hid (HB5.out.trans (hb6.mono hs5))
    have HB56 := Lib.hid hb6
    have hs6 := hb6.size
    have HOY := Lib.hid hoy
    clear hb6 hoy hny c0 c1 c2
    go_wp2_with (fail)
    refine (HDX.out w6 HB6.out (by omega)).mono ?_
    rintro e w7 ⟨⟨qv, qA, qc, qn, qB, qd, qr⟩, rfl, hplq, hoq, hb7⟩
    simp only [HDE.out, PV.val]
    have hs7 := hb7.size
    obtain ⟨wq, hwq⟩ : ∃ wq, w7.alloc (.cells #[.int .i64 0, .slice none 0 0, .slice none 0 0] 25) = wq := ⟨_, rfl⟩
    have hbq : Below w7.heap.size w7 wq := by rw [← hwq]; exact below_al _ _
    have ga : IsV3 25 wq w7.heap.size (.int .i64 0) (.slice none 0 0) (.slice none 0 0) := by rw [← hwq]; exact alloc_new _ _
    obtain ⟨⟨a0', a1', a2'⟩, af0, af1, af2⟩ := isv3_cells ga
    have hla : w7.heap.size < wq.heap.size := blk_lt ga
    obtain ⟨w8, hw8⟩ : ∃ w8, ((wq.setCell ⟨w7.heap.size, 0, none⟩ (.int .i64 qv)).setCell ⟨w7.heap.size, 1, none⟩ (.slice qA qn.length qc)).setCell ⟨w7.heap.size, 2, none⟩ (.slice qB qr.length qd) = w8 := ⟨_, rfl⟩
    have hb8 : Below w7.heap.size w7 w8 := by rw [← hw8]; exact below_set3 hbq (Nat.le_refl _) _ _ _
    have g8 : IsV3 25 w8 w7.heap.size (.int .i64 qv) (.slice qA qn.length qc) (.slice qB qr.length qd) := by rw [← hw8]; exact set3 ga
    have hs8 := hb8.size
    have HB8 := Lib.hid (HB6.out.trans ((hb7.trans (hb8.mono hs7)).mono (by omega)))
    have HOQ := Lib.hid ((od_ok hoq).below hb8 (Nat.le_refl _))
    have HPQ := Lib.hid hplq
    have HG8 := Lib.hid g8
    have hl8 : w7.heap.size < w8.heap.size := blk_lt g8
    have HB68 := Lib.hid (hb7.trans (hb8.mono hs7))
    have HW8 := Lib.hid hw8
    have HS8 := hs8
    clear hb7 hbq ga hb8 g8 hplq hoq hw8
    go_wp2_with (fail)
    rw [HW8.out]
    refine (HDY.out w8 HB8.out (by omega)).mono ?_
    rintro e w9 ⟨⟨rv, rA, rc, rn, rB, rd, rr⟩, rfl, hplr, hor, hb9⟩
    simp only [HDE.out, PV.val]
    have hs9 := hb9.size
    obtain ⟨wp, hwp⟩ : ∃ wp, w9.alloc (.cells #[.int .i64 0, .slice none 0 0, .slice none 0 0] 25) = wp := ⟨_, rfl⟩
    have hbp : Below w9.heap.size w9 wp := by rw [← hwp]; exact below_al _ _
    have gb : IsV3 25 wp w9.heap.size (.int .i64 0) (.slice none 0 0) (.slice none 0 0) := by rw [← hwp]; exact alloc_new _ _
    obtain ⟨⟨b0', b1', b2'⟩, bf0, bf1, bf2⟩ := isv3_cells gb
    have hlb : w9.heap.size < wp.heap.size := blk_lt gb
    obtain ⟨wX, hwX⟩ : ∃ wX, ((wp.setCell ⟨w9.heap.size, 0, none⟩ (.int .i64 rv)).setCell ⟨w9.heap.size, 1, none⟩ (.slice rA rn.length rc)).setCell ⟨w9.heap.size, 2, none⟩ (.slice rB rr.length rd) = wX := ⟨_, rfl⟩
    have hbX : Below w9.heap.size w9 wX := by rw [← hwX]; exact below_set3 hbp (Nat.le_refl _) _ _ _
    have gX : IsV3 25 wX w9.heap.size (.int .i64 rv) (.slice rA rn.length rc) (.slice rB rr.length rd) := by rw [← hwX]; exact set3 gb
    have hsX := hbX.size
    have hb8X : Below w8.heap.size w8 wX := hb9.trans (hbX.mono hs9)
    have HBX := Lib.hid (HB8.out.trans (hb8X.mono (by have := HB8.out.size; omega)))
    have HOR := Lib.hid ((od_ok hor).below hbX (Nat.le_refl _))
    have HOQX := Lib.hid (HOQ.out.below hb8X (by omega))
    have HPR := Lib.hid hplr
    have hlX : w9.heap.size < wX.heap.size := blk_lt gX
    have hlX7 : w7.heap.size < wX.heap.size := by omega
    have g8X := blk_below hb8X HG8.out hl8
    obtain ⟨⟨q0, q1, q2⟩, _⟩ := isv3_cells g8X
    obtain ⟨⟨r0, r1, r2⟩, _⟩ := isv3_cells gX
    have hb5X : Below w5.heap.size w5 wX := HB56.out.trans ((HB68.out.trans (hb8X.mono (by omega))).mono (by omega))
    have hb6X : Below w6.heap.size w6 wX := HB68.out.trans (hb8X.mono (by omega))
    have HX1 := Lib.hid ((own_bs HOX.out).below hb5X (Nat.le_refl _))
    have HX2 := Lib.hid ((own_bs HOY.out).below hb6X (Nat.le_refl _))
    have x1 := conv_string (P := Try.prog) (c := cx) HX1.out 26 9 5 Try.underlying26 Try.underlying9 Try.underlying5
    have x2 := conv_string (P := Try.prog) (c := cy) HX2.out 26 9 5 Try.underlying26 Try.underlying9 Try.underlying5
    have HSQ := Lib.hid (HSM.out wX ⟨qv, qA, qc, qn, qB, qd, qr⟩ ⟨rv, rA, rc, rn, rB, rd, rr⟩ ⟨HOQX.out.n.more (by omega), HOQX.out.nc, HOQX.out.nm, HOQX.out.nn, HOQX.out.s.more (by omega), HOQX.out.sc, HOQX.out.sm, HOQX.out.sn⟩ ⟨HOR.out.n.more (by omega), HOR.out.nc, HOR.out.nm, HOR.out.nn, HOR.out.s.more (by omega), HOR.out.sc, HOR.out.sm, HOR.out.sn⟩ (HPQ.out.trans HPR.out.symm))
    have HB5X := Lib.hid hb5X
    clear hb9 hbp gb hbX gX hplr hor hb8X g8X hb5X hb6X a0' a1' a2' af0 af1 af2 hwq HW8 HG8
    go_wp2_with (fail)
    refine HSQ.out.mono ?_
    rintro e wY ⟨rfl, hbY⟩
    have HBY := Lib.hid (HBX.out.trans (hbY.mono (by have := HBX.out.size; omega)))
    have hsY := hbY.size
    have HB5Y := Lib.hid (HB5X.out.trans (hbY.mono HB5X.out.size))
    clear hbY x1 x2 q0 q1 q2 r0 r1 r2 hwX
    by_cases he0 : ee = 0
    · subst he0
      have hck : chk p = 0 := by
        rcases Classical.em (chk p = 0) with h | h
        · exact h
        · exfalso; have := HEE.out; unfold encE at this; rw [if_neg h] at this; omega
      have hebp : eb = encP p := by rw [← HEB.out]; unfold encB; rw [if_pos hck]
      have hde := dec_enc hck
      have hfw := encP_few (chk_iff.1 hck)
      have hnbl : nb ≤ 1000000 := by rw [← HNB.out, hebp]; exact hfw
      rw [← hebp] at hde
      obtain ⟨_, cx2, e2, _, hcx, hcxm⟩ := own_fit HNB.out HOX.out
      injection e2 with e3 e4 e5
      subst e5
      have HX3 := Lib.hid ((own_bs HOX.out).below HB5Y.out (Nat.le_refl _))
      have HDZ := Lib.hid (decode_x wY w5.heap.size nb cx Ax eb HX3.out (by have := HB5Y.out.size; omega) hcx hcxm (by omega))
      have HDEC := Lib.hid hde
      clear hck hebp hfw e3 e4 hcx hcxm hde
      go_wp2_with (fail)
      refine HDZ.out.mono ?_
      rintro e wZ ⟨⟨tv, tA, tc, tn, tB, td, tr⟩, rfl, hplt, hot, hbZ⟩
      simp only [HDEC.out.1, HDEC.out.2, PV.val] at hplt ⊢
      have hsZ := hbZ.size
      obtain ⟨wt, hwt⟩ : ∃ wt, wZ.alloc (.cells #[.int .i64 0, .slice none 0 0, .slice none 0 0] 25) = wt := ⟨_, rfl⟩
      have hbt : Below wZ.heap.size wZ wt := by rw [← hwt]; exact below_al _ _
      have gt : IsV3 25 wt wZ.heap.size (.int .i64 0) (.slice none 0 0) (.slice none 0 0) := by rw [← hwt]; exact alloc_new _ _
      obtain ⟨⟨b0', b1', b2'⟩, bf0, bf1, bf2⟩ := isv3_cells gt
      have hlt : wZ.heap.size < wt.heap.size := blk_lt gt
      obtain ⟨wU, hwU⟩ : ∃ wU, ((wt.setCell ⟨wZ.heap.size, 0, none⟩ (.int .i64 tv)).setCell ⟨wZ.heap.size, 1, none⟩ (.slice tA tn.length tc)).setCell ⟨wZ.heap.size, 2, none⟩ (.slice tB tr.length td) = wU := ⟨_, rfl⟩
      have hbU : Below wZ.heap.size wZ wU := by rw [← hwU]; exact below_set3 hbt (Nat.le_refl _) _ _ _
      have gU : IsV3 25 wU wZ.heap.size (.int .i64 tv) (.slice tA tn.length tc) (.slice tB tr.length td) := by rw [← hwU]; exact set3 gt
      have hsU := hbU.size
      have hbYU : Below wY.heap.size wY wU := hbZ.trans (hbU.mono hsZ)
      have HBU := Lib.hid (HBY.out.trans (hbYU.mono (by have := HBY.out.size; omega)))
      have hOT := (od_ok hot).below hbU (Nat.le_refl _)
      have hOA := HOK.out wU HBU.out
      have hlU : wZ.heap.size < wU.heap.size := blk_lt gU
      obtain ⟨⟨t0, t1, t2⟩, _⟩ := isv3_cells gU
      obtain ⟨c0, c1, c2⟩ := HVC.out wU HBU.out
      have hlA : w.heap.size < wU.heap.size := by have := HBU.out.size; omega
      have HSZ := Lib.hid (HSM.out wU ⟨tv, tA, tc, tn, tB, td, tr⟩ ⟨ver, nA, nc, nodes, sA, sc, rs⟩ ⟨hOT.n.more (by omega), hOT.nc, hOT.nm, hOT.nn, hOT.s.more (by omega), hOT.sc, hOT.sm, hOT.sn⟩ ⟨hOA.n.more (by omega), hOA.nc, hOA.nm, hOA.nn, hOA.s.more (by omega), hOA.sc, hOA.sm, hOA.sn⟩ (hplt.trans HPV.out.symm))
      clear hbZ hbt gt hbU gU hbYU hOT hOA hplt hot
      go_wp2_with (fail)
      refine HSZ.out.mono ?_
      rintro e wV ⟨rfl, hbV⟩
      have HBV := Lib.hid (HB3.out.trans ((HBU.out.trans (hbV.mono (by have := HBU.out.size; omega))).mono (by omega)))
      clear hbV
      go_wp2_with (fail)
      go_ret
      exact ⟨by simp, HBV.out⟩
    · have hez : (ee != 0) = true := by simp [he0]
      have HBV := Lib.hid (HB3.out.trans (HBY.out.mono (by omega)))
      clear he0
      go_wp2_with (fail)
      go_ret
      exact ⟨by simp, HBV.out⟩
end Go.Proofs.Ytdbhoglbmphjjaa.lawKvBytes
