/-
  The walk of the law RangesBack.
-/
import Derived.Test.YtemmfcinpkfoiaaLawRangesNormal
import Derived.Test.YtemmfcinpkfoiaaRgAdd
import Derived.Lib.SmallJoins
namespace Go.Proofs.Ytemmfcinpkfoiaa.lawRangesBack
open Go.ChangeShapes Go.WideShapes Go.ChangeAt Go.RowKit plain words ord mem rg

theorem any_sub (l : List R) (r : R) (t : Int) : (subR l r).any (hasB t) = (l.any (hasB t) && !hasB t r) := by
  rw [Bool.eq_iff_iff, any_has, (subR_nf l r).2, Bool.and_eq_true, any_has]
  simp [hasB]
  intro _
  omega
theorem any_add (l : List R) (r : R) (t : Int) : (addR (normR l) r).any (hasB t) = (l.any (hasB t) || hasB t r) := by
  rw [Bool.eq_iff_iff, any_has, (addR_nf (normR l) r (normR_nf l).1).2, (normR_nf l).2, Bool.or_eq_true, any_has]
  simp [hasB]

set_option maxHeartbeats 1000000 in
set_option maxRecDepth 100000 in
theorem walk_ok (A : Option Addr) (n c : Nat) (r1 r2 t : Int) (w : World) (h0 : IsPairs .i64 .i64 w A n c) (_ : (Lit.int .i64 r1).wf = true) (_ : (Lit.int .i64 r2).wf = true) (_ : (Lit.int .i64 t).wf = true) :
    Calls Try.prog 13 #[.slice A n c, .agg #[.int .i64 r1, .int .i64 r2], .int .i64 t] w fun e w' => e = .returned (.bool true) ∧ Below w.heap.size w w' := by
  obtain ⟨l, h, hA, hc1, hc2⟩ := rgs_of h0
  clear h0
  have hl := h.1
  obtain ⟨wb, hwb⟩ : ∃ wb, w.alloc (.cells #[.int .i64 r1, .int .i64 r2] 34) = wb := ⟨_, rfl⟩
  have hbb : Below w.heap.size w wb := by rw [← hwb]; exact below_a _ _
  have hbx : wb.heap[w.heap.size]? = some (.cells #[.int .i64 r1, .int .i64 r2] 34 (0, 0)) := by rw [← hwb]; exact alloc_new _ _
  have hsz := hbb.size
  have hbw : w.heap.size < wb.heap.size := blk_lt hbx
  by_cases hbig : 512 < n
  · have hbz : (512 : Int) < (n : Int) := by omega
    have HBB := Lib.hid hbb
    clear h hA hbb hbx
    go_enter Try.func13, Try.ntmps13
    go_wp2_with fail
    go_ret
    exact ⟨rfl, HBB.out⟩
  · have hbz : ¬ (512 : Int) < (n : Int) := by omega
    have b0 : wb.cell? ⟨w.heap.size, 0, none⟩ = some (.int .i64 r1) := by rw [cell_of_row _ _ _ _ _ _ hbx]; rfl
    have b1 : wb.cell? ⟨w.heap.size, 1, none⟩ = some (.int .i64 r2) := by rw [cell_of_row _ _ _ _ _ _ hbx]; rfl
    have hnl := normR_le l
    have hsl := subR_le l (r1, r2)
    have hal := addR_le (normR l) (r1, r2)
    rw [hl] at hnl hsl
    have had := add_x wb w.heap.size n c A l (h.below hbb (Nat.le_refl _)) hA hsz (by omega) (r1, r2)
    have HADD0 := Lib.hid had
    have HH := Lib.hid (h.below hbb (Nat.le_refl _))
    have HBB := Lib.hid hbb
    have HBX := Lib.hid hbx
    have hcov : coverR (addR (normR l) (r1, r2)) (r1, r2) = true := cover_add l (r1, r2)
    have hsa := sub_add l (r1, r2)
    have has := add_sub l (r1, r2)
    have hse := sub_eq l (r1, r2)
    have hse2 := sub_eq (addR (normR l) (r1, r2)) (r1, r2)
    rw [hsa] at hse2
    have h1 := any_sub l (r1, r2) t
    have h2 := any_add l (r1, r2) t
    have HSE := Lib.hid hse
    have HSE2 := Lib.hid hse2
    obtain ⟨T, hT⟩ : ∃ T, addR (normR l) (r1, r2) = T := ⟨_, rfl⟩
    obtain ⟨S, hS⟩ : ∃ S, subR l (r1, r2) = S := ⟨_, rfl⟩
    rw [hT] at HADD0 hcov has h2 hal HSE2
    rw [hS] at has h1 hsl HSE HSE2
    have HAS := Lib.hid has
    have HCOV := Lib.hid hcov
    obtain ⟨q, hq⟩ : ∃ q, l.any (hasB t) = q := ⟨_, rfl⟩
    rw [hq] at h1 h2
    have HQ := Lib.hid hq
    have H1 := Lib.hid h1
    have H2 := Lib.hid h2
    clear h hbb hbx had hcov hsa has hse hse2 h1 h2 hT hS hq hl
    go_enter Try.func13, Try.ntmps13
    go_wp2_with fail
    refine HADD0.out.mono ?_
    rintro e w1 ⟨vT, rfl, hownT, hb1⟩
    have hs1 := hb1.size
    have HBX1 := Lib.hid (blk_below hb1 HBX.out hbw)
    have c0 : w1.cell? ⟨w.heap.size, 0, none⟩ = some (.int .i64 r1) := by rw [cell_of_row _ _ _ _ _ _ HBX1.out]; rfl
    have c1 : w1.cell? ⟨w.heap.size, 1, none⟩ = some (.int .i64 r2) := by rw [cell_of_row _ _ _ _ _ _ HBX1.out]; rfl
    have hsub := sub_x w1 w.heap.size n c A l (HH.out.below hb1 hsz) hA (by omega) (by omega) (r1, r2)
    rw [HSE.out] at hsub
    have HSUB := Lib.hid hsub
    have HT1 := Lib.hid hownT
    have HB1 := Lib.hid hb1
    have hlw1 : w.heap.size < w1.heap.size := by omega
    clear hsub hownT hb1 HADD0 b0 b1
    go_wp2_with fail
    refine HSUB.out.mono ?_
    rintro e w2 ⟨vS, rfl, hownS, hb2⟩
    have hs2 := hb2.size
    have HBX2 := Lib.hid (blk_below hb2 HBX1.out hlw1)
    have HS2 := Lib.hid hownS
    have HT2 := Lib.hid (HT1.out.below hb2 (Nat.le_refl _))
    have HH2 := Lib.hid ((HH.out.below HB1.out hsz).below hb2 (by omega))
    have HB2 := Lib.hid ((HBB.out.trans (HB1.out.mono hsz)).trans (hb2.mono (by omega)))
    obtain ⟨AT, cT, rfl, hAT, _, _⟩ := HT2.out.form
    obtain ⟨AS, cS, rfl, hAS, _, _⟩ := HS2.out.form
    have hlw2 : w.heap.size < w2.heap.size := by omega
    have KC := Lib.hid (fun (u : World) (hu : Below w2.heap.size w2 u) => cov_x u w2.heap.size T.length cT AT T (HT2.out.rgs.below hu (Nat.le_refl _)) hAT hu.size (by omega) (r1, r2))
    have KS := Lib.hid (fun (u : World) (hu : Below w2.heap.size w2 u) => has_x u w2.heap.size S.length cS AS S (HS2.out.rgs.below hu (Nat.le_refl _)) hu.size (by omega) t)
    have KT := Lib.hid (fun (u : World) (hu : Below w2.heap.size w2 u) => has_x u w2.heap.size T.length cT AT T (HT2.out.rgs.below hu (Nat.le_refl _)) hu.size (by omega) t)
    have KL := Lib.hid (fun (u : World) (hu : Below w2.heap.size w2 u) => rhas_x u w.heap.size n c A l (HH2.out.below hu (by omega)) (by have := hu.size; omega) (by omega) t)
    have KU := Lib.hid (fun (u : World) (hu : Below w2.heap.size w2 u) => sub_x u w2.heap.size T.length cT AT T (HT2.out.rgs.below hu (Nat.le_refl _)) hAT hu.size (by omega) (r1, r2))
    have KA := Lib.hid (fun (u : World) (hu : Below w2.heap.size w2 u) => add_x u w2.heap.size S.length cS AS S (HS2.out.rgs.below hu (Nat.le_refl _)) hAS hu.size (by omega) (r1, r2))
    have KX := Lib.hid (fun (u : World) (hu : Below w2.heap.size w2 u) => blk_below hu HBX2.out hlw2)
    have d0 : w2.cell? ⟨w.heap.size, 0, none⟩ = some (.int .i64 r1) := by rw [cell_of_row _ _ _ _ _ _ HBX2.out]; rfl
    have d1 : w2.cell? ⟨w.heap.size, 1, none⟩ = some (.int .i64 r2) := by rw [cell_of_row _ _ _ _ _ _ HBX2.out]; rfl
    rw [HCOV.out] at KC
    rw [HSE2.out] at KU
    rw [HAS.out] at KA
    rw [HQ.out] at KL
    clear hownS hb2 HT1 HH HB1 HBX HBX1 HBX2 HSUB HBB c0 c1 HCOV HSE HSE2 HAS HQ
    by_cases ht : r1 ≤ t ∧ t < r2
    case' pos =>
      obtain ⟨ht1, ht2⟩ := ht
      have e1 : S.any (hasB t) = false := by rw [H1.out]; simp [hasB, ht1, ht2]
      have e2 : T.any (hasB t) = true := by rw [H2.out]; simp [hasB, ht1, ht2]
      rw [e1] at KS
      rw [e2] at KT
      clear e1 e2 H1 H2 KL
      go_wp2_with fail
      refine (KC.out w2 (Below.refl _ _)).mono ?_
      rintro e w3 ⟨rfl, hb3⟩
      go_wp2_with fail
      refine (KS.out w3 hb3).mono ?_
      rintro e w4 ⟨rfl, hb4⟩
      have HU4 := Lib.hid (hb3.trans (hb4.mono hb3.size))
      clear hb3 hb4
      go_wp2_with fail
      refine (KT.out w4 HU4.out).mono ?_
      rintro e u ⟨rfl, hbu⟩
      have HU := Lib.hid (HU4.out.trans (hbu.mono HU4.out.size))
      clear hbu HU4
    case' neg =>
      have e0 : hasB t (r1, r2) = false := by simp [hasB]; omega
      have e1 : S.any (hasB t) = q := by rw [H1.out, e0]; simp
      have e2 : T.any (hasB t) = q := by rw [H2.out, e0]; simp
      rw [e1] at KS
      rw [e2] at KT
      have hin : (decide (r1 ≤ t) && decide (t < r2)) = false := by simp; omega
      clear e0 e1 e2 H1 H2
      by_cases ht1 : r1 ≤ t
      case' pos => have ht2 : ¬ t < r2 := fun e => ht ⟨ht1, e⟩
      all_goals
        clear ht hin
        go_wp2_with fail
        refine (KC.out w2 (Below.refl _ _)).mono ?_
        rintro e w3 ⟨rfl, hb3⟩
        go_wp2_with fail
        refine (KS.out w3 hb3).mono ?_
        rintro e w4 ⟨rfl, hb4⟩
        have HU4 := Lib.hid (hb3.trans (hb4.mono hb3.size))
        clear hb3 hb4
        go_wp2_with fail
        refine (KL.out w4 HU4.out).mono ?_
        rintro e w5 ⟨rfl, hb5⟩
        have HU5 := Lib.hid (HU4.out.trans (hb5.mono HU4.out.size))
        clear hb5 HU4
        cases q
      all_goals
        go_wp2_with fail
        refine (KT.out w5 HU5.out).mono ?_
        rintro e w6 ⟨rfl, hb6⟩
        have HU6 := Lib.hid (HU5.out.trans (hb6.mono HU5.out.size))
        clear hb6 HU5
        go_wp2_with fail
        refine (KL.out w6 HU6.out).mono ?_
        rintro e u ⟨rfl, hbu⟩
        have HU := Lib.hid (HU6.out.trans (hbu.mono HU6.out.size))
        clear hbu HU6
    all_goals
      have x0 : u.cell? ⟨w.heap.size, 0, none⟩ = some (.int .i64 r1) := by rw [cell_of_row _ _ _ _ _ _ (KX.out u HU.out)]; rfl
      have x1 : u.cell? ⟨w.heap.size, 1, none⟩ = some (.int .i64 r2) := by rw [cell_of_row _ _ _ _ _ _ (KX.out u HU.out)]; rfl
      have hlu : w.heap.size < u.heap.size := by have := HU.out.size; omega
      clear d0 d1
      go_wp2_with fail
      refine (KU.out u HU.out).mono ?_
      rintro e w6 ⟨v6, rfl, hown6, hb6⟩
      have hs6 := hb6.size
      have hsu := HU.out.size
      have HU6 := Lib.hid (HU.out.trans (hb6.mono hsu))
      obtain ⟨A6, c6, rfl, _, _, _⟩ := hown6.form
      have hsame := same_x w6 w6.heap.size S.length c6 w2.heap.size S.length cS A6 AS _ _ hown6.rgs (Nat.le_refl _) (HS2.out.rgs.below HU6.out (Nat.le_refl _)) (by omega) (by omega) true (by simp)
      have HSM := Lib.hid hsame
      clear hsame hown6 hb6 x0 x1 HU
      go_wp2_with fail
      refine HSM.out.mono ?_
      rintro e w7 ⟨rfl, hb7⟩
      have hs7 := hb7.size
      have HU7 := Lib.hid (HU6.out.trans (hb7.mono HU6.out.size))
      have x0 : w7.cell? ⟨w.heap.size, 0, none⟩ = some (.int .i64 r1) := by rw [cell_of_row _ _ _ _ _ _ (KX.out w7 HU7.out)]; rfl
      have x1 : w7.cell? ⟨w.heap.size, 1, none⟩ = some (.int .i64 r2) := by rw [cell_of_row _ _ _ _ _ _ (KX.out w7 HU7.out)]; rfl
      have hl7 : w.heap.size < w7.heap.size := by omega
      clear hb7 HU6 HSM
      go_wp2_with fail
      refine (KA.out w7 HU7.out).mono ?_
      rintro e w8 ⟨v8, rfl, hown8, hb8⟩
      have hs8 := hb8.size
      have HU8 := Lib.hid (HU7.out.trans (hb8.mono HU7.out.size))
      obtain ⟨A8, c8, rfl, _, _, _⟩ := hown8.form
      have hsame := same_x w8 w8.heap.size T.length c8 w2.heap.size T.length cT A8 AT _ _ hown8.rgs (Nat.le_refl _) (HT2.out.rgs.below HU8.out (Nat.le_refl _)) (by omega) (by omega) true (by simp)
      have HSM := Lib.hid hsame
      clear hsame hown8 hb8 x0 x1 HU7
      go_wp2_with fail
      refine HSM.out.mono ?_
      rintro e w9 ⟨rfl, hb9⟩
      go_wp2_with fail
      go_ret
      exact ⟨rfl, HB2.out.trans ((HU8.out.trans (hb9.mono HU8.out.size)).mono HB2.out.size)⟩
end Go.Proofs.Ytemmfcinpkfoiaa.lawRangesBack
