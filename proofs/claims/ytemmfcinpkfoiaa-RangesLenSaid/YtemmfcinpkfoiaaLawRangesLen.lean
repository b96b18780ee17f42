/-
  The walk of the law RangesLen.
-/
import Derived.Test.YtemmfcinpkfoiaaRgBound
import Derived.Test.YtemmfcinpkfoiaaRgAdd
import Derived.Lib.SmallJoins
namespace Go.Proofs.Ytemmfcinpkfoiaa.lawRangesLen
open Go.ChangeShapes Go.WideShapes Go.ChangeAt Go.RowKit plain words ord mem rg

theorem wrap_add (a b : Int) : IntKind.u64.wrap (IntKind.u64.wrap a + IntKind.u64.wrap b) = IntKind.u64.wrap (a + b) := by
  simp only [rg.wrap64]; omega
set_option maxHeartbeats 1000000 in
set_option maxRecDepth 100000 in
theorem walk_ok (A : Option Addr) (n c : Nat) (r1 r2 : Int) (w : World) (h0 : IsPairs .i64 .i64 w A n c) (_ : (Lit.int .i64 r1).wf = true) (_ : (Lit.int .i64 r2).wf = true) :
    Calls Try.prog 14 #[.slice A n c, .agg #[.int .i64 r1, .int .i64 r2]] w fun e w' => e = .returned (.bool true) ∧ Below w.heap.size w w' := by
  obtain ⟨l, h, hA, hc1, hc2⟩ := rgs_of h0
  have hlz := len_zero (rgs_in h0 h)
  clear h0
  have hl := h.1
  obtain ⟨wb, hwb⟩ : ∃ wb, w.alloc (.cells #[.int .i64 r1, .int .i64 r2] 34) = wb := ⟨_, rfl⟩
  have hbb : Below w.heap.size w wb := by rw [← hwb]; exact below_a _ _
  have hbx : wb.heap[w.heap.size]? = some (.cells #[.int .i64 r1, .int .i64 r2] 34 (0, 0)) := by rw [← hwb]; exact alloc_new _ _
  have hsz := hbb.size
  have hbw : w.heap.size < wb.heap.size := blk_lt hbx
  by_cases hbig : 512 < n
  · have hbz : (512 : Int) < (n : Int) := by omega
    have HBB := Lib.hid hbb
    clear h hA hbb hbx hlz
    go_enter Try.func14, Try.ntmps14
    go_wp2_with fail
    go_ret
    exact ⟨rfl, HBB.out⟩
  · have hbz : ¬ (512 : Int) < (n : Int) := by omega
    have b0 : wb.cell? ⟨w.heap.size, 0, none⟩ = some (.int .i64 r1) := by rw [cell_of_row _ _ _ _ _ _ hbx]; rfl
    have b1 : wb.cell? ⟨w.heap.size, 1, none⟩ = some (.int .i64 r2) := by rw [cell_of_row _ _ _ _ _ _ hbx]; rfl
    have hnl := normR_le l
    have hsl := subR_le l (r1, r2)
    have hsn := normR_le (subR l (r1, r2))
    have hal := addR_le (normR (subR l (r1, r2))) (r1, r2)
    rw [hl] at hnl hsl
    have hsb := sub_x wb w.heap.size n c A l (h.below hbb (Nat.le_refl _)) hA hsz (by omega) (r1, r2)
    rw [sub_eq] at hsb
    have hsum := len_add_sub l (r1, r2)
    have hzz : IntKind.u64.wrap (IntKind.u64.wrap (lenI (normR (subR l (r1, r2)))) + IntKind.u64.wrap (lenI (normR [(r1, r2)]))) = IntKind.u64.wrap (lenI (normR (addR (normR (subR l (r1, r2))) (r1, r2)))) := by rw [wrap_add, hsum]
    obtain ⟨zL, hzL⟩ : ∃ z, IntKind.u64.wrap (lenI (normR l)) = z := ⟨_, rfl⟩
    rw [hzL] at hlz
    have HZL := Lib.hid hzL
    have HLZ := Lib.hid hlz
    obtain ⟨S, hS⟩ : ∃ S, subR l (r1, r2) = S := ⟨_, rfl⟩
    rw [hS] at hsb hsl hzz hal hsn
    obtain ⟨T, hT⟩ : ∃ T, addR (normR S) (r1, r2) = T := ⟨_, rfl⟩
    rw [hT] at hzz hal
    have HT := Lib.hid hT
    have HZZ := Lib.hid hzz
    have HSB := Lib.hid hsb
    have HH := Lib.hid (h.below hbb (Nat.le_refl _))
    have HBB := Lib.hid hbb
    have HBX := Lib.hid hbx
    clear h hbb hbx hsb hzz hsum hT hS hzL hlz hl
    go_enter Try.func14, Try.ntmps14
    go_wp2_with fail
    refine HSB.out.mono ?_
    rintro e w1 ⟨vS, rfl, hownS, hb1⟩
    have hs1 := hb1.size
    have HBX1 := Lib.hid (blk_below hb1 HBX.out hbw)
    have c0 : w1.cell? ⟨w.heap.size, 0, none⟩ = some (.int .i64 r1) := by rw [cell_of_row _ _ _ _ _ _ HBX1.out]; rfl
    have c1 : w1.cell? ⟨w.heap.size, 1, none⟩ = some (.int .i64 r2) := by rw [cell_of_row _ _ _ _ _ _ HBX1.out]; rfl
    obtain ⟨AS, cS, rfl, hAS, _, _⟩ := hownS.form
    have had := add_x w1 w1.heap.size S.length cS AS S hownS.rgs hAS (Nat.le_refl _) (by omega) (r1, r2)
    rw [HT.out] at had
    have HADD := Lib.hid had
    have HS1 := Lib.hid hownS
    have HB1 := Lib.hid hb1
    have hlw1 : w.heap.size < w1.heap.size := by omega
    clear had hownS hb1 HSB b0 b1
    go_wp2_with fail
    refine HADD.out.mono ?_
    rintro e w2 ⟨vT, rfl, hownT, hb2⟩
    have hs2 := hb2.size
    have HBX2 := Lib.hid (blk_below hb2 HBX1.out hlw1)
    have d0 : w2.cell? ⟨w.heap.size, 0, none⟩ = some (.int .i64 r1) := by rw [cell_of_row _ _ _ _ _ _ HBX2.out]; rfl
    have d1 : w2.cell? ⟨w.heap.size, 1, none⟩ = some (.int .i64 r2) := by rw [cell_of_row _ _ _ _ _ _ HBX2.out]; rfl
    have hlw2 : w.heap.size < w2.heap.size := by omega
    obtain ⟨AT, cT, rfl, hAT, _, _⟩ := hownT.form
    obtain ⟨w3, hw3⟩ : ∃ w3, w2.alloc (.cells #[.int .i64 r1, .int .i64 r2] 34) = w3 := ⟨_, rfl⟩
    have hb3 : Below w2.heap.size w2 w3 := by rw [← hw3]; exact below_a _ _
    have hR3 : Rgs w3 (w2.heap.size + 1) (some ⟨w2.heap.size, 0, none⟩) 1 [(r1, r2)] := by rw [← hw3]; exact rgs_new (w := w2) _ (r1, r2)
    have hs3 : w3.heap.size = w2.heap.size + 1 := by rw [← hw3]; simp
    have HT3 := Lib.hid (hownT.below hb3 (Nat.le_refl _))
    have HS3 := Lib.hid ((HS1.out.below hb2 (Nat.le_refl _)).below hb3 (Nat.le_refl _))
    have HH3 := Lib.hid (((HH.out.below HB1.out hsz).below hb2 (by omega)).below hb3 (by omega))
    have HB3 := Lib.hid (((HBB.out.trans (HB1.out.mono hsz)).trans (hb2.mono (by omega))).trans (hb3.mono (by omega)))
    have KT := Lib.hid (fun (u : World) (hu : Below w3.heap.size w3 u) => len_x u w3.heap.size T.length cT AT T ((HT3.out.rgs).below hu (Nat.le_refl _)) hAT hu.size (by omega))
    have KS := Lib.hid (fun (u : World) (hu : Below w3.heap.size w3 u) => len_x u w3.heap.size S.length cS AS S ((HS3.out.rgs).below hu (Nat.le_refl _)) hAS hu.size (by omega))
    have KO := Lib.hid (fun (u : World) (hu : Below w3.heap.size w3 u) => len_x u w3.heap.size 1 1 (some ⟨w2.heap.size, 0, none⟩) [(r1, r2)] ((show Rgs w3 w3.heap.size (some ⟨w2.heap.size, 0, none⟩) 1 [(r1, r2)] by rw [hs3]; exact hR3).below hu (Nat.le_refl _)) (fun e => by cases e) hu.size (by omega))
    have KL := Lib.hid (fun (u : World) (hu : Below w3.heap.size w3 u) => len_x u w.heap.size n c A l (HH3.out.below hu (by omega)) hA (by have := hu.size; omega) (by omega))
    have KR := Lib.hid (fun (u : World) (hu : Below w3.heap.size w3 u) => rlen_x u w.heap.size n c A l (HH3.out.below hu (by omega)) (by have := hu.size; omega) (by omega))
    have KN := Lib.hid (fun (u : World) (hu : Below w3.heap.size w3 u) => norm_x u w.heap.size n c A l (HH3.out.below hu (by omega)) hA (by have := hu.size; omega) (by omega))
    rw [HZL.out] at KL KR
    obtain ⟨N, hN⟩ : ∃ N, normR l = N := ⟨_, rfl⟩
    rw [hN] at KN HLZ
    have hzz := HZZ.out
    generalize IntKind.u64.wrap (lenI (normR T)) = zT at KT hzz
    generalize IntKind.u64.wrap (lenI (normR S)) = zS at KS hzz
    generalize IntKind.u64.wrap (lenI (normR [(r1, r2)])) = zO at KO hzz
    clear hownT hb2 hb3 hR3 HT3 HS3 HH3 HS1 HB1 HBX HBX1 HBX2 HADD HH HBB c0 c1 HZZ HZL HT hN hwb
    go_wp2_with fail
    refine (KT.out w3 (Below.refl _ _)).mono ?_
    rintro e w4 ⟨rfl, hu4⟩
    go_wp2_with fail
    refine (KS.out w4 hu4).mono ?_
    rintro e w5 ⟨rfl, hb5⟩
    have HU5 := Lib.hid (hu4.trans (hb5.mono hu4.size))
    clear hu4 hb5
    go_wp2_with fail
    refine (KO.out w5 HU5.out).mono ?_
    rintro e w6 ⟨rfl, hb6⟩
    have HU6 := Lib.hid (HU5.out.trans (hb6.mono HU5.out.size))
    clear hb6 HU5
    go_wp2_with fail
    refine (KL.out w6 HU6.out).mono ?_
    rintro e w7 ⟨rfl, hb7⟩
    have HU7 := Lib.hid (HU6.out.trans (hb7.mono HU6.out.size))
    clear hb7 HU6
    go_wp2_with fail
    refine (KR.out w7 HU7.out).mono ?_
    rintro e w8 ⟨rfl, hb8⟩
    have HU8 := Lib.hid (HU7.out.trans (hb8.mono HU7.out.size))
    clear hb8 HU7
    go_wp2_with fail
    refine (KL.out w8 HU8.out).mono ?_
    rintro e w9 ⟨rfl, hb9⟩
    have HU9 := Lib.hid (HU8.out.trans (hb9.mono HU8.out.size))
    clear hb9 HU8
    go_wp2_with fail
    refine (KN.out w9 HU9.out).mono ?_
    rintro e w10 ⟨vN, rfl, hownN, hb10⟩
    have HU10 := Lib.hid (HU9.out.trans (hb10.mono HU9.out.size))
    obtain ⟨AN, cN, rfl, _, _, _⟩ := hownN.form
    clear hb10 HU9 hownN hzz
    by_cases hN : N = []
    · have e1 : zL = 0 := HLZ.out.2 hN
      subst e1
      subst hN
      go_wp2_with fail
      go_ret
      exact ⟨rfl, HB3.out.trans (HU10.out.mono HB3.out.size)⟩
    · have e1 : zL ≠ 0 := fun e => hN (HLZ.out.1 e)
      have e2 : (zL == 0) = false := by simpa using e1
      have e3 : ((N.length : Int) == 0) = false := by
        simp
        exact hN
      clear hN
      go_wp2_with fail
      go_ret
      exact ⟨ret_bool (by simp [e1, e2, e3]), HB3.out.trans (HU10.out.mono HB3.out.size)⟩
end Go.Proofs.Ytemmfcinpkfoiaa.lawRangesLen
