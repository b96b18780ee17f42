/-
  The walk of the law RangesSets.
-/
import Derived.Test.YtemmfcinpkfoiaaLawRangesOrder
import Derived.Test.YtemmfcinpkfoiaaRgAdd
import Derived.Test.YtemmfcinpkfoiaaRgLent
import Derived.Lib.SmallJoins
namespace Go.Proofs.Ytemmfcinpkfoiaa.lawRangesSets
open Go.ChangeShapes Go.WideShapes Go.ChangeAt Go.RowKit plain words ord mem rg lawRangesOrder

set_option maxHeartbeats 2000000 in
set_option maxRecDepth 100000 in
theorem walk_ok (A : Option Addr) (n c : Nat) (r1 r2 t : Int) (w : World) (h0 : IsPairs .i64 .i64 w A n c) (_ : (Lit.int .i64 r1).wf = true) (_ : (Lit.int .i64 r2).wf = true) (_ : (Lit.int .i64 t).wf = true) :
    Calls Try.prog 11 #[.slice A n c, .agg #[.int .i64 r1, .int .i64 r2], .int .i64 t] w fun e w' => e = .returned (.bool true) ∧ Below w.heap.size w w' := by
  obtain ⟨l, h, hA, hc1, hc2⟩ := rgs_of h0
  clear h0
  have hl := h.1
  obtain ⟨wb, hwb⟩ : ∃ wb, w.alloc (.cells #[.int .i64 r1, .int .i64 r2] 34) = wb := ⟨_, rfl⟩
  have hbb : Below w.heap.size w wb := by rw [← hwb]; exact below_a _ _
  have hbx : wb.heap[w.heap.size]? = some (.cells #[.int .i64 r1, .int .i64 r2] 34 (0, 0)) := by rw [← hwb]; exact alloc_new _ _
  have hsz := hbb.size
  have hbw : w.heap.size < wb.heap.size := blk_lt hbx
  by_cases hbig : 512 < n
  · have hbz : (512 : Int) < (n : Int) := by omega
    have HBB := Lib.hid hbb
    clear h hA hbb hbx
    go_enter Try.func11, Try.ntmps11
    go_wp2_with fail
    go_ret
    exact ⟨rfl, HBB.out⟩
  · have hbz : ¬ (512 : Int) < (n : Int) := by omega
    have hnl := normR_le l
    have hsl := subR_le l (r1, r2)
    have hal := addR_le (normR l) (r1, r2)
    rw [hl] at hnl hsl
    have HSE := Lib.hid (sub_eq l (r1, r2))
    have HLE := Lib.hid (lent_x wb w.heap.size n c A l (h.below hbb (Nat.le_refl _)) hA hsz (by omega))
    have HH := Lib.hid (h.below hbb (Nat.le_refl _))
    have HBB := Lib.hid hbb
    have HBX := Lib.hid hbx
    have HL := Lib.hid hl
    clear h hbb hbx hl
    go_enter Try.func11, Try.ntmps11
    go_wp2_with fail
    refine HLE.out.mono ?_
    rintro e w1 ⟨g, c1, rfl, hown1, hb1, hc11, hc12⟩
    have hs1 := hb1.size
    have hlw1 : w.heap.size < w1.heap.size := by omega
    have hy : Rgs w1 w1.heap.size (some ⟨g, 0, none⟩) n l := by
      have := rgs_take hown1.rgs n (by omega)
      rwa [List.take_left' HL.out] at this
    obtain ⟨b', off', hAe, hgl, x0, x1⟩ := hown1.rgs.at_ (i := n) (by omega)
    cases hAe
    have hx77 : w1.cell? ⟨g, 0 + n * 2, none⟩ = some (.int .i64 77) := by
      rw [x0]
      congr 2
      rw [List.getElem_append_right (by rw [HL.out]; exact Nat.le_refl _)]
      simp [HL.out]
    clear x0 x1
    have hBX1 := blk_below hb1 HBX.out hbw
    have d0 : w1.cell? ⟨w.heap.size, 0, none⟩ = some (.int .i64 r1) := by rw [cell_of_row _ _ _ _ _ _ hBX1]; rfl
    have d1 : w1.cell? ⟨w.heap.size, 1, none⟩ = some (.int .i64 r2) := by rw [cell_of_row _ _ _ _ _ _ hBX1]; rfl
    have HB1 := Lib.hid (HBB.out.trans (hb1.mono hsz))
    have HH1 := Lib.hid (HH.out.below hb1 hsz)
    have HY := Lib.hid hy
    have KN := Lib.hid (fun (u : World) (hu : Below w1.heap.size w1 u) => norm_x u w1.heap.size n c1 _ l (HY.out.below hu (Nat.le_refl _)) (fun e => by cases e) hu.size (by omega))
    have KRN := Lib.hid (fun (u : World) (hu : Below w1.heap.size w1 u) => rnorm_x u w.heap.size n c A l (HH1.out.below hu (by omega)) (by have := hu.size; omega) (by omega))
    have KA := Lib.hid (fun (u : World) (hu : Below w1.heap.size w1 u) => add_x u w1.heap.size n c1 _ l (HY.out.below hu (Nat.le_refl _)) (fun e => by cases e) hu.size (by omega) (r1, r2))
    have KRA := Lib.hid (fun (u : World) (hu : Below w1.heap.size w1 u) => radd_x u w.heap.size n c A l (HH1.out.below hu (by omega)) (by have := hu.size; omega) (by omega) (r1, r2))
    have KS := Lib.hid (fun (u : World) (hu : Below w1.heap.size w1 u) => sub_x u w1.heap.size n c1 _ l (HY.out.below hu (Nat.le_refl _)) (fun e => by cases e) hu.size (by omega) (r1, r2))
    have KRS := Lib.hid (fun (u : World) (hu : Below w1.heap.size w1 u) => rsub_x u w.heap.size n c A l (HH1.out.below hu (by omega)) (by have := hu.size; omega) (by omega) (r1, r2))
    have KH := Lib.hid (fun (u : World) (hu : Below w1.heap.size w1 u) => has_x u w1.heap.size n c1 _ l (HY.out.below hu (Nat.le_refl _)) hu.size (by omega) t)
    have KRH := Lib.hid (fun (u : World) (hu : Below w1.heap.size w1 u) => rhas_x u w.heap.size n c A l (HH1.out.below hu (by omega)) (by have := hu.size; omega) (by omega) t)
    have KC := Lib.hid (fun (u : World) (hu : Below w1.heap.size w1 u) => cov_x u w1.heap.size n c1 _ l (HY.out.below hu (Nat.le_refl _)) (fun e => by cases e) hu.size (by omega) (r1, r2))
    have KRC := Lib.hid (fun (u : World) (hu : Below w1.heap.size w1 u) => rcov_x u w.heap.size n c A l (HH1.out.below hu (by omega)) (by have := hu.size; omega) (by omega) (r1, r2))
    have KL := Lib.hid (fun (u : World) (hu : Below w1.heap.size w1 u) => len_x u w1.heap.size n c1 _ l (HY.out.below hu (Nat.le_refl _)) (fun e => by cases e) hu.size (by omega))
    have KRL := Lib.hid (fun (u : World) (hu : Below w1.heap.size w1 u) => rlen_x u w.heap.size n c A l (HH1.out.below hu (by omega)) (by have := hu.size; omega) (by omega))
    have KE := Lib.hid (fun (u : World) (hu : Below w1.heap.size w1 u) => same_x u w1.heap.size n c1 w.heap.size n c _ A l l (HY.out.below hu (Nat.le_refl _)) hu.size (HH1.out.below hu (by omega)) (by have := hu.size; omega) (by omega) true (by simp))
    have HSAME := Lib.hid (fun (S : List R) (hS : S.length ≤ 1000000) (u1 u2 : World) (v1 v2 : Value) (B1 B2 : Nat) (h1 : Own u1 B1 v1 S.length S) (h2 : Own u2 B2 v2 S.length S) (hu : Below u1.heap.size u1 u2) =>
      show ∃ A1 C1 A2 C2, v1 = .slice A1 S.length C1 ∧ v2 = .slice A2 S.length C2 ∧ Calls Try.prog 30 #[.slice A1 S.length C1, .slice A2 S.length C2] u2 (fun e w' => e = .returned (.bool true) ∧ Below u2.heap.size u2 w') from by
        obtain ⟨A1, C1, rfl, _, _, _⟩ := h1.form
        obtain ⟨A2, C2, rfl, _, _, _⟩ := h2.form
        exact ⟨A1, C1, A2, C2, rfl, rfl, same_x u2 u1.heap.size S.length C1 u2.heap.size S.length C2 A1 A2 S S (h1.rgs.below hu (Nat.le_refl _)) hu.size h2.rgs (Nat.le_refl _) (by omega) true (by simp)⟩)
    rw [HSE.out] at KS
    obtain ⟨q, hq⟩ : ∃ q, l.any (hasB t) = q := ⟨_, rfl⟩
    rw [hq] at KH KRH
    obtain ⟨q2, hq2⟩ : ∃ q, coverR l (r1, r2) = q := ⟨_, rfl⟩
    rw [hq2] at KC KRC
    generalize IntKind.u64.wrap (lenI (normR l)) = z at KL KRL
    generalize normR l = N at KN KRN hnl hal KA KRA
    generalize addR N (r1, r2) = T at KA KRA hal
    generalize subR l (r1, r2) = S at KS KRS hsl
    have hqq : (q == q) = true := by simp
    have hqq2 : (q2 == q2) = true := by simp
    have hzz : (z == z) = true := by simp
    clear hown1 hb1 hy HLE HSE HH HBX hBX1 hq hq2 HBB
    have i0 : (0 : Int) ≤ (n : Int) := by omega
    have i1 : (n : Int) ≤ (c1 : Int) := by omega
    have i2 : (n : Int) < (n : Int) + 1 := by omega
    go_wp2_with fail
    have q0 := Wb.at_ d0
    have q1 := Wb.at_ d1
    refine wp_region_plan [([0, 2], some (1, false)), ([], some (3, false)), ([], some (4, false)), ([5, 6, 7, 8, 10, 11], some (9, false)), ([], some (12, false)), ([], some (13, false)), ([14, 15, 16, 17, 18, 20, 21], some (19, false)), ([], some (22, false)), ([], some (23, false)), ([24, 25], none)] (by kernel_rfl) (by kernel_rfl) ?_
    refine seg_act _ (by dsimp only [pick, at_]) _ (by dsimp only [pick, at_]) ?_
    repeat (go_big_quiet_step (fail))
    refine wpQuiet_nil ?_
    intro K1 g1 g2
    clear g2
    go_wp2_with (fail)
    refine (KN.out w1.drew (Below.refl w1.heap.size w1).drew).mono ?_
    rintro e u1 ⟨v1, rfl, ho1, hb1⟩
    have hU1 : Below w1.heap.size w1 u1 := ((Below.refl w1.heap.size w1).drew).trans (hb1.mono ((Below.refl w1.heap.size w1).drew).size)
    have HO1 := Lib.hid ho1
    clear ho1 hb1
    go_wp2_with (fail)
    refine g1 _ _ hU1 ?_
    clear g1
    refine seg_act _ (by dsimp only [pick, at_]) _ (by dsimp only [pick, at_]) ?_
    repeat (go_big_quiet_step (fail))
    refine wpQuiet_nil ?_
    intro K2 g1 g2
    clear g2
    go_wp2_with (fail)
    refine (KRN.out u1 hU1).mono ?_
    rintro e u2 ⟨v2, rfl, ho2, hb2⟩
    have hU2 : Below w1.heap.size w1 u2 := hU1.trans (hb2.mono hU1.size)
    obtain ⟨A1, C1, A2, C2, rfl, rfl, hsm⟩ := HSAME.out N (by omega) u1 u2 v1 v2 _ _ HO1.out ho2 hb2
    have HSM := Lib.hid hsm
    clear ho2 hb2 hsm HO1 hU1
    go_wp2_with (fail)
    refine g1 _ _ hU2 ?_
    clear g1
    refine seg_act _ (by dsimp only [pick, at_]) _ (by dsimp only [pick, at_]) ?_
    repeat (go_big_quiet_step (fail))
    refine wpQuiet_nil ?_
    intro K3 g1 g2
    clear g2
    go_wp2_with (fail)
    refine HSM.out.mono ?_
    rintro e u3 ⟨rfl, hb3⟩
    have hU3 : Below w1.heap.size w1 u3 := hU2.trans (hb3.mono hU2.size)
    clear hb3 HSM hU2
    go_wp2_with (fail)
    refine g1 _ _ hU3 ?_
    clear g1
    refine seg_act _ (by dsimp only [pick, at_]) _ (by dsimp only [pick, at_]) ?_
    repeat (go_big_quiet_step (fail))
    refine wpQuiet_nil ?_
    intro K4 g1 g2
    clear g2
    go_wp2_with (fail)
    refine (KA.out u3 hU3).mono ?_
    rintro e u4 ⟨v4, rfl, ho4, hb4⟩
    have hU4 : Below w1.heap.size w1 u4 := (hU3).trans (hb4.mono (hU3).size)
    have HO4 := Lib.hid ho4
    clear ho4 hb4
    go_wp2_with (fail)
    refine g1 _ _ hU4 ?_
    clear g1
    refine seg_act _ (by dsimp only [pick, at_]) _ (by dsimp only [pick, at_]) ?_
    repeat (go_big_quiet_step (fail))
    refine wpQuiet_nil ?_
    intro K5 g1 g2
    clear g2
    go_wp2_with (fail)
    refine (KRA.out u4 hU4).mono ?_
    rintro e u5 ⟨v5, rfl, ho5, hb5⟩
    have hU5 : Below w1.heap.size w1 u5 := hU4.trans (hb5.mono hU4.size)
    obtain ⟨A1, C1, A2, C2, rfl, rfl, hsm⟩ := HSAME.out T (by omega) u4 u5 v4 v5 _ _ HO4.out ho5 hb5
    have HSM := Lib.hid hsm
    clear ho5 hb5 hsm HO4 hU4
    go_wp2_with (fail)
    refine g1 _ _ hU5 ?_
    clear g1
    refine seg_act _ (by dsimp only [pick, at_]) _ (by dsimp only [pick, at_]) ?_
    repeat (go_big_quiet_step (fail))
    refine wpQuiet_nil ?_
    intro K6 g1 g2
    clear g2
    go_wp2_with (fail)
    refine HSM.out.mono ?_
    rintro e u6 ⟨rfl, hb6⟩
    have hU6 : Below w1.heap.size w1 u6 := hU5.trans (hb6.mono hU5.size)
    clear hb6 HSM hU5
    go_wp2_with (fail)
    refine g1 _ _ hU6 ?_
    clear g1
    refine seg_act _ (by dsimp only [pick, at_]) _ (by dsimp only [pick, at_]) ?_
    repeat (go_big_quiet_step (fail))
    refine wpQuiet_nil ?_
    intro K7 g1 g2
    clear g2
    go_wp2_with (fail)
    refine (KS.out u6 hU6).mono ?_
    rintro e u7 ⟨v7, rfl, ho7, hb7⟩
    have hU7 : Below w1.heap.size w1 u7 := (hU6).trans (hb7.mono (hU6).size)
    have HO7 := Lib.hid ho7
    clear ho7 hb7
    go_wp2_with (fail)
    refine g1 _ _ hU7 ?_
    clear g1
    refine seg_act _ (by dsimp only [pick, at_]) _ (by dsimp only [pick, at_]) ?_
    repeat (go_big_quiet_step (fail))
    refine wpQuiet_nil ?_
    intro K8 g1 g2
    clear g2
    go_wp2_with (fail)
    refine (KRS.out u7 hU7).mono ?_
    rintro e u8 ⟨v8, rfl, ho8, hb8⟩
    have hU8 : Below w1.heap.size w1 u8 := hU7.trans (hb8.mono hU7.size)
    obtain ⟨A1, C1, A2, C2, rfl, rfl, hsm⟩ := HSAME.out S (by omega) u7 u8 v7 v8 _ _ HO7.out ho8 hb8
    have HSM := Lib.hid hsm
    clear ho8 hb8 hsm HO7 hU7
    go_wp2_with (fail)
    refine g1 _ _ hU8 ?_
    clear g1
    refine seg_act _ (by dsimp only [pick, at_]) _ (by dsimp only [pick, at_]) ?_
    repeat (go_big_quiet_step (fail))
    refine wpQuiet_nil ?_
    intro K9 g1 g2
    clear g2
    go_wp2_with (fail)
    refine HSM.out.mono ?_
    rintro e u9 ⟨rfl, hb9⟩
    have hU9 : Below w1.heap.size w1 u9 := hU8.trans (hb9.mono hU8.size)
    clear hb9 HSM hU8
    go_wp2_with (fail)
    refine g1 _ _ hU9 ?_
    clear g1
    refine seg_end _ (by dsimp only [pick, at_]) ?_
    repeat (go_big_quiet_step (fail))
    refine wpQuiet_nil ?_
    refine NoPanic.normal ?_
    clear q0 q1
    have hs9 := hU9.size
    have d2 : u9.cell? ⟨w.heap.size, 0, none⟩ = some (.int .i64 r1) := (hU9.cell (p := ⟨w.heap.size, 0, none⟩) hlw1).trans d0
    have d3 : u9.cell? ⟨w.heap.size, 1, none⟩ = some (.int .i64 r2) := (hU9.cell (p := ⟨w.heap.size, 1, none⟩) hlw1).trans d1
    have d4 : u9.cell? ⟨g, n * 2, none⟩ = some (.int .i64 77) := (hU9.cell (p := ⟨g, n * 2, none⟩) hgl).trans (by rw [← hx77, Nat.zero_add])
    clear KN KRN KA KRA KS KRS HSAME d0 d1 hx77
    go_wp2_with (fail)
    have q0 := Wb.at_ d2
    have q1 := Wb.at_ d3
    have q2 := Wb.at_ d4
    refine wp_region_plan [([0, 1, 3, 4], some (2, false)), ([], some (5, false)), ([6, 7, 8, 9, 11, 12], some (10, false)), ([], some (13, false)), ([14, 15, 16, 17, 19], some (18, false)), ([], some (20, false)), ([21, 22, 23, 24, 25, 26, 27, 28, 29, 30, 31, 32, 33, 34], some (35, false)), ([36, 37], none)] (by kernel_rfl) (by kernel_rfl) ?_
    refine seg_act _ (by dsimp only [pick, at_]) _ (by dsimp only [pick, at_]) ?_
    repeat (go_big_quiet_step (fail))
    refine wpQuiet_nil ?_
    intro K10 g1 g2
    clear g2
    go_wp2_with (fail)
    refine (KH.out u9.drew hU9.drew).mono ?_
    rintro e u10 ⟨rfl, hb10⟩
    have hU10 : Below w1.heap.size w1 u10 := (hU9.drew).trans (hb10.mono (hU9.drew).size)
    have hV10 : Below u9.heap.size u9 u10 := ((Below.refl u9.heap.size u9).drew).trans (hb10.mono ((Below.refl u9.heap.size u9).drew).size)
    clear hb10
    go_wp2_with (fail)
    refine g1 _ _ hV10 ?_
    clear g1
    refine seg_act _ (by dsimp only [pick, at_]) _ (by dsimp only [pick, at_]) ?_
    repeat (go_big_quiet_step (fail))
    refine wpQuiet_nil ?_
    intro K11 g1 g2
    clear g2
    go_wp2_with (fail)
    refine (KRH.out u10 hU10).mono ?_
    rintro e u11 ⟨rfl, hb11⟩
    have hU11 : Below w1.heap.size w1 u11 := (hU10).trans (hb11.mono (hU10).size)
    have hV11 : Below u9.heap.size u9 u11 := (hV10).trans (hb11.mono (hV10).size)
    clear hb11
    go_wp2_with (fail)
    refine g1 _ _ hV11 ?_
    clear g1
    refine seg_act _ (by dsimp only [pick, at_]) _ (by dsimp only [pick, at_]) ?_
    repeat (go_big_quiet_step (fail))
    refine wpQuiet_nil ?_
    intro K12 g1 g2
    clear g2
    go_wp2_with (fail)
    refine (KC.out u11 hU11).mono ?_
    rintro e u12 ⟨rfl, hb12⟩
    have hU12 : Below w1.heap.size w1 u12 := (hU11).trans (hb12.mono (hU11).size)
    have hV12 : Below u9.heap.size u9 u12 := (hV11).trans (hb12.mono (hV11).size)
    clear hb12
    go_wp2_with (fail)
    refine g1 _ _ hV12 ?_
    clear g1
    refine seg_act _ (by dsimp only [pick, at_]) _ (by dsimp only [pick, at_]) ?_
    repeat (go_big_quiet_step (fail))
    refine wpQuiet_nil ?_
    intro K13 g1 g2
    clear g2
    go_wp2_with (fail)
    refine (KRC.out u12 hU12).mono ?_
    rintro e u13 ⟨rfl, hb13⟩
    have hU13 : Below w1.heap.size w1 u13 := (hU12).trans (hb13.mono (hU12).size)
    have hV13 : Below u9.heap.size u9 u13 := (hV12).trans (hb13.mono (hV12).size)
    clear hb13
    go_wp2_with (fail)
    refine g1 _ _ hV13 ?_
    clear g1
    refine seg_act _ (by dsimp only [pick, at_]) _ (by dsimp only [pick, at_]) ?_
    repeat (go_big_quiet_step (fail))
    refine wpQuiet_nil ?_
    intro K14 g1 g2
    clear g2
    go_wp2_with (fail)
    refine (KL.out u13 hU13).mono ?_
    rintro e u14 ⟨rfl, hb14⟩
    have hU14 : Below w1.heap.size w1 u14 := (hU13).trans (hb14.mono (hU13).size)
    have hV14 : Below u9.heap.size u9 u14 := (hV13).trans (hb14.mono (hV13).size)
    clear hb14
    go_wp2_with (fail)
    refine g1 _ _ hV14 ?_
    clear g1
    refine seg_act _ (by dsimp only [pick, at_]) _ (by dsimp only [pick, at_]) ?_
    repeat (go_big_quiet_step (fail))
    refine wpQuiet_nil ?_
    intro K15 g1 g2
    clear g2
    go_wp2_with (fail)
    refine (KRL.out u14 hU14).mono ?_
    rintro e u15 ⟨rfl, hb15⟩
    have hU15 : Below w1.heap.size w1 u15 := (hU14).trans (hb15.mono (hU14).size)
    have hV15 : Below u9.heap.size u9 u15 := (hV14).trans (hb15.mono (hV14).size)
    clear hb15
    go_wp2_with (fail)
    refine g1 _ _ hV15 ?_
    clear g1
    refine seg_act _ (by dsimp only [pick, at_]) _ (by dsimp only [pick, at_]) ?_
    repeat (go_big_quiet_step (fail))
    refine wpQuiet_nil ?_
    intro K16 g1 g2
    clear g2
    go_wp2_with (fail)
    refine (KE.out u15 hU15).mono ?_
    rintro e u16 ⟨rfl, hb16⟩
    have hU16 : Below w1.heap.size w1 u16 := (hU15).trans (hb16.mono (hU15).size)
    have hV16 : Below u9.heap.size u9 u16 := (hV15).trans (hb16.mono (hV15).size)
    clear hb16
    go_wp2_with (fail)
    refine g1 _ _ hV16 ?_
    clear g1
    refine seg_end _ (by dsimp only [pick, at_]) ?_
    repeat (go_big_quiet_step (fail))
    refine wpQuiet_nil ?_
    refine NoPanic.normal ?_
    go_wp2_with (fail)
    go_ret
    exact ⟨rfl, HB1.out.trans (hU16.mono (by have := HB1.out.size; omega))⟩
end Go.Proofs.Ytemmfcinpkfoiaa.lawRangesSets
