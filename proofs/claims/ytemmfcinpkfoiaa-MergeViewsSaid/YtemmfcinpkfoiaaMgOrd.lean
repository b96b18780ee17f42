/-
  Points: the program's order, and slices.SortFunc by it.
-/
import Derived.Test.YtemmfcinpkfoiaaMg
import Derived.Test.YtemmfcinpkfoiaaMgLaid
import Derived.Lib.SliceRun
import Derived.Test.YtemmfcinpkfoiaaRgDelX
namespace Go.Proofs.Ytemmfcinpkfoiaa.mg
open Go.ChangeShapes Go.WideShapes Go.ChangeAt Go.RowKit Go.Shelf plain words ord mem rg

theorem isNaNu_x (a : Int) (w : World) : Calls Try.prog 91 #[.int .u64 a] w fun e w' => e = .returned (.bool false) ∧ w = w' := by
  go_enter Try.func91, Try.ntmps91
  go_wp2_with fail
  go_ret
  exact ⟨ret_bool (by simp), rfl⟩
theorem cmpu_x (a b : Int) (w : World) : Calls Try.prog 70 #[.int .u64 a, .int .u64 b] w fun e w' => e = .returned (.int .i64 (cmpI a b)) ∧ w = w' := by
  have h0 := fun a w => isNaNu_x a w
  unfold cmpI
  rcases Int.lt_trichotomy a b with h | h | h
  · go_enter Try.func70, Try.ntmps70
    go_wp2_with (go_at_call 91; refine (h0 _ _).mono ?_; rintro e w1 ⟨rfl, rfl⟩)
    go_ret
    exact ⟨rfl, rfl⟩
  · subst h
    have h1 : ¬ a < a := by omega
    go_enter Try.func70, Try.ntmps70
    go_wp2_with (go_at_call 91; refine (h0 _ _).mono ?_; rintro e w1 ⟨rfl, rfl⟩)
    go_ret
    exact ⟨rfl, rfl⟩
  · have h1 : ¬ a < b := by omega
    go_enter Try.func70, Try.ntmps70
    go_wp2_with (go_at_call 91; refine (h0 _ _).mono ?_; rintro e w1 ⟨rfl, rfl⟩)
    go_ret
    exact ⟨rfl, rfl⟩
def or3 (a b c : Int) : Int := if a ≠ 0 then a else if b ≠ 0 then b else c
theorem or_x (w : World) (g : Nat) (a b c : Int) (h0 : w.cell? ⟨g, 0, none⟩ = some (.int .i64 a)) (h1 : w.cell? ⟨g, 1, none⟩ = some (.int .i64 b)) (h2 : w.cell? ⟨g, 2, none⟩ = some (.int .i64 c)) :
    Calls Try.prog 69 #[.slice (some ⟨g, 0, none⟩) 3 3] w fun e w' => e = .returned (.int .i64 (or3 a b c)) ∧ w = w' := by
  have hg := World.block_lt_of_cell? w _ h0
  simp only at hg
  go_enter Try.func69, Try.ntmps69
  go_wp2_with fail
  go_loop [8] (fun i => ∃ k : Nat, k ≤ 3 ∧ i = .int .i64 k ∧ (1 ≤ k → a = 0) ∧ (2 ≤ k → b = 0) ∧ (3 ≤ k → c = 0)) (fun i => 3 - (intOf i).toNat)
  case atStart => exact ⟨0, by omega, rfl, by omega, by omega, by omega⟩
  case round =>
    obtain ⟨k, hk, rfl, e0, e1, e2⟩ := hrel
    have hc : k = 0 ∨ k = 1 ∨ k = 2 ∨ k = 3 := by omega
    rcases hc with rfl | rfl | rfl | rfl
    · clear e0 e1 e2
      by_cases hz : a = 0
      · subst hz
        go_wp2_with fail
        go_round
        case rel => exact ⟨1, by omega, by go_num, fun _ => by simp, fun h => absurd h (by omega), fun h => absurd h (by omega)⟩
        case measure => simp [intOf]
      · have hz' : (a == 0) = false := by simpa using hz
        go_wp2_with fail
        go_ret
        exact ⟨by unfold or3; rw [if_pos hz]; rfl, rfl⟩
    · have ha := e0 (by omega)
      clear e0 e1 e2
      subst ha
      by_cases hz : b = 0
      · subst hz
        go_wp2_with fail
        go_round
        case rel => exact ⟨2, by omega, by go_num, fun _ => by simp, fun _ => by simp, fun h => absurd h (by omega)⟩
        case measure => simp [intOf]
      · have hz' : (b == 0) = false := by simpa using hz
        go_wp2_with fail
        go_ret
        exact ⟨by unfold or3; rw [if_neg (by simp), if_pos hz]; rfl, rfl⟩
    · have ha := e0 (by omega)
      have hb := e1 (by omega)
      clear e0 e1 e2
      subst ha hb
      by_cases hz : c = 0
      · subst hz
        go_wp2_with fail
        go_round
        case rel => exact ⟨3, by omega, by go_num, fun _ => by simp, fun _ => by simp, fun _ => by simp⟩
        case measure => simp [intOf]
      · have hz' : (c == 0) = false := by simpa using hz
        go_wp2_with fail
        go_ret
        exact ⟨by unfold or3; rw [if_neg (by simp), if_neg (by simp)]; rfl, rfl⟩
    · have ha := e0 (by omega)
      have hb := e1 (by omega)
      have hc := e2 (by omega)
      clear e0 e1 e2
      subst ha hb hc
      go_wp2_with fail
      go_ret
      exact ⟨rfl, rfl⟩
def cmpP (a b : Pt) : Int := or3 (cmpI a.1 b.1) (cmpI b.2.2 a.2.2) (cmpI b.2.1 a.2.1)
set_option maxHeartbeats 1000000 in
set_option maxRecDepth 100000 in
theorem order_x (a b : Pt) (w : World) : Calls Try.prog 58 #[.agg (ptE a).toArray, .agg (ptE b).toArray] w fun e w' => e = .returned (.int .i64 (cmpP a b)) ∧ ∃ os, w' = Sort.grow (w.drewN 1) os := by
  obtain ⟨a1, a2, a3⟩ := a
  obtain ⟨b1, b2, b3⟩ := b
  show Calls Try.prog 58 #[.agg #[.int .i64 a1, .int .u64 a2, .int .u64 a3], .agg #[.int .i64 b1, .int .u64 b2, .int .u64 b3]] w _
  obtain ⟨N, hN⟩ : ∃ N, w.heap.size = N := ⟨_, rfl⟩
  obtain ⟨w2, hw2⟩ : ∃ w2, (w.alloc (.cells #[.int .i64 a1, .int .u64 a2, .int .u64 a3] 24)).alloc (.cells #[.int .i64 b1, .int .u64 b2, .int .u64 b3] 24) = w2 := ⟨_, rfl⟩
  have f0 : w2.heap[N]? = some (.cells #[.int .i64 a1, .int .u64 a2, .int .u64 a3] 24 (0, 0)) := by rw [← hw2, ← hN]; exact alloc_old _ (alloc_new _ _)
  have f1 : w2.heap[N + 1]? = some (.cells #[.int .i64 b1, .int .u64 b2, .int .u64 b3] 24 (0, 0)) := by
    rw [← hw2, ← hN]
    have := alloc_new (w.alloc (.cells #[.int .i64 a1, .int .u64 a2, .int .u64 a3] 24)) (.cells #[.int .i64 b1, .int .u64 b2, .int .u64 b3] 24)
    rwa [World.size_alloc] at this
  have hs2 : w2.heap.size = N + 2 := by rw [← hw2, ← hN]; simp
  have q0 := Wb.at_ (w0 := w2) (a := ⟨N, 0, none⟩) (v := .int .i64 a1) (by rw [cell_of_row _ _ _ _ _ _ f0]; rfl)
  have q1 := Wb.at_ (w0 := w2) (a := ⟨N, 1, none⟩) (v := .int .u64 a2) (by rw [cell_of_row _ _ _ _ _ _ f0]; rfl)
  have q2 := Wb.at_ (w0 := w2) (a := ⟨N, 2, none⟩) (v := .int .u64 a3) (by rw [cell_of_row _ _ _ _ _ _ f0]; rfl)
  have q3 := Wb.at_ (w0 := w2) (a := ⟨N + 1, 0, none⟩) (v := .int .i64 b1) (by rw [cell_of_row _ _ _ _ _ _ f1]; rfl)
  have q4 := Wb.at_ (w0 := w2) (a := ⟨N + 1, 1, none⟩) (v := .int .u64 b2) (by rw [cell_of_row _ _ _ _ _ _ f1]; rfl)
  have q5 := Wb.at_ (w0 := w2) (a := ⟨N + 1, 2, none⟩) (v := .int .u64 b3) (by rw [cell_of_row _ _ _ _ _ _ f1]; rfl)
  have HW := Lib.hid (And.intro hN hw2)
  obtain ⟨r0, hr0⟩ : ∃ r, cmpI a1 b1 = r := ⟨_, rfl⟩
  obtain ⟨r1, hr1⟩ : ∃ r, cmpI b3 a3 = r := ⟨_, rfl⟩
  obtain ⟨r2, hr2⟩ : ∃ r, cmpI b2 a2 = r := ⟨_, rfl⟩
  have C0 := cmp_x a1 b1 w2.drew
  have C1 := cmpu_x b3 a3 w2.drew
  have C2 := cmpu_x b2 a2 w2.drew
  rw [hr0] at C0
  rw [hr1] at C1
  rw [hr2] at C2
  have HR := Lib.hid (show cmpP (a1, a2, a3) (b1, b2, b3) = or3 r0 r1 r2 by unfold cmpP; simp only [hr0, hr1, hr2])
  have HC0 := Lib.hid C0
  have HC1 := Lib.hid C1
  have HC2 := Lib.hid C2
  clear hN hw2 f0 f1 hr0 hr1 hr2 C0 C1 C2
  go_enter Try.func58, Try.ntmps58
  go_wp2_with fail
  rw [HW.out.1, HW.out.2]
  refine wp_region_plan [([0, 1, 2, 3, 5, 6, 7, 8, 10, 11, 12, 13], some (4, false)), ([], some (9, false)), ([], some (14, false)), ([], some (15, false)), ([], some (16, false)), ([17], none)] (by kernel_rfl) (by kernel_rfl) ?_
  refine seg_act _ (by dsimp only [pick, at_]) _ (by dsimp only [pick, at_]) ?_
  repeat (go_big_quiet_step (fail))
  refine wpQuiet_nil ?_
  intro K1 g1 g2
  clear g2 q0 q1 q2 q3 q4 q5
  go_wp2_with fail
  refine HC0.out.mono ?_
  rintro e w3 ⟨rfl, rfl⟩
  go_wp2_with fail
  refine g1 _ _ (Below.refl _ _).drew ?_
  clear g1
  refine seg_act _ (by dsimp only [pick, at_]) _ (by dsimp only [pick, at_]) ?_
  refine wpQuiet_nil ?_
  intro K1 g1 g2
  clear g2
  go_wp2_with fail
  refine HC1.out.mono ?_
  rintro e w3 ⟨rfl, rfl⟩
  go_wp2_with fail
  refine g1 _ _ (Below.refl _ _).drew ?_
  clear g1
  refine seg_act _ (by dsimp only [pick, at_]) _ (by dsimp only [pick, at_]) ?_
  refine wpQuiet_nil ?_
  intro K1 g1 g2
  clear g2
  go_wp2_with fail
  refine HC2.out.mono ?_
  rintro e w3 ⟨rfl, rfl⟩
  go_wp2_with fail
  refine g1 _ _ (Below.refl _ _).drew ?_
  clear g1
  refine seg_act _ (by dsimp only [pick, at_]) _ (by dsimp only [pick, at_]) ?_
  refine wpQuiet_nil ?_
  intro K1 g1 g2
  clear g2
  go_wp2_with fail
  obtain ⟨w4, hw4⟩ : ∃ w4, (w2.alloc (.cells #[.int .i64 r0, .int .i64 r1, .int .i64 r2] 3)).drew = w4 := ⟨_, rfl⟩
  have f4 : w4.heap[N + 2]? = some (.cells #[.int .i64 r0, .int .i64 r1, .int .i64 r2] 3 (0, 0)) := by rw [← hw4, ← hs2]; exact alloc_new w2 _
  have hb4 : Below w2.heap.size w2 w4 := by rw [← hw4]; exact ((Below.refl _ _).alloc (Nat.le_refl _) _).drew
  have HO := Lib.hid (or_x w4 (N + 2) r0 r1 r2 (by rw [cell_of_row _ _ _ _ _ _ f4]; rfl) (by rw [cell_of_row _ _ _ _ _ _ f4]; rfl) (by rw [cell_of_row _ _ _ _ _ _ f4]; rfl))
  have HW4 := Lib.hid hw4
  have HB4 := Lib.hid hb4
  clear hw4 hb4 f4
  rw [HW4.out]
  refine g1 _ _ HB4.out ?_
  clear g1
  refine seg_act _ (by dsimp only [pick, at_]) _ (by dsimp only [pick, at_]) ?_
  refine wpQuiet_nil ?_
  intro K1 g1 g2
  clear g2
  go_wp2_with fail
  refine HO.out.mono ?_
  rintro e w3 ⟨rfl, rfl⟩
  obtain ⟨r, hr⟩ : ∃ r, or3 r0 r1 r2 = r := ⟨_, rfl⟩
  rw [hr]
  go_wp2_with fail
  refine g1 _ _ HB4.out ?_
  clear g1
  refine seg_end _ (by dsimp only [pick, at_]) ?_
  repeat (go_big_quiet_step (fail))
  refine wpQuiet_nil ?_
  refine NoPanic.normal ?_
  have HRR := Lib.hid hr
  clear hr
  go_wp2_with fail
  go_ret
  refine ⟨by rw [HR.out, HRR.out]; rfl, ?_⟩
  exact ⟨_, by rw [← HW4.out, ← HW.out.2, Sort.alloc_eq_grow, Sort.alloc_eq_grow, Sort.alloc_eq_grow, Sort.grow_grow, Sort.grow_grow]; rfl⟩

theorem cmpI_lt (a b : Int) : cmpI a b = if a < b then -1 else if b < a then 1 else 0 := rfl
/-- the order that the sort goes by -/
def lessP (a b : Pt) : Bool := decide (a.1 < b.1) || (a.1 == b.1 && wins a b)
theorem ltOf_P (x y : Pt) : ltOf cmpP x y = lessP x y := by
  obtain ⟨a1, a2, a3⟩ := x
  obtain ⟨b1, b2, b3⟩ := y
  unfold ltOf cmpP lessP wins or3 cmpI
  simp only
  rcases Int.lt_trichotomy a1 b1 with h | h | h
  · simp [h]
  · subst h
    rcases Int.lt_trichotomy a3 b3 with h | h | h
    · have h1 : ¬ b3 < a3 := by omega
      have h2 : a3 ≠ b3 := by omega
      simp [h, h1, h2]
    · subst h
      rcases Int.lt_trichotomy a2 b2 with h | h | h
      · have h1 : ¬ b2 < a2 := by omega
        simp [h, h1]
      · subst h
        simp
      · have h1 : ¬ a2 < b2 := by omega
        simp [h]
    · have h1 : ¬ a3 < b3 := by omega
      have h2 : a3 ≠ b3 := by omega
      simp [h]
  · have h1 : ¬ a1 < b1 := by omega
    have h2 : a1 ≠ b1 := by omega
    simp [h, h1, h2]
theorem swoP : Sort.SWO (ltOf cmpP) := by
  refine ⟨fun x => ?_, fun x y z h1 h2 => ?_, fun x y z h1 h2 => ?_⟩
  · rw [ltOf_P]; simp [lessP, wins_irrefl]
  · rw [ltOf_P] at *
    obtain ⟨a1, a2, a3⟩ := x
    obtain ⟨b1, b2, b3⟩ := y
    obtain ⟨c1, c2, c3⟩ := z
    simp [lessP, wins] at *
    omega
  · rw [ltOf_P] at *
    obtain ⟨a1, a2, a3⟩ := x
    obtain ⟨b1, b2, b3⟩ := y
    obtain ⟨c1, c2, c3⟩ := z
    simp [lessP, wins] at *
    omega
end Go.Proofs.Ytemmfcinpkfoiaa.mg
