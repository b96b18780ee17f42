/-
  Sets of times as lists of ranges: the program's keep, Clone, compare; what DeleteFunc does.
-/
import Derived.Test.YtheanpcbjjogfaaRgClone
import Derived.Lib.SliceRun
import Derived.Test.YtheanpcbjjogfaaRgLaid
namespace Go.Proofs.Ytheanpcbjjogfaa.rg
open Go.ChangeShapes Go.WideShapes Go.ChangeAt Go.RowKit plain words ord mem

/-- cmp.Compare of two whole numbers -/
def cmpI (a b : Int) : Int := if a < b then -1 else if b < a then 1 else 0
theorem isNaN_x (a : Int) (w : World) : Calls Try.prog 43 #[.int .i64 a] w fun e w' => e = .returned (.bool false) ∧ w = w' := by
  go_enter Try.func43, Try.ntmps43
  go_wp2_with fail
  go_ret
  exact ⟨ret_bool (by simp), rfl⟩
theorem cmp_x (a b : Int) (w : World) : Calls Try.prog 32 #[.int .i64 a, .int .i64 b] w fun e w' => e = .returned (.int .i64 (cmpI a b)) ∧ w = w' := by
  have h0 := fun a w => isNaN_x a w
  unfold cmpI
  rcases Int.lt_trichotomy a b with h | h | h
  · go_enter Try.func32, Try.ntmps32
    go_wp2_with (go_at_call 43; refine (h0 _ _).mono ?_; rintro e w1 ⟨rfl, rfl⟩)
    go_ret
    exact ⟨rfl, rfl⟩
  · subst h
    have h1 : ¬ a < a := by omega
    go_enter Try.func32, Try.ntmps32
    go_wp2_with (go_at_call 43; refine (h0 _ _).mono ?_; rintro e w1 ⟨rfl, rfl⟩)
    go_ret
    exact ⟨rfl, rfl⟩
  · have h1 : ¬ a < b := by omega
    go_enter Try.func32, Try.ntmps32
    go_wp2_with (go_at_call 43; refine (h0 _ _).mono ?_; rintro e w1 ⟨rfl, rfl⟩)
    go_ret
    exact ⟨rfl, rfl⟩
theorem less_x (x y : R) (w : World) : Calls Try.prog 31 #[.agg #[.int .i64 x.1, .int .i64 x.2], .agg #[.int .i64 y.1, .int .i64 y.2]] w fun e w' => e = .returned (.int .i64 (cmpI x.1 y.1)) ∧ ∃ os, w' = Sort.grow w os := by
  have h0 := fun w => cmp_x x.1 y.1 w
  generalize cmpI x.1 y.1 = r at h0 ⊢
  go_enter Try.func31, Try.ntmps31
  go_wp2_with (go_at_call 32; refine (h0 _).mono ?_; rintro e w1 ⟨rfl, rfl⟩)
  go_ret
  exact ⟨rfl, _, by rw [Sort.alloc_eq_grow, Sort.alloc_eq_grow, Sort.grow_grow]⟩
end Go.Proofs.Ytheanpcbjjogfaa.rg
