/-
  Sets of times as lists of ranges: the program's keep, Clone, compare; what DeleteFunc does.
-/
import Derived.Test.YtemmfcinpkfoiaaRgRef3
import Derived.Lib.SliceRun
import Derived.Test.YtemmfcinpkfoiaaRgLaid
namespace Go.Proofs.Ytemmfcinpkfoiaa.rg
open Go.ChangeShapes Go.WideShapes Go.ChangeAt Go.RowKit plain words ord mem

theorem clone_rg (w : World) (B n c : Nat) (A : Option Addr) (l : List R) (h : Rgs w B A n l) (hA : A = none → c = 0) (hB : B ≤ w.heap.size) (hn : n ≤ 1000000) :
    Calls Try.prog 47 #[.slice A n c] w (RetRg w w.heap.size l) := by
  have hl := h.1
  cases A with
  | none =>
    have hn : n = 0 := by
      rcases Nat.eq_zero_or_pos n with h0 | h0
      · exact h0
      · obtain ⟨_, _, e, _⟩ := Rd.some_of h.2 (show 0 < n * 2 by omega); cases e
    subst hn
    obtain rfl := hA rfl
    obtain rfl := List.eq_nil_of_length_eq_zero h.1
    have hne : ∀ w : World, (binOp .eql 44 (.slice none 0 0) (.slice none 0 0)).run Try.prog w = .ok (.bool true) w := fun w => Lib.run_eql_slice_nil_nil w _ _ Try.underlying44
    go_enter Try.func47, Try.ntmps47
    go_wp2_with fail
    go_ret
    exact ⟨_, rfl, Own.nil _ _, Below.refl _ _⟩
  | some ad =>
    have hne : ∀ w : World, (binOp .eql 44 (.slice (some ad) n c) (.slice none 0 0)).run Try.prog w = .ok (.bool false) w := fun w => Lib.run_eql_slice_some_nil w _ _ _ Try.underlying44
    have hrd := h.below (below_a w (.cells #[] 34)) hB
    have hown := Own.lit w
    have hb0 := below_a w (.cells #[] 34)
    go_enter Try.func47, Try.ntmps47
    go_wp2_with (at_builtin; refine wpList_append_rg rfl (.tmp 5) (.tmp 6) rfl w.heap.size _ 0 [] rfl hown B (some ad) n c (fun e => by cases e) l rfl hrd (by omega) (by simp) w hb0 ?_; intro A2 c2 w2 hown2 hb2 hA2 hc21 hc22 hs2)
    go_ret
    simp only [Nat.zero_add, List.nil_append] at hown2
    refine ⟨_, rfl, ?_, hb2⟩
    rw [hl]
    exact hown2
/-- cmp.Compare of two whole numbers -/
def cmpI (a b : Int) : Int := if a < b then -1 else if b < a then 1 else 0
theorem isNaN_x (a : Int) (w : World) : Calls Try.prog 67 #[.int .i64 a] w fun e w' => e = .returned (.bool false) ∧ w = w' := by
  go_enter Try.func67, Try.ntmps67
  go_wp2_with fail
  go_ret
  exact ⟨ret_bool (by simp), rfl⟩
theorem cmp_x (a b : Int) (w : World) : Calls Try.prog 51 #[.int .i64 a, .int .i64 b] w fun e w' => e = .returned (.int .i64 (cmpI a b)) ∧ w = w' := by
  have h0 := fun a w => isNaN_x a w
  unfold cmpI
  rcases Int.lt_trichotomy a b with h | h | h
  · go_enter Try.func51, Try.ntmps51
    go_wp2_with (go_at_call 67; refine (h0 _ _).mono ?_; rintro e w1 ⟨rfl, rfl⟩)
    go_ret
    exact ⟨rfl, rfl⟩
  · subst h
    have h1 : ¬ a < a := by omega
    go_enter Try.func51, Try.ntmps51
    go_wp2_with (go_at_call 67; refine (h0 _ _).mono ?_; rintro e w1 ⟨rfl, rfl⟩)
    go_ret
    exact ⟨rfl, rfl⟩
  · have h1 : ¬ a < b := by omega
    go_enter Try.func51, Try.ntmps51
    go_wp2_with (go_at_call 67; refine (h0 _ _).mono ?_; rintro e w1 ⟨rfl, rfl⟩)
    go_ret
    exact ⟨rfl, rfl⟩
theorem less_x (x y : R) (w : World) : Calls Try.prog 50 #[.agg #[.int .i64 x.1, .int .i64 x.2], .agg #[.int .i64 y.1, .int .i64 y.2]] w fun e w' => e = .returned (.int .i64 (cmpI x.1 y.1)) ∧ ∃ os, w' = Sort.grow w os := by
  have h0 := fun w => cmp_x x.1 y.1 w
  generalize cmpI x.1 y.1 = r at h0 ⊢
  go_enter Try.func50, Try.ntmps50
  go_wp2_with (go_at_call 51; refine (h0 _).mono ?_; rintro e w1 ⟨rfl, rfl⟩)
  go_ret
  exact ⟨rfl, _, by rw [Sort.alloc_eq_grow, Sort.alloc_eq_grow, Sort.grow_grow]⟩
end Go.Proofs.Ytemmfcinpkfoiaa.rg
