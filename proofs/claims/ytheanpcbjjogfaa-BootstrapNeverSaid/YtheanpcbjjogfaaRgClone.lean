/-
  Sets of times as lists of ranges: the program's Clone.
-/
import Derived.Test.YtheanpcbjjogfaaRgRef3
import Derived.Lib.SliceRun
namespace Go.Proofs.Ytheanpcbjjogfaa.rg
open Go.ChangeShapes Go.WideShapes Go.ChangeAt Go.RowKit plain words ord mem

theorem clone_rg (w : World) (B n c : Nat) (A : Option Addr) (l : List R) (h : Rgs w B A n l) (hA : A = none → c = 0) (hB : B ≤ w.heap.size) (hn : n ≤ 1000000) :
    Calls Try.prog 28 #[.slice A n c] w (RetRg w w.heap.size l) := by
  have hl := h.1
  cases A with
  | none =>
    have hn : n = 0 := by
      rcases Nat.eq_zero_or_pos n with h0 | h0
      · exact h0
      · obtain ⟨_, _, e, _⟩ := Rd.some_of h.2 (show 0 < n * 2 by omega); cases e
    subst hn
    obtain rfl := hA rfl
    obtain rfl := List.eq_nil_of_length_eq_zero h.1
    have hne : ∀ w : World, (binOp .eql 55 (.slice none 0 0) (.slice none 0 0)).run Try.prog w = .ok (.bool true) w := fun w => Lib.run_eql_slice_nil_nil w _ _ Try.underlying55
    go_enter Try.func28, Try.ntmps28
    go_wp2_with fail
    go_ret
    exact ⟨_, rfl, Own.nil _ _, Below.refl _ _⟩
  | some ad =>
    have hne : ∀ w : World, (binOp .eql 55 (.slice (some ad) n c) (.slice none 0 0)).run Try.prog w = .ok (.bool false) w := fun w => Lib.run_eql_slice_some_nil w _ _ _ Try.underlying55
    have hrd := h.below (below_a w (.cells #[] 27)) hB
    have hown := Own.lit w
    have hb0 := below_a w (.cells #[] 27)
    go_enter Try.func28, Try.ntmps28
    go_wp2_with (at_builtin; refine wpList_append_rg rfl (.tmp 5) (.tmp 6) rfl w.heap.size _ 0 [] rfl hown B (some ad) n c (fun e => by cases e) l rfl hrd (by omega) (by simp) w hb0 ?_; intro A2 c2 w2 hown2 hb2 hA2 hc21 hc22 hs2)
    go_ret
    simp only [Nat.zero_add, List.nil_append] at hown2
    refine ⟨_, rfl, ?_, hb2⟩
    rw [hl]
    exact hown2
end Go.Proofs.Ytheanpcbjjogfaa.rg
