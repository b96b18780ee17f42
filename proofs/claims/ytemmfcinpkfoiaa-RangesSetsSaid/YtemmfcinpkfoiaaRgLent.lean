/-
  Ranges: the law's lent.
-/
import Derived.Test.YtemmfcinpkfoiaaRgRef2
namespace Go.Proofs.Ytemmfcinpkfoiaa.rg
open Go.ChangeShapes Go.WideShapes Go.ChangeAt Go.RowKit plain words ord mem

set_option maxHeartbeats 1000000 in
theorem lent_x (w : World) (B n c : Nat) (A : Option Addr) (l : List R) (h : Rgs w B A n l) (hA : A = none → c = 0) (hB : B ≤ w.heap.size) (hn : n ≤ 1000000) :
    Calls Try.prog 31 #[.slice A n c] w fun e w' => ∃ g c', e = .returned (.slice (some ⟨g, 0, none⟩) (n + 1) c') ∧ Own w' w.heap.size (.slice (some ⟨g, 0, none⟩) (n + 1) c') (n + 1) (l ++ [(77, 0)]) ∧ Below w.heap.size w w' ∧ n + 1 ≤ c' ∧ c' ≤ 9223372036854775807 := by
  have hl := h.1
  have ho0 := Own.lit w
  have hb0 := below_a w (.cells #[] 34)
  have hr0 := h.below hb0 hB
  have hs0 := hb0.size
  have HL := Lib.hid hl
  clear h hl
  go_enter Try.func31, Try.ntmps31
  go_wp2_with (first
    | (at_builtin; refine wpList_append_rg rfl (.tmp 5) (.tmp 6) rfl w.heap.size _ 0 [] rfl ho0 B A n c hA l rfl hr0 (by omega) hs0 w hb0 ?_; intro A2 c2 w2 hown2 hb2 hA2 hc21 hc22 hs2; simp only [Nat.zero_add, List.nil_append] at hown2; have hs3 := hb2.size)
    | (at_builtin; refine wpList_append_rg rfl (.tmp 8) (.tmp 10) rfl w.heap.size _ n l (by rfl) (hown2.below (below_a w2 _) (Nat.le_refl _)) (w2.heap.size + 1) _ 1 1 (fun e => by cases e) [(77, 0)] rfl (rgs_new (w := w2) _ (77, 0)) (by omega) (by simp; omega) w (hb2.trans ((below_a w2 _).mono (by omega))) ?_; intro A3 c3 w3 hown3 hb3 hA3 hc31 hc32 hs4))
  go_ret
  obtain ⟨g, rfl, _, _, _, _⟩ := own_pos hown3.2 (by omega)
  exact ⟨g, c3, rfl, hown3, hb3, hc31, hc32⟩

end Go.Proofs.Ytemmfcinpkfoiaa.rg
