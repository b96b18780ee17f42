/-
  The commit log's Encode: the closures that write a number.
-/
import Derived.Test.YthkcnakodlbdpaaClF
import Derived.Test.YthkcnakodlbdpaaRow
namespace Go.Proofs.Ythkcnakodlbdpaa.cl
open Go.ChangeShapes Go.WideShapes Go.ChangeAt Go.RowKit plain words ord mem uvs uvc

/-- a variable at block g that holds bytes in a row of its own, from block B on -/
def OutV (w : World) (g B : Nat) (l : By) : Prop :=
  ∃ A c, w.heap[g]? = some (.cells #[.slice A l.length c] 33 (0, 0)) ∧ w.ownsRow B 5 1 (.slice A l.length c) l.length (u8s l)
/-- bytes are added to the variable; what lay below B stays, but for the variable -/
def RetOut (w : World) (g B : Nat) (l : By) (e : Ending) (w' : World) : Prop := e = .returned (.tuple #[]) ∧ OutV w' g B l ∧ Chg (fun k => k = g ∨ B ≤ k) w w'
theorem own_fit {w : World} {B n : Nat} {v : Value} {l : By} (hl : l.length = n) (h : w.ownsRow B 5 1 v n (u8s l)) : ∃ A c, v = .slice A n c ∧ (A = none → c = 0) ∧ n ≤ c ∧ c ≤ 9223372036854775807 := by
  rcases own_form h with ⟨rfl, e0⟩ | ⟨g, cap, rfl, _, _, h1, h2⟩
  · exact ⟨none, 0, by rw [e0], fun _ => rfl, by omega, by omega⟩
  · unfold maxLen at h2
    exact ⟨_, cap, rfl, (fun e => by cases e), h1, h2⟩
theorem chg_set (w : World) (g o : Nat) (u : Value) : Chg (fun k => k = g) w (w.setCell ⟨g, o, none⟩ u) := Chg.setCell (S := fun k => k = g) (Chg.refl _ _) (p := ⟨g, o, none⟩) (fun _ => rfl) u
theorem out_put {w w2 : World} {g B n : Nat} {v0 v2 : Value} {l : By} (hg : w2.heap[g]? = some (.cells #[v0] 33 (0, 0))) (ho : w2.ownsRow B 5 1 v2 n (u8s l)) (hl : l.length = n) (hb : Chg (fun k => k = g ∨ B ≤ k) w w2) (hgB : g < B) :
    RetOut w g B l (.returned (.tuple #[])) (w2.setCell ⟨g, 0, none⟩ v2) := by
  subst hl
  obtain ⟨A, c, rfl, _⟩ := own_fit rfl ho
  refine ⟨rfl, ⟨A, c, ?_, own_chg ho (chg_set w2 g 0 _) (fun k hk e => by have := (ho.lt k hk).1; omega)⟩, hb.setCell (p := ⟨g, 0, none⟩) (fun _ => .inl rfl) _⟩
  have := heap_setCell_same w2 g 0 _ _ (.slice A l.length c) hg
  simpa using this
end Go.Proofs.Ythkcnakodlbdpaa.cl
