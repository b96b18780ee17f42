/-
  Sets of times as lists of ranges: the document's own answer, whole.
-/
import Derived.Test.YtheanpcbjjogfaaRgRef
namespace Go.Proofs.Ytheanpcbjjogfaa.rg
open Go.ChangeShapes Go.WideShapes Go.ChangeAt Go.RowKit plain words ord mem

theorem eat_le (l : List R) (r : R) : (eat l r).length ≤ l.length + 1 := by
  induction l generalizing r with
  | nil => simp [eat]
  | cons x l ih =>
    rw [eat]
    split
    · have := ih (min r.1 x.1, max r.2 x.2); simp; omega
    · simp
theorem addF_le (l : List R) (r : R) : (addF l r).length ≤ l.length + 1 := by
  induction l with
  | nil => simp [addF]
  | cons x l ih =>
    rw [addF]
    split
    · simp; omega
    · exact eat_le _ _
theorem addR_le (l : List R) (r : R) : (addR l r).length ≤ l.length + 1 := by
  unfold addR
  split
  · omega
  · exact addF_le l r
theorem fold_le (l acc : List R) : (l.foldl addR acc).length ≤ acc.length + l.length := by
  induction l generalizing acc with
  | nil => simp
  | cons x l ih =>
    have h1 := ih (addR acc x)
    have h2 := addR_le acc x
    simp only [List.foldl_cons, List.length_cons]
    omega
theorem normR_le (l : List R) : (normR l).length ≤ l.length := by have := fold_le l []; simpa [normR] using this
theorem fold_take {l : List R} {i : Nat} (hi : i < l.length) {x : R} (hx : l[i] = x) : (l.take (i + 1)).foldl addR [] = addR ((l.take i).foldl addR []) x := by
  rw [List.take_succ_eq_append_getElem hi, List.foldl_append, hx]; rfl

/-- a list of ranges in a row of its own is returned -/
def RetRg (w : World) (B : Nat) (l : List R) (e : Ending) (w' : World) : Prop := ∃ v', e = .returned v' ∧ Own w' B v' l.length l ∧ Below w.heap.size w w'
theorem Own.addr {w : World} {B n c : Nat} {A : Option Addr} {l : List R} (h : Own w B (.slice A n c) n l) : (A = none → c = 0) ∧ ∀ ad, A = some ad → ∃ g off, ad = (⟨g, off, none⟩ : Addr) := by
  rcases own_form h.2 with ⟨e, rfl⟩ | ⟨g, cap, e, _, _, _, _⟩
  · cases e; exact ⟨fun _ => rfl, fun ad e => (by cases e)⟩
  · cases e; exact ⟨fun e => (by cases e), fun ad e => ⟨g, 0, by cases e; rfl⟩⟩

end Go.Proofs.Ytheanpcbjjogfaa.rg
