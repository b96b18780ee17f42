/-
  Sets of times as lists of ranges: the document's own Sub, Covers, Len.
-/
import Derived.Test.YtheanpcbjjogfaaRgRef2
namespace Go.Proofs.Ytheanpcbjjogfaa.rg
open Go.ChangeShapes Go.WideShapes Go.ChangeAt Go.RowKit plain words ord mem

def subStep (r : R) (out : List R) (x : R) : List R := addR (addR out (x.1, min x.2 r.1)) (max x.1 r.2, x.2)
theorem subR_else (l : List R) {r : R} (h : ¬ r.2 ≤ r.1) : subR l r = (normR l).foldl (subStep r) [] := by unfold subR; rw [if_neg h]; rfl
theorem subF_le (r : R) (l acc : List R) : (l.foldl (subStep r) acc).length ≤ acc.length + 2 * l.length := by
  induction l generalizing acc with
  | nil => simp
  | cons x l ih =>
    have h1 := ih (subStep r acc x)
    have h2 : (subStep r acc x).length ≤ acc.length + 2 := by
      have := addR_le (addR acc (x.1, min x.2 r.1)) (max x.1 r.2, x.2)
      have := addR_le acc (x.1, min x.2 r.1)
      unfold subStep
      omega
    simp only [List.foldl_cons, List.length_cons]
    omega
theorem subF_take (r : R) {l : List R} {i : Nat} (hi : i < l.length) {x : R} (hx : l[i] = x) : (l.take (i + 1)).foldl (subStep r) [] = subStep r ((l.take i).foldl (subStep r) []) x := by
  rw [List.take_succ_eq_append_getElem hi, List.foldl_append, hx]; rfl
theorem subR_le (l : List R) (r : R) : (subR l r).length ≤ 2 * l.length := by
  have h0 := normR_le l
  by_cases h : r.2 ≤ r.1
  · unfold subR; rw [if_pos h]; omega
  · rw [subR_else l h]
    have := subF_le r (normR l) []
    simp at this
    omega

theorem wrap64 (z : Int) : IntKind.u64.wrap z = z % 18446744073709551616 := by simp [IntKind.wrap, IntKind.bits, IntKind.signed]
theorem len_step (S a b : Int) : IntKind.u64.wrap (IntKind.u64.wrap S + IntKind.u64.wrap (IntKind.u64.wrap a - IntKind.u64.wrap b)) = IntKind.u64.wrap (S + (a - b)) := by
  simp only [wrap64]; omega
theorem lenI_take {l : List R} {i : Nat} (hi : i < l.length) {x : R} (hx : l[i] = x) : lenI (l.take (i + 1)) = lenI (l.take i) + (x.2 - x.1) := by
  rw [List.take_succ_eq_append_getElem hi, lenI_append, hx, lenI_cons, lenI_nil]; omega

end Go.Proofs.Ytheanpcbjjogfaa.rg
