/-
  Lists of structs as cells: k cells an element.
-/
import Derived.Test.YtheanpcbjjogfaaRow
namespace Go.Proofs.Ytheanpcbjjogfaa.mem
open Go.ChangeShapes Go.WideShapes Go.ChangeAt Go.RowKit plain words ord

def cs {α : Type} (enc : α → List Value) (l : List α) : List Value := l.flatMap enc
section
variable {α : Type} {enc : α → List Value} {k : Nat}
theorem cs_nil : cs enc [] = [] := rfl
theorem cs_cons (x : α) (l : List α) : cs enc (x :: l) = enc x ++ cs enc l := rfl
theorem cs_append (l m : List α) : cs enc (l ++ m) = cs enc l ++ cs enc m := by simp [cs]
theorem cs_one (x : α) : cs enc [x] = enc x := by simp [cs]
theorem cs_len (hk : ∀ x, (enc x).length = k) (l : List α) : (cs enc l).length = l.length * k := by
  induction l with
  | nil => simp [cs]
  | cons x l ih => rw [cs_cons, List.length_append, hk, ih, List.length_cons, Nat.add_mul]; omega
theorem cs_take (hk : ∀ x, (enc x).length = k) (l : List α) (i : Nat) : (cs enc l).take (i * k) = cs enc (l.take i) := by
  induction l generalizing i with
  | nil => simp [cs]
  | cons x l ih =>
    cases i with
    | zero => simp [cs]
    | succ i =>
      rw [List.take_succ_cons, cs_cons, cs_cons, ← ih i, show (i + 1) * k = (enc x).length + i * k from by rw [hk, Nat.add_mul]; omega, List.take_length_add_append]
theorem cs_drop (hk : ∀ x, (enc x).length = k) (l : List α) (i : Nat) : (cs enc l).drop (i * k) = cs enc (l.drop i) := by
  induction l generalizing i with
  | nil => simp [cs]
  | cons x l ih =>
    cases i with
    | zero => simp [cs]
    | succ i =>
      rw [List.drop_succ_cons, cs_cons, ← ih i, show (i + 1) * k = (enc x).length + i * k from by rw [hk, Nat.add_mul]; omega, List.drop_length_add_append]
theorem cs_at (hk : ∀ x, (enc x).length = k) (l : List α) (i : Nat) (x : α) (hi : l[i]? = some x) (j : Nat) (hj : j < k) : (cs enc l)[i * k + j]? = (enc x)[j]? := by
  induction l generalizing i with
  | nil => simp at hi
  | cons y l ih =>
    cases i with
    | zero =>
      simp at hi; subst hi
      rw [cs_cons, Nat.zero_mul, Nat.zero_add, List.getElem?_append_left (by rw [hk]; exact hj)]
    | succ i =>
      have := ih i (by simpa using hi)
      rw [cs_cons, List.getElem?_append_right (by rw [hk, Nat.add_mul]; omega), hk, show (i + 1) * k + j - k = i * k + j from by rw [Nat.add_mul]; omega, this]
theorem cs_oneCell (h1 : ∀ x, ∀ v ∈ enc x, v.oneCell' = true) (l : List α) : ∀ u ∈ cs enc l, u.oneCell' = true := by
  intro u hu
  simp only [cs, List.mem_flatMap] at hu
  obtain ⟨x, _, hu⟩ := hu
  exact h1 x u hu
theorem cs_inj (hk : ∀ x, (enc x).length = k) (hi : ∀ x y, enc x = enc y → x = y) (l m : List α) (h : cs enc l = cs enc m) (hl : l.length = m.length) : l = m := by
  induction l generalizing m with
  | nil => exact (List.eq_nil_of_length_eq_zero hl.symm).symm
  | cons x l ih =>
    cases m with
    | nil => simp at hl
    | cons y m =>
      rw [cs_cons, cs_cons] at h
      obtain ⟨h1, h2⟩ := List.append_inj h (by rw [hk, hk])
      rw [hi x y h1, ih m h2 (by simpa using hl)]
/-- what is read at an element's cells -/
theorem Rd.cellsAt {w : World} {B n b off : Nat} {l : List α} (hk : ∀ x, (enc x).length = k) (h : Rd w B (some ⟨b, off, none⟩) (n * k) (cs enc l)) {i : Nat} {x : α} (hi : l[i]? = some x) (hin : i < n) {j : Nat} (hj : j < k) :
    w.cell? ⟨b, off + (i * k + j), none⟩ = (enc x)[j]? ∧ b < B := by
  have hlt : i * k + j < n * k := by
    have : (i + 1) * k ≤ n * k := Nat.mul_le_mul_right _ hin
    rw [Nat.add_mul] at this
    omega
  obtain ⟨b', off', v, e, hb, hv, hc⟩ := h.at_ _ hlt
  cases e
  rw [cs_at hk l i x hi j hj] at hv
  exact ⟨hc.trans hv.symm, hb⟩
theorem Rd.some_of {w : World} {B n m : Nat} {A : Option Addr} {vs : List Value} (h : Rd w B A m vs) (hm : n < m) : ∃ b off, A = some ⟨b, off, none⟩ ∧ b < B := by
  obtain ⟨b, off, v, e, hb, _⟩ := h.at_ n hm
  exact ⟨b, off, e, hb⟩
end
end Go.Proofs.Ytheanpcbjjogfaa.mem
