/-
  Index: names in order, where a search begins, what it finds: mathematics.
-/
import Derived.Test.YtcebmlcdhapnkaaIdxBack
import Derived.Sort.Walk0
namespace Go.Proofs.Ytcebmlcdhapnkaa.idx
open Go Go.RowKit plain words ord mem uvs uvc

theorem sle_iff (a b : ByteArray) : sle a b = true ↔ a.toList < b.toList ∨ a.toList = b.toList := by
  unfold sle
  rw [bytesLess_eq]
  simp
theorem lt_of_not {x y : ByteArray} (h : sle y x = false) : x.toList < y.toList := by
  have h1 : ¬ (y.toList < x.toList ∨ y.toList = x.toList) := fun e => by
    rw [(sle_iff y x).2 e] at h
    cases h
  have h2 : x.toList ≤ y.toList := List.not_lt.1 fun e => h1 (.inl e)
  rcases List.le_iff_lt_or_eq.1 h2 with e | e
  · exact e
  · exact absurd (.inr e.symm) h1
theorem sle_lt {x y : ByteArray} (h : x.toList < y.toList) : sle x y = true ∧ sle y x = false := by
  refine ⟨(sle_iff x y).2 (.inl h), ?_⟩
  cases e : sle y x with
  | false => rfl
  | true =>
    rcases (sle_iff y x).1 e with e | e
    · exact absurd e (List.lt_asymm h)
    · rw [e] at h
      exact absurd h (List.lt_irrefl _)
/-- names rise -/
def Srt (l : List En) : Prop := ∀ (i j : Nat) (x y : En), i < j → l[i]? = some x → l[j]? = some y → x.1.toList < y.1.toList
theorem srt_pair (l : List En) (p : Option ByteArray) (h : checkF p l = 0) : (∀ q, p = some q → ∀ x ∈ l, q.toList < x.1.toList) ∧ l.Pairwise (fun x y => x.1.toList < y.1.toList) := by
  induction l generalizing p with
  | nil => exact ⟨fun _ _ x hx => by simp at hx, List.Pairwise.nil⟩
  | cons y l ih =>
    rw [checkF_cons] at h
    split at h
    · cases h
    · split at h
      · cases h
      · split at h
        · cases h
        · rename_i h3
          obtain ⟨i1, i2⟩ := ih _ h
          have hy : ∀ x ∈ l, y.1.toList < x.1.toList := i1 _ rfl
          refine ⟨fun q hq x hx => ?_, List.Pairwise.cons hy i2⟩
          subst hq
          have h4 : q.toList < y.1.toList := lt_of_not (by simpa [after] using h3)
          rcases List.mem_cons.1 hx with rfl | hx
          · exact h4
          · exact List.lt_trans h4 (hy x hx)
theorem srt_of {l : List En} (h : checkE l = 0) : Srt l := by
  have h2 := (srt_pair l none h).2
  intro i j x y hij hx hy
  obtain ⟨hi, rfl⟩ := List.getElem?_eq_some_iff.1 hx
  obtain ⟨hj, rfl⟩ := List.getElem?_eq_some_iff.1 hy
  exact List.pairwise_iff_getElem.1 h2 i j hi hj hij

/-- where a search begins: the last block whose first name is not past the name -/
def st (l : List En) (id : ByteArray) : Nat → Option Nat
  | 0 => none
  | b + 1 => match l[4 * b]? with
    | some x => if sle x.1 id = true then some (4 * b) else st l id b
    | none => st l id b
/-- what is found from entry k on, by at most f -/
def fg (l : List En) (id : ByteArray) : Nat → Nat → Nat → Option En × Nat
  | 0, _, c => (none, c)
  | f + 1, k, c => match l[k]? with
    | none => (none, c)
    | some x => if x.1.toList = id.toList then (some x, c + 1) else if sle x.1 id = false then (none, c + 1) else fg l id f (k + 1) (c + 1)
theorem st_at {l : List En} (h : Srt l) {i : Nat} {y : En} (hy : l[i]? = some y) (b : Nat) (hb : i / 4 < b) : st l y.1 b = some (4 * (i / 4)) := by
  induction b with
  | zero => omega
  | succ b ih =>
    unfold st
    by_cases e : b = i / 4
    · obtain ⟨x, hx⟩ : ∃ x, l[4 * b]? = some x := ⟨_, List.getElem?_eq_getElem (by have := (List.getElem?_eq_some_iff.1 hy).1; omega)⟩
      rw [hx]
      have hs : sle x.1 y.1 = true := by
        by_cases e2 : 4 * b = i
        · rw [e2, hy] at hx
          cases hx
          exact (sle_iff _ _).2 (.inr rfl)
        · exact (sle_lt (h _ _ _ _ (by omega) hx hy)).1
      simp only [hs, if_true]
      rw [e]
    · have hi := ih (by omega)
      cases hx : l[4 * b]? with
      | none => exact hi
      | some x =>
        have hs := (sle_lt (h _ _ _ _ (show i < 4 * b by omega) hy hx)).2
        simp only [hs]
        exact hi
theorem st_lt {l : List En} {id : ByteArray} {b k : Nat} (h : st l id b = some k) : k < l.length := by
  induction b with
  | zero => cases h
  | succ b ih =>
    unfold st at h
    cases hx : l[4 * b]? with
    | none => rw [hx] at h; exact ih h
    | some x =>
      rw [hx] at h
      simp only at h
      split at h
      · cases h
        exact (List.getElem?_eq_some_iff.1 hx).1
      · exact ih h
theorem fg_at {l : List En} (h : Srt l) {i : Nat} {y : En} (hy : l[i]? = some y) (f k c : Nat) (hk : k ≤ i) (hf : i < k + f) : fg l y.1 f k c = (some y, c + (i - k) + 1) := by
  induction f generalizing k c with
  | zero => omega
  | succ f ih =>
    unfold fg
    by_cases e : k = i
    · subst e
      rw [hy]
      simp
    · obtain ⟨x, hx⟩ : ∃ x, l[k]? = some x := ⟨_, List.getElem?_eq_getElem (by have := (List.getElem?_eq_some_iff.1 hy).1; omega)⟩
      have hlt := h _ _ _ _ (show k < i by omega) hx hy
      have hne : x.1.toList ≠ y.1.toList := fun e => by
        rw [e] at hlt
        exact List.lt_irrefl _ hlt
      rw [hx]
      simp only [if_neg hne, (sle_lt hlt).1]
      rw [ih (k + 1) (c + 1) (by omega) (by omega)]
      simp
      omega
theorem fg_no {l : List En} {id : ByteArray} (h : ∀ x ∈ l, x.1.toList ≠ id.toList) (f k c : Nat) : (fg l id f k c).1 = none := by
  induction f generalizing k c with
  | zero => rfl
  | succ f ih =>
    unfold fg
    cases hx : l[k]? with
    | none => rfl
    | some x =>
      simp only [if_neg (h x (List.mem_of_getElem? hx))]
      split
      · rfl
      · exact ih _ _
theorem fg_le (l : List En) (id : ByteArray) (f k c : Nat) : (fg l id f k c).2 ≤ c + f := by
  induction f generalizing k c with
  | zero => simp [fg]
  | succ f ih =>
    unfold fg
    cases hx : l[k]? with
    | none => simp only; omega
    | some x =>
      simp only
      split
      · simp only; omega
      · split
        · simp only; omega
        · have := ih (k + 1) (c + 1)
          omega

/-! ### the summary, block by block -/
def el (l : List En) (k : Nat) : List UInt8 := match l[k]? with
  | some x => txt x.1 ++ uv (idxB (l.take k)).length
  | none => []
def sR (l : List En) (b J : Nat) : List UInt8 := (List.range' b (J - b)).flatMap fun b => el l (4 * b)
theorem sR_step {l : List En} {b J : Nat} (h : b < J) : sR l b J = el l (4 * b) ++ sR l (b + 1) J := by
  unfold sR
  rw [show J - b = (J - (b + 1)) + 1 from by omega, List.range'_succ, List.flatMap_cons]
theorem sR_end (l : List En) (J : Nat) : sR l J J = [] := by simp [sR]
theorem sR_snoc (l : List En) (J : Nat) : sR l 0 (J + 1) = sR l 0 J ++ el l (4 * J) := by
  unfold sR
  rw [Nat.sub_zero, Nat.sub_zero, List.range'_1_concat, List.flatMap_append]
  simp
theorem sumT_sR (l : List En) (n : Nat) : sumT l n = sR l 0 ((n + 3) / 4) := by
  induction n with
  | zero => rfl
  | succ k ih =>
    rw [sumT, ih]
    by_cases h : k % 4 = 0
    · obtain ⟨b, rfl⟩ : ∃ b, k = 4 * b := ⟨k / 4, by omega⟩
      rw [if_pos h, show (4 * b + 1 + 3) / 4 = (4 * b + 3) / 4 + 1 from by omega, sR_snoc, show (4 * b + 3) / 4 = b from by omega]
      rfl
    · rw [if_neg h, List.append_nil, show (k + 1 + 3) / 4 = (k + 3) / 4 from by omega]
end Go.Proofs.Ytcebmlcdhapnkaa.idx
