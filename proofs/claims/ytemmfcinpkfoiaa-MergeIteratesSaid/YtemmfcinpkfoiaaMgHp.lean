/-
  A heap as a list: what sifting down and up does.
-/
import Derived.Test.YtemmfcinpkfoiaaMgHeap
namespace Go.Proofs.Ytemmfcinpkfoiaa.mg
open Go.ChangeShapes Go.WideShapes Go.ChangeAt Go.RowKit Go.Shelf plain words ord mem rg

def kk (l : List It) (i : Nat) : Int := ((l[i]?).map It.key).getD 0
theorem kk_at {l : List It} {i : Nat} {x : It} (h : l[i]? = some x) : kk l i = x.key := by simp [kk, h]
/-- in the first n places each is at most what hangs below it, from place lo on -/
def Hf (l : List It) (lo n : Nat) : Prop := ∀ j, 0 < j → j < n → lo ≤ (j - 1) / 2 → kk l ((j - 1) / 2) ≤ kk l j
theorem Hf.top (l : List It) (n : Nat) : Hf l (n / 2) n := fun j h0 h1 h2 => by omega
theorem Hf.more {l : List It} {lo n : Nat} (h : Hf l lo n) {lo' n' : Nat} (hl : lo ≤ lo') (hn : n' ≤ n) : Hf l lo' n' := fun j h0 h1 h2 => h j h0 (by omega) (by omega)
theorem Hf.root {l : List It} {n : Nat} (h : Hf l 0 n) (m : Nat) (hm : m < n) : kk l 0 ≤ kk l m := by
  induction m using Nat.strongRecOn with
  | ind m ih =>
    rcases Nat.eq_zero_or_pos m with rfl | h0
    · exact Int.le_refl _
    · have := ih ((m - 1) / 2) (by omega) (by omega)
      have := h m h0 hm (Nat.zero_le _)
      omega
/-- two places changed about -/
def sw (l : List It) (i j : Nat) (x y : It) : List It := (l.set i y).set j x
theorem lt_of_at {α : Type} {l : List α} {i : Nat} {x : α} (h : l[i]? = some x) : i < l.length := by
  rcases Nat.lt_or_ge i l.length with h' | h'
  · exact h'
  · rw [List.getElem?_eq_none h'] at h; cases h
theorem sw_len (l : List It) (i j : Nat) (x y : It) : (sw l i j x y).length = l.length := by simp [sw]
theorem sw_perm {l : List It} {i j : Nat} {x y : It} (hi : l[i]? = some x) (hj : l[j]? = some y) : (sw l i j x y).Perm l := by
  have h1 := lt_of_at hi
  have h2 := lt_of_at hj
  rw [List.getElem?_eq_getElem h1] at hi
  rw [List.getElem?_eq_getElem h2] at hj
  injection hi with hi
  injection hj with hj
  subst hi hj
  exact List.set_set_perm h1 h2
theorem sw_other {l : List It} {i j m : Nat} {x y : It} (h1 : m ≠ i) (h2 : m ≠ j) : (sw l i j x y)[m]? = l[m]? := by
  simp only [sw]
  rw [List.getElem?_set_ne (by omega), List.getElem?_set_ne (by omega)]
theorem sw_i {l : List It} {i j : Nat} {x y : It} (hi : l[i]? = some x) (hne : i ≠ j) : (sw l i j x y)[i]? = some y := by
  have h1 := lt_of_at hi
  simp only [sw]
  rw [List.getElem?_set_ne (by omega), List.getElem?_set_self h1]
theorem sw_j {l : List It} {i j : Nat} {x y : It} (hj : l[j]? = some y) : (sw l i j x y)[j]? = some x := by
  have h1 := lt_of_at hj
  simp only [sw]
  rw [List.getElem?_set_self (by simpa using h1)]
theorem kk_sw {l : List It} {i j : Nat} {x y : It} (hi : l[i]? = some x) (hj : l[j]? = some y) (hne : i ≠ j) (m : Nat) : kk (sw l i j x y) m = if m = i then kk l j else if m = j then kk l i else kk l m := by
  split
  · next h => subst h; rw [kk_at (sw_i hi hne), kk_at hj]
  · split
    · next h => subst h; rw [kk_at (sw_j hj), kk_at hi]
    · next h1 h2 => simp only [kk, sw_other h1 h2]
/-- sifting down stands at place i -/
structure Dn (l : List It) (lo n i : Nat) : Prop where
  ge : lo ≤ i
  rest : ∀ j, 0 < j → j < n → lo ≤ (j - 1) / 2 → (j - 1) / 2 ≠ i → kk l ((j - 1) / 2) ≤ kk l j
  over : ∀ j, 0 < j → j < n → (j - 1) / 2 = i → 0 < i → lo ≤ (i - 1) / 2 → kk l ((i - 1) / 2) ≤ kk l j
theorem Dn.start {l : List It} {lo n : Nat} (h : Hf l (lo + 1) n) : Dn l lo n lo :=
  ⟨Nat.le_refl _, fun j h0 h1 h2 h3 => h j h0 h1 (by omega), fun j h0 h1 h2 h3 h4 => by omega⟩
theorem Dn.done {l : List It} {lo n i : Nat} (h : Dn l lo n i) (h1 : 2 * i + 1 < n → kk l i ≤ kk l (2 * i + 1)) (h2 : 2 * i + 2 < n → kk l i ≤ kk l (2 * i + 2)) : Hf l lo n := fun j j0 j1 j2 => by
  by_cases hp : (j - 1) / 2 = i
  · have : j = 2 * i + 1 ∨ j = 2 * i + 2 := by omega
    rw [hp]
    rcases this with rfl | rfl
    · exact h1 j1
    · exact h2 j1
  · exact h.rest j j0 j1 j2 hp
theorem Dn.step {l : List It} {lo n i j : Nat} {x y : It} (h : Dn l lo n i) (hi : l[i]? = some x) (hj : l[j]? = some y) (hjn : j < n) (hji : j = 2 * i + 1 ∨ j = 2 * i + 2) (hlt : kk l j < kk l i)
    (hmin : ∀ m, m < n → (m = 2 * i + 1 ∨ m = 2 * i + 2) → kk l j ≤ kk l m) : Dn (sw l i j x y) lo n j := by
  have hne : i ≠ j := by omega
  have K := fun m => kk_sw hi hj hne m
  have hlo := h.ge
  refine ⟨by omega, fun m m0 m1 m2 m3 => ?_, fun m m0 m1 m2 m3 m4 => ?_⟩
  · by_cases hp : (m - 1) / 2 = i
    · have hm : m = 2 * i + 1 ∨ m = 2 * i + 2 := by omega
      rw [hp, K, if_pos rfl, K, if_neg (by omega)]
      split
      · omega
      · exact hmin m m1 hm
    · rw [K ((m - 1) / 2), if_neg hp, if_neg m3, K]
      split
      · next e =>
        subst e
        exact h.over j (by omega) hjn (by omega) m0 m2
      · split
        · next e => omega
        · exact h.rest m m0 m1 m2 hp
  · have hp : (j - 1) / 2 = i := by omega
    rw [hp, K, if_pos rfl, K, if_neg (by omega), if_neg (by omega)]
    have := h.rest m m0 m1 (by omega) (by omega)
    rwa [m2] at this
/-- sifting up stands at place i -/
structure Up (l : List It) (n i : Nat) : Prop where
  rest : ∀ m, 0 < m → m < n → m ≠ i → kk l ((m - 1) / 2) ≤ kk l m
  over : ∀ m, 0 < m → m < n → (m - 1) / 2 = i → 0 < i → kk l ((i - 1) / 2) ≤ kk l m
theorem Up.start {l : List It} {n : Nat} (h : Hf l 0 n) : Up l (n + 1) n := ⟨fun m m0 m1 m2 => h m m0 (by omega) (Nat.zero_le _), fun m m0 m1 m2 m3 => by omega⟩
theorem Up.done {l : List It} {n i : Nat} (h : Up l n i) (hd : 0 < i → kk l ((i - 1) / 2) ≤ kk l i) : Hf l 0 n := fun m m0 m1 _ => by
  by_cases e : m = i
  · subst e; exact hd m0
  · exact h.rest m m0 m1 e
theorem Up.step {l : List It} {n i q : Nat} {x y : It} (h : Up l n i) (hq : q = (i - 1) / 2) (h0 : 0 < i) (hin : i < n) (hx : l[q]? = some x) (hy : l[i]? = some y) (hlt : kk l i < kk l q) : Up (sw l q i x y) n q := by
  have hne : q ≠ i := by omega
  have K := fun m => kk_sw hx hy hne m
  refine ⟨fun m m0 m1 m2 => ?_, fun m m0 m1 m2 m3 => ?_⟩
  · by_cases e : m = i
    · subst e
      rw [K, if_pos hq.symm, K, if_neg (by omega), if_pos rfl]
      omega
    · rw [K m, if_neg m2, if_neg e, K]
      split
      · next e2 =>
        have := h.rest m m0 m1 e
        rw [e2] at this
        omega
      · split
        · next e2 =>
          have := h.over m m0 m1 e2 h0
          rwa [← hq] at this
        · exact h.rest m m0 m1 e
  · have hqq := h.rest q m3 (by omega) hne
    rw [K ((q - 1) / 2), if_neg (by omega), if_neg (by omega), K]
    split
    · omega
    · split
      · exact hqq
      · next e2 =>
        have := h.rest m m0 m1 e2
        rw [m2] at this
        omega
end Go.Proofs.Ytemmfcinpkfoiaa.mg
