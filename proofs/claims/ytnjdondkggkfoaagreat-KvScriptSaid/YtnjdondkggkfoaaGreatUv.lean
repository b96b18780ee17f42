/-
  Numbers of variable length: plain mathematics. 'uv v' is the bytes of v; 'ru l 0 0' reads a number off the beginning of l.
-/
import Derived.Test.YtnjdondkggkfoaaGreatWords
namespace Go.Proofs.YtnjdondkggkfoaaGreat.uvs
open Go Go.RowKit plain words

def uvf : Nat → Nat → List UInt8
  | 0, v => [UInt8.ofNat v]
  | f + 1, v => if v < 128 then [UInt8.ofNat v] else UInt8.ofNat (v % 128 + 128) :: uvf f (v / 128)
def uv (v : Nat) : List UInt8 := uvf 9 v
def ru : List UInt8 → Nat → Nat → Nat × Nat
  | [], _, _ => (0, 0)
  | c :: l, i, acc => if i = 9 ∧ 1 < c.toNat then (0, 0) else if 128 ≤ c.toNat then ru l (i + 1) (acc + c.toNat % 128 * 128 ^ i) else if c.toNat = 0 ∧ 0 < i then (0, 0) else (acc + c.toNat * 128 ^ i, i + 1)
def dval : List UInt8 → Nat
  | [] => 0
  | c :: l => c.toNat % 128 + 128 * dval l

theorem ofNat_lt (v : Nat) (h : v < 256) : (UInt8.ofNat v).toNat = v := by rw [UInt8.toNat_ofNat']; omega
theorem uvf_small (f v : Nat) (h : v < 128) : uvf f v = [UInt8.ofNat v] := by
  cases f with
  | zero => rfl
  | succ f => simp [uvf, h]
theorem uvf_big (f v : Nat) (h : 128 ≤ v) : uvf (f + 1) v = UInt8.ofNat (v % 128 + 128) :: uvf f (v / 128) := by
  simp [uvf, show ¬ v < 128 from by omega]
theorem uvf_len (f v : Nat) : 1 ≤ (uvf f v).length ∧ (uvf f v).length ≤ f + 1 := by
  induction f generalizing v with
  | zero => simp [uvf]
  | succ f ih =>
    by_cases h : v < 128
    · rw [uvf_small _ _ h]; simp
    · rw [uvf_big f v (by omega)]
      have := ih (v / 128)
      simp only [List.length_cons]; omega
theorem uv_len (v : Nat) : 1 ≤ (uv v).length ∧ (uv v).length ≤ 10 := uvf_len 9 v
theorem pow_succ' (f : Nat) : 128 ^ (f + 1) = 128 * 128 ^ f := by rw [Nat.pow_succ, Nat.mul_comm]
theorem div_pow {f v : Nat} (h : v < 128 ^ (f + 2)) : v / 128 < 128 ^ (f + 1) := by
  rw [pow_succ'] at h
  exact Nat.div_lt_of_lt_mul h
theorem uvf_ru (f v i acc : Nat) (rest : List UInt8) (h : v < 128 ^ (f + 1)) (h9 : i + f ≤ 9) (hi : 0 < i → 0 < v) (hv : v * 128 ^ i < 18446744073709551616) : ru (uvf f v ++ rest) i acc = (acc + v * 128 ^ i, i + (uvf f v).length) := by
  induction f generalizing v i acc with
  | zero =>
    have hs : v < 128 := by simpa using h
    have e : i = 9 → v ≤ 1 := fun e => by subst e; omega
    simp only [uvf, List.singleton_append, ru]
    rw [ofNat_lt v (by omega), if_neg (by omega), if_neg (by omega), if_neg (by omega)]
    simp
  | succ f ih =>
    by_cases hs : v < 128
    · have e : i = 9 → v ≤ 1 := fun e => by omega
      rw [uvf_small _ _ hs]
      simp only [List.singleton_append, ru]
      rw [ofNat_lt v (by omega), if_neg (by omega), if_neg (by omega), if_neg (by omega)]
      simp
    · rw [uvf_big f v (by omega)]
      simp only [List.cons_append, ru]
      rw [ofNat_lt _ (by omega), if_neg (by omega), if_pos (by omega), show (v % 128 + 128) % 128 = v % 128 from by omega]
      have hp := pow_succ' i
      have hm : v / 128 * 128 ^ (i + 1) + v % 128 * 128 ^ i = v * 128 ^ i := by
        rw [hp, ← Nat.mul_assoc, ← Nat.add_mul]
        congr 1
        omega
      rw [ih _ _ _ (div_pow h) (by omega) (fun _ => by omega) (by omega)]
      simp only [List.length_cons]
      ext
      · simp only; omega
      · simp only; omega
theorem big10 : 18446744073709551616 ≤ 128 ^ 10 := by decide
theorem ru_uv (v : Nat) (rest : List UInt8) (h : v < 18446744073709551616) : ru (uv v ++ rest) 0 0 = (v, (uv v).length) := by
  have := uvf_ru 9 v 0 0 rest (Nat.lt_of_lt_of_le h big10) (by omega) (by omega) (by omega)
  simpa [uv] using this

/-- the bytes before the last are 128 or more, the last is less, and none but a single one ends in 0 *-/
def canT : List UInt8 → Prop
  | [] => False
  | [c] => 0 < c.toNat ∧ c.toNat < 128
  | c :: d :: l => 128 ≤ c.toNat ∧ canT (d :: l)
theorem canT_pos (l : List UInt8) (h : canT l) : 0 < dval l := by
  induction l with
  | nil => exact h.elim
  | cons c l ih =>
    cases l with
    | nil => simp only [canT] at h; simp only [dval]; omega
    | cons d l => simp only [canT] at h; have := ih h.2; simp only [dval] at this ⊢; omega
theorem canT_uvf (l : List UInt8) (f : Nat) (h : canT l) (hf : dval l < 128 ^ (f + 1)) : uvf f (dval l) = l := by
  induction l generalizing f with
  | nil => exact h.elim
  | cons c l ih =>
    have hc := c.toNat_lt
    cases l with
    | nil =>
      simp only [canT] at h
      simp only [dval]
      rw [show c.toNat % 128 + 128 * 0 = c.toNat from by omega, uvf_small _ _ h.2]
      simp
    | cons d l =>
      simp only [canT] at h
      have hp := canT_pos _ h.2
      generalize hl : d :: l = m at *
      simp only [dval] at hf ⊢
      cases f with
      | zero => omega
      | succ f =>
        rw [uvf_big f _ (by omega), show (c.toNat % 128 + 128 * dval m) / 128 = dval m from by omega, ih f h.2 (by rw [pow_succ'] at hf; omega)]
        congr 1
        rw [← UInt8.toNat_inj, ofNat_lt _ (by omega)]
        omega
/-- what is read at the beginning is written so *-/
theorem ru_back (l : List UInt8) (i acc v n : Nat) (hi : i ≤ 9) (ha : acc < 128 ^ i) (h : ru l i acc = (v, n)) (hn : n ≠ 0) :
    ∃ m, n = i + m ∧ 1 ≤ m ∧ m ≤ l.length ∧ n ≤ 10 ∧ v = acc + dval (l.take m) * 128 ^ i ∧ v < 18446744073709551616 ∧ ((l.take m) = [0] ∧ i = 0 ∨ canT (l.take m)) := by
  induction l generalizing i acc with
  | nil => simp [ru] at h; omega
  | cons c l ih =>
    have hc := c.toNat_lt
    simp only [ru] at h
    by_cases h1 : i = 9 ∧ 1 < c.toNat
    · rw [if_pos h1] at h; simp at h; omega
    · rw [if_neg h1] at h
      by_cases h2 : 128 ≤ c.toNat
      · rw [if_pos h2] at h
        have hi' : i + 1 ≤ 9 := by omega
        have hp := pow_succ' i
        have hm : c.toNat % 128 * 128 ^ i ≤ 127 * 128 ^ i := Nat.mul_le_mul_right _ (by omega)
        obtain ⟨m, e1, e2, e3, e4, e5, e6, e7⟩ := ih (i + 1) _ hi' (by omega) h
        refine ⟨m + 1, by omega, by omega, by simp only [List.length_cons]; omega, e4, ?_, e6, ?_⟩
        · rw [e5, List.take_succ_cons]
          simp only [dval]
          rw [hp, Nat.add_mul, Nat.add_assoc, ← Nat.mul_assoc, Nat.mul_comm (dval _) 128]
        · refine .inr ?_
          rw [List.take_succ_cons]
          rcases e7 with ⟨_, e7⟩ | e7
          · omega
          · generalize hq : l.take m = q at *
            cases q with
            | nil => exact e7.elim
            | cons d q => exact ⟨h2, e7⟩
      · rw [if_neg h2] at h
        by_cases h3 : c.toNat = 0 ∧ 0 < i
        · rw [if_pos h3] at h; simp at h; omega
        · rw [if_neg h3] at h
          simp only [Prod.mk.injEq] at h
          refine ⟨1, by omega, by omega, by simp, by omega, ?_, ?_, ?_⟩
          · rw [List.take_succ_cons, List.take_zero]
            simp only [dval]
            rw [← h.1, show c.toNat % 128 + 128 * 0 = c.toNat from by omega]
          · rw [← h.1]
            by_cases e : i = 9
            · subst e
              have : c.toNat ≤ 1 := by omega
              have : c.toNat * 128 ^ 9 ≤ 1 * 128 ^ 9 := Nat.mul_le_mul_right _ this
              omega
            · have h5 : 128 ^ i ≤ 128 ^ 8 := Nat.pow_le_pow_right (by omega) (by omega)
              have : c.toNat * 128 ^ i ≤ 127 * 128 ^ i := Nat.mul_le_mul_right _ (by omega)
              omega
          · rw [List.take_succ_cons, List.take_zero]
            by_cases e : c.toNat = 0
            · refine .inl ⟨?_, by omega⟩
              congr 1
              exact UInt8.toNat_inj.1 e
            · refine .inr ?_
              simp only [canT]; omega
theorem ru_back0 (l : List UInt8) (v n : Nat) (h : ru l 0 0 = (v, n)) (hn : n ≠ 0) : v < 18446744073709551616 ∧ n ≤ l.length ∧ l.take n = uv v := by
  obtain ⟨m, e1, e2, e3, e4, e5, e6, e7⟩ := ru_back l 0 0 v n (by omega) (by simp) h hn
  have hnm : n = m := by omega
  subst hnm
  refine ⟨e6, e3, ?_⟩
  simp only [Nat.zero_add, Nat.pow_zero, Nat.mul_one] at e5
  rcases e7 with ⟨e7, _⟩ | e7
  · rw [e7] at e5 ⊢
    subst e5
    rfl
  · subst e5
    exact (canT_uvf _ 9 e7 (Nat.lt_of_lt_of_le e6 big10)).symm
end Go.Proofs.YtnjdondkggkfoaaGreat.uvs
