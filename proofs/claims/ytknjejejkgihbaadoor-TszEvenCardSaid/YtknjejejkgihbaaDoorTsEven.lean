/-
  Tsz: points of one distance: their bits.
-/
import Derived.Test.YtknjejejkgihbaaDoorTsLaw
namespace Go.Proofs.YtknjejejkgihbaaDoor.ts
open Go.RowKit plain words bitm uvs

/-- n points of one distance, one value, one stamp -/
def evs (t D v s : Int) : Nat → List Pt
  | 0 => []
  | n + 1 => (t, v, s) :: evs (t + D) D v s n
theorem evs_len (D v s : Int) : ∀ (n : Nat) (t : Int), (evs t D v s n).length = n
  | 0, _ => rfl
  | n + 1, t => by simp [evs, evs_len D v s n]
theorem evs_last (D v s : Int) : ∀ (n : Nat) (t : Int), evs t D v s (n + 1) = evs t D v s n ++ [(t + n * D, v, s)]
  | 0, t => by simp [evs]
  | n + 1, t => by
    rw [evs, evs_last D v s n (t + D)]
    have e : t + D + (n : Int) * D = t + ((n + 1 : Nat) : Int) * D := by push_cast; rw [Int.add_mul]; omega
    rw [e]; rfl
theorem timeB0 : (timeB 0).length = 1 := by simp [timeB, bitsOf_len]
theorem valB0 (a : Win) (y : Nat) : (valB a (y ^^^ y)).length = 1 ∧ valW a (y ^^^ y) = a := by
  rw [Nat.xor_self]; simp [valB, valW, bitsOf_len]
theorem rest_even (D v s : Int) (a b : Win) : ∀ (n : Nat) (t : Int), (restB t D v.toNat s.toNat a b (evs (t + D) D v s n)).length = 3 * n
  | 0, t => rfl
  | n + 1, t => by
    have hD : t + D - t = D := by omega
    simp only [evs, restB, List.length_append, hD, Int.sub_self, timeB0, (valB0 a v.toNat).1, (valB0 b s.toNat).1, (valB0 a v.toNat).2, (valB0 b s.toNat).2]
    rw [rest_even D v s a b n (t + D)]
    omega
theorem bits_even (D v s : Int) (n : Nat) (t : Int) (hn : 0 < n) : 192 ≤ (bitsP (evs t D v s n)).length ∧ (bitsP (evs t D v s n)).length ≤ 192 + 67 + 3 * (n - 1) := by
  cases n with
  | zero => omega
  | succ n =>
    simp only [evs, bitsP, List.length_append, bitsOf_len]
    cases n with
    | zero => simp [evs, restB]
    | succ n =>
      have h1 := timeB_len (t + D - t - 0)
      have hD : t + D - t = D := by omega
      simp only [evs, restB, List.length_append, (valB0 none v.toNat).1, (valB0 none s.toNat).1, (valB0 none v.toNat).2, (valB0 none s.toNat).2]
      rw [hD] at h1 ⊢
      rw [rest_even D v s none none n (t + D)]
      omega
theorem fit_even (D v s : Int) (hv : 0 ≤ v ∧ v ≤ 18446744073709551615) (hs : 0 ≤ s ∧ s ≤ 18446744073709551615) (hD : 0 ≤ D) : ∀ (n : Nat) (t : Int), 0 ≤ t → (n = 0 ∨ t + (n - 1 : Int) * D ≤ 1099511627776) → ∀ x ∈ evs t D v s n, FitP x
  | 0, t, _, _, x, hx => by simp [evs] at hx
  | n + 1, t, ht, hm, x, hx => by
    have hm : t + (n : Int) * D ≤ 1099511627776 := by
      rcases hm with h | h
      · omega
      · push_cast at h; rwa [show (n : Int) + 1 - 1 = n from by omega] at h
    have hnD : 0 ≤ (n : Int) * D := Int.mul_nonneg (by omega) hD
    simp only [evs, List.mem_cons] at hx
    rcases hx with rfl | hx
    · exact ⟨⟨by simp only; omega, by simp only; omega⟩, hv, hs⟩
    · refine fit_even D v s hv hs hD n (t + D) (by omega) ?_ x hx
      cases n with
      | zero => exact .inl rfl
      | succ n => right; push_cast at hm ⊢; rw [Int.add_mul] at hm; rw [show (n : Int) + 1 - 1 = n from by omega]; omega
theorem ck_even (D v s : Int) (hD : 0 < D) : ∀ (n : Nat) (t : Int) (p : Option Int), 0 ≤ t → (∀ q, p = some q → q < t) → (n = 0 ∨ t + (n - 1 : Int) * D ≤ 1099511627776) → ckF p (evs t D v s n) = 0
  | 0, t, p, _, _, _ => by cases p <;> rfl
  | n + 1, t, p, ht, hp, hm => by
    have hm : t + (n : Int) * D ≤ 1099511627776 := by
      rcases hm with h | h
      · omega
      · push_cast at h; rwa [show (n : Int) + 1 - 1 = n from by omega] at h
    have hnD : 0 ≤ (n : Int) * D := Int.mul_nonneg (by omega) (by omega)
    have h1 : ¬ (t < 0 ∨ 1099511627776 < t) := by omega
    have h2 : lateB p t = false := by
      cases p with
      | none => rfl
      | some q => have := hp q rfl; simp only [lateB, decide_eq_false_iff_not]; omega
    rw [evs, ckF, if_neg h1, if_neg (by simp [h2])]
    refine ck_even D v s hD n (t + D) (some t) (by omega) (fun q e => by cases e; omega) ?_
    cases n with
    | zero => exact .inl rfl
    | succ n => right; push_cast at hm ⊢; rw [Int.add_mul] at hm; rw [show (n : Int) + 1 - 1 = n from by omega]; omega
theorem check_even (D v s : Int) (hD : 0 < D) (n : Nat) (t : Int) (ht : 0 ≤ t) (hn : n ≤ 512) (hm : n = 0 ∨ t + (n - 1 : Int) * D ≤ 1099511627776) : checkP (evs t D v s n) = 0 := by
  unfold checkP
  rw [evs_len, if_neg (by omega)]
  exact ck_even D v s hD n t none ht (fun q e => by cases e) hm
theorem enc_even (D v s : Int) (n : Nat) (t : Int) (hn : 0 < n) (h5 : n ≤ 512) : 25 ≤ (encP (evs t D v s n)).length ∧ (encP (evs t D v s n)).length ≤ 26 + (3 * (n - 1) + 67 + 7) / 8 := by
  have h1 := bits_even D v s n t hn
  have h2 := uv_len n
  have h3 : (uv n).length ≤ 2 := by
    unfold uv
    by_cases h1 : n < 128
    · rw [uvf_small _ _ h1]; simp
    · rw [uvf_big 8 n (by omega), uvf_small _ _ (by omega)]; simp
  have h4 : 1 ≤ (uv n).length := by have := uv_len n; omega
  unfold encP
  rw [List.length_append, pack_len, evs_len]
  omega
theorem rd_new3 (w : World) (T V S : Int) : Rd (w.alloc (.cells #[.int .i64 T, .int .u64 V, .int .u64 S] 39)) (w.heap.size + 1) (some ⟨w.heap.size, 0, none⟩) (1 * 3) [.int .i64 T, .int .u64 V, .int .u64 S] :=
  ⟨rfl, fun j hj => by
    have h := World.cell?_alloc_new w #[.int .i64 T, .int .u64 V, .int .u64 S] 39 j
    refine ⟨w.heap.size, 0, ([.int .i64 T, .int .u64 V, .int .u64 S] : List Value)[j]'(by simpa using hj), rfl, by omega, List.getElem?_eq_getElem _, ?_⟩
    rw [Nat.zero_add, h]
    simp [List.getElem?_eq_getElem (show j < ([.int .i64 T, .int .u64 V, .int .u64 S] : List Value).length from by simpa using hj)]⟩
end Go.Proofs.YtknjejejkgihbaaDoor.ts
