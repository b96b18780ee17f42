/-
  The names of a volume's files: the document's numerals, names and parts.
-/
import Derived.Test.YtoiiaeoaenghfaaDoorWb
import Derived.Test.YtoiiaeoaenghfaaDoorOrd
import Derived.Test.YtoiiaeoaenghfaaDoorMem
import Derived.Test.YtoiiaeoaenghfaaDoorFnLaid
import Derived.Lib.ItoaNum
import Derived.Lib.ItoaMem
namespace Go.Proofs.YtoiiaeoaenghfaaDoor.fn
open Go.ChangeShapes Go.WideShapes Go.ChangeAt Go.RowKit plain words ord mem Go.Shelf

abbrev By := List UInt8
def tx (a : By) : ByteArray := ⟨a.toArray⟩
theorem tx_list (a : By) : (tx a).data.toList = a := by simp [tx]
theorem tx_size (a : By) : (tx a).size = a.length := by show a.toArray.size = _; simp
theorem tx_add (a b : By) : tx a ++ tx b = tx (a ++ b) := by
  unfold tx
  apply ByteArray.ext
  simp
theorem ndig_le {n k : Nat} (h : n < 10 ^ k) (hk : 1 ≤ k) : Lib.nDigits n ≤ k := by
  induction k generalizing n with
  | zero => omega
  | succ k ih =>
    by_cases h10 : n < 10
    · rw [Lib.nDigits_small h10]; omega
    · rw [Lib.nDigits_big h10]
      have hk1 : 1 ≤ k := by
        rcases k with _ | k
        · simp at h; omega
        · omega
      have := ih (n := n / 10) (by rw [Nat.pow_succ] at h; omega) hk1
      omega
def ten : By := [48, 49, 50, 51, 52, 53, 54, 55, 56, 57]
theorem ten_at : ∀ d, d < 10 → (⟨ten.toArray⟩ : ByteArray).extract d (d + 1) = tx [UInt8.ofNat (48 + d)] := by
  intro d h
  have : ∀ d : Fin 10, (⟨ten.toArray⟩ : ByteArray).extract d.val (d.val + 1) = tx [UInt8.ofNat (48 + d.val)] := by decide
  exact this ⟨d, h⟩
theorem ten_slice (d : Nat) (h : d < 10) (w : World) : (Instr.slice 9 (.string { data := #[48, 49, 50, 51, 52, 53, 54, 55, 56, 57] }) (some (.int .i64 (d : Int))) (some (.int .i64 ((d : Int) + 1))) none).run Tryd.prog w = .ok (.string (tx [UInt8.ofNat (48 + d)])) w := by
  have h1 := run_slice_string (P := Tryd.prog) w 9 ⟨ten.toArray⟩ .i64 .i64 (d : Int) ((d : Int) + 1) Tryd.underlying9 (by omega) (by omega) (by show (d : Int) + 1 ≤ ((10 : Nat) : Int); omega)
  rw [show ((d : Int)).toNat = d from by omega, show ((d : Int) + 1).toNat = d + 1 from by omega, ten_at d h] at h1
  exact h1
set_option maxRecDepth 100000 in
set_option maxHeartbeats 1000000 in
theorem digits_y : ∀ (n : Nat), n ≤ 9223372036854775807 → ∀ w, Calls Tryd.prog 15 #[.int .i64 n] w fun e w' => e = .returned (.string (tx (Lib.decDigits n))) ∧ Below w.heap.size w w' := by
  intro n
  induction n using Nat.strongRecOn with
  | _ n ih =>
    intro hn w
    rw [Lib.decDigits]
    by_cases h : n < 10
    · have i1 : (n : Int) < 10 := by omega
      have hs := ten_slice n h
      rw [dif_pos h]
      obtain ⟨B, hB⟩ : ∃ B, [UInt8.ofNat (48 + n)] = B := ⟨_, rfl⟩
      rw [hB] at hs ⊢
      clear hB
      go_enter Tryd.func15, Tryd.ntmps15
      go_wp2_with (fail)
      go_ret
      exact ⟨rfl, Below.refl _ _⟩
    · have i1 : ¬ (n : Int) < 10 := by omega
      have IH := Lib.hid (ih (n / 10) (by omega) (by omega))
      have hs := ten_slice (n % 10) (by omega)
      rw [show ((n % 10 : Nat) : Int) = (n : Int) % 10 from by omega] at hs
      have hx := tx_add (Lib.decDigits (n / 10)) [UInt8.ofNat (48 + n % 10)]
      rw [dif_neg h]
      clear ih
      obtain ⟨B, hB⟩ : ∃ B, [UInt8.ofNat (48 + n % 10)] = B := ⟨_, rfl⟩
      have hlim : ¬ 9223372036854775807 < (Lib.decDigits (n / 10)).length + B.length := by
        have := ndig_le (n := n / 10) (k := 19) (by omega) (by decide)
        rw [Lib.decDigits_length, ← hB]; simp only [List.length_singleton]; omega
      rw [hB] at hs hx ⊢
      obtain ⟨A, hA⟩ : ∃ A, Lib.decDigits (n / 10) = A := ⟨_, rfl⟩
      rw [hA] at hx hlim IH ⊢
      have hz1 := tx_size A
      have hz2 := tx_size B
      clear hB hA
      have e1 : ((n / 10 : Nat) : Int) = (n : Int) / 10 := by omega
      rw [e1] at IH
      clear e1
      go_enter Tryd.func15, Tryd.ntmps15
      go_wp2_with (fail)
      refine wp_region_wb w (Below.refl _ _) (by kernel_rfl) (by kernel_rfl) ?_
      repeat (go_big_quiet_step ((go_at_call 15; exact wb_call (IH.out _))))
      refine wpQuiet_nil ?_
      rintro _ ⟨u, rfl⟩
      go_wp2_with (fail)
      go_ret
      exact ⟨rfl, u.h⟩
/-! ### parts -/
theorem ba (w : World) (o : Obj) : Below w.heap.size w (w.alloc o) := (Below.refl _ w).alloc (Nat.le_refl _) o
theorem la (w : World) (o : Obj) : w.heap.size < (w.alloc o).heap.size := blk_lt (alloc_new w o)
theorem ca (w : World) (cs : Array Value) (t : TypeId) (j : Nat) : (w.alloc (.cells cs t)).cell? ⟨w.heap.size, j, none⟩ = cs[j]? := by
  show (match (w.alloc (.cells cs t)).heap[w.heap.size]? with | some (.cells c _ _) => c[j]? | _ => none) = _
  rw [alloc_new]
def pl : List By := [[105, 110, 102, 111], [105, 110, 100, 101, 120], [115, 117, 109, 109, 97, 114, 121], [98, 108, 111, 111, 109], [100, 97, 116, 97], [100, 105, 103, 101, 115, 116], [99, 104, 101, 99, 107]]
def pa (i : Nat) : By := pl.getD i []
theorem parts_y (w : World) : Calls Tryd.prog 9 #[] w fun e w' => ∃ b, e = .returned (.slice (some ⟨b, 0, none⟩) 7 7) ∧ (∀ j, j < 7 → w'.cell? ⟨b, j, none⟩ = some (.string (tx (pa j)))) ∧ b < w'.heap.size ∧ Below w.heap.size w w' := by
  go_enter Tryd.func9, Tryd.ntmps9
  go_wp2_with (fail)
  go_ret
  refine ⟨_, rfl, ?_, ?_, ?_⟩
  · intro j hj
    have h7 : j = 0 ∨ j = 1 ∨ j = 2 ∨ j = 3 ∨ j = 4 ∨ j = 5 ∨ j = 6 := by omega
    rcases h7 with rfl | rfl | rfl | rfl | rfl | rfl | rfl <;> (rw [ca]; rfl)
  · exact la _ _
  · exact ba _ _
/-! ### what may be -/
def may (a b c d : Int) : Bool := decide (0 ≤ a ∧ a ≤ 3 ∧ 0 ≤ b ∧ b ≤ 7 ∧ 0 ≤ c ∧ c ≤ 1099511627776 ∧ 1 ≤ d ∧ d ≤ 999999)
theorem within_y (n lo hi : Int) (w : World) : Calls Tryd.prog 14 #[.int .i64 n, .int .i64 lo, .int .i64 hi] w fun e w' => e = .returned (.bool (decide (lo ≤ n ∧ n ≤ hi))) ∧ w' = w := by
  obtain ⟨q, hq⟩ : ∃ q, decide (lo ≤ n ∧ n ≤ hi) = q := ⟨_, rfl⟩
  have HQ := Lib.hid hq
  rw [hq]
  clear hq
  go_enter Tryd.func14, Tryd.ntmps14
  go_wp2_with (fail)
  · go_ret
    exact ⟨ret_bool (by rw [← HQ.out]; exact decide_eq_decide.2 (by omega)), rfl⟩
  · go_ret
    exact ⟨ret_bool (by rw [← HQ.out]; exact (decide_eq_false (by omega)).symm), rfl⟩
theorem permitted_x (a b c d : Int) (w : World) : Calls Tryd.prog 6 #[.agg #[.int .i64 a, .int .i64 b, .int .i64 c, .int .i64 d]] w fun e w' => e = .returned (.bool (may a b c d)) ∧ Below w.heap.size w w' := by
  go_enter Tryd.func6, Tryd.ntmps6
  go_wp2_with (fail)
  all_goals go_ret
  all_goals refine ⟨ret_bool ?_, ba _ _⟩
  all_goals first
    | exact (decide_eq_false (by omega)).symm
    | exact decide_eq_decide.2 (by omega)
theorem may_y (a b c d : Int) (w : World) : Calls Tryd.prog 10 #[.agg #[.int .i64 a, .int .i64 b, .int .i64 c, .int .i64 d]] w fun e w' => e = .returned (.bool (may a b c d)) ∧ Below w.heap.size w w' := by
  go_enter Tryd.func10, Tryd.ntmps10
  go_wp2_with (go_at_call 14; refine (within_y _ _ _ _).mono ?_; rintro e w1 ⟨rfl, rfl⟩)
  all_goals go_ret
  all_goals refine ⟨ret_bool ?_, ba _ _⟩
  all_goals first
    | exact (decide_eq_false (by omega)).symm
    | (rw [← Bool.decide_and]; exact decide_eq_decide.2 (by omega))
/-! ### names -/
def dg (a : Int) : By := Lib.decDigits a.toNat
def nameS (a b c d : Int) (P : By) : By := ((((((([118] ++ dg a) ++ [45]) ++ dg b) ++ [45]) ++ dg c) ++ [45]) ++ dg d) ++ [46] ++ P
theorem dg_len {a : Int} (h : a ≤ 1099511627776) : (dg a).length ≤ 13 := by
  unfold dg
  rw [Lib.decDigits_length]
  exact ndig_le (by omega) (by decide)
theorem digits_i (a : Int) (h : 0 ≤ a ∧ a ≤ 1099511627776) (w : World) : Calls Tryd.prog 15 #[.int .i64 a] w fun e w' => e = .returned (.string (tx (dg a))) ∧ Below w.heap.size w w' := by
  have := digits_y a.toNat (by omega) w
  rw [show ((a.toNat : Nat) : Int) = a from by omega] at this
  exact this
set_option maxRecDepth 100000 in
set_option maxHeartbeats 4000000 in
theorem name_y (a b c d : Int) (h : may a b c d = true) (P : By) (hP : P.length ≤ 4096) (w : World) : Calls Tryd.prog 11 #[.agg #[.int .i64 a, .int .i64 b, .int .i64 c, .int .i64 d], .string (tx P)] w fun e w' => e = .returned (.string (tx (nameS a b c d P))) ∧ Below w.heap.size w w' := by
  have hm := of_decide_eq_true h
  have H1 := Lib.hid (digits_i a (by omega))
  have H2 := Lib.hid (digits_i b (by omega))
  have H3 := Lib.hid (digits_i c (by omega))
  have H4 := Lib.hid (digits_i d (by omega))
  have l1 := dg_len (a := a) (by omega)
  have l2 := dg_len (a := b) (by omega)
  have l3 := dg_len (a := c) (by omega)
  have l4 := dg_len (a := d) (by omega)
  unfold nameS
  clear hm h
  obtain ⟨A, hA⟩ : ∃ A, dg a = A := ⟨_, rfl⟩
  obtain ⟨B, hB⟩ : ∃ B, dg b = B := ⟨_, rfl⟩
  obtain ⟨C, hC⟩ : ∃ C, dg c = C := ⟨_, rfl⟩
  obtain ⟨D, hD⟩ : ∃ D, dg d = D := ⟨_, rfl⟩
  rw [hA, hB, hC, hD]
  rw [hA] at H1 l1
  rw [hB] at H2 l2
  rw [hC] at H3 l3
  rw [hD] at H4 l4
  clear hA hB hC hD
  obtain ⟨S1, k1⟩ : ∃ S, ([118] : By) ++ A = S := ⟨_, rfl⟩
  obtain ⟨S2, k2⟩ : ∃ S, S1 ++ ([45] : By) = S := ⟨_, rfl⟩
  obtain ⟨S3, k3⟩ : ∃ S, S2 ++ B = S := ⟨_, rfl⟩
  obtain ⟨S4, k4⟩ : ∃ S, S3 ++ ([45] : By) = S := ⟨_, rfl⟩
  obtain ⟨S5, k5⟩ : ∃ S, S4 ++ C = S := ⟨_, rfl⟩
  obtain ⟨S6, k6⟩ : ∃ S, S5 ++ ([45] : By) = S := ⟨_, rfl⟩
  obtain ⟨S7, k7⟩ : ∃ S, S6 ++ D = S := ⟨_, rfl⟩
  obtain ⟨S8, k8⟩ : ∃ S, S7 ++ ([46] : By) = S := ⟨_, rfl⟩
  obtain ⟨S9, k9⟩ : ∃ S, S8 ++ P = S := ⟨_, rfl⟩
  rw [k1, k2, k3, k4, k5, k6, k7, k8, k9]
  have n1 := congrArg List.length k1
  have n2 := congrArg List.length k2
  have n3 := congrArg List.length k3
  have n4 := congrArg List.length k4
  have n5 := congrArg List.length k5
  have n6 := congrArg List.length k6
  have n7 := congrArg List.length k7
  have n8 := congrArg List.length k8
  simp only [List.length_append, List.length_singleton] at n1 n2 n3 n4 n5 n6 n7 n8
  have q1 : ¬ 9223372036854775807 < 1 + A.length := by omega
  have q2 : ¬ 9223372036854775807 < S1.length + 1 := by omega
  have q3 : ¬ 9223372036854775807 < S2.length + B.length := by omega
  have q4 : ¬ 9223372036854775807 < S3.length + 1 := by omega
  have q5 : ¬ 9223372036854775807 < S4.length + C.length := by omega
  have q6 : ¬ 9223372036854775807 < S5.length + 1 := by omega
  have q7 : ¬ 9223372036854775807 < S6.length + D.length := by omega
  have q8 : ¬ 9223372036854775807 < S7.length + 1 := by omega
  have q9 : ¬ 9223372036854775807 < S8.length + P.length := by omega
  have z1 : (⟨#[118]⟩ : ByteArray) ++ tx A = tx S1 := (tx_add [118] A).trans (by rw [k1])
  have z2 : tx S1 ++ (⟨#[45]⟩ : ByteArray) = tx S2 := (tx_add S1 [45]).trans (by rw [k2])
  have z3 : tx S2 ++ tx B = tx S3 := (tx_add S2 B).trans (by rw [k3])
  have z4 : tx S3 ++ (⟨#[45]⟩ : ByteArray) = tx S4 := (tx_add S3 [45]).trans (by rw [k4])
  have z5 : tx S4 ++ tx C = tx S5 := (tx_add S4 C).trans (by rw [k5])
  have z6 : tx S5 ++ (⟨#[45]⟩ : ByteArray) = tx S6 := (tx_add S5 [45]).trans (by rw [k6])
  have z7 : tx S6 ++ tx D = tx S7 := (tx_add S6 D).trans (by rw [k7])
  have z8 : tx S7 ++ (⟨#[46]⟩ : ByteArray) = tx S8 := (tx_add S7 [46]).trans (by rw [k8])
  have z9 : tx S8 ++ tx P = tx S9 := (tx_add S8 P).trans (by rw [k9])
  have tz := tx_size
  clear n1 n2 n3 n4 n5 n6 n7 n8 k1 k2 k3 k4 k5 k6 k7 k8 k9 l1 l2 l3 l4 hP
  go_enter Tryd.func11, Tryd.ntmps11
  go_wp2_with (fail)
  obtain ⟨wv, hwv⟩ : ∃ wv, (w.alloc (Obj.cells #[.int .i64 a, .int .i64 b, .int .i64 c, .int .i64 d] 28)) = wv := ⟨_, rfl⟩
  have hb0 : Below w.heap.size w wv := hwv ▸ ba _ _
  have c0 : wv.cell? ⟨w.heap.size, 0, none⟩ = some (.int .i64 a) := by rw [← hwv, ca]; rfl
  have c1 : wv.cell? ⟨w.heap.size, 1, none⟩ = some (.int .i64 b) := by rw [← hwv, ca]; rfl
  have c2 : wv.cell? ⟨w.heap.size, 2, none⟩ = some (.int .i64 c) := by rw [← hwv, ca]; rfl
  have c3 : wv.cell? ⟨w.heap.size, 3, none⟩ = some (.int .i64 d) := by rw [← hwv, ca]; rfl
  have hl : w.heap.size < wv.heap.size := by rw [← hwv]; exact la _ _
  have HB0 := Lib.hid hb0
  have p0 := Wb.at_ c0
  have p1 := Wb.at_ c1
  have p2 := Wb.at_ c2
  have p3 := Wb.at_ c3
  rw [hwv]
  clear hb0 hwv c0 c1 c2 c3
  refine wp_region_wb wv (Below.refl _ _) (by kernel_rfl) (by kernel_rfl) ?_
  repeat (go_big_quiet_step ((go_at_call 15; first | with_reducible exact wb_call (H1.out _) | with_reducible exact wb_call (H2.out _) | with_reducible exact wb_call (H3.out _) | with_reducible exact wb_call (H4.out _))))
  refine wpQuiet_nil ?_
  rintro _ ⟨u, rfl⟩
  go_wp2_with (fail)
  go_ret
  exact ⟨rfl, HB0.out.trans (u.h.mono HB0.out.size)⟩
end Go.Proofs.YtoiiaeoaenghfaaDoor.fn
