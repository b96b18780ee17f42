/-
  Placements: a new one has loads that differ by one at most.
-/
import Derived.Test.YtnpkhkhchimcnaaPmMath
namespace Go.Proofs.Ytnpkhkhchimcnaa.pm

theorem holds_iff (l : List O) (n : Int) : holds l n = true ↔ ∃ o ∈ l, o.1 = n ∧ o.2.1 ≠ 3 := by
  unfold holds
  rw [List.any_eq_true]
  exact ⟨fun ⟨o, h1, h2⟩ => ⟨o, h1, by simpa using h2⟩, fun ⟨o, h1, h2⟩ => ⟨o, h1, by simpa using h2⟩⟩
theorem holds_own (l : List O) (x n : Int) : holds (own l (x, 2, -1)) n = (x == n || holds l n) := by
  rw [Bool.eq_iff_iff, holds_iff, Bool.or_eq_true, holds_iff]
  constructor
  · rintro ⟨o, h1, h2, h3⟩
    rcases (own_mem _ _ _).1 h1 with rfl | h1
    · exact .inl (by simpa using h2)
    · exact .inr ⟨o, h1, h2, h3⟩
  · rintro (h | ⟨o, h1, h2, h3⟩)
    · exact ⟨(x, 2, -1), (own_mem _ _ _).2 (.inl rfl), by simpa using h, by simp⟩
    · exact ⟨o, (own_mem _ _ _).2 (.inr h1), h2, h3⟩
theorem load_set {X : List (List O)} {i : Nat} {q : List O} (hq : X[i]? = some q) (l : List O) (n : Int) : load (X.set i l) n + (if holds q n then 1 else 0) = load X n + (if holds l n then 1 else 0) := by
  unfold load
  induction X generalizing i with
  | nil => simp at hq
  | cons y X ih =>
    cases i with
    | zero =>
      simp at hq; subst hq
      rw [List.set_cons_zero, List.countP_cons, List.countP_cons]
      omega
    | succ i =>
      rw [List.set_cons_succ, List.countP_cons, List.countP_cons]
      have := ih (i := i) (by simpa using hq)
      omega
theorem at_of {X : List (List O)} {i : Nat} (hi : i < X.length) : X[i]? = some (at_ X i) := by
  unfold at_; rw [List.getElem?_eq_getElem hi]; rfl
theorem load_step {X : List (List O)} {i : Nat} (hi : i < X.length) {x : Int} (hx : holds (at_ X i) x = false) (n : Int) : load (X.set i (own (at_ X i) (x, 2, -1))) n = load X n + (if x = n then 1 else 0) := by
  have h := load_set (at_of hi) (own (at_ X i) (x, 2, -1)) n
  rw [holds_own] at h
  by_cases e : x = n
  · subst e
    rw [hx] at h
    simp at h ⊢
    omega
  · have e2 : (x == n) = false := by simp [e]
    rw [e2, Bool.false_or] at h
    simp [e]
    omega
structure LInv (X : List (List O)) (q : List O) (seen : List Int) (best : Int) : Prop where
  all : best < 0 → ∀ n ∈ seen, holds q n = true
  mem : 0 ≤ best → best ∈ seen ∧ holds q best = false ∧ ∀ n ∈ seen, holds q n = false → load X best ≤ load X n
theorem least_inv {X : List (List O)} {q : List O} (l seen : List Int) (best : Int) (h : LInv X q seen best) (hl : ∀ n ∈ l, 0 ≤ n) : LInv X q (seen ++ l) (l.foldl (leastStep X q) best) := by
  induction l generalizing seen best with
  | nil => simpa using h
  | cons a l ih =>
    rw [List.foldl_cons, show seen ++ a :: l = (seen ++ [a]) ++ l by simp]
    refine ih (seen ++ [a]) _ ?_ (fun n hn => hl n (by simp [hn]))
    have ha := hl a (by simp)
    unfold leastStep
    cases hh : holds q a with
    | true =>
      simp only [Bool.not_true, Bool.false_and, Bool.false_eq_true, if_false]
      refine ⟨fun hb n hn => ?_, fun hb => ?_⟩
      · rcases List.mem_append.1 hn with hn | hn
        · exact h.all hb n hn
        · simp at hn; subst hn; exact hh
      · obtain ⟨h1, h2, h3⟩ := h.mem hb
        refine ⟨by simp [h1], h2, fun n hn hf => ?_⟩
        rcases List.mem_append.1 hn with hn | hn
        · exact h3 n hn hf
        · simp at hn; subst hn; rw [hh] at hf; cases hf
    | false =>
      by_cases hb : best < 0
      · simp only [Bool.not_false, Bool.true_and, hb, decide_true, Bool.true_or, if_true]
        refine ⟨fun h => by omega, fun _ => ⟨by simp, hh, fun n hn hf => ?_⟩⟩
        rcases List.mem_append.1 hn with hn | hn
        · rw [h.all hb n hn] at hf; cases hf
        · simp at hn; subst hn; exact Nat.le_refl _
      · obtain ⟨h1, h2, h3⟩ := h.mem (by omega)
        by_cases hlt : load X a < load X best
        · simp only [Bool.not_false, Bool.true_and, hb, decide_false, Bool.false_or, hlt, decide_true, if_true]
          refine ⟨fun h => by omega, fun _ => ⟨by simp, hh, fun n hn hf => ?_⟩⟩
          rcases List.mem_append.1 hn with hn | hn
          · have := h3 n hn hf; omega
          · simp at hn; subst hn; exact Nat.le_refl _
        · simp only [Bool.not_false, Bool.true_and, hb, decide_false, Bool.false_or, hlt, Bool.false_eq_true, if_false]
          refine ⟨fun h => absurd h hb, fun _ => ⟨by simp [h1], h2, fun n hn hf => ?_⟩⟩
          rcases List.mem_append.1 hn with hn | hn
          · exact h3 n hn hf
          · simp at hn; subst hn; omega
theorem nodup_le : ∀ {l m : List Int}, l.Nodup → (∀ x ∈ l, x ∈ m) → l.length ≤ m.length
  | [], _, _, _ => Nat.zero_le _
  | a :: t, m, nd, h => by
    have ha := h a (by simp)
    have hnd := List.nodup_cons.1 nd
    have := nodup_le (l := t) (m := m.erase a) hnd.2 fun x hx => (List.mem_erase_of_ne (fun e => hnd.1 (by rw [← e]; exact hx))).2 (h x (by simp [hx]))
    rw [List.length_erase_of_mem ha] at this
    have := List.length_pos_of_mem ha
    simp only [List.length_cons]
    omega
theorem nodes_nodup {l : List Int} (h : Rise id l) : l.Nodup := List.Pairwise.imp (fun h e => by simp only [id] at h; omega) h
theorem free_node {nodes : List Int} {q : List O} (h : NodesOk nodes) (hq : q.length < 3) : ∃ n ∈ nodes, holds q n = false := by
  refine Classical.byContradiction fun hc => ?_
  have := nodup_le (m := q.map (·.1)) (nodes_nodup h.rise) fun x hx => by
    have hx2 : holds q x = true := by
      cases hh : holds q x with
      | true => rfl
      | false => exact absurd ⟨x, hx, hh⟩ hc
    obtain ⟨o, h1, h2, _⟩ := (holds_iff q x).1 hx2
    exact List.mem_map.2 ⟨o, h1, h2⟩
  rw [List.length_map] at this
  have := h.many
  omega
theorem least_spec {nodes : List Int} {X : List (List O)} {q : List O} (h : NodesOk nodes) (hq : q.length < 3) :
    least nodes X q ∈ nodes ∧ holds q (least nodes X q) = false ∧ ∀ n ∈ nodes, holds q n = false → load X (least nodes X q) ≤ load X n := by
  have hi := least_inv (X := X) (q := q) nodes [] (-1) ⟨fun _ n hn => by simp at hn, fun h => by omega⟩ (fun n hn => (h.each n hn).1)
  rw [List.nil_append] at hi
  have hn : 0 ≤ least nodes X q := by
    refine Classical.byContradiction fun hc => ?_
    obtain ⟨n, h1, h2⟩ := free_node h hq
    rw [hi.all (by unfold least at hc; omega) n h1] at h2; cases h2
  exact hi.mem hn
/-- the loads are even; those who hold the shard at hand have no fewer -/
structure Bal (nodes : List Int) (X : List (List O)) (i : Nat) : Prop where
  diff : ∀ a ∈ nodes, ∀ b ∈ nodes, load X a ≤ load X b + 1
  hold : ∀ a ∈ nodes, ∀ b ∈ nodes, holds (at_ X i) a = true → holds (at_ X i) b = false → load X b ≤ load X a
theorem at_set {X : List (List O)} {i : Nat} (hi : i < X.length) (l : List O) : at_ (X.set i l) i = l := by unfold at_; simp [hi]
theorem at_set_ne {X : List (List O)} {i k : Nat} (hk : i ≠ k) (l : List O) : at_ (X.set i l) k = at_ X k := by unfold at_; rw [List.getElem?_set_ne hk]
theorem Bal.step {nodes : List Int} {X : List (List O)} {i : Nat} (h : Bal nodes X i) (hn : NodesOk nodes) (hi : i < X.length) (hq : (at_ X i).length < 3) :
    Bal nodes (stepO nodes X i) i ∧ (at_ (stepO nodes X i) i).length = (at_ X i).length + 1 ∧ (∃ a ∈ nodes, 1 ≤ load (stepO nodes X i) a) ∧ ∀ a, load X a ≤ load (stepO nodes X i) a := by
  obtain ⟨h1, h2, h3⟩ := least_spec (X := X) hn hq
  unfold stepO
  obtain ⟨x, hx⟩ : ∃ x, least nodes X (at_ X i) = x := ⟨_, rfl⟩
  rw [hx] at h1 h2 h3 ⊢
  have hl := load_step hi h2
  have hmin : ∀ b ∈ nodes, load X x ≤ load X b := fun b hb => by
    cases hh : holds (at_ X i) b with
    | true => exact h.hold b hb x h1 hh h2
    | false => exact h3 b hb hh
  refine ⟨⟨fun a ha b hb => ?_, fun a ha b hb hha hhb => ?_⟩, ?_, ⟨x, h1, by rw [hl]; simp⟩, fun a => by rw [hl]; omega⟩
  · rw [hl, hl]
    have e1 := h.diff a ha b hb
    have e2 := hmin b hb
    by_cases e : x = a
    · subst e; rw [if_pos rfl]; split <;> omega
    · rw [if_neg e]; omega
  · rw [at_set hi, holds_own] at hha hhb
    rw [hl, hl]
    simp only [Bool.or_eq_true, beq_iff_eq, Bool.or_eq_false_iff, beq_eq_false_iff_ne, ne_eq] at hha hhb
    rw [if_neg hhb.1]
    rcases hha with e | e
    · subst e; rw [if_pos rfl]; have := h.diff b hb x ha; omega
    · have := h.hold a ha b hb e hhb.2; omega
  · rw [at_set hi, own_len]
theorem at_steps_ne (nodes : List Int) {i k : Nat} (hk : i ≠ k) (j : Nat) (X : List (List O)) : at_ (steps nodes i j X) k = at_ X k := by
  induction j with
  | zero => rfl
  | succ j ih => rw [steps, stepO, at_set_ne hk, ih]
theorem initAt_rest (nodes : List Int) (S i k : Nat) (hk : i ≤ k) : at_ (initAt nodes S i) k = [] := by
  induction i with
  | zero =>
    unfold at_ initAt
    rw [List.getElem?_replicate]
    split <;> rfl
  | succ i ih => rw [initAt, at_steps_ne nodes (by omega), ih (by omega)]
theorem bal_steps {nodes : List Int} {X : List (List O)} {i : Nat} (h : Bal nodes X i) (hn : NodesOk nodes) (hi : i < X.length) (h0 : at_ X i = []) (j : Nat) (hj : j ≤ 3) :
    Bal nodes (steps nodes i j X) i ∧ (at_ (steps nodes i j X) i).length = j ∧ (0 < j → ∃ a ∈ nodes, 1 ≤ load (steps nodes i j X) a) := by
  induction j with
  | zero => exact ⟨h, by rw [steps, h0]; rfl, fun h => by omega⟩
  | succ j ih =>
    obtain ⟨a, b, _⟩ := ih (by omega)
    obtain ⟨c, d, e, _⟩ := a.step hn (by rw [steps_len]; exact hi) (by omega)
    exact ⟨c, by rw [steps, d, b], fun _ => e⟩
theorem bal_init {nodes : List Int} (hn : NodesOk nodes) (S i : Nat) (hi : i ≤ S) : (∀ a ∈ nodes, ∀ b ∈ nodes, load (initAt nodes S i) a ≤ load (initAt nodes S i) b + 1) ∧ (0 < i → ∃ a ∈ nodes, 1 ≤ load (initAt nodes S i) a) := by
  induction i with
  | zero =>
    refine ⟨fun a _ b _ => ?_, fun h => by omega⟩
    have : ∀ n, load (initAt nodes S 0) n = 0 := fun n => by
      unfold load initAt
      rw [List.countP_eq_zero]
      intro l hl
      rw [List.mem_replicate] at hl
      rw [hl.2]; simp [holds]
    rw [this]; omega
  | succ i ih =>
    obtain ⟨h1, _⟩ := ih (by omega)
    have hb : Bal nodes (initAt nodes S i) i := ⟨h1, fun a _ b _ hh => by rw [initAt_rest nodes S i i (Nat.le_refl _)] at hh; simp [holds] at hh⟩
    obtain ⟨a, _, c⟩ := bal_steps hb hn (by rw [initAt_len]; omega) (initAt_rest nodes S i i (Nat.le_refl _)) 3 (Nat.le_refl _)
    exact ⟨a.diff, fun _ => c (by omega)⟩
end Go.Proofs.Ytnpkhkhchimcnaa.pm
