/-
  Sorted lists of names with what they hold: mathematics, nothing of the program.
-/
import Derived.Test.YtheanpcbjjogfaaMem
namespace Go.Proofs.Ytheanpcbjjogfaa.al

abbrev Nm := List UInt8
abbrev AL (α : Type) := List (Nm × α)
section
variable {α β : Type}
def get : AL α → Nm → Option α
  | [], _ => none
  | (k, x) :: r, q => if k = q then some x else get r q
def put : AL α → Nm → α → AL α
  | [], q, x => [(q, x)]
  | (k, y) :: r, q, x => if k = q then (q, x) :: r else if q < k then (q, x) :: (k, y) :: r else (k, y) :: put r q x
def del (l : AL α) (q : Nm) : AL α := l.filter fun p => !decide (p.1 = q)
def Srt (l : AL α) : Prop := l.Pairwise fun p q => p.1 < q.1
def mapv (f : α → β) (l : AL α) : AL β := l.map fun p => (p.1, f p.2)

theorem nm_irrefl (a : Nm) : ¬ a < a := List.lt_irrefl a
theorem nm_trans {a b c : Nm} (h : a < b) (k : b < c) : a < c := List.lt_trans h k
theorem nm_total {a b : Nm} (h : ¬ a = b) (k : ¬ a < b) : b < a := by
  rcases List.le_total a b with h1 | h1
  · exact absurd (List.le_antisymm h1 (List.not_lt.1 k)) h
  · rcases Decidable.em (b < a) with h2 | h2
    · exact h2
    · exact absurd (List.le_antisymm (List.not_lt.1 h2) h1) h
theorem nm_ne {a b : Nm} (h : a < b) : a ≠ b := fun e => nm_irrefl b (e ▸ h)

theorem get_put_same (l : AL α) (q : Nm) (x : α) : get (put l q x) q = some x := by
  induction l with
  | nil => simp [put, get]
  | cons p r ih =>
    obtain ⟨k, y⟩ := p
    simp only [put]
    split
    · simp [get]
    · split
      · simp [get]
      · rename_i h1 _; simp [get, h1, ih]
theorem get_put_other {l : AL α} {q q' : Nm} (x : α) (h : q' ≠ q) : get (put l q x) q' = get l q' := by
  induction l with
  | nil => simp [put, get, h.symm]
  | cons p r ih =>
    obtain ⟨k, y⟩ := p
    simp only [put]
    split
    · rename_i e; subst e; simp [get, h.symm]
    · split
      · simp [get, h.symm]
      · simp [get, ih]
theorem get_del_same (l : AL α) (q : Nm) : get (del l q) q = none := by
  induction l with
  | nil => rfl
  | cons p r ih =>
    obtain ⟨k, y⟩ := p
    simp only [del, List.filter_cons] at ih ⊢
    by_cases h : k = q
    · simp [h, ih]
    · simp [h, get, ih]
theorem get_del_other {l : AL α} {q q' : Nm} (h : q' ≠ q) : get (del l q) q' = get l q' := by
  induction l with
  | nil => rfl
  | cons p r ih =>
    obtain ⟨k, y⟩ := p
    simp only [del, List.filter_cons] at ih ⊢
    by_cases e : k = q
    · subst e; simp [get, h.symm, ih]
    · simp [e, get, ih]
theorem mem_get {l : AL α} {q : Nm} {x : α} (h : get l q = some x) : (q, x) ∈ l := by
  induction l with
  | nil => cases h
  | cons p r ih =>
    obtain ⟨k, y⟩ := p
    simp only [get] at h
    split at h
    · rename_i e; subst e; cases h; simp
    · exact List.mem_cons_of_mem _ (ih h)
theorem get_mem {l : AL α} (hs : Srt l) {q : Nm} {x : α} (h : (q, x) ∈ l) : get l q = some x := by
  induction l with
  | nil => simp at h
  | cons p r ih =>
    obtain ⟨k, y⟩ := p
    unfold Srt at hs
    rw [List.pairwise_cons] at hs
    rcases List.mem_cons.1 h with h | h
    · cases h; simp [get]
    · have := hs.1 _ h
      simp only [get]
      rw [if_neg (nm_ne this)]
      exact ih hs.2 h
theorem get_none {l : AL α} {q : Nm} : get l q = none ↔ ∀ p ∈ l, p.1 ≠ q := by
  induction l with
  | nil => simp [get]
  | cons p r ih =>
    obtain ⟨k, y⟩ := p
    simp only [get, List.mem_cons, forall_eq_or_imp]
    split
    · rename_i e; simp [e]
    · rename_i e; rw [ih]; simp [e]
theorem mem_put {l : AL α} {q : Nm} {x : α} {p : Nm × α} (h : p ∈ put l q x) : p = (q, x) ∨ (p ∈ l) := by
  induction l with
  | nil => simp [put] at h; exact .inl h
  | cons c r ih =>
    obtain ⟨k, y⟩ := c
    simp only [put] at h
    split at h
    · rcases List.mem_cons.1 h with h | h
      · exact .inl h
      · exact .inr (List.mem_cons_of_mem _ h)
    · split at h
      · rcases List.mem_cons.1 h with h | h
        · exact .inl h
        · exact .inr h
      · rcases List.mem_cons.1 h with h | h
        · exact .inr (h ▸ List.mem_cons_self)
        · rcases ih h with h | h
          · exact .inl h
          · exact .inr (List.mem_cons_of_mem _ h)
theorem srt_put {l : AL α} (hs : Srt l) (q : Nm) (x : α) : Srt (put l q x) := by
  induction l with
  | nil => simp [put, Srt]
  | cons c r ih =>
    obtain ⟨k, y⟩ := c
    unfold Srt at hs
    rw [List.pairwise_cons] at hs
    simp only [put]
    split
    · rename_i e; subst e
      exact List.pairwise_cons.2 hs
    · split
      · rename_i h1 h2
        refine List.pairwise_cons.2 ⟨fun p hp => ?_, List.pairwise_cons.2 hs⟩
        rcases List.mem_cons.1 hp with hp | hp
        · subst hp; exact h2
        · exact nm_trans h2 (hs.1 p hp)
      · rename_i h1 h2
        refine List.pairwise_cons.2 ⟨fun p hp => ?_, ih hs.2⟩
        rcases mem_put hp with hp | hp
        · subst hp; exact nm_total (fun e => h1 e.symm) h2
        · exact hs.1 p hp
theorem srt_del {l : AL α} (hs : Srt l) (q : Nm) : Srt (del l q) := List.Pairwise.filter _ hs
theorem mem_del {l : AL α} {q : Nm} {p : Nm × α} : p ∈ del l q ↔ p ∈ l ∧ p.1 ≠ q := by simp [del]
theorem srt_ext {l m : AL α} (hl : Srt l) (hm : Srt m) (h : ∀ q, get l q = get m q) : l = m := by
  have key : ∀ p, p ∈ l ↔ p ∈ m := fun p => by
    obtain ⟨k, x⟩ := p
    constructor
    · intro hp; exact mem_get (by rw [← h]; exact get_mem hl hp)
    · intro hp; exact mem_get (by rw [h]; exact get_mem hm hp)
  clear h
  induction l generalizing m with
  | nil =>
    cases m with
    | nil => rfl
    | cons c r => have := (key c).2 List.mem_cons_self; simp at this
  | cons c r ih =>
    cases m with
    | nil => have := (key c).1 List.mem_cons_self; simp at this
    | cons d s =>
      unfold Srt at hl hm
      rw [List.pairwise_cons] at hl hm
      have e : c = d := by
        rcases List.mem_cons.1 ((key c).1 List.mem_cons_self) with h1 | h1
        · exact h1
        · rcases List.mem_cons.1 ((key d).2 List.mem_cons_self) with h2 | h2
          · exact h2.symm
          · exact absurd (nm_trans (hl.1 d h2) (hm.1 c h1)) (nm_irrefl _)
      subst e
      congr 1
      refine ih hl.2 hm.2 fun p => ⟨fun hp => ?_, fun hp => ?_⟩
      · rcases List.mem_cons.1 ((key p).1 (List.mem_cons_of_mem _ hp)) with h1 | h1
        · subst h1; exact absurd (hl.1 _ hp) (nm_irrefl _)
        · exact h1
      · rcases List.mem_cons.1 ((key p).2 (List.mem_cons_of_mem _ hp)) with h1 | h1
        · subst h1; exact absurd (hm.1 _ hp) (nm_irrefl _)
        · exact h1
theorem mapv_get (f : α → β) (l : AL α) (q : Nm) : get (mapv f l) q = (get l q).map f := by
  induction l with
  | nil => rfl
  | cons c r ih =>
    obtain ⟨k, y⟩ := c
    simp only [mapv, List.map_cons, get] at ih ⊢
    split
    · rfl
    · exact ih
theorem mapv_put (f : α → β) (l : AL α) (q : Nm) (x : α) : mapv f (put l q x) = put (mapv f l) q (f x) := by
  induction l with
  | nil => rfl
  | cons c r ih =>
    obtain ⟨k, y⟩ := c
    simp only [mapv, List.map_cons, put] at ih ⊢
    split
    · simp
    · split
      · simp
      · simp [ih]
theorem mapv_del (f : α → β) (l : AL α) (q : Nm) : mapv f (del l q) = del (mapv f l) q := by
  simp only [mapv, del, List.filter_map]
  rfl
theorem mapv_srt {f : α → β} {l : AL α} : Srt (mapv f l) ↔ Srt l := by
  unfold Srt mapv
  rw [List.pairwise_map]
theorem del_absent {l : AL α} {q : Nm} (h : get l q = none) : del l q = l := by
  unfold del
  rw [List.filter_eq_self]
  intro p hp
  simpa using get_none.1 h p hp
def sum (f : α → Nat) : AL α → Nat
  | [] => 0
  | (_, x) :: r => f x + sum f r
theorem sum_mapv (f : β → Nat) (g : α → β) (l : AL α) : sum f (mapv g l) = sum (fun x => f (g x)) l := by
  induction l with
  | nil => rfl
  | cons c r ih => obtain ⟨k, y⟩ := c; simp only [mapv, List.map_cons, sum] at ih ⊢; rw [ih]
theorem sum_put_new {f : α → Nat} {l : AL α} {q : Nm} {x : α} (h : get l q = none) : sum f (put l q x) = sum f l + f x := by
  induction l with
  | nil => simp [put, sum]
  | cons c r ih =>
    obtain ⟨k, y⟩ := c
    simp only [get] at h
    split at h
    · cases h
    · rename_i e
      simp only [put, if_neg e]
      split
      · simp only [sum]; omega
      · simp only [sum, ih h]; omega
theorem sum_put_old {f : α → Nat} {l : AL α} {q : Nm} {x y : α} (hs : Srt l) (h : get l q = some y) : sum f (put l q x) + f y = sum f l + f x := by
  induction l with
  | nil => cases h
  | cons c r ih =>
    obtain ⟨k, z⟩ := c
    have hs' := hs
    unfold Srt at hs'
    rw [List.pairwise_cons] at hs'
    simp only [get] at h
    split at h
    · rename_i e; cases h
      simp only [put, if_pos e, sum]; omega
    · rename_i e
      have hk : ¬ q < k := fun hlt => nm_irrefl k (nm_trans (hs'.1 _ (mem_get h)) hlt)
      simp only [put, if_neg e, if_neg hk, sum]
      have := ih hs'.2 h
      omega
theorem sum_del {f : α → Nat} {l : AL α} {q : Nm} {y : α} (hs : Srt l) (h : get l q = some y) : sum f (del l q) + f y = sum f l := by
  induction l with
  | nil => cases h
  | cons c r ih =>
    obtain ⟨k, z⟩ := c
    have hs' := hs
    unfold Srt at hs'
    rw [List.pairwise_cons] at hs'
    simp only [get] at h
    split at h
    · rename_i e; cases h
      have hr : get r q = none := get_none.2 fun p hp => by
        have := hs'.1 p hp
        rw [e] at this
        exact (nm_ne this).symm
      have := del_absent hr
      simp only [del, List.filter_cons, e, decide_true, Bool.not_true, Bool.false_eq_true, if_false, sum] at this ⊢
      rw [this]; omega
    · rename_i e
      have := ih hs'.2 h
      simp only [del, List.filter_cons, e, decide_false, Bool.not_false, if_true, sum] at this ⊢
      omega
theorem len_put {l : AL α} {q : Nm} {x : α} : (put l q x).length ≤ l.length + 1 := by
  induction l with
  | nil => simp [put]
  | cons c r ih =>
    obtain ⟨k, z⟩ := c
    simp only [put]
    split
    · simp
    · split
      · simp
      · simp; omega
theorem srt_names {l : AL α} (hs : Srt l) : (l.map (·.1)).Pairwise (· < ·) := by
  rw [List.pairwise_map]; exact hs
/-- what was written last at a name that is there -/
theorem put_put (l : AL α) (q : Nm) (x y : α) (hs : Srt l) : put (put l q x) q y = put l q y := by
  refine srt_ext (srt_put (srt_put hs _ _) _ _) (srt_put hs _ _) fun r => ?_
  by_cases h : r = q
  · subst h; rw [get_put_same, get_put_same]
  · rw [get_put_other _ h, get_put_other _ h, get_put_other _ h]
end
end Go.Proofs.Ytheanpcbjjogfaa.al
