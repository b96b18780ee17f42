/-
  Placements as lists of numbers: what may be, who holds, what changes; nothing of the program.
-/
import Derived.Test.YtnpkhkhchimcnaaLst
namespace Go.Proofs.Ytnpkhkhchimcnaa.pm

/-- an owner: its node, its state, whence it comes -/
abbrev O := Int × Int × Int
def has (l : List Int) (n : Int) : Bool := l.any fun x => x == n
def holds (l : List O) (n : Int) : Bool := l.any fun o => o.1 == n && o.2.1 != 3
def load (ss : List (List O)) (n : Int) : Nat := ss.countP fun l => holds l n
def find (l : List O) (n : Int) : Option O := l.find? fun o => o.1 == n
def coming (l : List O) : Bool := l.any fun o => o.2.1 == 1
def busy (ss : List (List O)) : Bool := ss.any coming
def heirs (l : List O) (n : Int) : Nat := l.countP fun x => x.2.1 == 1 && x.2.2 == n
def sources (l : List O) (f : Int) : Nat := l.countP fun x => x.2.1 == 3 && x.1 == f
def stay (l : List O) : Nat := l.countP fun o => o.2.1 != 3

/-- rising by f -/
def Rise {α : Type} (f : α → Int) (l : List α) : Prop := l.Pairwise fun a b => f a < f b
theorem Rise.nil {α : Type} (f : α → Int) : Rise f [] := List.Pairwise.nil
theorem rise_succ {α : Type} {f : α → Int} {l : List α} {i : Nat} {x y : α} (hi : l[i]? = some x) (hy : l[i + 1]? = some y) : Rise f (l.take (i + 2)) ↔ Rise f (l.take (i + 1)) ∧ f x < f y := by
  have e : l.take (i + 2) = l.take (i + 1) ++ [y] := by
    rw [List.take_add_one (i := i + 1), hy]; rfl
  have e1 : l.take (i + 1) = l.take i ++ [x] := by rw [List.take_add_one, hi]; rfl
  constructor
  · intro h
    rw [e] at h
    unfold Rise at h ⊢
    rw [List.pairwise_append] at h
    exact ⟨h.1, h.2.2 x (by rw [e1]; simp) y (by simp)⟩
  · rintro ⟨h, hxy⟩
    rw [e]
    unfold Rise at h ⊢
    rw [List.pairwise_append]
    refine ⟨h, by simp, fun a ha b hb => ?_⟩
    simp at hb; subst hb
    rw [e1] at h ha
    rw [List.pairwise_append] at h
    rcases List.mem_append.1 ha with ha | ha
    · have := h.2.2 a ha x (by simp); omega
    · simp at ha; subst ha; exact hxy
theorem rise_one {α : Type} {f : α → Int} {l : List α} : Rise f (l.take 1) := by
  cases l with
  | nil => exact Rise.nil f
  | cons a l => simp [Rise]
theorem rise_take {α : Type} {f : α → Int} {l : List α} (h : Rise f l) (i : Nat) : Rise f (l.take i) := List.Pairwise.sublist (List.take_sublist _ _) h
theorem rise_inj {α : Type} {f : α → Int} {l : List α} (h : Rise f l) {a b : α} (ha : a ∈ l) (hb : b ∈ l) (e : f a = f b) : a = b := by
  unfold Rise at h
  rw [List.pairwise_iff_getElem] at h
  obtain ⟨i, hi, rfl⟩ := List.getElem_of_mem ha
  obtain ⟨j, hj, rfl⟩ := List.getElem_of_mem hb
  rcases Nat.lt_trichotomy i j with k | k | k
  · have := h i j hi hj k; omega
  · subst k; rfl
  · have := h j i hj hi k; omega
/-- a step of a check along a list that has to rise -/
structure Upto {α : Type} (f : α → Int) (ok : α → Prop) (l : List α) (i : Nat) : Prop where
  rise : Rise f (l.take i)
  each : ∀ x ∈ l.take i, ok x
theorem Upto.zero {α : Type} (f : α → Int) (ok : α → Prop) (l : List α) : Upto f ok l 0 := ⟨by simp [Rise], by simp⟩
theorem Upto.succ {α : Type} {f : α → Int} {ok : α → Prop} {l : List α} {i : Nat} {x : α} (h : Upto f ok l i) (hx : l[i]? = some x) (ho : ok x) (hl : ∀ j y, i = j + 1 → l[j]? = some y → f y < f x) : Upto f ok l (i + 1) := by
  have hi : i < l.length := by
    rcases Nat.lt_or_ge i l.length with h | h
    · exact h
    · rw [List.getElem?_eq_none h] at hx; cases hx
  refine ⟨?_, fun y hy => ?_⟩
  · cases i with
    | zero => exact rise_one
    | succ j =>
      have hy : l[j]? = some l[j] := List.getElem?_eq_getElem (by omega)
      exact (rise_succ hy hx).2 ⟨h.rise, hl j _ rfl hy⟩
  · rw [List.take_add_one, hx] at hy
    rcases List.mem_append.1 hy with hy | hy
    · exact h.each y hy
    · simp at hy; subst hy; exact ho
theorem Upto.all {α : Type} {f : α → Int} {ok : α → Prop} {l : List α} {n : Nat} (h : Upto f ok l n) (hn : l.length = n) : Rise f l ∧ ∀ x ∈ l, ok x := by
  obtain ⟨h1, h2⟩ := h
  rw [List.take_of_length_le (by omega)] at h1 h2
  exact ⟨h1, h2⟩
theorem not_rise {α : Type} {f : α → Int} {l : List α} {i : Nat} {x y : α} (hx : l[i]? = some x) (hy : l[i + 1]? = some y) (h : f y ≤ f x) : ¬ Rise f l := fun hr => by
  have := (rise_succ hx hy).1 (rise_take hr _)
  omega

def isNode (n : Int) : Prop := 0 ≤ n ∧ n < 8
/-- the nodes of a placement -/
structure NodesOk (l : List Int) : Prop where
  rise : Rise id l
  each : ∀ n ∈ l, isNode n
  many : 3 ≤ l.length
/-- the program's check of an owner .. -/
def pval (l : List O) (o : O) : Prop :=
  (o.2.1 = 2 ∧ o.2.2 = -1) ∨ (o.2.1 = 1 ∧ ∃ x, find l o.2.2 = some x ∧ x.2.1 = 3) ∨ (o.2.1 = 3 ∧ o.2.2 = -1 ∧ heirs l o.1 = 1)
/-- .. and the document's -/
def rval (l : List O) (o : O) : Prop :=
  (1 ≤ o.2.1 ∧ o.2.1 ≤ 3) ∧ (o.2.1 = 1 → sources l o.2.2 = 1) ∧ (o.2.1 ≠ 1 → o.2.2 = -1) ∧ (o.2.1 = 3 → heirs l o.1 = 1)
theorem countP_uniq {α : Type} {f : α → Int} {l : List α} (h : Rise f l) (q : α → Bool) (n : Int) (hq : ∀ x, q x = true → f x = n) : l.countP q = 1 ↔ ∃ x ∈ l, q x = true := by
  induction l with
  | nil => simp
  | cons a l ih =>
    have h' : (∀ b ∈ l, f a < f b) ∧ l.Pairwise (fun a b => f a < f b) := List.pairwise_cons.1 h
    rw [List.countP_cons]
    by_cases ha : q a = true
    · have hz : l.countP q = 0 := by
        rw [List.countP_eq_zero]
        intro b hb hqb
        have := h'.1 b hb
        rw [hq a ha, hq b hqb] at this
        omega
      rw [hz, if_pos ha]
      exact ⟨fun _ => ⟨a, by simp, ha⟩, fun _ => rfl⟩
    · rw [if_neg ha, Nat.add_zero, ih h'.2]
      constructor
      · rintro ⟨x, hx, e⟩; exact ⟨x, by simp [hx], e⟩
      · rintro ⟨x, hx, e⟩
        rcases List.mem_cons.1 hx with rfl | hx
        · exact absurd e ha
        · exact ⟨x, hx, e⟩
theorem find_iff {l : List O} (h : Rise (fun o : O => o.1) l) (n : Int) (x : O) : find l n = some x ↔ x ∈ l ∧ x.1 = n := by
  constructor
  · intro e
    have h1 := List.find?_some e
    have h2 := List.mem_of_find?_eq_some e
    exact ⟨h2, by simpa using h1⟩
  · rintro ⟨hx, e⟩
    unfold find
    cases hf : l.find? (fun o => o.1 == n) with
    | none =>
      have := List.find?_eq_none.1 hf x hx
      simp [e] at this
    | some y =>
      have h1 := List.find?_some hf
      have h2 := List.mem_of_find?_eq_some hf
      simp at h1
      rw [rise_inj h h2 hx (by omega)]
theorem val_iff {l : List O} (h : Rise (fun o : O => o.1) l) (o : O) : pval l o ↔ rval l o := by
  have hs : sources l o.2.2 = 1 ↔ ∃ x, find l o.2.2 = some x ∧ x.2.1 = 3 := by
    unfold sources
    rw [countP_uniq h _ o.2.2 (fun x hx => by simp at hx; omega)]
    constructor
    · rintro ⟨x, hx, e⟩
      simp at e
      exact ⟨x, (find_iff h _ x).2 ⟨hx, e.2⟩, e.1⟩
    · rintro ⟨x, hx, e⟩
      obtain ⟨h1, h2⟩ := (find_iff h _ x).1 hx
      exact ⟨x, h1, by simp [e, h2]⟩
  unfold pval rval
  rw [hs]
  constructor
  · rintro (⟨a, b⟩ | ⟨a, b⟩ | ⟨a, b, c⟩)
    · exact ⟨by omega, fun h => by omega, fun _ => b, fun h => by omega⟩
    · exact ⟨by omega, fun _ => b, fun h => by omega, fun h => by omega⟩
    · exact ⟨by omega, fun h => by omega, fun _ => b, fun _ => c⟩
  · rintro ⟨a, b, c, d⟩
    have : o.2.1 = 1 ∨ o.2.1 = 2 ∨ o.2.1 = 3 := by omega
    rcases this with e | e | e
    · exact .inr (.inl ⟨e, b e⟩)
    · exact .inl ⟨e, c (by omega)⟩
    · exact .inr (.inr ⟨e, c (by omega), d e⟩)
/-- one shard's owners, by either check of one -/
structure ShardBy (val : List O → O → Prop) (nodes : List Int) (l : List O) : Prop where
  rise : Rise (fun o : O => o.1) l
  each : ∀ o ∈ l, isNode o.1 ∧ val l o ∧ (o.2.1 ≠ 3 → has nodes o.1 = true)
  three : stay l = 3
abbrev ShardOk := ShardBy pval
theorem shardBy_iff (nodes : List Int) (l : List O) : ShardBy pval nodes l ↔ ShardBy rval nodes l :=
  ⟨fun h => ⟨h.rise, fun o ho => ⟨(h.each o ho).1, (val_iff h.rise o).1 (h.each o ho).2.1, (h.each o ho).2.2⟩, h.three⟩,
   fun h => ⟨h.rise, fun o ho => ⟨(h.each o ho).1, (val_iff h.rise o).2 (h.each o ho).2.1, (h.each o ho).2.2⟩, h.three⟩⟩
/-- a placement: its version, its nodes, its shards' owners -/
structure Pl where
  ver : Int
  nodes : List Int
  ss : List (List O)
structure PlOk (p : Pl) : Prop where
  lo : 1 ≤ p.ver
  hi : p.ver ≤ 1099511627776
  nodes : NodesOk p.nodes
  some_ : 1 ≤ p.ss.length
  few : p.ss.length ≤ 8
  each : ∀ l ∈ p.ss, ShardOk p.nodes l
end Go.Proofs.Ytnpkhkhchimcnaa.pm
