/-
  Placements: the program's transfer and the document's move say the same where the heir holds nothing of the shard.
-/
import Derived.Test.YtnjdondkggkfoaaGreatPmLM
import Derived.Test.YtnjdondkggkfoaaGreatPmGv
import Derived.Test.YtnjdondkggkfoaaGreatPmDE
import Derived.Test.YtnjdondkggkfoaaGreatPmDone
namespace Go.Proofs.YtnjdondkggkfoaaGreat.pm

theorem disown_id {l : List O} {n : Int} (h : ∀ o ∈ l, o.1 ≠ n) : disown l n = l := List.filter_eq_self.2 fun o ho => by simp [h o ho]
theorem mem_own {l : List O} {o x : O} : x ∈ own l o ↔ x = o ∨ x ∈ l := by
  unfold own
  rw [List.mem_append, List.mem_cons]
  constructor
  · rintro (h | h | h)
    · exact .inr (List.mem_of_mem_take h)
    · exact .inl h
    · exact .inr (List.mem_of_mem_drop h)
  · rintro (h | h)
    · exact .inr (.inl h)
    · have : x ∈ l.take (pos l o.1) ++ l.drop (pos l o.1) := by rw [List.take_append_drop]; exact h
      rcases List.mem_append.1 this with h | h
      · exact .inl h
      · exact .inr (.inr h)
theorem give_eq {l : List O} {f t : Int} (ht : ∀ o ∈ l, o.1 ≠ t) (hft : f ≠ t) : giveY l f t = give l f t := by
  unfold giveY give put
  rw [disown_id (n := t)]
  intro o ho
  rcases mem_own.1 ho with rfl | ho
  · exact hft
  · exact ht o (List.mem_filter.1 ho).1
end Go.Proofs.YtnjdondkggkfoaaGreat.pm
/-
  Placements: a transfer raises the load of the node that it gives to.
-/
namespace Go.Proofs.YtnjdondkggkfoaaGreat.pm

theorem holds_give (l : List O) (f t : Int) : holds (give l f t) t = true :=
  List.any_eq_true.2 ⟨(t, 1, f), mem_own.2 (.inl rfl), by simp⟩
theorem load_give {X : List (List O)} {i : Nat} {l : List O} {f t : Int} (hx : X[i]? = some l) (hn : holds l t = false) : load (X.set i (give l f t)) t = load X t + 1 := by
  obtain ⟨hi, rfl⟩ := List.getElem?_eq_some_iff.1 hx
  unfold load
  rw [List.countP_set hi, hn, holds_give]
  simp
/-- a step of the document's giver -/
def rgiveStep (ss : List (List O)) (node : Int) (b : Int × Int) (x : Int) : Int × Int := if x = node ∨ (0 ≤ b.1 ∧ load ss x ≤ load ss b.1) then b else if 0 ≤ gidx ss (gp x node) then (x, gidx ss (gp x node)) else b
theorem gidx_none {ss : List (List O)} {p : List O → Bool} (h : ∀ l, p l = false) : gidx ss p = -1 := by
  unfold gidx
  rw [if_neg]
  rw [List.any_eq_true]
  rintro ⟨l, _, hl⟩
  rw [h l] at hl; cases hl
theorem rgiveStep_eq (ss : List (List O)) (node : Int) (b : Int × Int) (x : Int) : rgiveStep ss node b x = giveStep ss node b x := by
  unfold rgiveStep giveStep
  by_cases hx : x = node
  · subst hx
    have : gidx ss (gp x x) = -1 := gidx_none fun l => by unfold gp; cases holds l x <;> rfl
    rw [if_pos (.inl rfl), if_neg (by rw [this]; omega)]
  · by_cases hb : 0 ≤ b.1 ∧ load ss x ≤ load ss b.1
    · rw [if_pos (.inr hb), if_neg (by rintro ⟨_, h | h⟩ <;> omega)]
    · rw [if_neg (by rintro (h | h); exact hx h; exact hb h)]
      have hb' : b.1 < 0 ∨ load ss b.1 < load ss x := by omega
      by_cases hg : 0 ≤ gidx ss (gp x node)
      · rw [if_pos hg, if_pos ⟨hg, hb'⟩]
      · rw [if_neg hg, if_neg (fun h => hg h.1)]
end Go.Proofs.YtnjdondkggkfoaaGreat.pm
/-
  Placements: what laying and taking an owner does to a shard, and to the loads.
-/
namespace Go.Proofs.YtnjdondkggkfoaaGreat.pm

theorem own_nil (o : O) : own [] o = [o] := rfl
theorem own_cons (y : O) (l : List O) (o : O) : own (y :: l) o = if y.1 < o.1 then y :: own l o else o :: y :: l := by
  unfold own pos
  by_cases h : y.1 < o.1
  · rw [List.takeWhile_cons_of_pos (by simpa using h), if_pos h]; rfl
  · rw [List.takeWhile_cons_of_neg (by simpa using h), if_neg h]; rfl
theorem own_mem (l : List O) (o x : O) : x ∈ own l o ↔ x = o ∨ x ∈ l := by
  induction l with
  | nil => simp [own_nil]
  | cons y l ih =>
    rw [own_cons]
    split
    · rw [List.mem_cons, ih, List.mem_cons]
      exact ⟨fun h => by rcases h with h | h | h <;> simp [h], fun h => by rcases h with h | h | h <;> simp [h]⟩
    · simp
abbrev RiseO (l : List O) : Prop := Rise (fun o : O => o.1) l
theorem own_rise {l : List O} {o : O} (h : RiseO l) (hn : ∀ x ∈ l, x.1 ≠ o.1) : RiseO (own l o) := by
  induction l with
  | nil => simp [own_nil, Rise]
  | cons y l ih =>
    have h' : (∀ b ∈ l, y.1 < b.1) ∧ RiseO l := List.pairwise_cons.1 h
    have hy := hn y (by simp)
    rw [own_cons]
    split
    · rename_i hlt
      refine List.pairwise_cons.2 ⟨fun b hb => ?_, ih h'.2 (fun x hx => hn x (by simp [hx]))⟩
      rcases (own_mem l o b).1 hb with rfl | hb
      · exact hlt
      · exact h'.1 b hb
    · rename_i hge
      refine List.pairwise_cons.2 ⟨fun b hb => ?_, h⟩
      rcases List.mem_cons.1 hb with rfl | hb
      · show o.1 < b.1; omega
      · have := h'.1 b hb; show o.1 < b.1; omega
theorem disown_rise {l : List O} (h : RiseO l) (n : Int) : RiseO (disown l n) := List.Pairwise.sublist List.filter_sublist h
theorem disown_not {l : List O} {n : Int} : ∀ x ∈ disown l n, x.1 ≠ n := fun x hx => by
  have := (List.mem_filter.1 hx).2
  simpa using this
theorem set_rise {l : List O} (h : RiseO l) (o : O) : RiseO (own (disown l o.1) o) := own_rise (disown_rise h _) disown_not
theorem rises_set {X : List (List O)} (h : Rises X) (i : Nat) {l : List O} (hl : RiseO l) : Rises (X.set i l) := fun q hq => by
  rcases List.mem_or_eq_of_mem_set hq with hq | rfl
  · exact h q hq
  · exact hl
theorem at_rise {X : List (List O)} (h : Rises X) (i : Nat) : RiseO (at_ X i) := by
  unfold at_
  cases hx : X[i]? with
  | none => exact Rise.nil _
  | some q => exact h q (List.mem_of_getElem? hx)
/-- the document's steps -/
def rstepO (nodes : List Int) (ss : List (List O)) (i : Nat) : List (List O) := ss.set i (own (disown (at_ ss i) (least nodes ss (at_ ss i))) (least nodes ss (at_ ss i), 2, -1))
def rsteps (nodes : List Int) (i : Nat) : Nat → List (List O) → List (List O)
  | 0, ss => ss
  | j + 1, ss => rstepO nodes (rsteps nodes i j ss) i
def rinitAt (nodes : List Int) : Nat → List (List O)
  | 0 => []
  | i + 1 => rsteps nodes i 3 (rinitAt nodes i ++ [[]])
theorem rstepO_rises {nodes : List Int} {X : List (List O)} (h : Rises X) (i : Nat) : Rises (rstepO nodes X i) := rises_set h i (set_rise (o := (least nodes X (at_ X i), 2, -1)) (at_rise h i))
theorem rsteps_rises {nodes : List Int} {X : List (List O)} (h : Rises X) (i j : Nat) : Rises (rsteps nodes i j X) := by
  induction j with
  | zero => exact h
  | succ j ih => exact rstepO_rises ih i
theorem rinitAt_rises (nodes : List Int) (i : Nat) : Rises (rinitAt nodes i) := by
  induction i with
  | zero => intro l hl; simp [rinitAt] at hl
  | succ i ih => exact rsteps_rises (fun l hl => (List.mem_append.1 hl).elim (ih l) (fun e => by simp at e; subst e; exact Rise.nil _)) i 3
theorem rsteps_len (nodes : List Int) (i j : Nat) (ss : List (List O)) : (rsteps nodes i j ss).length = ss.length := by
  induction j with
  | zero => rfl
  | succ j ih => rw [rsteps, rstepO, List.length_set, ih]
theorem rinitAt_len (nodes : List Int) (i : Nat) : (rinitAt nodes i).length = i := by
  induction i with
  | zero => rfl
  | succ i ih => rw [rinitAt, rsteps_len]; simp [ih]
theorem rstepO_small {nodes : List Int} {X : List (List O)} {i K : Nat} (h : ∀ l ∈ X, l.length ≤ K) : ∀ l ∈ rstepO nodes X i, l.length ≤ K + 1 := fun l hl => by
  unfold rstepO at hl
  rcases List.mem_or_eq_of_mem_set hl with hl | rfl
  · have := h l hl; omega
  · rw [own_len]
    have h1 : (disown (at_ X i) (least nodes X (at_ X i))).length ≤ (at_ X i).length := List.length_filter_le _ _
    have h2 : (at_ X i).length ≤ K := by
      unfold at_
      cases hx : X[i]? with
      | none => simp
      | some q => exact h q (List.mem_of_getElem? hx)
    omega
theorem rsteps_small {nodes : List Int} {X : List (List O)} {i K : Nat} (h : ∀ l ∈ X, l.length ≤ K) (j : Nat) : ∀ l ∈ rsteps nodes i j X, l.length ≤ K + j := by
  induction j with
  | zero => exact h
  | succ j ih => exact rstepO_small ih
theorem rinitAt_small (nodes : List Int) (i : Nat) : ∀ l ∈ rinitAt nodes i, l.length ≤ 3 * i := by
  induction i with
  | zero => intro l hl; simp [rinitAt] at hl
  | succ i ih =>
    intro l hl
    have := rsteps_small (nodes := nodes) (i := i) (X := rinitAt nodes i ++ [[]]) (K := 3 * i) (fun l hl => (List.mem_append.1 hl).elim (ih l) (fun e => by simp at e; subst e; simp)) 3 l hl
    omega
/-- nodes that may be, gathered -/
def setOf (l : List Int) : List Int := ((List.range 8).map fun j : Nat => (j : Int)).filter fun x => has l x
theorem has_iff (l : List Int) (n : Int) : has l n = true ↔ n ∈ l := by simp [has]
theorem range8 (x : Int) : x ∈ (List.range 8).map (fun j : Nat => (j : Int)) ↔ isNode x := by
  simp only [List.mem_map, List.mem_range, isNode]
  exact ⟨fun ⟨a, h1, h2⟩ => by omega, fun h => ⟨x.toNat, by omega, by omega⟩⟩
theorem setOf_mem (l : List Int) (x : Int) : x ∈ setOf l ↔ isNode x ∧ x ∈ l := by
  unfold setOf
  rw [List.mem_filter, range8, has_iff]
theorem setOf_nil : setOf [] = [] := by decide
theorem with_setOf (l : List Int) (x : Int) : with_ (setOf l) x 8 = setOf (l ++ [x]) := by
  unfold with_
  show _ = ((List.range 8).map fun j : Nat => (j : Int)).filter fun y => has (l ++ [x]) y
  refine List.filter_congr fun y hy => ?_
  have h1 := (range8 y).1 hy
  have h2 : has (setOf l) y = has l y := by
    rw [Bool.eq_iff_iff, has_iff, has_iff, setOf_mem]
    exact ⟨fun h => h.2, fun h => ⟨h1, h⟩⟩
  rw [h2]
  simp [has, Bool.or_comm, eq_comm]
  rw [BEq.comm (a := x)]
theorem setOf_rise (l : List Int) : Rise id (setOf l) := by
  refine List.Pairwise.sublist List.filter_sublist ?_
  rw [List.pairwise_map]
  exact List.pairwise_lt_range.imp (fun h => by simp only [id]; omega)
theorem setOf_len (l : List Int) : (setOf l).length ≤ 8 := Nat.le_trans (List.length_filter_le _ _) (by simp)
theorem rise_ext {v v' : List Int} (h : Rise id v) (h' : Rise id v') (hm : ∀ p, p ∈ v ↔ p ∈ v') : v = v' := by
  have nd : ∀ {v : List Int}, Rise id v → v.Nodup := fun h => List.Pairwise.imp (fun h e => by simp only [id] at h; omega) h
  have hp : v.Perm v' := (List.perm_ext_iff_of_nodup (nd h) (nd h')).2 hm
  exact hp.eq_of_pairwise (le := fun a b => id a < id b) (fun a b _ _ h1 h2 => by simp only [id] at h1 h2; omega) h h'
/-- what the document asks of the nodes: few words for what the program checks of them sorted -/
structure RNodes (l : List Int) : Prop where
  many : 3 ≤ l.length
  each : ∀ x ∈ l, isNode x
  once : l.Nodup
theorem rnodes_iff (l : List Int) : NodesOk (srt l) ↔ RNodes l := by
  constructor
  · intro h
    refine ⟨by have := h.many; rwa [srt_len] at this, fun x hx => h.each x ((srt_perm l).mem_iff.2 hx), ?_⟩
    refine (srt_perm l).nodup_iff.1 (List.Pairwise.imp (fun h e => by simp only [id] at h; omega) h.rise)
  · intro h
    refine ⟨?_, fun x hx => h.each x ((srt_perm l).mem_iff.1 hx), by rw [srt_len]; exact h.many⟩
    have h1 := srt_le l
    have h2 : (srt l).Nodup := (srt_perm l).nodup_iff.2 h.once
    exact (List.Pairwise.and h1 h2).imp (fun ⟨a, b⟩ => by simp only [id]; omega)
theorem srt_setOf {l : List Int} (h : RNodes l) : srt l = setOf l :=
  rise_ext ((rnodes_iff l).2 h).rise (setOf_rise l) fun x => by
    rw [(srt_perm l).mem_iff, setOf_mem]
    exact ⟨fun hx => ⟨h.each x hx, hx⟩, fun hx => hx.2⟩
end Go.Proofs.YtnjdondkggkfoaaGreat.pm
/-
  Placements: a new one has loads that differ by one at most.
-/
namespace Go.Proofs.YtnjdondkggkfoaaGreat.pm

theorem holds_iff (l : List O) (n : Int) : holds l n = true ↔ ∃ o ∈ l, o.1 = n ∧ o.2.1 ≠ 3 := by
  unfold holds
  rw [List.any_eq_true]
  exact ⟨fun ⟨o, h1, h2⟩ => ⟨o, h1, by simpa using h2⟩, fun ⟨o, h1, h2⟩ => ⟨o, h1, by simpa using h2⟩⟩
theorem holds_own (l : List O) (x n : Int) : holds (own l (x, 2, -1)) n = (x == n || holds l n) := by
  rw [Bool.eq_iff_iff, holds_iff, Bool.or_eq_true, holds_iff]
  constructor
  · rintro ⟨o, h1, h2, h3⟩
    rcases (own_mem _ _ _).1 h1 with rfl | h1
    · exact .inl (by simpa using h2)
    · exact .inr ⟨o, h1, h2, h3⟩
  · rintro (h | ⟨o, h1, h2, h3⟩)
    · exact ⟨(x, 2, -1), (own_mem _ _ _).2 (.inl rfl), by simpa using h, by simp⟩
    · exact ⟨o, (own_mem _ _ _).2 (.inr h1), h2, h3⟩
theorem load_set {X : List (List O)} {i : Nat} {q : List O} (hq : X[i]? = some q) (l : List O) (n : Int) : load (X.set i l) n + (if holds q n then 1 else 0) = load X n + (if holds l n then 1 else 0) := by
  unfold load
  induction X generalizing i with
  | nil => simp at hq
  | cons y X ih =>
    cases i with
    | zero =>
      simp at hq; subst hq
      rw [List.set_cons_zero, List.countP_cons, List.countP_cons]
      omega
    | succ i =>
      rw [List.set_cons_succ, List.countP_cons, List.countP_cons]
      have := ih (i := i) (by simpa using hq)
      omega
theorem at_of {X : List (List O)} {i : Nat} (hi : i < X.length) : X[i]? = some (at_ X i) := by
  unfold at_; rw [List.getElem?_eq_getElem hi]; rfl
theorem load_step {X : List (List O)} {i : Nat} (hi : i < X.length) {x : Int} (hx : holds (at_ X i) x = false) (n : Int) : load (X.set i (own (at_ X i) (x, 2, -1))) n = load X n + (if x = n then 1 else 0) := by
  have h := load_set (at_of hi) (own (at_ X i) (x, 2, -1)) n
  rw [holds_own] at h
  by_cases e : x = n
  · subst e
    rw [hx] at h
    simp at h ⊢
    omega
  · have e2 : (x == n) = false := by simp [e]
    rw [e2, Bool.false_or] at h
    simp [e]
    omega
structure LInv (X : List (List O)) (q : List O) (seen : List Int) (best : Int) : Prop where
  all : best < 0 → ∀ n ∈ seen, holds q n = true
  mem : 0 ≤ best → best ∈ seen ∧ holds q best = false ∧ ∀ n ∈ seen, holds q n = false → load X best ≤ load X n
theorem least_inv {X : List (List O)} {q : List O} (l seen : List Int) (best : Int) (h : LInv X q seen best) (hl : ∀ n ∈ l, 0 ≤ n) : LInv X q (seen ++ l) (l.foldl (leastStep X q) best) := by
  induction l generalizing seen best with
  | nil => simpa using h
  | cons a l ih =>
    rw [List.foldl_cons, show seen ++ a :: l = (seen ++ [a]) ++ l by simp]
    refine ih (seen ++ [a]) _ ?_ (fun n hn => hl n (by simp [hn]))
    have ha := hl a (by simp)
    unfold leastStep
    cases hh : holds q a with
    | true =>
      simp only [Bool.not_true, Bool.false_and, Bool.false_eq_true, if_false]
      refine ⟨fun hb n hn => ?_, fun hb => ?_⟩
      · rcases List.mem_append.1 hn with hn | hn
        · exact h.all hb n hn
        · simp at hn; subst hn; exact hh
      · obtain ⟨h1, h2, h3⟩ := h.mem hb
        refine ⟨by simp [h1], h2, fun n hn hf => ?_⟩
        rcases List.mem_append.1 hn with hn | hn
        · exact h3 n hn hf
        · simp at hn; subst hn; rw [hh] at hf; cases hf
    | false =>
      by_cases hb : best < 0
      · simp only [Bool.not_false, Bool.true_and, hb, decide_true, Bool.true_or, if_true]
        refine ⟨fun h => by omega, fun _ => ⟨by simp, hh, fun n hn hf => ?_⟩⟩
        rcases List.mem_append.1 hn with hn | hn
        · rw [h.all hb n hn] at hf; cases hf
        · simp at hn; subst hn; exact Nat.le_refl _
      · obtain ⟨h1, h2, h3⟩ := h.mem (by omega)
        by_cases hlt : load X a < load X best
        · simp only [Bool.not_false, Bool.true_and, hb, decide_false, Bool.false_or, hlt, decide_true, if_true]
          refine ⟨fun h => by omega, fun _ => ⟨by simp, hh, fun n hn hf => ?_⟩⟩
          rcases List.mem_append.1 hn with hn | hn
          · have := h3 n hn hf; omega
          · simp at hn; subst hn; exact Nat.le_refl _
        · simp only [Bool.not_false, Bool.true_and, hb, decide_false, Bool.false_or, hlt, Bool.false_eq_true, if_false]
          refine ⟨fun h => absurd h hb, fun _ => ⟨by simp [h1], h2, fun n hn hf => ?_⟩⟩
          rcases List.mem_append.1 hn with hn | hn
          · exact h3 n hn hf
          · simp at hn; subst hn; omega
theorem nodup_le : ∀ {l m : List Int}, l.Nodup → (∀ x ∈ l, x ∈ m) → l.length ≤ m.length
  | [], _, _, _ => Nat.zero_le _
  | a :: t, m, nd, h => by
    have ha := h a (by simp)
    have hnd := List.nodup_cons.1 nd
    have := nodup_le (l := t) (m := m.erase a) hnd.2 fun x hx => (List.mem_erase_of_ne (fun e => hnd.1 (by rw [← e]; exact hx))).2 (h x (by simp [hx]))
    rw [List.length_erase_of_mem ha] at this
    have := List.length_pos_of_mem ha
    simp only [List.length_cons]
    omega
theorem nodes_nodup {l : List Int} (h : Rise id l) : l.Nodup := List.Pairwise.imp (fun h e => by simp only [id] at h; omega) h
theorem free_node {nodes : List Int} {q : List O} (h : NodesOk nodes) (hq : q.length < 3) : ∃ n ∈ nodes, holds q n = false := by
  refine Classical.byContradiction fun hc => ?_
  have := nodup_le (m := q.map (·.1)) (nodes_nodup h.rise) fun x hx => by
    have hx2 : holds q x = true := by
      cases hh : holds q x with
      | true => rfl
      | false => exact absurd ⟨x, hx, hh⟩ hc
    obtain ⟨o, h1, h2, _⟩ := (holds_iff q x).1 hx2
    exact List.mem_map.2 ⟨o, h1, h2⟩
  rw [List.length_map] at this
  have := h.many
  omega
theorem least_spec {nodes : List Int} {X : List (List O)} {q : List O} (h : NodesOk nodes) (hq : q.length < 3) :
    least nodes X q ∈ nodes ∧ holds q (least nodes X q) = false ∧ ∀ n ∈ nodes, holds q n = false → load X (least nodes X q) ≤ load X n := by
  have hi := least_inv (X := X) (q := q) nodes [] (-1) ⟨fun _ n hn => by simp at hn, fun h => by omega⟩ (fun n hn => (h.each n hn).1)
  rw [List.nil_append] at hi
  have hn : 0 ≤ least nodes X q := by
    refine Classical.byContradiction fun hc => ?_
    obtain ⟨n, h1, h2⟩ := free_node h hq
    rw [hi.all (by unfold least at hc; omega) n h1] at h2; cases h2
  exact hi.mem hn
/-- the loads are even; those who hold the shard at hand have no fewer -/
structure Bal (nodes : List Int) (X : List (List O)) (i : Nat) : Prop where
  diff : ∀ a ∈ nodes, ∀ b ∈ nodes, load X a ≤ load X b + 1
  hold : ∀ a ∈ nodes, ∀ b ∈ nodes, holds (at_ X i) a = true → holds (at_ X i) b = false → load X b ≤ load X a
theorem at_set {X : List (List O)} {i : Nat} (hi : i < X.length) (l : List O) : at_ (X.set i l) i = l := by unfold at_; simp [hi]
theorem Bal.step {nodes : List Int} {X : List (List O)} {i : Nat} (h : Bal nodes X i) (hn : NodesOk nodes) (hi : i < X.length) (hq : (at_ X i).length < 3) :
    Bal nodes (stepO nodes X i) i ∧ (at_ (stepO nodes X i) i).length = (at_ X i).length + 1 ∧ (∃ a ∈ nodes, 1 ≤ load (stepO nodes X i) a) ∧ ∀ a, load X a ≤ load (stepO nodes X i) a := by
  obtain ⟨h1, h2, h3⟩ := least_spec (X := X) hn hq
  unfold stepO
  obtain ⟨x, hx⟩ : ∃ x, least nodes X (at_ X i) = x := ⟨_, rfl⟩
  rw [hx] at h1 h2 h3 ⊢
  have hl := load_step hi h2
  have hmin : ∀ b ∈ nodes, load X x ≤ load X b := fun b hb => by
    cases hh : holds (at_ X i) b with
    | true => exact h.hold b hb x h1 hh h2
    | false => exact h3 b hb hh
  refine ⟨⟨fun a ha b hb => ?_, fun a ha b hb hha hhb => ?_⟩, ?_, ⟨x, h1, by rw [hl]; simp⟩, fun a => by rw [hl]; omega⟩
  · rw [hl, hl]
    have e1 := h.diff a ha b hb
    have e2 := hmin b hb
    by_cases e : x = a
    · subst e; rw [if_pos rfl]; split <;> omega
    · rw [if_neg e]; omega
  · rw [at_set hi, holds_own] at hha hhb
    rw [hl, hl]
    simp only [Bool.or_eq_true, beq_iff_eq, Bool.or_eq_false_iff, beq_eq_false_iff_ne, ne_eq] at hha hhb
    rw [if_neg hhb.1]
    rcases hha with e | e
    · subst e; rw [if_pos rfl]; have := h.diff b hb x ha; omega
    · have := h.hold a ha b hb e hhb.2; omega
  · rw [at_set hi, own_len]
end Go.Proofs.YtnjdondkggkfoaaGreat.pm
/-
  Placements: what is right stays right when a shard is moved, and when it has been taken over.
-/
namespace Go.Proofs.YtnjdondkggkfoaaGreat.pm

/-- a shard at rest: three owners that stay -/
structure Calm (l : List O) : Prop where
  rise : RiseO l
  each : ∀ o ∈ l, isNode o.1 ∧ o.2 = (2, -1)
  three : l.length = 3
theorem Calm.ok {l : List O} (h : Calm l) {nodes : List Int} (hn : ∀ o ∈ l, has nodes o.1 = true) : ShardOk nodes l :=
  ⟨h.rise, fun o ho => ⟨(h.each o ho).1, .inl ⟨by rw [(h.each o ho).2], by rw [(h.each o ho).2]⟩, fun _ => hn o ho⟩, by
    unfold stay
    rw [List.countP_eq_length.2 fun o ho => by rw [(h.each o ho).2]; rfl]
    exact h.three⟩
theorem coming_false {l : List O} (h : coming l = false) {o : O} (ho : o ∈ l) : o.2.1 ≠ 1 := fun e => by
  have := List.any_eq_false.1 h o ho
  simp [e] at this
theorem calm_of {nodes : List Int} {l : List O} (h : ShardOk nodes l) (hc : coming l = false) : Calm l := by
  have he : ∀ o ∈ l, o.2 = (2, -1) := fun o ho => by
    rcases (h.each o ho).2.1 with ⟨a, b⟩ | ⟨a, _⟩ | ⟨_, _, c⟩
    · exact Prod.ext a b
    · exact absurd a (coming_false hc ho)
    · unfold heirs at c
      have hz : l.countP (fun x => x.2.1 == 1 && x.2.2 == o.1) = 0 := List.countP_eq_zero.2 fun x hx hq => by
        simp at hq
        exact coming_false hc hx hq.1
      omega
  refine ⟨h.rise, fun o ho => ⟨(h.each o ho).1, he o ho⟩, ?_⟩
  have h3 := h.three
  unfold stay at h3
  rwa [List.countP_eq_length.2 fun o ho => by rw [he o ho]; rfl] at h3
theorem Calm.holds_iff {l : List O} (h : Calm l) (n : Int) : holds l n = true ↔ ∃ o ∈ l, o.1 = n := by
  rw [pm.holds_iff]
  exact ⟨fun ⟨o, a, b, _⟩ => ⟨o, a, b⟩, fun ⟨o, a, b⟩ => ⟨o, a, b, by rw [(h.each o a).2]; simp⟩⟩
theorem Calm.not {l : List O} (h : Calm l) {n : Int} (hn : holds l n = false) : ∀ o ∈ l, o.1 ≠ n := fun o ho e => by
  rw [(h.holds_iff n).2 ⟨o, ho, e⟩] at hn; cases hn
theorem Calm.mem {l : List O} (h : Calm l) {n : Int} (hn : holds l n = true) : (n, 2, -1) ∈ l := by
  obtain ⟨o, ho, rfl⟩ := (h.holds_iff n).1 hn
  have := (h.each o ho).2
  obtain ⟨a, b⟩ := o
  simp only at this
  subst this; exact ho
theorem countP_own (l : List O) (o : O) (p : O → Bool) : (own l o).countP p = l.countP p + if p o then 1 else 0 := by
  unfold own
  rw [List.countP_append, List.countP_cons]
  have : l.countP p = (l.take (pos l o.1)).countP p + (l.drop (pos l o.1)).countP p := by rw [← List.countP_append, List.take_append_drop]
  omega
theorem countP_disown {l : List O} (h : RiseO l) {x : O} (hx : x ∈ l) (p : O → Bool) : l.countP p = (disown l x.1).countP p + if p x then 1 else 0 := by
  induction l with
  | nil => simp at hx
  | cons y l ih =>
    have h' : (∀ b ∈ l, y.1 < b.1) ∧ RiseO l := List.pairwise_cons.1 h
    rcases List.mem_cons.1 hx with rfl | hx
    · have e : disown (x :: l) x.1 = l := by
        unfold disown
        rw [List.filter_cons_of_neg (by simp)]
        exact disown_id fun o ho => by have := h'.1 o ho; omega
      rw [e, List.countP_cons]
    · have hne : y.1 ≠ x.1 := by have := h'.1 x hx; omega
      have e : disown (y :: l) x.1 = y :: disown l x.1 := by
        unfold disown
        rw [List.filter_cons_of_pos (by simpa using hne)]
      rw [e, List.countP_cons, List.countP_cons, ih h'.2 hx]
      omega
theorem mem_disown {l : List O} {n : Int} {x : O} : x ∈ disown l n ↔ x ∈ l ∧ x.1 ≠ n := by
  unfold disown
  rw [List.mem_filter]
  simp
theorem mem_give {l : List O} {f t : Int} {x : O} : x ∈ give l f t ↔ x = (t, 1, f) ∨ x = (f, 3, -1) ∨ (x ∈ l ∧ x.1 ≠ f) := by
  unfold give
  rw [own_mem, own_mem, mem_disown]
theorem give_rise {l : List O} {f t : Int} (h : RiseO l) (ht : ∀ o ∈ l, o.1 ≠ t) (hft : f ≠ t) : RiseO (give l f t) := by
  unfold give
  refine own_rise (own_rise (disown_rise h f) fun x hx => (mem_disown.1 hx).2) fun x hx => ?_
  rcases (own_mem _ _ _).1 hx with rfl | hx
  · exact hft
  · exact ht x (mem_disown.1 hx).1
/-- a shard at rest that is moved is right -/
theorem give_ok {nodes : List Int} {l : List O} {f t : Int} (h : Calm l) (hf : holds l f = true) (ht : holds l t = false) (hn : isNode t) (hh : has nodes t = true) (ho : ∀ o ∈ l, o.1 ≠ f → has nodes o.1 = true) : ShardOk nodes (give l f t) := by
  have hfm := h.mem hf
  have htl := h.not ht
  have hft : f ≠ t := fun e => htl _ hfm e
  have hr := give_rise h.rise htl hft
  have cnt : ∀ p : O → Bool, (give l f t).countP p + (if p (f, 2, -1) then 1 else 0) = l.countP p + (if p (f, 3, -1) then 1 else 0) + (if p (t, 1, f) then 1 else 0) := fun p => by
    unfold give
    rw [countP_own, countP_own, countP_disown h.rise hfm p]
    simp only
    omega
  refine ⟨hr, fun o hm => ?_, ?_⟩
  · rcases mem_give.1 hm with rfl | rfl | ⟨hm, hne⟩
    · refine ⟨hn, .inr (.inl ⟨rfl, (f, 3, -1), (find_iff hr _ _).2 ⟨mem_give.2 (.inr (.inl rfl)), rfl⟩, rfl⟩), fun _ => hh⟩
    · refine ⟨(h.each _ hfm).1, .inr (.inr ⟨rfl, rfl, ?_⟩), fun e => absurd rfl e⟩
      have c := cnt fun x => x.2.1 == 1 && x.2.2 == f
      have hz : l.countP (fun x => x.2.1 == 1 && x.2.2 == f) = 0 := List.countP_eq_zero.2 fun x hx hq => by
        simp [(h.each x hx).2] at hq
      unfold heirs
      simp [hz] at c
      exact c
    · exact ⟨(h.each o hm).1, .inl ⟨by rw [(h.each o hm).2], by rw [(h.each o hm).2]⟩, fun _ => ho o hm hne⟩
  · have c := cnt fun o => o.2.1 != 3
    have hz : l.countP (fun o => o.2.1 != 3) = 3 := by
      rw [List.countP_eq_length.2 fun o ho => by rw [(h.each o ho).2]; rfl]
      exact h.three
    unfold stay
    simp [hz] at c
    exact c
/-- a shard that was at rest, and is moved, or not -/
def Moved (nodes : List Int) (U : List O → Prop) (P : Int → Int → Prop) (l l' : List O) : Prop :=
  (l' = l ∧ U l ∧ ∀ o ∈ l, has nodes o.1 = true) ∨
  ∃ f t, P f t ∧ holds l f = true ∧ holds l t = false ∧ isNode t ∧ has nodes t = true ∧ (∀ o ∈ l, o.1 ≠ f → has nodes o.1 = true) ∧ l' = give l f t
theorem Moved.ok {nodes : List Int} {U : List O → Prop} {P : Int → Int → Prop} {l l' : List O} (h : Moved nodes U P l l') (hc : Calm l) : ShardOk nodes l' := by
  rcases h with ⟨rfl, _, h⟩ | ⟨f, t, _, h1, h2, h3, h4, h5, rfl⟩
  · exact hc.ok h
  · exact give_ok hc h1 h2 h3 h4 h5
structure AllMoved (nodes : List Int) (U : List O → Prop) (P : Int → Int → Prop) (ss X : List (List O)) : Prop where
  len : X.length = ss.length
  at_ : ∀ (i : Nat) (l l' : List O), ss[i]? = some l → X[i]? = some l' → Moved nodes U P l l'
theorem AllMoved.each {nodes : List Int} {U : List O → Prop} {P : Int → Int → Prop} {ss X : List (List O)} (h : AllMoved nodes U P ss X) (hc : ∀ l ∈ ss, Calm l) : ∀ l ∈ X, ShardOk nodes l := fun l hl => by
  obtain ⟨i, hi, rfl⟩ := List.getElem_of_mem hl
  have hi2 : i < ss.length := by rw [← h.len]; exact hi
  have h1 : ss[i]? = some ss[i] := List.getElem?_eq_getElem hi2
  exact (h.at_ i _ _ h1 (List.getElem?_eq_getElem hi)).ok (hc _ (List.mem_of_getElem? h1))
theorem PlOk.calm {p : Pl} (h : PlOk p) (hb : busy p.ss = false) : ∀ l ∈ p.ss, Calm l := fun l hl => calm_of (h.each l hl) (by
  have := List.any_eq_false.1 hb l hl
  simpa using this)
theorem has_iff' (l : List Int) (n : Int) : has l n = true ↔ n ∈ l := by unfold has; simp
end Go.Proofs.YtnjdondkggkfoaaGreat.pm
/-
  Placements: what adding a node comes to, and that it is right.
-/
namespace Go.Proofs.YtnjdondkggkfoaaGreat.pm

theorem gidx_spec (ss : List (List O)) (p : List O → Bool) : (gidx ss p = -1 ∧ ∀ l ∈ ss, p l = false) ∨ ∃ (k : Nat) (l : List O), gidx ss p = k ∧ ss[k]? = some l ∧ p l = true := by
  unfold gidx
  by_cases h : ss.any p = true
  · rw [if_pos h]
    have hk : ss.findIdx p < ss.length := List.findIdx_lt_length.2 (by obtain ⟨x, hx, hp⟩ := List.any_eq_true.1 h; exact ⟨x, hx, hp⟩)
    exact .inr ⟨ss.findIdx p, ss[ss.findIdx p], rfl, List.getElem?_eq_getElem hk, List.findIdx_getElem⟩
  · rw [if_neg h]
    refine .inl ⟨rfl, fun l hl => ?_⟩
    have := List.any_eq_false.1 (Bool.eq_false_iff.2 h) l hl
    simpa using this
structure GInv (X : List (List O)) (node : Int) (seen : List Int) (b : Int × Int) : Prop where
  or_ : (b = (-1, -1) ∧ ∀ x ∈ seen, ∀ l ∈ X, gp x node l = false) ∨ ∃ (f : Int) (k : Nat) (l : List O), b = (f, (k : Int)) ∧ 0 ≤ f ∧ f ∈ seen ∧ X[k]? = some l ∧ holds l f = true ∧ holds l node = false
theorem ginv_fold {X : List (List O)} {node : Int} (l seen : List Int) (b : Int × Int) (h : GInv X node seen b) (hl : ∀ n ∈ l, 0 ≤ n) : GInv X node (seen ++ l) (l.foldl (giveStep X node) b) := by
  induction l generalizing seen b with
  | nil => simpa using h
  | cons a l ih =>
    rw [List.foldl_cons, show seen ++ a :: l = (seen ++ [a]) ++ l by simp]
    refine ih (seen ++ [a]) _ ?_ (fun n hn => hl n (by simp [hn]))
    have ha := hl a (by simp)
    unfold giveStep
    rcases gidx_spec X (gp a node) with ⟨e, hz⟩ | ⟨k, q, e, hk, hq⟩
    · rw [e, if_neg (by omega)]
      refine ⟨?_⟩
      rcases h.or_ with ⟨e1, h1⟩ | ⟨f, k, q, e1, h0, h1, h2⟩
      · refine .inl ⟨e1, fun x hx => ?_⟩
        rcases List.mem_append.1 hx with hx | hx
        · exact h1 x hx
        · simp at hx; subst hx; exact hz
      · exact .inr ⟨f, k, q, e1, h0, by simp [h1], h2⟩
    · rw [e]
      have hq2 : holds q a = true ∧ holds q node = false := by simpa [gp] using hq
      split
      · exact ⟨.inr ⟨a, k, q, rfl, ha, by simp, hk, hq2.1, hq2.2⟩⟩
      · rename_i hn
        refine ⟨?_⟩
        rcases h.or_ with ⟨e1, h1⟩ | ⟨f, k, q, e1, h0, h1, h2⟩
        · exact absurd ⟨by omega, .inl (by rw [e1]; decide)⟩ hn
        · exact .inr ⟨f, k, q, e1, h0, by simp [h1], h2⟩
theorem givers_spec {nodes : List Int} (X : List (List O)) (node : Int) (hn : ∀ n ∈ nodes, 0 ≤ n) :
    (givers nodes X node = (-1, -1) ∧ ∀ x ∈ nodes, ∀ l ∈ X, gp x node l = false) ∨ ∃ (f : Int) (k : Nat) (l : List O), givers nodes X node = (f, (k : Int)) ∧ 0 ≤ f ∧ f ∈ nodes ∧ X[k]? = some l ∧ holds l f = true ∧ holds l node = false := by
  have := ginv_fold (X := X) (node := node) nodes [] (-1, -1) ⟨.inl ⟨rfl, fun x hx => by simp at hx⟩⟩ hn
  rw [List.nil_append] at this
  exact this.or_
def addGo (nodes : List Int) (n : Int) (part : Nat) : Nat → List (List O) → List (List O)
  | 0, X => X
  | g + 1, X => if load X n < part ∧ 0 ≤ (givers nodes X n).2 then addGo nodes n part g (X.set (givers nodes X n).2.toNat (give (at_ X (givers nodes X n).2.toNat) (givers nodes X n).1 n)) else X
theorem addGo_stop {nodes : List Int} {n : Int} {part g : Nat} {X : List (List O)} (h : ¬ load X n < part ∨ (givers nodes X n).2 < 0) : addGo nodes n part g X = X := by
  cases g with
  | zero => rfl
  | succ g => unfold addGo; rw [if_neg]; rintro ⟨h1, h2⟩; rcases h with h | h; exact h h1; omega
theorem addGo_step {nodes : List Int} {n f : Int} {part g k : Nat} {X : List (List O)} {l : List O} (h1 : load X n < part) (hg : part ≤ g + load X n) (e : givers nodes X n = (f, (k : Int))) (hX : X[k]? = some l) :
    ∃ g', g = g' + 1 ∧ addGo nodes n part g X = addGo nodes n part g' (X.set k (give l f n)) := by
  cases g with
  | zero => omega
  | succ g =>
    refine ⟨g, rfl, ?_⟩
    have hat : at_ X k = l := by unfold at_; rw [hX]; rfl
    rw [addGo, if_pos ⟨h1, by rw [e]; simp⟩, e]
    simp only [Int.toNat_natCast, hat]
/-- what adding keeps: each shard as it was, or moved to the new node -/
structure AddInv (ss : List (List O)) (n : Int) (X : List (List O)) : Prop where
  len : X.length = ss.length
  at_ : ∀ (i : Nat) (l l' : List O), ss[i]? = some l → X[i]? = some l' → l' = l ∨ ∃ f, holds l f = true ∧ holds l n = false ∧ l' = give l f n
theorem AddInv.start (ss : List (List O)) (n : Int) : AddInv ss n ss := ⟨rfl, fun i l l' h h' => .inl (by rw [h] at h'; cases h'; rfl)⟩
theorem AddInv.fresh {ss X : List (List O)} {n : Int} (h : AddInv ss n X) {k : Nat} {l : List O} (hX : X[k]? = some l) (hn : holds l n = false) : ss[k]? = some l := by
  have hk : k < ss.length := by rw [← h.len]; exact (List.getElem?_eq_some_iff.1 hX).1
  have hs : ss[k]? = some ss[k] := List.getElem?_eq_getElem hk
  rcases h.at_ k _ _ hs hX with e | ⟨f, _, _, e⟩
  · rw [e]; exact hs
  · rw [e, holds_give] at hn; cases hn
theorem AddInv.step {ss X : List (List O)} {n f : Int} (h : AddInv ss n X) {k : Nat} {l : List O} (hX : X[k]? = some l) (hn : holds l n = false) (hf : holds l f = true) : AddInv ss n (X.set k (give l f n)) := by
  have hk := (List.getElem?_eq_some_iff.1 hX).1
  have hs := h.fresh hX hn
  refine ⟨by rw [List.length_set]; exact h.len, fun i a b ha hb => ?_⟩
  by_cases e : k = i
  · subst e
    rw [List.getElem?_set_self hk] at hb
    rw [hs] at ha
    cases ha; cases hb
    exact .inr ⟨f, hf, hn, rfl⟩
  · rw [List.getElem?_set_ne e] at hb
    exact h.at_ i a b ha hb
theorem AddInv.go {ss : List (List O)} {nodes : List Int} {n : Int} {part : Nat} (hn : ∀ x ∈ nodes, 0 ≤ x) (g : Nat) {X : List (List O)} (h : AddInv ss n X) : AddInv ss n (addGo nodes n part g X) := by
  induction g generalizing X with
  | zero => exact h
  | succ g ih =>
    unfold addGo
    split
    · rename_i hc
      rcases givers_spec X n hn with ⟨e, _⟩ | ⟨f, k, l, e, _, _, hX, h1, h2⟩
      · rw [e] at hc; simp at hc
      · rw [e]
        have hat : pm.at_ X k = l := by unfold pm.at_; rw [hX]; rfl
        simp only [Int.toNat_natCast, hat]
        exact ih (h.step hX h2 h1)
    · exact h
/-- the nodes with one more -/
noncomputable def addNodes (p : Pl) (n : Int) : List Int := srt (p.nodes ++ [n])
noncomputable def addPart (p : Pl) (n : Int) : Nat := 3 * p.ss.length / (addNodes p n).length
noncomputable def addErr (p : Pl) (n : Int) : Int :=
  if chk p = 0 then (if n < 0 ∨ 8 ≤ n ∨ has p.nodes n = true then 140 else if busy p.ss = true then 141 else bumpErr p) else 50
noncomputable def addPl (p : Pl) (n : Int) : Pl :=
  if addErr p n = 0 then ⟨p.ver + 1, addNodes p n, addGo (addNodes p n) n (addPart p n) (addPart p n) p.ss⟩ else ⟨0, [], []⟩
theorem has_append (l : List Int) (n x : Int) : has (l ++ [n]) x = (has l x || n == x) := by unfold has; simp
theorem has_srt (l : List Int) (x : Int) : has (srt l) x = has l x := by
  rw [Bool.eq_iff_iff, has_iff', has_iff', (srt_perm l).mem_iff]
theorem nodes_srt {l : List Int} (h1 : ∀ x ∈ l, isNode x) (h2 : l.Nodup) (h3 : 3 ≤ l.length) : NodesOk (srt l) :=
  (rnodes_iff l).2 ⟨h3, h1, h2⟩
/-- what lets a node be added -/
structure MayAdd (p : Pl) (n : Int) : Prop where
  ok : PlOk p
  node : isNode n
  new : has p.nodes n = false
  calm : ∀ l ∈ p.ss, Calm l
theorem bump_of (p : Pl) (N : List Int) (X : List (List O)) : (if bumpErr p = 0 then (⟨p.ver + 1, N, X⟩ : Pl) else ⟨0, [], []⟩) = bump ⟨p.ver, N, X⟩ := by
  unfold bumpErr bump
  by_cases h : p.ver = 1099511627776
  · simp [h]
  · simp [h]
theorem MayAdd.nodes {p : Pl} {n : Int} (h : MayAdd p n) : NodesOk (addNodes p n) ∧ (∀ x, has (addNodes p n) x = (has p.nodes x || n == x)) ∧ (addNodes p n).length = p.nodes.length + 1 := by
  refine ⟨nodes_srt (fun x hx => ?_) ?_ (by have := h.ok.nodes.many; simp; omega), fun x => ?_, by unfold addNodes; rw [srt_len]; simp⟩
  · rcases List.mem_append.1 hx with hx | hx
    · exact h.ok.nodes.each x hx
    · simp at hx; subst hx; exact h.node
  · rw [List.nodup_append]
    refine ⟨nodes_nodup h.ok.nodes.rise, by simp, fun a ha b hb => ?_⟩
    simp at hb; subst hb
    rintro rfl
    have := (has_iff' p.nodes a).2 ha
    rw [h.new] at this; cases this
  · unfold addNodes; rw [has_srt, has_append]
theorem MayAdd.moved {p : Pl} {n : Int} (h : MayAdd p n) {X : List (List O)} (hx : AddInv p.ss n X) : AllMoved (addNodes p n) (fun _ => True) (fun _ t => t = n) p.ss X := by
  refine ⟨hx.len, fun i l l' hl hl' => ?_⟩
  have hall : ∀ o ∈ l, has (addNodes p n) o.1 = true := fun o ho => by
    have hc := h.calm l (List.mem_of_getElem? hl)
    have hok := (h.ok.each l (List.mem_of_getElem? hl)).each o ho
    rw [h.nodes.2.1, hok.2.2 (by rw [(hc.each o ho).2]; simp)]; rfl
  rcases hx.at_ i l l' hl hl' with e | ⟨f, h1, h2, e⟩
  · exact .inl ⟨e, trivial, hall⟩
  · exact .inr ⟨f, n, rfl, h1, h2, h.node, by rw [h.nodes.2.1]; simp, fun o ho _ => hall o ho, e⟩
end Go.Proofs.YtnjdondkggkfoaaGreat.pm
