/-
  Placements: what laying and taking an owner does to a shard, and to the loads.
-/
import Derived.Test.YtnpkhkhchimcnaaPmInit
import Derived.Test.YtnpkhkhchimcnaaPmRefB
namespace Go.Proofs.Ytnpkhkhchimcnaa.pm

theorem own_nil (o : O) : own [] o = [o] := rfl
theorem own_cons (y : O) (l : List O) (o : O) : own (y :: l) o = if y.1 < o.1 then y :: own l o else o :: y :: l := by
  unfold own pos
  by_cases h : y.1 < o.1
  · rw [List.takeWhile_cons_of_pos (by simpa using h), if_pos h]; rfl
  · rw [List.takeWhile_cons_of_neg (by simpa using h), if_neg h]; rfl
theorem own_mem (l : List O) (o x : O) : x ∈ own l o ↔ x = o ∨ x ∈ l := by
  induction l with
  | nil => simp [own_nil]
  | cons y l ih =>
    rw [own_cons]
    split
    · rw [List.mem_cons, ih, List.mem_cons]
      exact ⟨fun h => by rcases h with h | h | h <;> simp [h], fun h => by rcases h with h | h | h <;> simp [h]⟩
    · simp
abbrev RiseO (l : List O) : Prop := Rise (fun o : O => o.1) l
theorem own_rise {l : List O} {o : O} (h : RiseO l) (hn : ∀ x ∈ l, x.1 ≠ o.1) : RiseO (own l o) := by
  induction l with
  | nil => simp [own_nil, Rise]
  | cons y l ih =>
    have h' : (∀ b ∈ l, y.1 < b.1) ∧ RiseO l := List.pairwise_cons.1 h
    have hy := hn y (by simp)
    rw [own_cons]
    split
    · rename_i hlt
      refine List.pairwise_cons.2 ⟨fun b hb => ?_, ih h'.2 (fun x hx => hn x (by simp [hx]))⟩
      rcases (own_mem l o b).1 hb with rfl | hb
      · exact hlt
      · exact h'.1 b hb
    · rename_i hge
      refine List.pairwise_cons.2 ⟨fun b hb => ?_, h⟩
      rcases List.mem_cons.1 hb with rfl | hb
      · show o.1 < b.1; omega
      · have := h'.1 b hb; show o.1 < b.1; omega
theorem disown_rise {l : List O} (h : RiseO l) (n : Int) : RiseO (disown l n) := List.Pairwise.sublist List.filter_sublist h
theorem disown_not {l : List O} {n : Int} : ∀ x ∈ disown l n, x.1 ≠ n := fun x hx => by
  have := (List.mem_filter.1 hx).2
  simpa using this
theorem set_rise {l : List O} (h : RiseO l) (o : O) : RiseO (own (disown l o.1) o) := own_rise (disown_rise h _) disown_not
theorem rises_set {X : List (List O)} (h : Rises X) (i : Nat) {l : List O} (hl : RiseO l) : Rises (X.set i l) := fun q hq => by
  rcases List.mem_or_eq_of_mem_set hq with hq | rfl
  · exact h q hq
  · exact hl
theorem at_rise {X : List (List O)} (h : Rises X) (i : Nat) : RiseO (at_ X i) := by
  unfold at_
  cases hx : X[i]? with
  | none => exact Rise.nil _
  | some q => exact h q (List.mem_of_getElem? hx)
/-- the document's steps -/
def rstepO (nodes : List Int) (ss : List (List O)) (i : Nat) : List (List O) := ss.set i (own (disown (at_ ss i) (least nodes ss (at_ ss i))) (least nodes ss (at_ ss i), 2, -1))
def rsteps (nodes : List Int) (i : Nat) : Nat → List (List O) → List (List O)
  | 0, ss => ss
  | j + 1, ss => rstepO nodes (rsteps nodes i j ss) i
def rinitAt (nodes : List Int) : Nat → List (List O)
  | 0 => []
  | i + 1 => rsteps nodes i 3 (rinitAt nodes i ++ [[]])
theorem rstepO_rises {nodes : List Int} {X : List (List O)} (h : Rises X) (i : Nat) : Rises (rstepO nodes X i) := rises_set h i (set_rise (o := (least nodes X (at_ X i), 2, -1)) (at_rise h i))
theorem rsteps_rises {nodes : List Int} {X : List (List O)} (h : Rises X) (i j : Nat) : Rises (rsteps nodes i j X) := by
  induction j with
  | zero => exact h
  | succ j ih => exact rstepO_rises ih i
theorem rinitAt_rises (nodes : List Int) (i : Nat) : Rises (rinitAt nodes i) := by
  induction i with
  | zero => intro l hl; simp [rinitAt] at hl
  | succ i ih => exact rsteps_rises (fun l hl => (List.mem_append.1 hl).elim (ih l) (fun e => by simp at e; subst e; exact Rise.nil _)) i 3
theorem rsteps_len (nodes : List Int) (i j : Nat) (ss : List (List O)) : (rsteps nodes i j ss).length = ss.length := by
  induction j with
  | zero => rfl
  | succ j ih => rw [rsteps, rstepO, List.length_set, ih]
theorem rinitAt_len (nodes : List Int) (i : Nat) : (rinitAt nodes i).length = i := by
  induction i with
  | zero => rfl
  | succ i ih => rw [rinitAt, rsteps_len]; simp [ih]
theorem rstepO_small {nodes : List Int} {X : List (List O)} {i K : Nat} (h : ∀ l ∈ X, l.length ≤ K) : ∀ l ∈ rstepO nodes X i, l.length ≤ K + 1 := fun l hl => by
  unfold rstepO at hl
  rcases List.mem_or_eq_of_mem_set hl with hl | rfl
  · have := h l hl; omega
  · rw [own_len]
    have h1 : (disown (at_ X i) (least nodes X (at_ X i))).length ≤ (at_ X i).length := List.length_filter_le _ _
    have h2 : (at_ X i).length ≤ K := by
      unfold at_
      cases hx : X[i]? with
      | none => simp
      | some q => exact h q (List.mem_of_getElem? hx)
    omega
theorem rsteps_small {nodes : List Int} {X : List (List O)} {i K : Nat} (h : ∀ l ∈ X, l.length ≤ K) (j : Nat) : ∀ l ∈ rsteps nodes i j X, l.length ≤ K + j := by
  induction j with
  | zero => exact h
  | succ j ih => exact rstepO_small ih
theorem rinitAt_small (nodes : List Int) (i : Nat) : ∀ l ∈ rinitAt nodes i, l.length ≤ 3 * i := by
  induction i with
  | zero => intro l hl; simp [rinitAt] at hl
  | succ i ih =>
    intro l hl
    have := rsteps_small (nodes := nodes) (i := i) (X := rinitAt nodes i ++ [[]]) (K := 3 * i) (fun l hl => (List.mem_append.1 hl).elim (ih l) (fun e => by simp at e; subst e; simp)) 3 l hl
    omega
/-- nodes that may be, gathered -/
def setOf (l : List Int) : List Int := ((List.range 8).map fun j : Nat => (j : Int)).filter fun x => has l x
theorem has_iff (l : List Int) (n : Int) : has l n = true ↔ n ∈ l := by simp [has]
theorem range8 (x : Int) : x ∈ (List.range 8).map (fun j : Nat => (j : Int)) ↔ isNode x := by
  simp only [List.mem_map, List.mem_range, isNode]
  exact ⟨fun ⟨a, h1, h2⟩ => by omega, fun h => ⟨x.toNat, by omega, by omega⟩⟩
theorem setOf_mem (l : List Int) (x : Int) : x ∈ setOf l ↔ isNode x ∧ x ∈ l := by
  unfold setOf
  rw [List.mem_filter, range8, has_iff]
theorem setOf_nil : setOf [] = [] := by decide
theorem with_setOf (l : List Int) (x : Int) : with_ (setOf l) x 8 = setOf (l ++ [x]) := by
  unfold with_
  show _ = ((List.range 8).map fun j : Nat => (j : Int)).filter fun y => has (l ++ [x]) y
  refine List.filter_congr fun y hy => ?_
  have h1 := (range8 y).1 hy
  have h2 : has (setOf l) y = has l y := by
    rw [Bool.eq_iff_iff, has_iff, has_iff, setOf_mem]
    exact ⟨fun h => h.2, fun h => ⟨h1, h⟩⟩
  rw [h2]
  simp [has, Bool.or_comm, eq_comm]
  rw [BEq.comm (a := x)]
theorem setOf_rise (l : List Int) : Rise id (setOf l) := by
  refine List.Pairwise.sublist List.filter_sublist ?_
  rw [List.pairwise_map]
  exact List.pairwise_lt_range.imp (fun h => by simp only [id]; omega)
theorem setOf_len (l : List Int) : (setOf l).length ≤ 8 := Nat.le_trans (List.length_filter_le _ _) (by simp)
theorem rise_ext {v v' : List Int} (h : Rise id v) (h' : Rise id v') (hm : ∀ p, p ∈ v ↔ p ∈ v') : v = v' := by
  have nd : ∀ {v : List Int}, Rise id v → v.Nodup := fun h => List.Pairwise.imp (fun h e => by simp only [id] at h; omega) h
  have hp : v.Perm v' := (List.perm_ext_iff_of_nodup (nd h) (nd h')).2 hm
  exact hp.eq_of_pairwise (le := fun a b => id a < id b) (fun a b _ _ h1 h2 => by simp only [id] at h1 h2; omega) h h'
/-- what the document asks of the nodes: few words for what the program checks of them sorted -/
structure RNodes (l : List Int) : Prop where
  many : 3 ≤ l.length
  each : ∀ x ∈ l, isNode x
  once : l.Nodup
theorem rnodes_iff (l : List Int) : NodesOk (srt l) ↔ RNodes l := by
  constructor
  · intro h
    refine ⟨by have := h.many; rwa [srt_len] at this, fun x hx => h.each x ((srt_perm l).mem_iff.2 hx), ?_⟩
    refine (srt_perm l).nodup_iff.1 (List.Pairwise.imp (fun h e => by simp only [id] at h; omega) h.rise)
  · intro h
    refine ⟨?_, fun x hx => h.each x ((srt_perm l).mem_iff.1 hx), by rw [srt_len]; exact h.many⟩
    have h1 := srt_le l
    have h2 : (srt l).Nodup := (srt_perm l).nodup_iff.2 h.once
    exact (List.Pairwise.and h1 h2).imp (fun ⟨a, b⟩ => by simp only [id]; omega)
theorem srt_setOf {l : List Int} (h : RNodes l) : srt l = setOf l :=
  rise_ext ((rnodes_iff l).2 h).rise (setOf_rise l) fun x => by
    rw [(srt_perm l).mem_iff, setOf_mem]
    exact ⟨fun hx => ⟨h.each x hx, hx⟩, fun hx => hx.2⟩
end Go.Proofs.Ytnpkhkhchimcnaa.pm
