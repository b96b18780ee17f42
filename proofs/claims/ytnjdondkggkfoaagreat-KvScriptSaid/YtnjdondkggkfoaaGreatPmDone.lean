/-
  Placements: the program's Done.
-/
import Derived.Test.YtnjdondkggkfoaaGreatPmDE
import Derived.Test.YtnjdondkggkfoaaGreatPmGv
import Derived.Test.YtnjdondkggkfoaaGreatPmC
namespace Go.Proofs.YtnjdondkggkfoaaGreat.pm
open Go.ChangeShapes Go.WideShapes Go.ChangeAt Go.RowKit Go.Shelf plain words ord mem

theorem rise_len {α : Type} {f : α → Int} : ∀ (l : List α) (a : Int), Rise f l → (∀ x ∈ l, a ≤ f x ∧ f x < 8) → a ≤ 8 → (l.length : Int) ≤ 8 - a
  | [], a, _, _, h => by simp; omega
  | x :: l, a, hr, hb, h => by
    have hp := List.pairwise_cons.1 hr
    have hx := hb x (by simp)
    have := rise_len l (f x + 1) hp.2 (fun y hy => ⟨by have := hp.1 y hy; omega, (hb y (by simp [hy])).2⟩) (by omega)
    simp only [List.length_cons]
    omega
theorem PlOk.nl {p : Pl} (h : PlOk p) : 3 ≤ p.nodes.length ∧ p.nodes.length ≤ 8 := by
  have := rise_len p.nodes 0 h.nodes.rise (fun x hx => h.nodes.each x hx) (by omega)
  exact ⟨h.nodes.many, by omega⟩
theorem ShardBy.ll {val : List O → O → Prop} {nodes : List Int} {l : List O} (h : ShardBy val nodes l) : 3 ≤ l.length ∧ l.length ≤ 8 := by
  have h1 := rise_len l 0 h.rise (fun x hx => (h.each x hx).1) (by omega)
  have h2 : stay l ≤ l.length := List.countP_le_length
  rw [h.three] at h2
  exact ⟨h2, by omega⟩
/-- whence an owner comes is another node, and an owner -/
theorem ShardBy.source {nodes : List Int} {l : List O} (h : ShardOk nodes l) {o : O} (ho : o ∈ l) (h1 : o.2.1 = 1) : o.2.2 ≠ o.1 ∧ ∃ x ∈ l, x.1 = o.2.2 := by
  rcases (h.each o ho).2.1 with ⟨e, _⟩ | ⟨_, x, hx, e⟩ | ⟨e, _⟩
  · omega
  · obtain ⟨hm, hn⟩ := (find_iff h.rise _ x).1 hx
    refine ⟨fun e2 => ?_, x, hm, hn⟩
    have := rise_inj h.rise hm ho (by omega)
    subst this; omega
  · omega
theorem fnd_mem {p : O → Bool} {l : List O} (h : (fnd p l).2.1 = 1) : fnd p l ∈ l ∧ p (fnd p l) = true := by
  unfold fnd at h ⊢
  cases hf : l.find? p with
  | none => rw [hf] at h; simp at h
  | some x => exact ⟨List.mem_of_find?_eq_some hf, List.find?_some hf⟩
noncomputable def doneErr (p : Pl) (s n : Int) : Int :=
  if chk p = 0 then (if s < 0 ∨ (p.ss.length : Int) ≤ s then 1 else if (fnd (byNode n) (shardAt p.ss s)).2.1 = 1 then bumpErr p else 140) else 50
noncomputable def donePl (p : Pl) (s n : Int) : Pl :=
  if doneErr p s n = 0 then ⟨p.ver + 1, p.nodes, p.ss.set s.toNat (own (disown (disown (shardAt p.ss s) (fnd (byNode n) (shardAt p.ss s)).2.2) n) (n, 2, -1))⟩ else ⟨0, [], []⟩
end Go.Proofs.YtnjdondkggkfoaaGreat.pm
