/-
  Placements: a new one is right, and both make the same.
-/
import Derived.Test.YtnjdondkggkfoaaGreatPmG
import Derived.Test.YtnjdondkggkfoaaGreatPmRemM
import Derived.Test.YtnjdondkggkfoaaGreatPmInitY
namespace Go.Proofs.YtnjdondkggkfoaaGreat.pm
open Go.ChangeShapes Go.WideShapes Go.ChangeAt Go.RowKit Go.Shelf plain words ord mem

structure Fresh (nodes : List Int) (l : List O) : Prop where
  rise : RiseO l
  each : ∀ o ∈ l, o.2 = (2, -1) ∧ o.1 ∈ nodes
theorem Fresh.not {nodes : List Int} {l : List O} (h : Fresh nodes l) {n : Int} (hn : holds l n = false) : ∀ o ∈ l, o.1 ≠ n := fun o ho e => by
  rw [(holds_iff l n).2 ⟨o, ho, e, by rw [(h.each o ho).1]; simp⟩] at hn; cases hn
theorem Fresh.own {nodes : List Int} {l : List O} (h : Fresh nodes l) {n : Int} (hn : holds l n = false) (hm : n ∈ nodes) : Fresh nodes (own l (n, 2, -1)) :=
  ⟨own_rise h.rise (h.not hn), fun o ho => by
    rcases (own_mem _ _ _).1 ho with rfl | ho
    · exact ⟨rfl, hm⟩
    · exact h.each o ho⟩
theorem Fresh.calm {nodes : List Int} {l : List O} (h : Fresh nodes l) (hn : NodesOk nodes) (h3 : l.length = 3) : Calm l := ⟨h.rise, fun o ho => ⟨hn.each _ (h.each o ho).2, (h.each o ho).1⟩, h3⟩
end Go.Proofs.YtnjdondkggkfoaaGreat.pm
