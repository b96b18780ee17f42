/-
  One disk apart from X.
-/
import Derived.Test.YtmnliieiiaedeaaDkOne
namespace Go.Proofs.Ytmnliieiiaedeaa.dk
open Go.ChangeShapes Go.WideShapes Go.ChangeAt Go.RowKit Go.Maps Go.Sort Go.Shelf plain words ord mem al

def One (X : Nat → Prop) (w0 w : World) (p : Nat) (st : St) : Prop :=
  ∃ F, Dk w p F st ∧ (∀ k, F k → w0.heap.size ≤ k ∧ ¬ X k) ∧ Below w0.heap.size w0 w ∧ ∀ k, X k → k < w.heap.size
def RetOne (X : Nat → Prop) (w0 w : World) (p : Nat) (st : St) (r : Value) (e : Ending) (w' : World) : Prop :=
  e = .returned r ∧ One X w0 w' p st ∧ Chg (fun k => ¬ X k) w w'
section
variable {X : Nat → Prop} {w0 w w' : World} {p : Nat} {st st' : St}
theorem One.below (h : One X w0 w p st) : Below w0.heap.size w0 w := by
  obtain ⟨F, h1, h2, h3, h4⟩ := h
  exact h3
theorem One.quiet (h : One X w0 w p st) (hb : Below w.heap.size w w') : One X w0 w' p st := by
  obtain ⟨F, h1, h2, h3, h4⟩ := h
  exact ⟨F, h1.chg (Chg.of_below hb) (fun _ _ e => e), h2, h3.trans (hb.mono h3.size), fun k hk => Nat.lt_of_lt_of_le (h4 k hk) hb.size⟩
theorem One.mark (h : One X w0 w p st) (hb : Below w.heap.size w w') {Y : Nat → Prop} (hY : ∀ k, Y k → X k ∨ w.heap.size ≤ k) (hYl : ∀ k, Y k → k < w'.heap.size) : One Y w0 w' p st := by
  obtain ⟨F, h1, h2, h3, h4⟩ := h
  refine ⟨F, h1.chg (Chg.of_below hb) (fun _ _ e => e), fun k hk => ⟨(h2 k hk).1, fun e => ?_⟩, h3.trans (hb.mono h3.size), hYl⟩
  rcases hY k e with e2 | e2
  · exact (h2 k hk).2 e2
  · have := h1.lt k hk; omega
theorem One.on (h : One X w0 w p st) {f : FuncId} {args : Array Value} {r : Value} (hc : ∀ F, Dk w p F st → Calls Try.prog f args w (RetDk w p F st' r)) : Calls Try.prog f args w (RetOne X w0 w p st' r) := by
  obtain ⟨F, h1, h2, h3, h4⟩ := h
  refine (hc F h1).mono ?_
  rintro e w' ⟨rfl, hd, hch⟩
  have hs := hch.size
  have hs0 := h3.size
  refine ⟨rfl, ⟨Ext F w w', hd, fun k hk => ?_, h3.trans (hch.below hs0 (fun k hk => (h2 k hk).1)), fun k hk => Nat.lt_of_lt_of_le (h4 k hk) hs⟩, hch.mono fun k _ e => (h2 k e).2⟩
  rcases hk with e | e
  · exact h2 k e
  · exact ⟨by omega, fun e9 => by have := h4 k e9; omega⟩
theorem One.ex (h : One X w0 w p st) : ∃ F, Dk w p F st := by
  obtain ⟨F, h1, _⟩ := h
  exact ⟨F, h1⟩
theorem One.new {w1 : World} (hd : Dk w1 p (fun k => w0.heap.size ≤ k ∧ k < w1.heap.size) st) (hb : Below w0.heap.size w0 w1) : One (fun _ => False) w0 w1 p st :=
  ⟨_, hd, fun k hk => ⟨hk.1, fun e => e⟩, hb, fun k e => e.elim⟩
end
end Go.Proofs.Ytmnliieiiaedeaa.dk
