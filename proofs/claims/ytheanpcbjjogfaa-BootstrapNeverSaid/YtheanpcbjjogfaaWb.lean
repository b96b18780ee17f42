/-
  A region that draws its order, whose operations only read memory that lay before it, and whose calls may make memory but hand back one value: one walk, in the order of the text.
-/
import Derived.Test.YtheanpcbjjogfaaWords
import Derived.BigQuiet
import Derived.Laws.AppendOwn
namespace Go.Proofs.Ytheanpcbjjogfaa.words
open Go Go.RowKit

/-- a world in which all that lay in w0 lies as it did -/
structure Wb (w0 : World) where
  w : World
  h : Below w0.heap.size w0 w
instance (w0 : World) : Nonempty (Wb w0) := ⟨⟨w0, Below.refl _ _⟩⟩
theorem Wb.cells (w0 : World) : ∀ (u : Wb w0) (b o : Nat), b < w0.heap.size → u.w.cell? ⟨b, o, none⟩ = w0.cell? ⟨b, o, none⟩ := fun u b o hb => u.h.cell (p := ⟨b, o, none⟩) hb
theorem Wb.at_ {w0 : World} {a : Addr} {v : Value} (h : w0.cell? a = some v) : ∀ u : Wb w0, u.w.cell? a = some v := fun u => (u.h.cell (World.block_lt_of_cell? w0 a h)).trans h
theorem Wb.size (w0 : World) : ∀ (u : Wb w0), w0.heap.size ≤ u.w.heap.size := fun u => u.h.size
theorem wp_region_wb {P : Program} {id : Nat} {Q : Exit → Act → World → Prop} {a : Act} {w : World} {l : List Oper} (w0 : World) (hw : Below w0.heap.size w0 w) (hm : P.follows .mixedOrders = true) (hB : Region.lexB .any l.toArray = true)
    (h : wpQuiet P l.toArray (fun w' => ∃ u : Wb w0, w' = u.w) (fun a' => ∀ w', (∃ u : Wb w0, w' = u.w) → Q .normal a' w') l a) : (Code.region id l.toArray true).wp P Q a w :=
  wp_region_quiet (C := fun w' => ∃ u : Wb w0, w' = u.w) hm hB ⟨⟨w.drew, hw.drew⟩, rfl⟩ (by simpa using h)
/-- a call that makes memory -/
theorem wb_call {P : Program} {f : FuncId} {args : Array Value} {w0 : World} {u : Wb w0} {v : Value}
    (h : Calls P f args u.w fun e w' => e = .returned v ∧ Below u.w.heap.size u.w w') : Calls P f args u.w fun e w'' => e = .returned v ∧ ∃ u' : Wb w0, w'' = u'.w :=
  h.mono fun _ _ ⟨he, hb⟩ => ⟨he, ⟨_, u.h.trans (hb.mono u.h.size)⟩, rfl⟩
/-- a call that changes nothing -/
theorem wb_same {P : Program} {f : FuncId} {args : Array Value} {w0 : World} {u : Wb w0} {v : Value}
    (h : Calls P f args u.w fun e w' => e = .returned v ∧ u.w = w') : Calls P f args u.w fun e w'' => e = .returned v ∧ ∃ u' : Wb w0, w'' = u'.w :=
  h.mono fun _ _ ⟨he, hb⟩ => ⟨he, u, hb.symm⟩
/-- a call that draws -/
theorem wb_drew {P : Program} {f : FuncId} {args : Array Value} {w0 : World} {u : Wb w0} {v : Value}
    (h : Calls P f args u.w fun e w' => e = .returned v ∧ ∃ n, w' = u.w.drewN n) : Calls P f args u.w fun e w'' => e = .returned v ∧ ∃ u' : Wb w0, w'' = u'.w :=
  h.mono fun _ _ ⟨he, n, hb⟩ => ⟨he, ⟨_, u.h.trans (hb ▸ below_drewN _ _ _)⟩, rfl⟩
theorem wb_next {w0 w1 : World} {u : Wb w0} (h : Below u.w.heap.size u.w w1) : ∃ u1 : Wb w0, u1.w = w1 := ⟨⟨w1, u.h.trans (h.mono u.h.size)⟩, rfl⟩
end Go.Proofs.Ytheanpcbjjogfaa.words
