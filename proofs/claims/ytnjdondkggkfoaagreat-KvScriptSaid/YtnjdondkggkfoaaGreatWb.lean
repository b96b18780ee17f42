/-
  A region that draws its order, whose operations only read memory that lay before it, and whose calls may make memory but hand back one value: one walk, in the order of the text.
-/
import Derived.Test.YtnjdondkggkfoaaGreatWords
import Derived.BigQuiet
import Derived.Laws.AppendOwn
namespace Go.Proofs.YtnjdondkggkfoaaGreat.words
open Go Go.RowKit

/-- a world in which all that lay in w0 lies as it did -/
structure Wb (w0 : World) where
  w : World
  h : Below w0.heap.size w0 w
instance (w0 : World) : Nonempty (Wb w0) := ⟨⟨w0, Below.refl _ _⟩⟩
theorem Wb.cells (w0 : World) : ∀ (u : Wb w0) (b o : Nat), b < w0.heap.size → u.w.cell? ⟨b, o, none⟩ = w0.cell? ⟨b, o, none⟩ := fun u b o hb => u.h.cell (p := ⟨b, o, none⟩) hb
theorem Wb.at_ {w0 : World} {a : Addr} {v : Value} (h : w0.cell? a = some v) : ∀ u : Wb w0, u.w.cell? a = some v := fun u => (u.h.cell (World.block_lt_of_cell? w0 a h)).trans h
theorem Wb.size (w0 : World) : ∀ (u : Wb w0), w0.heap.size ≤ u.w.heap.size := fun u => u.h.size
end Go.Proofs.YtnjdondkggkfoaaGreat.words
