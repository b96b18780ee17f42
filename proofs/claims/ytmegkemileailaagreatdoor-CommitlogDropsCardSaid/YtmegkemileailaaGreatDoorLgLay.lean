/-
  The log: what the rows' lists give: the library's table and its error; a world in which they lie.
-/
import Derived.Test.YtmegkemileailaaGreatDoorCards
import Derived.Test.YtmegkemileailaaGreatDoorTie
import Derived.Test.YtmegkemileailaaGreatDoorLgNm
import Derived.Deep.DeepHandedRow
import Derived.Lib.LaidTab
import Derived.Stop.LaidErr
namespace Go.Proofs.YtmegkemileailaaGreatDoor.lg
open Go.ChangeShapes Go.WideShapes Go.ChangeAt Go.RowKit

theorem own : ownKnob Tryz.prog.godebug = none := by kernel_rfl
theorem gPow : Tryz.prog.globalNamed "internal/strconv.uint64pow10" = some 2 := by kernel_rfl
theorem gPowType : (Tryz.prog.globals[2]?).map (·.type) = some 191 := by kernel_rfl
theorem gES : Tryz.prog.globalNamed "strconv.ErrSyntax" = some 0 := by kernel_rfl
theorem gESType : (Tryz.prog.globals[0]?).map (·.type) = some 128 := by kernel_rfl
theorem cellsPow : Tryz.prog.cellsOf 191 = 20 := by kernel_rfl
theorem cellsU : Tryz.prog.cellsOf 32 = 1 := by kernel_rfl
theorem cellsES : Tryz.prog.cellsOf 201 = 1 := by kernel_rfl
theorem cellsS : Tryz.prog.cellsOf 9 = 1 := by kernel_rfl
theorem star : "*" ++ "errors.errorString" = "*errors.errorString" := by decide
theorem rowES (u : TypeId) (h : Tryz.prog.typeName? 3 u = some "*errors.errorString") : u = 199 :=
  typeName_ptr_named (nm := "errors.errorString") (by rw [star]; kernel_rfl) (by kernel_rfl) (by decide) u (by rw [star]; exact h)
abbrev laidL : List (String × DataW Unit) := [("math/bits.deBruijn32tab", Rows.laid_math_bits_deBruijn32tab), ("math/bits.deBruijn64tab", Rows.laid_math_bits_deBruijn64tab), ("internal/strconv.uint64pow10", Rows.laid_internal_strconv_uint64pow10), ("strconv.ErrRange", Rows.laid_strconv_ErrRange), ("strconv.ErrSyntax", Rows.laid_strconv_ErrSyntax)]
theorem lay_of {W : World} (h : laidMetH Tryz.prog laidL W) : LayS W := by
  have h' : laidMet Tryz.prog laidL W := h
  refine ⟨?_, ?_⟩
  · exact Lib.tabIs_of_head (rest := [("strconv.ErrRange", Rows.laid_strconv_ErrRange), ("strconv.ErrSyntax", Rows.laid_strconv_ErrSyntax)]) gPow gPowType Tryz.underlying191 Tryz.underlying32 cellsU cellsPow h'.tail.tail
  · obtain ⟨a0, s0, hv0, _⟩ := laid_sentinel h'.tail.tail.tail.tail gES gESType Tryz.underlying128 rowES Tryz.underlying199 Tryz.underlying201 rfl rfl Tryz.underlying9 cellsES cellsS
    exact ⟨_, _, hv0⟩
def withCells (cs : Array Value) : Obj → Obj
  | .cells _ t frozen => .cells cs t frozen
  | o => o
def tab32 : List Int := [0, 1, 28, 2, 29, 14, 24, 3, 30, 22, 20, 15, 25, 17, 4, 8, 31, 27, 13, 23, 21, 19, 16, 7, 26, 12, 18, 6, 11, 5, 10, 9]
def tab64 : List Int := [0, 1, 56, 2, 57, 49, 28, 3, 61, 58, 42, 50, 38, 29, 17, 4, 62, 47, 59, 36, 45, 43, 51, 22, 53, 39, 33, 30, 24, 18, 12, 5, 63, 55, 48, 27, 60, 41, 37, 16, 46, 35, 44, 21, 52, 32, 23, 11, 54, 26, 40, 15, 34, 20, 31, 10, 25, 14, 19, 9, 13, 8, 7, 6]
/-- so many blocks has the settled world -/
noncomputable def low : Nat := (World.holding Tryz.prog default ⟨#[], #[], []⟩).heap.size
/-- a world for the witness -/
noncomputable def laidWorld (os : Os) : World :=
  let w0 := World.holding Tryz.prog os ⟨#[.cells #[.string ⟨#[118, 97, 108, 117, 101, 32, 111, 117, 116, 32, 111, 102, 32, 114, 97, 110, 103, 101]⟩] 201, .cells #[.string ⟨#[105, 110, 118, 97, 108, 105, 100, 32, 115, 121, 110, 116, 97, 120]⟩] 201], #[], []⟩
  { w0 with heap := ((((w0.heap.modify 3 (withCells (tab32.map fun z => Value.int .u8 z).toArray)).modify 4 (withCells (tab64.map fun z => Value.int .u8 z).toArray)).modify 2 (withCells (Lib.pow10Tab.map fun z => Value.int .u64 z).toArray)).modify 1 (withCells #[.iface 199 (.pointer (some ⟨low, 0, none⟩))])).modify 0 (withCells #[.iface 199 (.pointer (some ⟨low + 1, 0, none⟩))]) }
end Go.Proofs.YtmegkemileailaaGreatDoor.lg
