/-
  Tsz: what the rows' lists give: the two tables' cells; a world in which they lie.
-/
import Derived.Test.YtknjejejkgihbaaDoorCards
import Derived.Test.YtknjejejkgihbaaDoorTie
import Derived.Test.YtknjejejkgihbaaDoorTsPw
import Derived.Deep.DeepHandedRow
import Derived.Lib.LaidTab
import Derived.Stop.LaidErr
namespace Go.Proofs.YtknjejejkgihbaaDoor.ts
open Go.ChangeShapes Go.WideShapes Go.ChangeAt Go.RowKit

theorem own : ownKnob Tryd.prog.godebug = none := by kernel_rfl
theorem gTab : Tryd.prog.globalNamed "math/bits.deBruijn64tab" = some 1 := by kernel_rfl
theorem gTabType : (Tryd.prog.globals[1]?).map (·.type) = some 103 := by kernel_rfl
theorem gCls : Tryd.prog.globalNamed "thermograph/tsz.classes" = some 0 := by kernel_rfl
theorem gClsType : (Tryd.prog.globals[0]?).map (·.type) = some 97 := by kernel_rfl
theorem cellsTab : Tryd.prog.cellsOf 103 = 64 := by kernel_rfl
theorem cellsB : Tryd.prog.cellsOf 5 = 1 := by kernel_rfl
theorem cellsCls : Tryd.prog.cellsOf 97 = 6 := by kernel_rfl
theorem cellsC : Tryd.prog.cellsOf 96 = 2 := by kernel_rfl
theorem cellsI : Tryd.prog.cellsOf 3 = 1 := by kernel_rfl
abbrev laidL : List (String × DataW Unit) := [("math/bits.deBruijn64tab", Rows.laid_math_bits_deBruijn64tab), ("thermograph/tsz.classes", Rows.laid_thermograph_tsz_classes)]
theorem tab_of {W : World} (h : laidMet Tryd.prog laidL W) : Lib.TabIs Tryd.prog W "math/bits.deBruijn64tab" .u8 (Lib.deBruijn64tab.map fun (z : Nat) => (z : Int)) :=
  Lib.tabIs_of_head (rest := [("thermograph/tsz.classes", Rows.laid_thermograph_tsz_classes)]) gTab gTabType Tryd.underlying103 Tryd.underlying5 cellsB cellsTab h
theorem int_of_trod {H : Type} {enc : TypeId × Value → H} {P : Program} {w : World} {base : Nat} {sp : Nat → Bool} {held : Bool} {fuel : Nat} {t : TypeId} {k : IntKind} {cs : List Value} {y : DataW H × List MemPlace}
    (ht : P.underlying t = some (.int k)) (h : DataW.trod enc P w base sp held fuel t cs = some y) : ∃ n, cs = [.int k n] ∧ y.1 = .lit (.int k n) := by
  cases fuel with
  | zero => simp [DataW.trod] at h
  | succ fuel =>
    obtain ⟨d, p⟩ := y
    obtain ⟨z, hc, hy, _⟩ := DataW.trod_int ht h
    exact ⟨z, hc, congrArg Prod.fst hy⟩
set_option maxRecDepth 100000 in
theorem class_of_trod {H : Type} {enc : TypeId × Value → H} {w : World} {base : Nat} {sp : Nat → Bool} {held : Bool} {fuel : Nat} {cs : List Value} {y : DataW H × List MemPlace} {a b : Int}
    (h : DataW.trod enc Tryd.prog w base sp held fuel 96 cs = some y) (hy : y.1 = .agg [.lit (.int .i64 a), .lit (.int .i64 b)]) : cs = [.int .i64 a, .int .i64 b] := by
  cases fuel with
  | zero => simp [DataW.trod] at h
  | succ fuel =>
    simp only [DataW.trod, Tryd.underlying96] at h
    split at h
    · rename_i hl
      rw [cellsC] at hl
      obtain ⟨c0, c1, rfl⟩ : ∃ c0 c1, cs = [c0, c1] := by
        match cs, hl with
        | [x, z], _ => exact ⟨x, z, rfl⟩
      simp only [Option.map_eq_some_iff, List.mapM_cons, List.mapM_nil, Option.bind_eq_bind, Option.bind_eq_some_iff, Option.pure_def, Option.some.injEq] at h
      obtain ⟨xs, ⟨y0, h0, _, ⟨y1, h1, _, rfl, rfl⟩, rfl⟩, rfl⟩ := h
      obtain ⟨n0, e0, f0⟩ := int_of_trod Tryd.underlying3 h0
      obtain ⟨n1, e1, f1⟩ := int_of_trod Tryd.underlying3 h1
      rw [cellsI] at e0 e1
      simp at e0 e1
      simp [f0, f1] at hy
      obtain ⟨rfl, rfl⟩ := hy
      rw [e0, e1]
    · cases h
theorem cls_of {W : World} (h : laidMet Tryd.prog laidL W) : W.var? Tryd.prog "thermograph/tsz.classes" = some #[.int .i64 7, .int .i64 63, .int .i64 9, .int .i64 255, .int .i64 12, .int .i64 2047] := by
  have h := laidMet.tail h
  obtain ⟨ps, ⟨g, t, cs, fuel, p, q, hg, ht, hvar, hd, _, _⟩, _⟩ := h
  obtain rfl := Option.some.inj (gCls.symm.trans hg)
  obtain rfl := Option.some.inj (gClsType.symm.trans ht)
  rw [hvar]
  congr 1
  obtain ⟨l⟩ := cs
  cases fuel with
  | zero => simp [DataW.trod] at hd
  | succ fuel =>
    simp only [DataW.trod, Tryd.underlying97, cellsCls, cellsC] at hd
    split at hd
    · rename_i hl
      obtain ⟨c0, c1, c2, c3, c4, c5, rfl⟩ : ∃ c0 c1 c2 c3 c4 c5, l = [c0, c1, c2, c3, c4, c5] := by
        match l, hl with
        | [a, b, c, d, e, f], _ => exact ⟨a, b, c, d, e, f, rfl⟩
      have e : List.range 3 = [0, 1, 2] := rfl
      rw [e] at hd
      simp only [Option.map_eq_some_iff, List.mapM_cons, List.mapM_nil, Option.bind_eq_bind, Option.bind_eq_some_iff, Option.pure_def, Option.some.injEq] at hd
      obtain ⟨xs, ⟨y0, h0, _, ⟨y1, h1, _, ⟨y2, h2, _, rfl, rfl⟩, rfl⟩, rfl⟩, hx⟩ := hd
      have hx1 := congrArg Prod.fst hx
      simp only [Rows.laid_thermograph_tsz_classes, List.map_cons, List.map_nil, DataW.agg.injEq, List.cons.injEq, and_true] at hx1
      obtain ⟨x0, x1, x2⟩ := hx1
      have k0 := class_of_trod h0 x0
      have k1 := class_of_trod h1 x1
      have k2 := class_of_trod h2 x2
      simp at k0 k1 k2
      obtain ⟨rfl, rfl⟩ := k0
      obtain ⟨rfl, rfl⟩ := k1
      obtain ⟨rfl, rfl⟩ := k2
      rfl
    · cases hd
theorem lay_of {W : World} (h : laidMetH Tryd.prog laidL W) : Lay W := by
  have h' : laidMet Tryd.prog laidL W := h
  refine ⟨fun j v hj => ?_, fun j hj => ?_⟩
  · have := World.var?_cell gCls (cls_of h') j
    rw [this]
    match j, hj with
    | 0, hj => simp at hj; subst hj; rfl
    | 1, hj => simp at hj; subst hj; rfl
    | 2, hj => simp at hj; subst hj; rfl
    | 3, hj => simp at hj; subst hj; rfl
    | 4, hj => simp at hj; subst hj; rfl
    | 5, hj => simp at hj; subst hj; rfl
    | j + 6, hj => simp at hj
  · have := (tab_of h').cell gTab j (by rw [List.length_map]; exact hj)
    rw [this]
    congr 2
    simp [List.getD]
    have hj2 : j < Lib.deBruijn64tab.length := hj
    rw [List.getElem?_eq_getElem hj2]
    simp
/-- two globals lie -/
theorem two_le {W : World} (h : Lay W) : 2 ≤ W.heap.size := by
  have h1 := World.block_lt_of_cell? W _ (h.tab 0 (by omega))
  exact h1
def withCells (cs : Array Value) : Obj → Obj
  | .cells _ t frozen => .cells cs t frozen
  | o => o
/-- a world for the witness -/
noncomputable def laidWorld (os : Os) : World :=
  { World.holding Tryd.prog os ⟨#[], #[], []⟩ with heap := ((World.holding Tryd.prog os ⟨#[], #[], []⟩).heap.modify 0 (withCells #[.int .i64 7, .int .i64 63, .int .i64 9, .int .i64 255, .int .i64 12, .int .i64 2047])).modify 1 (withCells (Lib.deBruijn64tab.map fun (z : Nat) => Value.int .u8 (z : Int)).toArray) }
end Go.Proofs.YtknjejejkgihbaaDoor.ts
