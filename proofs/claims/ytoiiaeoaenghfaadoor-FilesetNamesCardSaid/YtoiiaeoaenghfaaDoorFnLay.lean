/-
  What the rows' lists give: the library's table and the names of the parts; a world in which they lie.
-/
import Derived.Test.YtoiiaeoaenghfaaDoorCards
import Derived.Test.YtoiiaeoaenghfaaDoorTie
import Derived.Test.YtoiiaeoaenghfaaDoorFn2
import Derived.Deep.DeepHandedRow
import Derived.Lib.LaidTab
import Derived.Stop.LaidErr
namespace Go.Proofs.YtoiiaeoaenghfaaDoor.fn
open Go.ChangeShapes Go.WideShapes Go.ChangeAt Go.RowKit

theorem own : ownKnob Tryd.prog.godebug = none := by kernel_rfl
theorem gPow : Tryd.prog.globalNamed "internal/strconv.uint64pow10" = some 1 := by kernel_rfl
theorem gPowType : (Tryd.prog.globals[1]?).map (·.type) = some 64 := by kernel_rfl
theorem gPts : Tryd.prog.globalNamed "thermograph/fileset.parts" = some 0 := by kernel_rfl
theorem gPtsType : (Tryd.prog.globals[0]?).map (·.type) = some 37 := by kernel_rfl
theorem cellsPow : Tryd.prog.cellsOf 64 = 20 := by kernel_rfl
theorem cellsU : Tryd.prog.cellsOf 54 = 1 := by kernel_rfl
theorem cellsPts : Tryd.prog.cellsOf 37 = 7 := by kernel_rfl
theorem cellsS : Tryd.prog.cellsOf 9 = 1 := by kernel_rfl
abbrev laidL : List (String × DataW Unit) := [("math/bits.deBruijn32tab", Rows.laid_math_bits_deBruijn32tab), ("math/bits.deBruijn64tab", Rows.laid_math_bits_deBruijn64tab), ("internal/strconv.uint64pow10", Rows.laid_internal_strconv_uint64pow10), ("thermograph/fileset.parts", Rows.laid_thermograph_fileset_parts)]
theorem str_of_trod {H : Type} {enc : TypeId × Value → H} {P : Program} {w : World} {base : Nat} {sp : Nat → Bool} {held : Bool} {fuel : Nat} {t : TypeId} {cs : List Value} {y : DataW H × List MemPlace} {l : List UInt8}
    (ht : P.underlying t = some .string) (h : DataW.trod enc P w base sp held fuel t cs = some y) (hy : y.1 = .lit (.string l)) : cs = [.string (tx l)] := by
  cases fuel with
  | zero => simp [DataW.trod] at h
  | succ fuel =>
    obtain ⟨d, p⟩ := y
    obtain ⟨s, hc, hd, _⟩ := DataW.trod_string ht h
    simp only [Prod.mk.injEq] at hd
    have e := hd.1.symm.trans hy
    injection e with e
    injection e with e
    rw [hc]
    congr 2
    unfold tx
    rw [← e]
theorem pts_of {W : World} (h : laidMet Tryd.prog laidL W) : W.var? Tryd.prog "thermograph/fileset.parts" = some #[.string (tx (pa 0)), .string (tx (pa 1)), .string (tx (pa 2)), .string (tx (pa 3)), .string (tx (pa 4)), .string (tx (pa 5)), .string (tx (pa 6))] := by
  have h := laidMet.tail (laidMet.tail (laidMet.tail h))
  obtain ⟨ps, ⟨g, t, cs, fuel, p, q, hg, ht, hvar, hd, _, _⟩, _⟩ := h
  obtain rfl := Option.some.inj (gPts.symm.trans hg)
  obtain rfl := Option.some.inj (gPtsType.symm.trans ht)
  rw [hvar]
  congr 1
  obtain ⟨l⟩ := cs
  cases fuel with
  | zero => simp [DataW.trod] at hd
  | succ fuel =>
    simp only [DataW.trod, Tryd.underlying37, cellsPts, cellsS] at hd
    split at hd
    · rename_i hl
      obtain ⟨c0, c1, c2, c3, c4, c5, c6, rfl⟩ : ∃ c0 c1 c2 c3 c4 c5 c6, l = [c0, c1, c2, c3, c4, c5, c6] := by
        match l, hl with
        | [a, b, c, d, e, f, g], _ => exact ⟨a, b, c, d, e, f, g, rfl⟩
      have e : List.range 7 = [0, 1, 2, 3, 4, 5, 6] := rfl
      rw [e] at hd
      simp only [Option.map_eq_some_iff, List.mapM_cons, List.mapM_nil, Option.bind_eq_bind, Option.bind_eq_some_iff, Option.pure_def, Option.some.injEq] at hd
      obtain ⟨xs, ⟨y0, h0, _, ⟨y1, h1, _, ⟨y2, h2, _, ⟨y3, h3, _, ⟨y4, h4, _, ⟨y5, h5, _, ⟨y6, h6, _, rfl, rfl⟩, rfl⟩, rfl⟩, rfl⟩, rfl⟩, rfl⟩, rfl⟩, hx⟩ := hd
      have hx1 := congrArg Prod.fst hx
      simp only [Rows.laid_thermograph_fileset_parts, List.map_cons, List.map_nil, DataW.agg.injEq, List.cons.injEq, and_true] at hx1
      obtain ⟨x0, x1, x2, x3, x4, x5, x6⟩ := hx1
      have k0 := str_of_trod Tryd.underlying9 h0 x0
      have k1 := str_of_trod Tryd.underlying9 h1 x1
      have k2 := str_of_trod Tryd.underlying9 h2 x2
      have k3 := str_of_trod Tryd.underlying9 h3 x3
      have k4 := str_of_trod Tryd.underlying9 h4 x4
      have k5 := str_of_trod Tryd.underlying9 h5 x5
      have k6 := str_of_trod Tryd.underlying9 h6 x6
      simp at k0 k1 k2 k3 k4 k5 k6
      subst k0 k1 k2 k3 k4 k5 k6
      rfl
    · cases hd
theorem lay_of {W : World} (h : laidMetH Tryd.prog laidL W) : Lay W := by
  have h' : laidMet Tryd.prog laidL W := h
  refine ⟨fun j hj => ?_, ?_⟩
  · have := World.var?_cell gPts (pts_of h') j
    rw [this]
    have h7 : j = 0 ∨ j = 1 ∨ j = 2 ∨ j = 3 ∨ j = 4 ∨ j = 5 ∨ j = 6 := by omega
    rcases h7 with rfl | rfl | rfl | rfl | rfl | rfl | rfl <;> rfl
  · exact Lib.tabIs_of_head (rest := [("thermograph/fileset.parts", Rows.laid_thermograph_fileset_parts)]) gPow gPowType Tryd.underlying64 Tryd.underlying54 cellsU cellsPow h'.tail.tail
def withCells (cs : Array Value) : Obj → Obj
  | .cells _ t frozen => .cells cs t frozen
  | o => o
def tab32 : List Int := [0, 1, 28, 2, 29, 14, 24, 3, 30, 22, 20, 15, 25, 17, 4, 8, 31, 27, 13, 23, 21, 19, 16, 7, 26, 12, 18, 6, 11, 5, 10, 9]
def tab64 : List Int := [0, 1, 56, 2, 57, 49, 28, 3, 61, 58, 42, 50, 38, 29, 17, 4, 62, 47, 59, 36, 45, 43, 51, 22, 53, 39, 33, 30, 24, 18, 12, 5, 63, 55, 48, 27, 60, 41, 37, 16, 46, 35, 44, 21, 52, 32, 23, 11, 54, 26, 40, 15, 34, 20, 31, 10, 25, 14, 19, 9, 13, 8, 7, 6]
/-- a world for the witness -/
noncomputable def laidWorld (os : Os) : World :=
  let w0 := World.holding Tryd.prog os ⟨#[], #[], []⟩
  { w0 with heap := (((w0.heap.modify 3 (withCells (tab32.map fun z => Value.int .u8 z).toArray)).modify 4 (withCells (tab64.map fun z => Value.int .u8 z).toArray)).modify 1 (withCells (Lib.pow10Tab.map fun z => Value.int .u64 z).toArray)).modify 0 (withCells (pl.map fun s => Value.string (tx s)).toArray) }
end Go.Proofs.YtoiiaeoaenghfaaDoor.fn
