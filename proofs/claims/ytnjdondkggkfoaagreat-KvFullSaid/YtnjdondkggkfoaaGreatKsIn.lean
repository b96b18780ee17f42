/-
  Steps of the law that came in by value.
-/
import Derived.Test.YtnjdondkggkfoaaGreatPmOp
namespace Go.Proofs.YtnjdondkggkfoaaGreat.ks
open Go.ChangeShapes Go.WideShapes Go.ChangeAt Go.RowKit Go.Shelf plain words ord mem pm

/-- a step -/
structure SV where
  k : Int
  n : Int
  a : Int
  b : Int
  u : PV
def SV.cells (a : SV) : List Value := [.int .i64 a.k, .int .i64 a.n, .int .i64 a.a, .int .i64 a.b, .int .i64 a.u.ver, .slice a.u.nA a.u.nodes.length a.u.nc, .slice a.u.sA a.u.rs.length a.u.sc]
abbrev SV.val (a : SV) : Value := .agg #[.int .i64 a.k, .int .i64 a.n, .int .i64 a.a, .int .i64 a.b, .int .i64 a.u.ver, .slice a.u.nA a.u.nodes.length a.u.nc, .slice a.u.sA a.u.rs.length a.u.sc]
set_option maxRecDepth 100000 in
set_option maxHeartbeats 1000000 in
theorem sv_reads {H : Type} {enc : TypeId × Value → H} {W : World} {cs : List Value} {n : Nat} {y : DataW H × List MemPlace}
    (h : DataW.trod enc Tryz.prog W 0 (fun _ => true) true n 27 cs = some y) : ∃ a : SV, a.cells = cs ∧ PVok W W.heap.size a.u := by
  obtain ⟨xs, k, _, rfl, hl, hlen, hf⟩ := DataW.trod_struct Tryz.underlying27 h
  rw [show Tryz.prog.cellsOf 27 = 7 by kernel_rfl] at hl
  obtain ⟨c0, c1, c2, c3, c4, c5, c6, rfl⟩ : ∃ c0 c1 c2 c3 c4 c5 c6, cs = [c0, c1, c2, c3, c4, c5, c6] := by
    match cs, hl with
    | [c0, c1, c2, c3, c4, c5, c6], _ => exact ⟨_, _, _, _, _, _, _, rfl⟩
  obtain ⟨x0, x1, x2, x3, x4, rfl⟩ : ∃ x0 x1 x2 x3 x4, xs = [x0, x1, x2, x3, x4] := by
    match xs, hlen with
    | [x0, x1, x2, x3, x4], _ => exact ⟨_, _, _, _, _, rfl⟩
  obtain ⟨v0, rfl, _⟩ := words.reads_int (k := .i64) (v := c0) Tryz.underlying3 ⟨_, _, hf 0 _ rfl⟩
  obtain ⟨v1, rfl, _⟩ := words.reads_int (k := .i64) (v := c1) Tryz.underlying3 ⟨_, _, hf 1 _ rfl⟩
  obtain ⟨v2, rfl, _⟩ := words.reads_int (k := .i64) (v := c2) Tryz.underlying3 ⟨_, _, hf 2 _ rfl⟩
  obtain ⟨v3, rfl, _⟩ := words.reads_int (k := .i64) (v := c3) Tryz.underlying3 ⟨_, _, hf 3 _ rfl⟩
  obtain ⟨a, ha, hp⟩ := pl_reads (cs := [c4, c5, c6]) ⟨_, _, hf 4 _ rfl⟩
  refine ⟨⟨v0, v1, v2, v3, a⟩, ?_, hp⟩
  show _ :: _ :: _ :: _ :: plE a = _
  rw [ha]
set_option maxRecDepth 100000 in
theorem open_step {H : Type} {enc : TypeId × Value → H} {W : World} {r : Reach} {b0 : Nat} {v : Value} {d : DataW H} {p : List MemPlace} (hv : Value.okWide Tryz.prog W r b0 27 v) (h : DataW.Trod enc Tryz.prog W 0 (fun _ => true) true 27 v d p) : ∃ a : SV, v = a.val ∧ PVok W W.heap.size a.u := by
  obtain ⟨cs, rfl, hsz⟩ := okWide_struct Tryz.underlying27 hv
  obtain ⟨n, hn⟩ := h
  obtain ⟨a, ha, hf⟩ := sv_reads hn
  refine ⟨a, ?_, hf⟩
  have e : cs.toList = a.cells := by
    rw [ha]
    simp [Value.cells]
  have e2 : cs = a.cells.toArray := by rw [← e]
  rw [e2]
  rfl
end Go.Proofs.YtnjdondkggkfoaaGreat.ks
