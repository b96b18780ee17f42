/-
  Steps of the law that came in by value.
-/
import Derived.Test.YtnjdondkggkfoaaGreatPmOp
namespace Go.Proofs.YtnjdondkggkfoaaGreat.ks
open Go.ChangeShapes Go.WideShapes Go.ChangeAt Go.RowKit Go.Shelf plain words ord mem pm

/-- a step -/
structure SV where
  k : Int
  n : Int
  a : Int
  b : Int
  u : PV
def SV.cells (a : SV) : List Value := [.int .i64 a.k, .int .i64 a.n, .int .i64 a.a, .int .i64 a.b, .int .i64 a.u.ver, .slice a.u.nA a.u.nodes.length a.u.nc, .slice a.u.sA a.u.rs.length a.u.sc]
abbrev SV.val (a : SV) : Value := .agg #[.int .i64 a.k, .int .i64 a.n, .int .i64 a.a, .int .i64 a.b, .int .i64 a.u.ver, .slice a.u.nA a.u.nodes.length a.u.nc, .slice a.u.sA a.u.rs.length a.u.sc]
end Go.Proofs.YtnjdondkggkfoaaGreat.ks
