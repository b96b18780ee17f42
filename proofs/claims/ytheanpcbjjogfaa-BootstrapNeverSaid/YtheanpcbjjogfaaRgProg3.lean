/-
  Sets of times as lists of ranges: the law's same; the program's Len, Covers, Sub.
-/
import Derived.Test.YtheanpcbjjogfaaRgProg2
namespace Go.Proofs.Ytheanpcbjjogfaa.rg
open Go.ChangeShapes Go.WideShapes Go.ChangeAt Go.RowKit plain words ord mem

theorem neq_rg (a b a' b' : Int) (w : World) : (binOp .neq 27 (.agg #[.int .i64 a, .int .i64 b]) (.agg #[.int .i64 a', .int .i64 b'])).run Try.prog w = .ok (.bool (!(a == a' && b == b'))) w := by
  have hS : Try.prog.underlying 27 = some (.struct (Try.prog.fieldsOf 27)) := by kernel_rfl
  have hp : Try.prog.stoodInHeld 27 = false := by kernel_rfl
  have u3 := Try.underlying3
  have a3 := Try.isAgg3
  have z3 := Try.sizeOf3
  rw [run_neq_struct, show (10000 : Nat) = 9999 + 1 from rfl, run_equalIn_agg w 9999 27 _ _ hS hp]
  simp only [Program.fieldsOf, Try.underlying27]
  go_simp
  by_cases h1 : a = a' <;> by_cases h2 : b = b' <;> simp [h1, h2]
theorem guard_rg : Try.prog.eqGuardType Try.prog.depth 27 = false := by kernel_rfl
theorem take_next {l l' : List R} {i : Nat} (hi : i < l.length) (hi' : i < l'.length) (h : l.take i = l'.take i) (e : l[i] = l'[i]) : l.take (i + 1) = l'.take (i + 1) := by
  rw [List.take_succ_eq_append_getElem hi, List.take_succ_eq_append_getElem hi', h, e]
end Go.Proofs.Ytheanpcbjjogfaa.rg
