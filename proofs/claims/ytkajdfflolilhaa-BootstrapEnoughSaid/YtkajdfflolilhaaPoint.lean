/-
  Two points compared.
-/
import Derived.Test.YtkajdfflolilhaaWb
import Derived.Test.YtkajdfflolilhaaChecked
import Derived.ProofKit
import Derived.Laws.StructEq
namespace Go.Proofs.Ytkajdfflolilhaa.words
open Go Go.RowKit

theorem eq_point (a b c a' b' c' : Int) (w : World) : (binOp .eql 93 (.agg #[.int .i64 a, .int .u64 b, .int .u64 c]) (.agg #[.int .i64 a', .int .u64 b', .int .u64 c'])).run Try.prog w = .ok (.bool (a == a' && b == b' && c == c')) w := by
  have hS : Try.prog.underlying 93 = some (.struct (Try.prog.fieldsOf 93)) := by kernel_rfl
  have hp : Try.prog.stoodInHeld 93 = false := by kernel_rfl
  have u3 := Try.underlying3
  have a3 := Try.isAgg3
  have z3 := Try.sizeOf3
  have u4 := Try.underlying91
  have a4 := Try.isAgg91
  have z4 := Try.sizeOf91
  rw [run_eql_struct, show (10000 : Nat) = 9999 + 1 from rfl, run_equalIn_agg w 9999 93 _ _ hS hp]
  simp only [Program.fieldsOf, Try.underlying93]
  go_simp
  by_cases h1 : a = a' <;> by_cases h2 : b = b' <;> by_cases h3 : c = c' <;> simp [h1, h2, h3]
theorem guard_point : Try.prog.eqGuardType Try.prog.depth 93 = false := by kernel_rfl
end Go.Proofs.Ytkajdfflolilhaa.words
