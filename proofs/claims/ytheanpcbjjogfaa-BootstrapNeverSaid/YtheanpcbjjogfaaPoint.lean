/-
  Two points compared.
-/
import Derived.Test.YtheanpcbjjogfaaWb
import Derived.Test.YtheanpcbjjogfaaChecked
import Derived.ProofKit
import Derived.Laws.StructEq
namespace Go.Proofs.Ytheanpcbjjogfaa.words
open Go Go.RowKit

theorem eq_point (a b c a' b' c' : Int) (w : World) : (binOp .eql 91 (.agg #[.int .i64 a, .int .u64 b, .int .u64 c]) (.agg #[.int .i64 a', .int .u64 b', .int .u64 c'])).run Try.prog w = .ok (.bool (a == a' && b == b' && c == c')) w := by
  have hS : Try.prog.underlying 91 = some (.struct (Try.prog.fieldsOf 91)) := by kernel_rfl
  have hp : Try.prog.stoodInHeld 91 = false := by kernel_rfl
  have u3 := Try.underlying3
  have a3 := Try.isAgg3
  have z3 := Try.sizeOf3
  have u4 := Try.underlying89
  have a4 := Try.isAgg89
  have z4 := Try.sizeOf89
  rw [run_eql_struct, show (10000 : Nat) = 9999 + 1 from rfl, run_equalIn_agg w 9999 91 _ _ hS hp]
  simp only [Program.fieldsOf, Try.underlying91]
  go_simp
  by_cases h1 : a = a' <;> by_cases h2 : b = b' <;> by_cases h3 : c = c' <;> simp [h1, h2, h3]
theorem guard_point : Try.prog.eqGuardType Try.prog.depth 91 = false := by kernel_rfl
end Go.Proofs.Ytheanpcbjjogfaa.words
