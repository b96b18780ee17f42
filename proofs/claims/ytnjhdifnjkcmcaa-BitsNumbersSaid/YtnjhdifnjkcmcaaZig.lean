/-
  Contracts of Zig and Zag, the program's and the document's own.
-/
import Derived.Test.YtnjhdifnjkcmcaaRows
import Derived.Test.YtnjhdifnjkcmcaaPlain
import Derived.ProofKit
import Derived.OpenShut
namespace Go.Proofs.Ytnjhdifnjkcmcaa.zig
open Go.ChangeShapes Go.WideShapes Go.ChangeAt Go.RowKit plain

def zig (n : Int) : Int := if 0 ≤ n then 2 * n else -2 * n - 1
def zag (v : Int) : Int := if v % 2 = 0 then v / 2 else -(v / 2) - 1

theorem zig_bd (n : Int) (h0 : -9223372036854775808 ≤ n) (h1 : n ≤ 9223372036854775807) : 0 ≤ zig n ∧ zig n ≤ 18446744073709551615 := by
  unfold zig; split <;> omega
theorem zag_bd (n : Int) (h0 : 0 ≤ n) (h1 : n ≤ 18446744073709551615) : -9223372036854775808 ≤ zag n ∧ zag n ≤ 9223372036854775807 := by
  unfold zag; split <;> omega
theorem zag_zig (n : Int) : zag (zig n) = n := by
  unfold zag zig; split <;> split <;> omega
theorem zig_zag (n : Int) (h0 : 0 ≤ n) : zig (zag n) = n := by
  unfold zag zig; split <;> split <;> omega

theorem zig_code (n : Int) (h0 : -9223372036854775808 ≤ n) (h1 : n ≤ 9223372036854775807) :
    bits BinOp.xor IntKind.u64 (IntKind.u64.wrap (IntKind.u64.wrap n * 2)) (IntKind.u64.wrap (n / 9223372036854775808)) = zig n := by
  unfold zig
  simp only [IntKind.wrap_u64]
  split
  · have e : n / 9223372036854775808 = 0 := by omega
    rw [e, show (0 : Int) % 18446744073709551616 = 0 from rfl, xor_zero_u64 _ (by omega) (by omega)]
    omega
  · have e : n / 9223372036854775808 = -1 := by omega
    rw [e, show (-1 : Int) % 18446744073709551616 = 18446744073709551615 from rfl, xor_ones_u64 _ (by omega) (by omega)]
    omega
theorem zag_code (n : Int) (h0 : 0 ≤ n) (h1 : n ≤ 18446744073709551615) :
    bits BinOp.xor IntKind.i64 (n / 2) (wrap64 (-wrap64 (bits BinOp.and IntKind.u64 n 1))) = zag n := by
  unfold zag
  rw [and_one_u64 n h0 h1]
  split
  · rename_i h
    rw [h, show wrap64 (-wrap64 0) = 0 from by simp [wrap64], xor_zero_i64 _ (by omega) (by omega)]
  · have e : n % 2 = 1 := by omega
    rw [e, show wrap64 (-wrap64 1) = -1 from by simp [wrap64], xor_ones_i64 _ (by omega) (by omega)]

theorem zig_x (n : Int) (w : World) (h0 : -9223372036854775808 ≤ n) (h1 : n ≤ 9223372036854775807) :
    Calls Try.prog 30 #[.int .i64 n] w fun e w' => e = .returned (.int .u64 (zig n)) ∧ w = w' := by
  go_enter Try.func30, Try.ntmps30
  go_wp2
  go_ret
  exact ⟨ret_int (zig_code n h0 h1), rfl⟩
theorem zig_y (n : Int) (w : World) (h0 : -9223372036854775808 ≤ n) (h1 : n ≤ 9223372036854775807) :
    Calls Try.prog 31 #[.int .i64 n] w fun e w' => e = .returned (.int .u64 (zig n)) ∧ w = w' := by
  go_enter Try.func31, Try.ntmps31
  go_wp2
  all_goals go_ret
  · exact ⟨ret_int (by unfold zig; rw [if_pos (by assumption)]; omega), rfl⟩
  · exact ⟨ret_int (by unfold zig; rw [if_neg (by omega)]; omega), rfl⟩
theorem zag_x (n : Int) (w : World) (h0 : 0 ≤ n) (h1 : n ≤ 18446744073709551615) :
    Calls Try.prog 32 #[.int .u64 n] w fun e w' => e = .returned (.int .i64 (zag n)) ∧ w = w' := by
  go_enter Try.func32, Try.ntmps32
  go_wp2
  go_ret
  exact ⟨ret_int (zag_code n h0 h1), rfl⟩
theorem zag_y (n : Int) (w : World) (h0 : 0 ≤ n) (h1 : n ≤ 18446744073709551615) :
    Calls Try.prog 33 #[.int .u64 n] w fun e w' => e = .returned (.int .i64 (zag n)) ∧ w = w' := by
  go_enter Try.func33, Try.ntmps33
  go_wp2
  all_goals go_ret
  · have h : (n % 2 == 0) = true := by assumption
    exact ⟨ret_int (by unfold zag; rw [if_pos (by simpa using h)]), rfl⟩
  · have h : (n % 2 == 0) = false := by assumption
    exact ⟨ret_int (by unfold zag; rw [if_neg (by simpa using h)]), rfl⟩
end Go.Proofs.Ytnjhdifnjkcmcaa.zig
