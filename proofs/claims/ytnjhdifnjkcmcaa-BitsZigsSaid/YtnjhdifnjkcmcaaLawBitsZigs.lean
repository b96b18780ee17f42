/-
  The walk of the law BitsZigs: for every int and every uint64 it returns true.
-/
import Derived.Test.YtnjhdifnjkcmcaaZig
import Derived.Lib.Hide
import Derived.Outline
import Derived.Handy
namespace Go.Proofs.Ytnjhdifnjkcmcaa.lawBitsZigs
open Go.ChangeShapes Go.WideShapes Go.ChangeAt Go.RowKit plain zig

theorem walk_ok (a0 : Int) (a1 : Int) (w : World) (w0 : (Lit.int .i64 a0).wf = true) (w1 : (Lit.int .u64 a1).wf = true) :
    Calls Try.prog 10 #[.int .i64 a0, .int .u64 a1] w fun e w' => e = .returned (.bool true) ∧ Below w.heap.size w w' := by
  have b0 : -9223372036854775808 ≤ a0 ∧ a0 ≤ 9223372036854775807 := by simpa [Lit.wf, IntKind.min, IntKind.max, IntKind.signed, IntKind.bits] using w0
  have b1 : 0 ≤ a1 ∧ a1 ≤ 18446744073709551615 := by simpa [Lit.wf, IntKind.min, IntKind.max, IntKind.signed, IntKind.bits] using w1
  clear w0 w1
  have c0 := zig_bd a0 b0.1 b0.2
  have c1 := zag_bd a1 b1.1 b1.2
  have z0 := zag_zig a0
  have z1 := zig_zag a1 b1.1
  have H0 := Lib.hid z0
  have H1 := Lib.hid z1
  clear z0 z1
  have hcase : (a0 < 0) ∨ (0 ≤ a0 ∧ 1099511627776 < a0) ∨ (0 ≤ a0 ∧ a0 ≤ 1099511627776) := by omega
  have hz : 0 ≤ a0 → zig a0 = 2 * a0 := fun h => by unfold zig; rw [if_pos h]
  have HZ := Lib.hid hz
  clear hz
  rcases hcase with h | ⟨h, h'⟩ | ⟨h, h'⟩
  all_goals
    go_enter Try.func10, Try.ntmps10
    go_wp2_with fail
    refine (zig_x a0 _ b0.1 b0.2).mono ?_
    rintro e w' ⟨rfl, rfl⟩
    go_wp2_with fail
    refine (zag_x (zig a0) _ c0.1 c0.2).mono ?_
    rintro e w' ⟨rfl, rfl⟩
    rw [H0.out]
    go_wp2_with fail
    refine (zag_x a1 _ b1.1 b1.2).mono ?_
    rintro e w' ⟨rfl, rfl⟩
    go_wp2_with fail
    refine (zig_x (zag a1) _ c1.1 c1.2).mono ?_
    rintro e w' ⟨rfl, rfl⟩
    rw [H1.out]
    go_wp2_with fail
    refine (zig_y a0 _ b0.1 b0.2).mono ?_
    rintro e w' ⟨rfl, rfl⟩
  · go_wp2_with fail
    go_ret
    exact ⟨rfl, Below.refl _ _⟩
  · go_wp2_with fail
    go_ret
    exact ⟨rfl, Below.refl _ _⟩
  · rw [HZ.out h]
    go_wp2_with fail
    go_ret
    exact ⟨rfl, Below.refl _ _⟩
end Go.Proofs.Ytnjhdifnjkcmcaa.lawBitsZigs
