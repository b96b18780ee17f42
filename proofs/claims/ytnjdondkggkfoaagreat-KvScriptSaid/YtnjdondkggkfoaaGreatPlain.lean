/-
  Plain lemmas on integers and bits: nothing of the program.
-/
import Derived.WalkKit
import Derived.Laws.BitsAllLaws
namespace Go.Proofs.YtnjdondkggkfoaaGreat.plain
open Go Go.RowKit

theorem ret_bool {a b : Bool} (h : a = b) : Ending.returned (.bool a) = .returned (.bool b) := by rw [h]

theorem or_add (i x y : Nat) (hx : x < 2 ^ i) (hy : y % 2 ^ i = 0) : x ||| y = x + y := by
  rw [Nat.or_comm, nat_join i y x hy hx, Nat.add_comm]
theorem or_add_u64 (i M x y : Nat) (hM : 2 ^ i = M) (hx : x < M) (hy : y % M = 0) (h : x + y < 18446744073709551616) : bits .or .u64 (x : Int) (y : Int) = ((x + y : Nat) : Int) := by
  subst hM; rw [u64_or_nat x y (by omega) (by omega), or_add i x y hx hy]
theorem or_add_u8 (i M x y : Nat) (hM : 2 ^ i = M) (hx : x < M) (hy : y % M = 0) (h : x + y < 256) : bits .or .u8 (x : Int) (y : Int) = ((x + y : Nat) : Int) := by
  subst hM; rw [u8_or_nat x y (by omega) (by omega), or_add i x y hx hy]
theorem p8 : (2 : Nat) ^ 8 = 256 := by simp
end Go.Proofs.YtnjdondkggkfoaaGreat.plain
