/-
  Numbers of a fixed width: read, by the program and by the document.
-/
import Derived.Test.YthkcnakodlbdpaaCl
import Derived.Test.YthkcnakodlbdpaaUvC
import Derived.Test.YthkcnakodlbdpaaOrd
import Derived.Deep.LoopGhost
import Derived.Lib.Hide
namespace Go.Proofs.Ythkcnakodlbdpaa.cl
open Go.ChangeShapes Go.WideShapes Go.ChangeAt Go.RowKit plain words ord uvs uvc

theorem or_hi64 (i M x y : Nat) (hM : 2 ^ i = M) (hx : x % M = 0) (hy : y < M) (h : x + y < 18446744073709551616) : bits .or .u64 (x : Int) (y : Int) = ((x + y : Nat) : Int) := by
  subst hM
  rw [u64_or_nat x y (by omega) (by omega), Nat.or_comm, or_add i y x hy hx, Nat.add_comm]
theorem or_byte (a c : Nat) (hc : c < 256) (h : a * 256 + c < 18446744073709551616) : bits .or .u64 ((a : Int) * 256) (c : Int) = ((a * 256 + c : Nat) : Int) := by
  have e : ((a : Int) * 256) = ((a * 256 : Nat) : Int) := by simp
  rw [e, or_hi64 8 256 (a * 256) c (by decide) (by omega) hc h]
theorem fix_take_lt (l : By) (k : Nat) (h : l.length ≤ 8) : fix (l.take k) < 18446744073709551616 := by
  have := fix_lt (l.take k)
  have h1 : 256 ^ (l.take k).length ≤ 256 ^ 8 := Nat.pow_le_pow_right (by omega) (by rw [List.length_take]; omega)
  have e : (256 : Nat) ^ 8 = 18446744073709551616 := by decide
  omega
end Go.Proofs.Ythkcnakodlbdpaa.cl
