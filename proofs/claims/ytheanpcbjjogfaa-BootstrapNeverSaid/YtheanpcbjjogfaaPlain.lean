/-
  Plain lemmas on integers and bits: nothing of the program.
-/
import Derived.WalkKit
import Derived.Laws.BitsAllLaws
namespace Go.Proofs.Ytheanpcbjjogfaa.plain
open Go Go.RowKit

theorem ret_int {k : IntKind} {a b : Int} (h : a = b) : Ending.returned (.int k a) = .returned (.int k b) := by rw [h]
theorem ret_bool {a b : Bool} (h : a = b) : Ending.returned (.bool a) = .returned (.bool b) := by rw [h]

theorem ofInt_toNat (k : Nat) (a : Int) : ((BitVec.ofInt k a).toNat : Int) = a % (2 ^ k : Nat) := by
  rw [BitVec.toNat_ofInt]
  have h : (0 : Int) ≤ a % (2 ^ k : Nat) := Int.emod_nonneg _ (by have := Nat.two_pow_pos k; omega)
  omega

/-- 'x ^ 0' on int -/
theorem xor_zero_i64 (a : Int) (h0 : -9223372036854775808 ≤ a) (h1 : a ≤ 9223372036854775807) : bits .xor .i64 a 0 = a := by
  have e : bits .xor .i64 a 0 = IntKind.i64.wrap ((BitVec.ofInt 64 a).toNat : Int) := by
    have h : bits .xor .i64 a 0 = IntKind.i64.wrap ((BitVec.ofInt 64 a ^^^ BitVec.ofInt 64 0).toNat : Int) := rfl
    rw [h, show BitVec.ofInt 64 0 = 0#64 from by decide, BitVec.xor_zero]
  rw [e, ofInt_toNat]
  simp [IntKind.wrap, IntKind.bits, IntKind.signed]
  omega
/-- 'x ^ -1' on int -/
theorem xor_ones_i64 (a : Int) (h0 : -9223372036854775808 ≤ a) (h1 : a ≤ 9223372036854775807) : bits .xor .i64 a (-1) = -a - 1 := by
  have e : bits .xor .i64 a (-1) = IntKind.i64.wrap ((~~~(BitVec.ofInt 64 a)).toNat : Int) := by
    have h : bits .xor .i64 a (-1) = IntKind.i64.wrap ((BitVec.ofInt 64 a ^^^ BitVec.ofInt 64 (-1)).toNat : Int) := rfl
    rw [h, show BitVec.ofInt 64 (-1) = BitVec.allOnes 64 from by decide, BitVec.xor_allOnes]
  have h := ofInt_toNat 64 a
  rw [e, BitVec.toNat_not]
  simp only [Nat.reducePow] at h
  simp [IntKind.wrap, IntKind.bits, IntKind.signed]
  omega
theorem xor_zero_u64 (a : Int) (h0 : 0 ≤ a) (h1 : a ≤ 18446744073709551615) : bits .xor .u64 a 0 = a := by
  rw [u64_xor a 0 h0 (by omega) (by omega) (by omega)]
  simp
  omega
theorem xor_ones_u64 (a : Int) (h0 : 0 ≤ a) (h1 : a ≤ 18446744073709551615) : bits .xor .u64 a 18446744073709551615 = 18446744073709551615 - a := by
  have e : bits .xor .u64 a 18446744073709551615 = IntKind.u64.wrap ((~~~(BitVec.ofInt 64 a)).toNat : Int) := by
    have h : bits .xor .u64 a 18446744073709551615 = IntKind.u64.wrap ((BitVec.ofInt 64 a ^^^ BitVec.ofInt 64 18446744073709551615).toNat : Int) := rfl
    rw [h, show BitVec.ofInt 64 18446744073709551615 = BitVec.allOnes 64 from by decide, BitVec.xor_allOnes]
  have h := ofInt_toNat 64 a
  rw [e, BitVec.toNat_not]
  simp only [Nat.reducePow] at h
  simp [IntKind.wrap, IntKind.bits, IntKind.signed]
  omega
theorem and_one_u64 (a : Int) (h0 : 0 ≤ a) (h1 : a ≤ 18446744073709551615) : bits .and .u64 a 1 = a % 2 := by
  rw [u64_and a 1 h0 (by omega) (by omega) (by omega)]
  have : (1 : Int).toNat = 1 := rfl
  rw [this, nat_mask1]
  omega
theorem or_add (i x y : Nat) (hx : x < 2 ^ i) (hy : y % 2 ^ i = 0) : x ||| y = x + y := by
  rw [Nat.or_comm, nat_join i y x hy hx, Nat.add_comm]
theorem or_add_u32 (i M x y : Nat) (hM : 2 ^ i = M) (hx : x < M) (hy : y % M = 0) (h : x + y < 4294967296) : bits .or .u32 (x : Int) (y : Int) = ((x + y : Nat) : Int) := by
  subst hM; rw [u32_or_nat x y (by omega) (by omega), or_add i x y hx hy]
theorem or_add_u64 (i M x y : Nat) (hM : 2 ^ i = M) (hx : x < M) (hy : y % M = 0) (h : x + y < 18446744073709551616) : bits .or .u64 (x : Int) (y : Int) = ((x + y : Nat) : Int) := by
  subst hM; rw [u64_or_nat x y (by omega) (by omega), or_add i x y hx hy]
theorem or_add_u8 (i M x y : Nat) (hM : 2 ^ i = M) (hx : x < M) (hy : y % M = 0) (h : x + y < 256) : bits .or .u8 (x : Int) (y : Int) = ((x + y : Nat) : Int) := by
  subst hM; rw [u8_or_nat x y (by omega) (by omega), or_add i x y hx hy]
theorem p8 : (2 : Nat) ^ 8 = 256 := by simp
theorem p16 : (2 : Nat) ^ 16 = 65536 := by simp
theorem p24 : (2 : Nat) ^ 24 = 16777216 := by simp
theorem p32 : (2 : Nat) ^ 32 = 4294967296 := by simp
end Go.Proofs.Ytheanpcbjjogfaa.plain
