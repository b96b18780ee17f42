/-
  math/bits.LeadingZeros64, Len64, TrailingZeros64: the library's contracts laid at this program (printed by the kit's tool; the numbers are the program's).
-/
import Derived.Shelf.Small.Bits
import Derived.Shelf.Spec.TrailingZeros
import Derived.Shelf.Bodies7
import Derived.Shelf.Strconv.Itoa0
import Derived.Test.YtknjejejkgihbaaDoorTsMath
import Derived.Test.YtknjejejkgihbaaDoorTsPw
namespace Go.Proofs.YtknjejejkgihbaaDoor.ts
open Go.Shelf words
def lz_ren : Go.Shelf.Ren := ⟨fun | 134 => 54 | 129 => 60 | n => n, fun | 53 => 37 | 3 => 3 | 4 => 4 | 46 => 82 | 5 => 5 | 9 => 9 | n => n, fun | n => n⟩
theorem lz : Lays.n134 Tryd.prog lz_ren := {
  mixed := by kernel_rfl
  f129 := Tryd.func60.trans (congrArg some (by kernel_rfl))
  f134 := Tryd.func54.trans (congrArg some (by kernel_rfl))
  t3 := Tryd.underlying3
  a3 := Tryd.isAgg3
  z3 := Tryd.sizeOf3
  v3 := Tryd.zeroValue3
  t4 := Tryd.underlying4
  a4 := Tryd.isAgg4
  z4 := Tryd.sizeOf4
  v4 := Tryd.zeroValue4
  t5 := Tryd.underlying5
  a5 := Tryd.isAgg5
  z5 := Tryd.sizeOf5
  v5 := Tryd.zeroValue5
  t9 := Tryd.underlying9
  a9 := Tryd.isAgg9
  z9 := Tryd.sizeOf9
  v9 := Tryd.zeroValue9
  t46 := Tryd.underlying82
  a46 := Tryd.isAgg82
  z46 := Tryd.sizeOf82
  v46 := Tryd.zeroValue82
  t53 := Tryd.underlying37
  a53 := Tryd.isAgg37
  z53 := Tryd.sizeOf37
  v53 := Tryd.zeroValue37 }
theorem bits_LeadingZeros64 (x : Int) (w : World) (h0 : 0 ≤ x) (h1 : x ≤ 18446744073709551615) :
    Calls Tryd.prog 54 #[.int .u64 x] w fun e w' => e = .returned (.int .i64 (64 - (Lib.bitLen x.toNat : Int))) ∧ w' = w := Any.bits_LeadingZeros64 lz x w h0 h1
def l64_ren : Go.Shelf.Ren := ⟨fun | 129 => 60 | n => n, fun | 53 => 37 | 3 => 3 | 4 => 4 | 46 => 82 | 5 => 5 | 9 => 9 | n => n, fun | n => n⟩
theorem l64 : Lays.n129 Tryd.prog l64_ren := {
  mixed := by kernel_rfl
  f129 := Tryd.func60.trans (congrArg some (by kernel_rfl))
  t3 := Tryd.underlying3
  a3 := Tryd.isAgg3
  z3 := Tryd.sizeOf3
  v3 := Tryd.zeroValue3
  t4 := Tryd.underlying4
  a4 := Tryd.isAgg4
  z4 := Tryd.sizeOf4
  v4 := Tryd.zeroValue4
  t5 := Tryd.underlying5
  a5 := Tryd.isAgg5
  z5 := Tryd.sizeOf5
  v5 := Tryd.zeroValue5
  t9 := Tryd.underlying9
  a9 := Tryd.isAgg9
  z9 := Tryd.sizeOf9
  v9 := Tryd.zeroValue9
  t46 := Tryd.underlying82
  a46 := Tryd.isAgg82
  z46 := Tryd.sizeOf82
  v46 := Tryd.zeroValue82
  t53 := Tryd.underlying37
  a53 := Tryd.isAgg37
  z53 := Tryd.sizeOf37
  v53 := Tryd.zeroValue37 }
theorem bits_Len64 (x : Int) (w : World) (h0 : 0 ≤ x) (h1 : x ≤ 18446744073709551615) :
    Calls Tryd.prog 60 #[.int .u64 x] w fun e w' => e = .returned (.int .i64 (Lib.bitLen x.toNat)) ∧ w' = w := Any.bits_Len64 l64 x w h0 h1
def tz_ren : Go.Shelf.Ren := ⟨fun | 29 => 55 | n => n, fun | 22 => 37 | 3 => 3 | 4 => 4 | 25 => 82 | 54 => 103 | 0 => 0 | 5 => 5 | n => n, fun | 1 => 1 | n => n⟩
theorem tz : Lays7.n29 Tryd.prog tz_ren := {
  mixed := by kernel_rfl
  f29 := Tryd.func55.trans (congrArg some (by kernel_rfl))
  t0 := Tryd.underlying0
  a0 := Tryd.isAgg0
  z0 := Tryd.sizeOf0
  v0 := Tryd.zeroValue0
  i0 := by kernel_rfl
  t3 := Tryd.underlying3
  a3 := Tryd.isAgg3
  z3 := Tryd.sizeOf3
  v3 := Tryd.zeroValue3
  i3 := by kernel_rfl
  t4 := Tryd.underlying4
  a4 := Tryd.isAgg4
  z4 := Tryd.sizeOf4
  v4 := Tryd.zeroValue4
  i4 := by kernel_rfl
  t5 := Tryd.underlying5
  a5 := Tryd.isAgg5
  z5 := Tryd.sizeOf5
  v5 := Tryd.zeroValue5
  i5 := by kernel_rfl
  t22 := Tryd.underlying37
  a22 := Tryd.isAgg37
  z22 := Tryd.sizeOf37
  v22 := Tryd.zeroValue37
  i22 := by kernel_rfl
  t25 := Tryd.underlying82
  a25 := Tryd.isAgg82
  z25 := Tryd.sizeOf82
  v25 := Tryd.zeroValue82
  i25 := by kernel_rfl
  t54 := Tryd.underlying103
  a54 := Tryd.isAgg103
  z54 := Tryd.sizeOf103
  g1 := by kernel_rfl }

/-- the first bit 1 of a number -/
theorem bitLen_pow (f : Nat) : ∀ x, x < 2 ^ f → x ≠ 0 → x < 2 ^ Lib.bitLenAux f x ∧ 2 ^ Lib.bitLenAux f x ≤ 2 * x ∧ Lib.bitLenAux f x ≤ f := by
  induction f with
  | zero => intro x h h0; simp at h; omega
  | succ f ih =>
    intro x h h0
    unfold Lib.bitLenAux
    rw [if_neg h0]
    by_cases h1 : x / 2 = 0
    · have : Lib.bitLenAux f (x / 2) = 0 := by rw [h1]; cases f <;> simp [Lib.bitLenAux]
      rw [this]
      simp; omega
    · have := ih (x / 2) (by rw [Nat.pow_succ] at h; omega) h1
      rw [Nat.add_comm 1, Nat.pow_succ]
      omega
theorem lz_x (w : World) (y : Nat) (hy : lt64 y) (h0 : y ≠ 0) : ∃ z : Nat, z ≤ 64 ∧ min z 31 = lead y ∧
    Calls Tryd.prog 54 #[.int .u64 (y : Int)] w fun e w' => e = .returned (.int .i64 (z : Int)) ∧ w = w' := by
  have hy2 : y < 2 ^ 64 := by rw [p64]; exact hy
  have h := bitLen_pow 64 y hy2 h0
  have e : Lib.bitLenAux 64 y = Lib.bitLen y := rfl
  rw [e] at h
  refine ⟨64 - Lib.bitLen y, by omega, (lead_of y _ h.2.2 h.1 h.2.1 h0).symm, ?_⟩
  unfold lt64 at hy
  refine (bits_LeadingZeros64 (y : Int) w (by omega) (by omega)).mono ?_
  rintro e w' ⟨rfl, rfl⟩
  refine ⟨?_, rfl⟩
  rw [Int.toNat_natCast, show (64 - (Lib.bitLen y : Int)) = ((64 - Lib.bitLen y : Nat) : Int) from by omega]
theorem tz_x (w : World) (y : Nat) (hy : lt64 y) (h0 : y ≠ 0) (hl : Lay w) :
    Calls Tryd.prog 55 #[.int .u64 (y : Int)] w fun e w' => e = .returned (.int .i64 (trail y : Int)) ∧ w = w' := by
  have hy2 : y < 2 ^ 64 := by rw [p64]; exact hy
  obtain ⟨m, hm, hk⟩ := Lib.ctzFrom_spec 64 y (by omega) hy2
  have ht : trail y = Lib.ctz 64 y := by
    unfold Lib.ctz
    rw [if_neg h0]
    refine trail_of y _ hk ?_ ?_
    · exact Nat.mod_eq_zero_of_dvd ⟨_, hm⟩
    · have key : ∀ q k : Nat, 2 ^ k * (2 * q + 1) / 2 ^ k % 2 = 1 := fun q k => by
        rw [Nat.mul_div_cancel_left _ (Nat.two_pow_pos _)]; omega
      have := key m (Lib.ctzFrom 64 y)
      rwa [← hm] at this
  unfold lt64 at hy
  refine (Any7.bits_TrailingZeros64 tz y hy w ?_).mono ?_
  · intro _ j hj
    exact hl.tab j hj
  · rintro e w' ⟨rfl, rfl⟩
    rw [ht]
    exact ⟨rfl, rfl⟩
end Go.Proofs.YtknjejejkgihbaaDoor.ts
