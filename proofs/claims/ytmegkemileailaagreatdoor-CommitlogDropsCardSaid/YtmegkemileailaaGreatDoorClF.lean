/-
  Numbers of a fixed width: read, by the program and by the document.
-/
import Derived.Test.YtmegkemileailaaGreatDoorCl
import Derived.Test.YtmegkemileailaaGreatDoorUvC
import Derived.Test.YtmegkemileailaaGreatDoorOrd
import Derived.Deep.LoopGhost
import Derived.Lib.Hide
namespace Go.Proofs.YtmegkemileailaaGreatDoor.cl
open Go.ChangeShapes Go.WideShapes Go.ChangeAt Go.RowKit plain words ord uvs uvc

theorem or_hi64 (i M x y : Nat) (hM : 2 ^ i = M) (hx : x % M = 0) (hy : y < M) (h : x + y < 18446744073709551616) : bits .or .u64 (x : Int) (y : Int) = ((x + y : Nat) : Int) := by
  subst hM
  rw [u64_or_nat x y (by omega) (by omega), Nat.or_comm, or_add i y x hy hx, Nat.add_comm]
theorem or_byte (a c : Nat) (hc : c < 256) (h : a * 256 + c < 18446744073709551616) : bits .or .u64 ((a : Int) * 256) (c : Int) = ((a * 256 + c : Nat) : Int) := by
  have e : ((a : Int) * 256) = ((a * 256 : Nat) : Int) := by simp
  rw [e, or_hi64 8 256 (a * 256) c (by decide) (by omega) hc h]
theorem fix_take_lt (l : By) (k : Nat) (h : l.length ≤ 8) : fix (l.take k) < 18446744073709551616 := by
  have := fix_lt (l.take k)
  have h1 : 256 ^ (l.take k).length ≤ 256 ^ 8 := Nat.pow_le_pow_right (by omega) (by rw [List.length_take]; omega)
  have e : (256 : Nat) ^ 8 = 18446744073709551616 := by decide
  omega
set_option maxRecDepth 100000 in
theorem fixed_x (w : World) (B n c : Nat) (A : Option Addr) (bs : By) (h : Bs w B A n bs) (hn : n ≤ 8) :
    Calls Tryz.prog 94 #[.slice A n c] w fun e w' => e = .returned (.int .u64 (fix bs : Nat)) ∧ w = w' := by
  have hl := h.len_
  have HH := Lib.hid h
  have HL := Lib.hid hl
  clear h hl
  go_enter Tryz.func94, Tryz.ntmps94
  go_wp2_with fail
  go_loopg [3, 5, 8] n (fun gg s3 s5 s8 wr => ∃ (k v : Nat), s8 = .int .i64 k ∧ s3 = .int .u64 v ∧ Aside (fix (bs.take k) = v) ∧ k ≤ n ∧ n - k ≤ gg ∧ wr = w)
  case atStart => exact ⟨0, 0, rfl, rfl, rfl, Nat.zero_le _, by omega, rfl⟩
  case round =>
    obtain ⟨k, v, rfl, rfl, HV, hk, hg, rfl⟩ := hrel
    by_cases hlt : k < n
    · obtain ⟨b, off, ch, eA, hb, hg2, hc⟩ := HH.out.get hlt
      subst eA
      have hv := fix_take_lt bs (k + 1) (by rw [HL.out]; exact hn)
      rw [fix_take bs k hg2, HV.out] at hv
      have hch := ch.toNat_lt
      have i1 : (k : Int) < (n : Int) := by omega
      have i0 : (0 : Int) ≤ (k : Int) := by omega
      have HT := Lib.hid (fix_take bs k hg2)
      obtain ⟨z, hz⟩ : ∃ z, ch.toNat = z := ⟨_, rfl⟩
      rw [hz] at hc hv hch
      have HZ := Lib.hid hz
      have w1 : IntKind.u64.wrap ((v : Int) * 256) = (v : Int) * 256 := by rw [IntKind.wrap_u64]; omega
      have w2 := or_byte v z hch (by omega)
      clear hz hg2
      go_wp2_with fail
      go_roundg (n - (k + 1))
      case measure => omega
      case rel =>
        refine ⟨k + 1, v * 256 + z, by go_num, rfl, ?_, by omega, by omega, rfl⟩
        show fix _ = _
        rw [HT.out, HV.out, HZ.out]
    · have i1 : ¬ (k : Int) < (n : Int) := by omega
      have hkn : k = n := by omega
      subst hkn
      have hv : fix bs = v := by rw [← HV.out, List.take_of_length_le (by rw [HL.out]; omega)]
      have HV2 := Lib.hid hv
      clear hv
      go_wp2_with fail
      go_ret
      exact ⟨by rw [HV2.out]; rfl, rfl⟩
set_option maxRecDepth 100000 in
theorem wide_y (w : World) (B n c : Nat) (A : Option Addr) (bs : By) (h : Bs w B A n bs) (hn : 8 ≤ n) :
    Calls Tryz.prog 98 #[.slice A n c] w fun e w' => e = .returned (.int .u64 (fix (bs.take 8) : Nat)) ∧ w = w' := by
  have hl := h.len_
  have HH := Lib.hid h
  have HL := Lib.hid hl
  clear h hl
  go_enter Tryz.func98, Tryz.ntmps98
  go_wp2_with fail
  go_loopg [3, 4] 8 (fun gg s3 s4 wr => ∃ (k v : Nat), s4 = .int .i64 k ∧ s3 = .int .u64 v ∧ Aside (fix (bs.take k) = v) ∧ k ≤ 8 ∧ 8 - k ≤ gg ∧ wr = w)
  case atStart => exact ⟨0, 0, rfl, rfl, rfl, Nat.zero_le _, by omega, rfl⟩
  case round =>
    obtain ⟨k, v, rfl, rfl, HV, hk, hg, rfl⟩ := hrel
    by_cases hlt : k < 8
    · obtain ⟨b, off, ch, eA, hb, hg2, hc⟩ := HH.out.get (show k < n by omega)
      subst eA
      have hv := fix_take_lt (bs.take 8) (k + 1) (by rw [List.length_take]; omega)
      rw [List.take_take, Nat.min_eq_left (by omega), fix_take bs k hg2, HV.out] at hv
      have hch := ch.toNat_lt
      have i1 : (k : Int) < 8 := by omega
      have i2 : (k : Int) < (n : Int) := by omega
      have i0 : (0 : Int) ≤ (k : Int) := by omega
      have HT := Lib.hid (fix_take bs k hg2)
      obtain ⟨z, hz⟩ : ∃ z, ch.toNat = z := ⟨_, rfl⟩
      rw [hz] at hc hv hch
      have HZ := Lib.hid hz
      have w1 : IntKind.u64.wrap ((v : Int) * 256) = (v : Int) * 256 := by rw [IntKind.wrap_u64]; omega
      have w2 := or_byte v z hch (by omega)
      clear hz hg2
      go_wp2_with fail
      go_roundg (8 - (k + 1))
      case measure => omega
      case rel =>
        refine ⟨k + 1, v * 256 + z, by go_num, rfl, ?_, by omega, by omega, rfl⟩
        show fix _ = _
        rw [HT.out, HV.out, HZ.out]
    · have hkn : k = 8 := by omega
      subst hkn
      go_wp2_with fail
      go_ret
      exact ⟨by rw [HV.out]; rfl, rfl⟩
end Go.Proofs.YtmegkemileailaaGreatDoor.cl
