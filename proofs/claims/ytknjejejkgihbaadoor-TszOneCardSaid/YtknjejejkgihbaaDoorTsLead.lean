/-
  Tsz: bits 0 at a number's head and at its end, the document's way; a window's size.
-/
import Derived.Test.YtknjejejkgihbaaDoorTs
import Derived.Test.YtknjejejkgihbaaDoorTsRefBits
namespace Go.Proofs.YtknjejejkgihbaaDoor.ts
open Go.ChangeShapes Go.WideShapes Go.ChangeAt Go.RowKit plain words ord mem

def ldF (y : Nat) : Nat → Nat → Nat
  | 0, n => n
  | f + 1, n => if y / 2 ^ (63 - n) % 2 = 0 then ldF y f (n + 1) else n
def trF (y : Nat) : Nat → Nat → Nat
  | 0, n => n
  | f + 1, n => if y / 2 ^ n % 2 = 0 then trF y f (n + 1) else n
def lead (y : Nat) : Nat := ldF y 31 0
def trail (y : Nat) : Nat := trF y 64 0
theorem bit_and (V s : Nat) (hV : lt64 V) : bits .and .u64 ((V : Int) / 2 ^ s) 1 = ((V / 2 ^ s % 2 : Nat) : Int) := by
  have e : ((V : Int) / 2 ^ s) = ((V / 2 ^ s : Nat) : Int) := by simp
  have h : V / 2 ^ s ≤ V := Nat.div_le_self _ _
  unfold lt64 at hV
  obtain ⟨q, hq⟩ : ∃ q, V / 2 ^ s = q := ⟨_, rfl⟩
  rw [hq] at h
  rw [e, hq, and_one_u64 _ (by omega) (by omega)]
  omega
set_option maxRecDepth 100000 in
theorem leads_y (w : World) (V : Nat) (hV : lt64 V) :
    Calls Tryd.prog 48 #[.int .u64 (V : Int)] w fun e w' => e = .returned (.int .i64 (lead V : Int)) ∧ w = w' := by
  go_enter Tryd.func48, Tryd.ntmps48
  go_wp2_with (fail)
  go_loopg [3] 31 (fun gg s3 wr => ∃ k : Nat, k ≤ 31 ∧ 31 - k ≤ gg ∧ s3 = .int .i64 k ∧ Aside (lead V = ldF V (31 - k) k) ∧ w = wr)
  case atStart => exact ⟨0, by omega, by omega, rfl, rfl, rfl⟩
  case round =>
    obtain ⟨k, hk, hg, rfl, EQ, rfl⟩ := hrel
    by_cases h31 : k = 31
    · subst h31
      have E2 := Lib.hid (show lead V = 31 from EQ.out)
      go_wp2_with (fail)
      go_ret
      exact ⟨by rw [E2.out]; rfl, rfl⟩
    · have hlt : (k : Int) < 31 := by omega
      obtain ⟨s, hs⟩ : ∃ s, 63 - k = s := ⟨_, rfl⟩
      have hws : IntKind.i64.wrap (63 - (k : Int)) = (s : Int) := by rw [IntWalk.i64_in _ (by omega)]; omega
      have hs0 : (0 : Int) ≤ (s : Int) := by omega
      have hs64 : (s : Int) < 64 := by omega
      have hb := bit_and V s hV
      have hwk : IntKind.i64.wrap ((k : Int) + 1) = ((k + 1 : Nat) : Int) := by rw [IntWalk.i64_in _ (by omega)]; omega
      have hst : ldF V (31 - k) k = if V / 2 ^ s % 2 = 0 then ldF V (31 - (k + 1)) (k + 1) else k := by
        rw [show 31 - k = (31 - (k + 1)) + 1 from by omega, ldF, hs]
      obtain ⟨z, hz⟩ : ∃ z, V / 2 ^ s % 2 = z := ⟨_, rfl⟩
      rw [hz] at hb hst
      have HST := Lib.hid (EQ.out.trans hst)
      clear hst hz EQ hs
      by_cases hz0 : z = 0
      · have hze : ((z : Int) == 0) = true := by simp; omega
        have E2 := Lib.hid (HST.out.trans (if_pos hz0))
        go_wp2_with (fail)
        go_roundg (31 - (k + 1))
        case measure => omega
        case rel => exact ⟨k + 1, by omega, by omega, by go_num, E2.out, rfl⟩
      · have hze : ((z : Int) == 0) = false := by simp; omega
        have E2 := Lib.hid (HST.out.trans (if_neg hz0))
        go_wp2_with (fail)
        go_ret
        exact ⟨by rw [E2.out]; rfl, rfl⟩
set_option maxRecDepth 100000 in
theorem trails_y (w : World) (V : Nat) (hV : lt64 V) :
    Calls Tryd.prog 49 #[.int .u64 (V : Int)] w fun e w' => e = .returned (.int .i64 (trail V : Int)) ∧ w = w' := by
  go_enter Tryd.func49, Tryd.ntmps49
  go_wp2_with (fail)
  go_loopg [3] 64 (fun gg s3 wr => ∃ k : Nat, k ≤ 64 ∧ 64 - k ≤ gg ∧ s3 = .int .i64 k ∧ Aside (trail V = trF V (64 - k) k) ∧ w = wr)
  case atStart => exact ⟨0, by omega, by omega, rfl, rfl, rfl⟩
  case round =>
    obtain ⟨k, hk, hg, rfl, EQ, rfl⟩ := hrel
    by_cases h31 : k = 64
    · subst h31
      have E2 := Lib.hid (show trail V = 64 from EQ.out)
      go_wp2_with (fail)
      go_ret
      exact ⟨by rw [E2.out]; rfl, rfl⟩
    · have hlt : (k : Int) < 64 := by omega
      have hs0 : (0 : Int) ≤ (k : Int) := by omega
      have hb := bit_and V k hV
      have hwk : IntKind.i64.wrap ((k : Int) + 1) = ((k + 1 : Nat) : Int) := by rw [IntWalk.i64_in _ (by omega)]; omega
      have hst : trF V (64 - k) k = if V / 2 ^ k % 2 = 0 then trF V (64 - (k + 1)) (k + 1) else k := by
        rw [show 64 - k = (64 - (k + 1)) + 1 from by omega, trF]
      obtain ⟨z, hz⟩ : ∃ z, V / 2 ^ k % 2 = z := ⟨_, rfl⟩
      rw [hz] at hb hst
      have HST := Lib.hid (EQ.out.trans hst)
      clear hst hz EQ
      by_cases hz0 : z = 0
      · have hze : ((z : Int) == 0) = true := by simp; omega
        have E2 := Lib.hid (HST.out.trans (if_pos hz0))
        go_wp2_with (fail)
        go_roundg (64 - (k + 1))
        case measure => omega
        case rel => exact ⟨k + 1, by omega, by omega, by go_num, E2.out, rfl⟩
      · have hze : ((z : Int) == 0) = false := by simp; omega
        have E2 := Lib.hid (HST.out.trans (if_neg hz0))
        go_wp2_with (fail)
        go_ret
        exact ⟨by rw [E2.out]; rfl, rfl⟩
end Go.Proofs.YtknjejejkgihbaaDoor.ts
