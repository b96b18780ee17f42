/-
  Adler: the program's and the document's own loop are one fold.
-/
import Derived.Test.YtmegkemileailaaGreatDoorRows
import Derived.Test.YtmegkemileailaaGreatDoorWords
import Derived.ProofKit
import Derived.Outline
import Derived.Handy
namespace Go.Proofs.YtmegkemileailaaGreatDoor.adler
open Go.ChangeShapes Go.WideShapes Go.ChangeAt Go.RowKit plain words

def step (p : Int × Int) (c : UInt8) : Int × Int := ((p.1 + (c.toNat : Int)) % 65521, (p.2 + (p.1 + (c.toNat : Int)) % 65521) % 65521)
def adl (bs : List UInt8) : Int × Int := bs.foldl step (1, 0)
def sum (bs : List UInt8) : Int := (adl bs).2 * 65536 + (adl bs).1
theorem adl_snoc (l : List UInt8) (c : UInt8) : adl (l ++ [c]) = step (adl l) c := by simp [adl]
theorem adl_bd (l : List UInt8) : 0 ≤ (adl l).1 ∧ (adl l).1 ≤ 65520 ∧ 0 ≤ (adl l).2 ∧ (adl l).2 ≤ 65520 := by
  suffices h : ∀ (l : List UInt8) (p : Int × Int), 0 ≤ p.1 ∧ p.1 ≤ 65520 ∧ 0 ≤ p.2 ∧ p.2 ≤ 65520 → 0 ≤ (l.foldl step p).1 ∧ (l.foldl step p).1 ≤ 65520 ∧ 0 ≤ (l.foldl step p).2 ∧ (l.foldl step p).2 ≤ 65520 from h l (1, 0) ⟨by decide, by decide, by decide, by decide⟩
  intro l
  induction l with
  | nil => intro p h; exact h
  | cons c l ih =>
    intro p h
    rw [List.foldl_cons]
    exact ih _ (by unfold step; simp only; omega)

set_option maxHeartbeats 400000 in
theorem adler_x (w : World) (B n c : Nat) (a : Option Addr) (bs : List UInt8) (h : Bs w B a n bs) (hn : n ≤ 4611686018427387904) :
    Calls Tryz.prog 65 #[.slice a n c] w fun e w' => e = .returned (.int .u32 (sum bs)) ∧ w = w' := by
  go_enter Tryz.func65, Tryz.ntmps65
  go_wp2
  go_loop [3, 4, 9] (fun x y i => ∃ k : Nat, k ≤ n ∧ i = .int .i64 k ∧ x = .int .u32 (adl (bs.take k)).1 ∧ y = .int .u32 (adl (bs.take k)).2) (fun _ _ i => n - (intOf i).toNat)
  case atStart => exact ⟨0, Nat.zero_le _, rfl, rfl, rfl⟩
  case round =>
    obtain ⟨k, hk, rfl, rfl, rfl⟩ := hrel
    have hb := adl_bd (bs.take k)
    by_cases hlt : k < n
    · obtain ⟨b, off, ch, rfl, _, hg, hc⟩ := h.get hlt
      have hs : adl (bs.take (k + 1)) = step (adl (bs.take k)) ch := by rw [take_succ_of hg, adl_snoc]
      have HS := Lib.hid hs
      clear hs h
      have hch := ch.toNat_lt
      generalize adl (bs.take k) = p at *
      go_wp2
      go_round
      case rel => exact ⟨k + 1, by omega, by go_num, by rw [HS.out]; rfl, by rw [HS.out]; rfl⟩
      case measure => simp [intOf]; omega
    · have hkn : bs.take k = bs := take_all (by rw [h.len_]; omega)
      rw [hkn]
      have hb2 := adl_bd bs
      clear hb
      generalize hp : adl bs = p at *
      have HP := Lib.hid hp
      clear hp hkn
      go_wp2
      go_ret
      exact ⟨ret_int (by unfold sum; rw [HP.out]), rfl⟩

set_option maxHeartbeats 400000 in
theorem adler_y (w : World) (B n c : Nat) (a : Option Addr) (bs : List UInt8) (h : Bs w B a n bs) (hn : n ≤ 4611686018427387904) :
    Calls Tryz.prog 38 #[.slice a n c] w fun e w' => e = .returned (.int .u32 (sum bs)) ∧ w = w' := by
  go_enter Tryz.func38, Tryz.ntmps38
  go_wp2
  go_loop [3, 4, 5] (fun x y i => ∃ k : Nat, k ≤ n ∧ i = .int .i64 k ∧ x = .int .u32 (adl (bs.take k)).1 ∧ y = .int .u32 (adl (bs.take k)).2) (fun _ _ i => n - (intOf i).toNat)
  case atStart => exact ⟨0, Nat.zero_le _, rfl, rfl, rfl⟩
  case round =>
    obtain ⟨k, hk, rfl, rfl, rfl⟩ := hrel
    have hb := adl_bd (bs.take k)
    by_cases hlt : k < n
    · obtain ⟨b, off, ch, rfl, _, hg, hc⟩ := h.get hlt
      have hs : adl (bs.take (k + 1)) = step (adl (bs.take k)) ch := by rw [take_succ_of hg, adl_snoc]
      have HS := Lib.hid hs
      clear hs h
      have hch := ch.toNat_lt
      generalize adl (bs.take k) = p at *
      go_wp2
      go_round
      case rel => exact ⟨k + 1, by omega, by go_num, by rw [HS.out]; rfl, by rw [HS.out]; rfl⟩
      case measure => simp [intOf]; omega
    · have hkn : bs.take k = bs := take_all (by rw [h.len_]; omega)
      rw [hkn]
      have hb2 := adl_bd bs
      clear hb
      generalize hp : adl bs = p at *
      have HP := Lib.hid hp
      clear hp hkn
      go_wp2
      go_ret
      exact ⟨ret_int (by unfold sum; rw [HP.out]), rfl⟩
end Go.Proofs.YtmegkemileailaaGreatDoor.adler
