/-
  The law TszSums: its walk.
-/
import Derived.Test.YtknjejejkgihbaaDoorTsLaw
namespace Go.Proofs.YtknjejejkgihbaaDoor.ts
open Go.ChangeShapes Go.WideShapes Go.ChangeAt Go.RowKit plain words ord mem bitm uvs
theorem pts_lent {w : World} {H n c : Nat} {A : Option Addr} {l : List Pt} (hl : l.length = n) (h : w.ownsRow H 39 3 (.slice A (n + 1) c) (n + 1) (cs pE (l ++ [endP]))) : Pts w w.heap.size A n l := by
  have h1 : Pts w w.heap.size A (n + 1) (l ++ [endP]) := ⟨by simp [hl], own_rd h⟩
  have h2 := h1.take n (by omega)
  rwa [List.take_append_of_le_length (by omega), List.take_of_length_le (by omega)] at h2
end Go.Proofs.YtknjejejkgihbaaDoor.ts
namespace Go.Proofs.YtknjejejkgihbaaDoor.lawTszSums
open Go.ChangeShapes Go.WideShapes Go.ChangeAt Go.RowKit plain words ord mem bitm uvs ts
set_option maxHeartbeats 1000000 in
set_option maxRecDepth 100000 in
theorem walk_ok (a : Option Addr) (n c : Nat) (w : World) (hlay : Lay w) (h : IsPts w a n c) :
    Calls Tryd.prog 10 #[.slice a n c] w fun e w' => e = .returned (.bool true) ∧ Below w.heap.size w w' := by
  obtain ⟨l, hp, hf, hnc, hcm, hnil⟩ := h
  have h2 := two_le hlay
  by_cases hbig : 4096 < n
  · have i1 : (4096 : Int) < (n : Int) := by omega
    go_enter Tryd.func10, Tryd.ntmps10
    go_wp2_with (fail)
    go_ret
    exact ⟨rfl, Below.refl _ _⟩
  · have i1 : ¬ (4096 : Int) < (n : Int) := by omega
    have HSX := Lib.hid (sum_x w h2 hlay w.heap.size n c a l hp hf (Nat.le_refl _) (by omega))
    have HLE := Lib.hid (fun (u : World) (hu : Below w.heap.size w u) => lent_x u w.heap.size n c a l (hp.below hu (Nat.le_refl _)) hu.size (by omega) hnil)
    obtain ⟨s1, hs1⟩ : ∃ s, (sumP l).1 = s := ⟨_, rfl⟩
    obtain ⟨s2, hs2⟩ : ∃ s, (sumP l).2 = s := ⟨_, rfl⟩
    have HL := Lib.hid hp.1
    have HF := Lib.hid hf
    have HLAY := Lib.hid hlay
    have HEQ := Lib.hid (And.intro hs1 hs2)
    have HSY := Lib.hid (fun (u : World) (hu : Below w.heap.size w u) => sum_y u w.heap.size n c a l (hp.below hu (Nat.le_refl _)) hf hu.size (by omega))
    clear hp hf hlay hnil hs1 hs2
    go_enter Tryd.func10, Tryd.ntmps10
    go_wp2_with (fail)
    refine HSX.out.mono ?_
    rintro e w1 ⟨rfl, hb1⟩
    have HB1 := Lib.hid hb1
    rw [HEQ.out.1, HEQ.out.2]
    clear hb1 HSX
    go_wp2_with (fail)
    refine (HLE.out _ HB1.out).mono ?_
    rintro e w2 ⟨A1, c1, rfl, ho1, hb1⟩
    obtain ⟨g1, rfl, hg1, hg1l, hc1, hc1m⟩ := own_pos ho1 (by omega)
    have HB2 := Lib.hid (HB1.out.trans (hb1.mono HB1.out.size))
    have HXP := Lib.hid (pts_lent HL.out ho1)
    have hc1x : (n : Int) ≤ (c1 : Int) := by omega
    unfold maxLen at hc1m
    have h0n : (0 : Int) ≤ (n : Int) := by omega
    clear ho1 hb1 HLE
    go_wp2_with (fail)
    refine (sum_x w2 (by have := HB2.out.size; omega) (HLAY.out.below HB2.out h2) w2.heap.size n c1 _ l HXP.out HF.out (Nat.le_refl _) (by omega)).mono ?_
    rintro e w3 ⟨rfl, hb3⟩
    have HB3 := Lib.hid (HB2.out.trans (hb3.mono HB2.out.size))
    rw [HEQ.out.1, HEQ.out.2]
    clear hb3
    go_wp2_with (fail)
    refine (HSY.out _ HB3.out).mono ?_
    rintro e w4 ⟨rfl, hb4⟩
    have HB4 := Lib.hid (HB3.out.trans (hb4.mono HB3.out.size))
    rw [HEQ.out.1, HEQ.out.2]
    have t1 : (s1 == s1) = true := by simp
    have t2 : (s2 == s2) = true := by simp
    clear hb4
    go_wp2_with (fail)
    go_ret
    exact ⟨rfl, HB4.out⟩
end Go.Proofs.YtknjejejkgihbaaDoor.lawTszSums
