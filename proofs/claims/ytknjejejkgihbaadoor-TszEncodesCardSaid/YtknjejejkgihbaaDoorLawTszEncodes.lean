/-
  The law TszEncodes: its walk.
-/
import Derived.Test.YtknjejejkgihbaaDoorTsLaw
namespace Go.Proofs.YtknjejejkgihbaaDoor.lawTszEncodes
open Go.ChangeShapes Go.WideShapes Go.ChangeAt Go.RowKit plain words ord mem bitm uvs ts
theorem pts_lent {w : World} {H n c : Nat} {A : Option Addr} {l : List Pt} (hl : l.length = n) (h : w.ownsRow H 39 3 (.slice A (n + 1) c) (n + 1) (cs pE (l ++ [endP]))) : Pts w w.heap.size A n l := by
  have h1 : Pts w w.heap.size A (n + 1) (l ++ [endP]) := ⟨by simp [hl], own_rd h⟩
  have h2 := h1.take n (by omega)
  rwa [List.take_append_of_le_length (by omega), List.take_of_length_le (by omega)] at h2
theorem end_lent {w : World} {H n c g : Nat} {l : List Pt} (hl : l.length = n) (h : w.ownsRow H 39 3 (.slice (some ⟨g, 0, none⟩) (n + 1) c) (n + 1) (cs pE (l ++ [endP]))) : w.cell? ⟨g, n * 3, none⟩ = some (.int .i64 77) := by
  have h1 : Pts w w.heap.size (some ⟨g, 0, none⟩) (n + 1) (l ++ [endP]) := ⟨by simp [hl], own_rd h⟩
  obtain ⟨b, off, e, _, h2, _⟩ := h1.at_ (i := n) (by omega) (x := endP) (by simp [← hl])
  cases e
  have h3 : (endP.1 : Int) = 77 := rfl
  rw [h3] at h2
  simpa using h2
set_option maxHeartbeats 1000000 in
set_option maxRecDepth 100000 in
theorem walk_ok (a : Option Addr) (n c : Nat) (w : World) (hlay : Lay w) (h : IsPts w a n c) :
    Calls Tryd.prog 5 #[.slice a n c] w fun e w' => e = .returned (.bool true) ∧ Below w.heap.size w w' := by
  obtain ⟨l, hp, hf, hnc, hcm, hnil⟩ := h
  have h2 := two_le hlay
  by_cases hbig : 4096 < n
  · have i1 : (4096 : Int) < (n : Int) := by omega
    go_enter Tryd.func5, Tryd.ntmps5
    go_wp2_with (fail)
    go_ret
    exact ⟨rfl, Below.refl _ _⟩
  · have i1 : ¬ (4096 : Int) < (n : Int) := by omega
    have HLE := Lib.hid (lent_x w w.heap.size n c a l hp (Nat.le_refl _) (by omega) hnil)
    obtain ⟨z, hz⟩ : ∃ z, checkP l = z := ⟨_, rfl⟩
    obtain ⟨E, hE⟩ : ∃ E, encB l = E := ⟨_, rfl⟩
    obtain ⟨M, hM⟩ : ∃ M, E.length = M := ⟨_, rfl⟩
    obtain ⟨s1, hs1⟩ : ∃ s, (sumP l).1 = s := ⟨_, rfl⟩
    obtain ⟨s2, hs2⟩ : ∃ s, (sumP l).2 = s := ⟨_, rfl⟩
    have HPT := Lib.hid hp
    have HL := Lib.hid hp.1
    have HF := Lib.hid hf
    have HLAY := Lib.hid hlay
    have HEQ := Lib.hid (And.intro hz (And.intro hE (And.intro hM (And.intro hs1 hs2))))
    -- the document's, at any world behind w
    have HEY := Lib.hid (fun (u : World) (hu : Below w.heap.size w u) => encode_y u w.heap.size n c a l (hp.below hu (Nat.le_refl _)) hf hu.size (by omega))
    have HSY := Lib.hid (fun (u : World) (hu : Below w.heap.size w u) => sum_y u w.heap.size n c a l (hp.below hu (Nat.le_refl _)) hf hu.size (by omega))
    have HCY := Lib.hid (fun (u : World) (hu : Below w.heap.size w u) => check_ty u w.heap.size n c a l (hp.below hu (Nat.le_refl _)) hu.size (by omega))
    clear hp hf hlay hnil hz hE hM hs1 hs2
    go_enter Tryd.func5, Tryd.ntmps5
    go_wp2_with (fail)
    refine HLE.out.mono ?_
    rintro e w1 ⟨A1, c1, rfl, ho1, hb1⟩
    obtain ⟨g1, rfl, hg1, hg1l, hc1, hc1m⟩ := own_pos ho1 (by omega)
    have HO1 := Lib.hid ho1
    have HB1 := Lib.hid hb1
    have hs1 := hb1.size
    have HXP := Lib.hid (fun (u : World) (hu : Below w1.heap.size w1 u) => pts_lent HL.out (own_keep ho1 hu (Nat.le_refl _)))
    have hc1x : (n : Int) ≤ (c1 : Int) := by omega
    unfold maxLen at hc1m
    have h0n : (0 : Int) ≤ (n : Int) := by omega
    clear ho1 hb1 HLE
    go_wp2_with (fail)
    refine (encode_x w1 (by omega) (HLAY.out.below HB1.out h2) w1.heap.size n c1 _ l (HXP.out w1 (Below.refl _ _)) HF.out (Nat.le_refl _) (by omega)).mono ?_
    intro e w2 hr
    obtain ⟨A2, c2, rfl, ho2, hb2⟩ := enc_two hr
    have HO2 := Lib.hid ho2
    have B12 := Lib.hid hb2
    have BW2 := Lib.hid (HB1.out.trans (hb2.mono hs1))
    rw [HEQ.out.2.1, HEQ.out.2.2.1, HEQ.out.1]
    clear hr ho2 hb2
    go_wp2_with (fail)
    refine (HEY.out _ BW2.out).mono ?_
    intro e w3 hr
    obtain ⟨A3, c3, rfl, ho3, hb3⟩ := enc_two hr
    have HO3 := Lib.hid ho3
    have B13 := Lib.hid (B12.out.trans (hb3.mono B12.out.size))
    have BW3 := Lib.hid (BW2.out.trans (hb3.mono BW2.out.size))
    have B23 := Lib.hid hb3
    rw [HEQ.out.2.1, HEQ.out.2.2.1, HEQ.out.1]
    clear hr ho3 hb3
    go_wp2_with (fail)
    refine (sum_x w3 (by have := BW3.out.size; omega) (HLAY.out.below BW3.out h2) w3.heap.size n c1 _ l (HXP.out w3 B13.out) HF.out (Nat.le_refl _) (by omega)).mono ?_
    rintro e w4 ⟨rfl, hb4⟩
    have B14 := Lib.hid (B13.out.trans (hb4.mono B13.out.size))
    have BW4 := Lib.hid (BW3.out.trans (hb4.mono BW3.out.size))
    have B24 := Lib.hid (B23.out.trans (hb4.mono B23.out.size))
    have B34 := Lib.hid hb4
    rw [HEQ.out.2.2.2.1, HEQ.out.2.2.2.2]
    clear hb4
    go_wp2_with (fail)
    refine (HSY.out _ BW4.out).mono ?_
    rintro e w5 ⟨rfl, hb5⟩
    have B15 := Lib.hid (B14.out.trans (hb5.mono B14.out.size))
    have BW5 := Lib.hid (BW4.out.trans (hb5.mono BW4.out.size))
    have B25 := Lib.hid (B24.out.trans (hb5.mono B24.out.size))
    have B35 := Lib.hid (B34.out.trans (hb5.mono B34.out.size))
    rw [HEQ.out.2.2.2.1, HEQ.out.2.2.2.2]
    clear hb5
    have ho2 := HO2.out
    have ho3 := HO3.out
    rw [HEQ.out.2.1, HEQ.out.2.2.1] at ho2 ho3
    have k2 := own_bs (own_keep ho2 B25.out (Nat.le_refl _))
    have k3 := own_bs (own_keep ho3 B35.out (Nat.le_refl _))
    have j2 := conv_string (P := Tryd.prog) (c := c2) k2 23 9 5 Tryd.underlying23 Tryd.underlying9 Tryd.underlying5
    have j3 := conv_string (P := Tryd.prog) (c := c3) k3 23 9 5 Tryd.underlying23 Tryd.underlying9 Tryd.underlying5
    have t1 : (s1 == s1) = true := by simp
    have t2 : (s2 == s2) = true := by simp
    have t3 : (z == z) = true := by simp
    clear ho2 ho3 k2 k3
    go_wp2_with (fail)
    refine (check_tx w5 w5.heap.size n c1 _ l (HXP.out w5 B15.out) (Nat.le_refl _) (by omega)).mono ?_
    rintro e w6 ⟨rfl, hb6⟩
    have B16 := Lib.hid (B15.out.trans (hb6.mono B15.out.size))
    have BW6 := Lib.hid (BW5.out.trans (hb6.mono BW5.out.size))
    rw [HEQ.out.1]
    clear hb6 j2 j3
    go_wp2_with (fail)
    refine (HCY.out w6 BW6.out).mono ?_
    rintro e w7 ⟨rfl, hb7⟩
    have B17 := Lib.hid (B16.out.trans (hb7.mono B16.out.size))
    have BW7 := Lib.hid (BW6.out.trans (hb7.mono BW6.out.size))
    rw [HEQ.out.1]
    clear hb7
    go_wp2_with (fail)
    refine (same_t w7 w7.heap.size n c1 w.heap.size c _ a l (HXP.out w7 B17.out) (Nat.le_refl _) (HPT.out.below BW7.out (Nat.le_refl _)) BW7.out.size (by omega)).mono ?_
    rintro e w8 ⟨rfl, hb8⟩
    have B18 := Lib.hid (B17.out.trans (hb8.mono B17.out.size))
    have BW8 := Lib.hid (BW7.out.trans (hb8.mono BW7.out.size))
    have hend := end_lent HL.out (own_keep HO1.out B18.out (Nat.le_refl _))
    have hg8 : g1 < w8.heap.size := Nat.lt_of_lt_of_le hg1l B18.out.size
    have hln : (n : Int) < (n : Int) + 1 := by omega
    clear hb8
    go_wp2_with (fail)
    go_ret
    exact ⟨rfl, BW8.out⟩
end Go.Proofs.YtknjejejkgihbaaDoor.lawTszEncodes
