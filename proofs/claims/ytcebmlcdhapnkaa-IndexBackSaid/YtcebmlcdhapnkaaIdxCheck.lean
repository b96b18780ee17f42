/-
  Index: Check, the program's and the document's.
-/
import Derived.Test.YtcebmlcdhapnkaaIdx
namespace Go.Proofs.Ytcebmlcdhapnkaa.idx
open Go.ChangeShapes Go.WideShapes Go.ChangeAt Go.RowKit plain words ord mem uvs uvc

theorem place_x (z : Int) (w : World) : Calls Try.prog 49 #[.int .i64 z] w fun e w' => e = .returned (.bool (within z)) ∧ w = w' := by
  unfold within
  by_cases h : 0 ≤ z
  · go_enter Try.func49, Try.ntmps49
    go_wp2_with (fail)
    go_ret
    exact ⟨ret_bool (by simp [h]), rfl⟩
  · go_enter Try.func49, Try.ntmps49
    go_wp2_with (fail)
    go_ret
    exact ⟨ret_bool (by simp; omega), rfl⟩
theorem within_y (z : Int) (w : World) : Calls Try.prog 45 #[.int .i64 z] w fun e w' => e = .returned (.bool (within z)) ∧ w = w' := by
  unfold within
  by_cases h : 0 ≤ z
  · go_enter Try.func45, Try.ntmps45
    go_wp2_with (fail)
    go_ret
    exact ⟨ret_bool (by simp [h]), rfl⟩
  · go_enter Try.func45, Try.ntmps45
    go_wp2_with (fail)
    go_ret
    exact ⟨ret_bool (by simp; omega), rfl⟩

set_option maxHeartbeats 2000000 in
theorem check_x (w : World) (B n c : Nat) (A : Option Addr) (l : List En) (h : Ens w B A n l) (hB : B ≤ w.heap.size) (hn : n ≤ 9223372036854775807) :
    Calls Try.prog 32 #[.slice A n c] w fun e w' => e = .returned (.int .i64 (checkE l)) ∧ Below w.heap.size w w' := by
  have HH := Lib.hid h
  have HL := Lib.hid h.1
  clear h
  go_enter Try.func32, Try.ntmps32
  go_wp2_with (fail)
  go_loopg [7] n (fun gg s7 wr => ∃ k : Nat, k ≤ n ∧ n - k ≤ gg ∧ s7 = .int .i64 k ∧ Aside (checkE l = checkF (prev l k) (l.drop k)) ∧ Aside (Below w.heap.size w wr))
  case atStart => exact ⟨0, Nat.zero_le _, by omega, rfl, rfl, Below.refl _ _⟩
  case round =>
    obtain ⟨k, hk, hg, rfl, EQ, BW⟩ := hrel
    have hsw := BW.out.size
    by_cases hlt : k < n
    · have hkl : k < l.length := by rw [HL.out]; exact hlt
      obtain ⟨x, hx⟩ : ∃ x, l[k]? = some x := ⟨_, List.getElem?_eq_getElem hkl⟩
      obtain ⟨b, off, rfl, hb, c0, c1, c2, c3⟩ := (HH.out.below BW.out hB).at_ hlt hx
      have HX := Lib.hid hx
      obtain ⟨xs, xo, xz, xm⟩ := x
      simp only at c0 c1 c2 c3
      have i1 : (0 : Int) ≤ (k : Int) := by omega
      have i2 : (k : Int) < (n : Int) := by omega
      have hbw : b < wr.heap.size := by omega
      obtain ⟨so, hso⟩ : ∃ so, wr.heap.size = so := ⟨_, rfl⟩
      obtain ⟨w2, hw2⟩ : ∃ w2, wr.alloc (.cells #[.string xs, .int .i64 xo, .int .i64 xz, .int .u32 xm] 68) = w2 := ⟨_, rfl⟩
      have hb2 : Below wr.heap.size wr w2 := by rw [← hw2]; exact (Below.refl _ _).alloc (Nat.le_refl _) _
      have g2 : w2.heap[so]? = some (.cells #[.string xs, .int .i64 xo, .int .i64 xz, .int .u32 xm] 68 (0, 0)) := by rw [← hw2, ← hso]; exact alloc_new _ _
      have e0 : w2.cell? ⟨so, 0, none⟩ = some (.string xs) := by rw [cell_of_row _ _ _ _ _ _ g2]; rfl
      have e1 : w2.cell? ⟨so, 1, none⟩ = some (.int .i64 xo) := by rw [cell_of_row _ _ _ _ _ _ g2]; rfl
      have e2 : w2.cell? ⟨so, 2, none⟩ = some (.int .i64 xz) := by rw [cell_of_row _ _ _ _ _ _ g2]; rfl
      have hsl : so < w2.heap.size := blk_lt g2
      have hB2 := BW.out.trans (hb2.mono (by omega))
      have HB2 := Lib.hid hB2
      have HE2 := Lib.hid (HH.out.below hB2 (by omega))
      clear hx g2 hb2 hB2
      by_cases h1 : xs.size < 1
      · have i3 : (xs.size : Int) < 1 := by omega
        go_wp2_with (fail)
        go_ret
        exact ⟨by rw [EQ.out, check_id HX.out (.inl h1)]; rfl, HB2.out⟩
      · have i3 : ¬ (xs.size : Int) < 1 := by omega
        by_cases h2 : 16 < xs.size
        · have i4 : (16 : Int) < (xs.size : Int) := by omega
          go_wp2_with (fail)
          go_ret
          exact ⟨by rw [EQ.out, check_id HX.out (.inr h2)]; rfl, HB2.out⟩
        · have i4 : ¬ (16 : Int) < (xs.size : Int) := by omega
          have HID := Lib.hid (show ¬ (xs.size < 1 ∨ 16 < xs.size) by omega)
          have P1 := Lib.hid (place_x xo w2)
          have P2 := Lib.hid (place_x xz w2)
          go_wp2_with (fail)
          refine P1.out.mono ?_
          rintro e w3 ⟨rfl, rfl⟩
          cases hw1 : within xo with
          | false =>
            go_wp2_with (fail)
            go_ret
            exact ⟨by rw [EQ.out, check_arg HX.out HID.out (by simp [hw1])]; rfl, HB2.out⟩
          | true =>
            go_wp2_with (fail)
            refine P2.out.mono ?_
            rintro e w3 ⟨rfl, rfl⟩
            cases hwz : within xz with
            | false =>
              go_wp2_with (fail)
              go_ret
              exact ⟨by rw [EQ.out, check_arg HX.out HID.out (by simp [hwz])]; rfl, HB2.out⟩
            | true =>
              have HW := Lib.hid (show (within xo && within xz) = true by simp [hw1, hwz])
              clear P1 P2 hw1 hwz
              cases k with
              | zero =>
                have HN := Lib.hid (check_next HX.out HID.out HW.out (fun q hq => by cases hq))
                go_wp2_with (fail)
                have q0 := Wb.at_ e0
                refine wp_region_plan [([0, 1, 2, 3, 4, 5, 6, 7, 8, 9, 10, 11, 12], none)] (by kernel_rfl) (by kernel_rfl) ?_
                refine seg_end _ (by dsimp only [pick, at_]) ?_
                repeat (go_big_quiet_step (fail))
                refine wpQuiet_nil ?_
                refine NoPanic.normal ?_
                clear q0
                go_wp2_with (fail)
                go_roundg (n - (0 + 1))
                case measure => omega
                case rel => exact ⟨0 + 1, by omega, by omega, by go_num, EQ.out.trans HN.out, HB2.out.drew⟩
              | succ m =>
                have hml : m < l.length := by omega
                obtain ⟨y, hy⟩ : ∃ y, l[m]? = some y := ⟨_, List.getElem?_eq_getElem hml⟩
                obtain ⟨b', off', hAe, _, m0, _, _, _⟩ := HE2.out.at_ (i := m) (by omega) hy
                cases hAe
                have HY := Lib.hid hy
                obtain ⟨ys, yo, yz, ym⟩ := y
                simp only at m0
                have hm0 : (0 : Int) < ((m : Int) + 1) := by omega
                have hwm : IntKind.i64.wrap ((m : Int) + 1 - 1) = (m : Int) := by rw [show ((m : Int) + 1 - 1) = (m : Int) from by omega]; exact IntWalk.i64_in _ (by omega)
                have hm1 : (0 : Int) ≤ (m : Int) := by omega
                have hm2 : (m : Int) < (n : Int) := by omega
                cases hq : sle xs ys with
                | true =>
                  have HO := Lib.hid (check_order HX.out HY.out HID.out HW.out hq)
                  unfold sle at hq
                  clear hy
                  go_wp2_with (fail)
                  have q0 := Wb.at_ e0
                  have q1 := Wb.at_ m0
                  refine wp_region_plan [([0, 1, 2, 3, 4, 5, 6, 7, 8, 9, 10, 11, 12], none)] (by kernel_rfl) (by kernel_rfl) ?_
                  refine seg_end _ (by dsimp only [pick, at_]) ?_
                  repeat (go_big_quiet_step (fail))
                  refine wpQuiet_nil ?_
                  refine NoPanic.normal ?_
                  clear q0 q1
                  go_wp2_with (fail)
                  go_ret
                  exact ⟨by rw [EQ.out, HO.out]; rfl, HB2.out.drew⟩
                | false =>
                  have HN := Lib.hid (check_next HX.out HID.out HW.out (fun q hq' => by simp only [prev, HY.out, Option.map_some] at hq'; injection hq' with hq'; rw [← hq']; exact hq))
                  unfold sle at hq
                  clear hy
                  go_wp2_with (fail)
                  have q0 := Wb.at_ e0
                  have q1 := Wb.at_ m0
                  refine wp_region_plan [([0, 1, 2, 3, 4, 5, 6, 7, 8, 9, 10, 11, 12], none)] (by kernel_rfl) (by kernel_rfl) ?_
                  refine seg_end _ (by dsimp only [pick, at_]) ?_
                  repeat (go_big_quiet_step (fail))
                  refine wpQuiet_nil ?_
                  refine NoPanic.normal ?_
                  clear q0 q1
                  go_wp2_with (fail)
                  go_roundg (n - (m + 1 + 1))
                  case measure => omega
                  case rel => exact ⟨m + 1 + 1, by omega, by omega, by go_num, EQ.out.trans HN.out, HB2.out.drew⟩
    · have hltz : ¬ (k : Int) < (n : Int) := by omega
      go_wp2_with (fail)
      go_ret
      exact ⟨by rw [EQ.out, check_end (by rw [HL.out]; omega)]; rfl, BW.out⟩
set_option maxHeartbeats 2000000 in
theorem check_y (w : World) (B n c : Nat) (A : Option Addr) (l : List En) (h : Ens w B A n l) (hB : B ≤ w.heap.size) (hn : n ≤ 9223372036854775807) :
    Calls Try.prog 29 #[.slice A n c] w fun e w' => e = .returned (.int .i64 (checkE l)) ∧ Below w.heap.size w w' := by
  have HH := Lib.hid h
  have HL := Lib.hid h.1
  clear h
  go_enter Try.func29, Try.ntmps29
  go_wp2_with (fail)
  go_loopg [3] n (fun gg s7 wr => ∃ k : Nat, k ≤ n ∧ n - k ≤ gg ∧ s7 = .int .i64 k ∧ Aside (checkE l = checkF (prev l k) (l.drop k)) ∧ Aside (Below w.heap.size w wr))
  case atStart => exact ⟨0, Nat.zero_le _, by omega, rfl, rfl, Below.refl _ _⟩
  case round =>
    obtain ⟨k, hk, hg, rfl, EQ, BW⟩ := hrel
    have hsw := BW.out.size
    by_cases hlt : k < n
    · have hkl : k < l.length := by rw [HL.out]; exact hlt
      obtain ⟨x, hx⟩ : ∃ x, l[k]? = some x := ⟨_, List.getElem?_eq_getElem hkl⟩
      obtain ⟨b, off, rfl, hb, c0, c1, c2, c3⟩ := (HH.out.below BW.out hB).at_ hlt hx
      have HX := Lib.hid hx
      obtain ⟨xs, xo, xz, xm⟩ := x
      simp only at c0 c1 c2 c3
      have i1 : (0 : Int) ≤ (k : Int) := by omega
      have i2 : (k : Int) < (n : Int) := by omega
      have hbw : b < wr.heap.size := by omega
      have HB2 := Lib.hid BW.out
      have HE2 := Lib.hid (HH.out.below BW.out hB)
      obtain ⟨w2, rfl⟩ : ∃ w2, w2 = wr := ⟨_, rfl⟩
      clear hx BW
      by_cases h1 : xs.size < 1
      · have i3 : (xs.size : Int) < 1 := by omega
        go_wp2_with (fail)
        go_ret
        exact ⟨by rw [EQ.out, check_id HX.out (.inl h1)]; rfl, HB2.out⟩
      · have i3 : ¬ (xs.size : Int) < 1 := by omega
        by_cases h2 : 16 < xs.size
        · have i4 : (16 : Int) < (xs.size : Int) := by omega
          go_wp2_with (fail)
          go_ret
          exact ⟨by rw [EQ.out, check_id HX.out (.inr h2)]; rfl, HB2.out⟩
        · have i4 : ¬ (16 : Int) < (xs.size : Int) := by omega
          have HID := Lib.hid (show ¬ (xs.size < 1 ∨ 16 < xs.size) by omega)
          have P1 := Lib.hid (within_y xo w2)
          have P2 := Lib.hid (within_y xz w2)
          go_wp2_with (fail)
          refine P1.out.mono ?_
          rintro e w3 ⟨rfl, rfl⟩
          cases hw1 : within xo with
          | false =>
            go_wp2_with (fail)
            go_ret
            exact ⟨by rw [EQ.out, check_arg HX.out HID.out (by simp [hw1])]; rfl, HB2.out⟩
          | true =>
            go_wp2_with (fail)
            refine P2.out.mono ?_
            rintro e w3 ⟨rfl, rfl⟩
            cases hwz : within xz with
            | false =>
              go_wp2_with (fail)
              go_ret
              exact ⟨by rw [EQ.out, check_arg HX.out HID.out (by simp [hwz])]; rfl, HB2.out⟩
            | true =>
              have HW := Lib.hid (show (within xo && within xz) = true by simp [hw1, hwz])
              clear P1 P2 hw1 hwz
              cases k with
              | zero =>
                have HN := Lib.hid (check_next HX.out HID.out HW.out (fun q hq => by cases hq))
                go_wp2_with (fail)
                have q0 := Wb.at_ c0
                refine wp_region_plan [([0, 1, 2, 3, 4, 5, 6, 7, 8, 9, 10, 11, 12, 13, 14, 15], none)] (by kernel_rfl) (by kernel_rfl) ?_
                refine seg_end _ (by dsimp only [pick, at_]) ?_
                repeat (go_big_quiet_step (fail))
                refine wpQuiet_nil ?_
                refine NoPanic.normal ?_
                clear q0
                go_wp2_with (fail)
                go_roundg (n - (0 + 1))
                case measure => omega
                case rel => exact ⟨0 + 1, by omega, by omega, by go_num, EQ.out.trans HN.out, HB2.out.drew⟩
              | succ m =>
                have hml : m < l.length := by omega
                obtain ⟨y, hy⟩ : ∃ y, l[m]? = some y := ⟨_, List.getElem?_eq_getElem hml⟩
                obtain ⟨b', off', hAe, _, m0, _, _, _⟩ := HE2.out.at_ (i := m) (by omega) hy
                cases hAe
                have HY := Lib.hid hy
                obtain ⟨ys, yo, yz, ym⟩ := y
                simp only at m0
                have hm0 : (0 : Int) < ((m : Int) + 1) := by omega
                have hwm : IntKind.i64.wrap ((m : Int) + 1 - 1) = (m : Int) := by rw [show ((m : Int) + 1 - 1) = (m : Int) from by omega]; exact IntWalk.i64_in _ (by omega)
                have hm1 : (0 : Int) ≤ (m : Int) := by omega
                have hm2 : (m : Int) < (n : Int) := by omega
                cases hq : sle xs ys with
                | true =>
                  have HO := Lib.hid (check_order HX.out HY.out HID.out HW.out hq)
                  unfold sle at hq
                  clear hy
                  go_wp2_with (fail)
                  have q0 := Wb.at_ c0
                  have q1 := Wb.at_ m0
                  refine wp_region_plan [([0, 1, 2, 3, 4, 5, 6, 7, 8, 9, 10, 11, 12, 13, 14, 15], none)] (by kernel_rfl) (by kernel_rfl) ?_
                  refine seg_end _ (by dsimp only [pick, at_]) ?_
                  repeat (go_big_quiet_step (fail))
                  refine wpQuiet_nil ?_
                  refine NoPanic.normal ?_
                  clear q0 q1
                  go_wp2_with (fail)
                  go_ret
                  exact ⟨by rw [EQ.out, HO.out]; rfl, HB2.out.drew⟩
                | false =>
                  have HN := Lib.hid (check_next HX.out HID.out HW.out (fun q hq' => by simp only [prev, HY.out, Option.map_some] at hq'; injection hq' with hq'; rw [← hq']; exact hq))
                  unfold sle at hq
                  clear hy
                  go_wp2_with (fail)
                  have q0 := Wb.at_ c0
                  have q1 := Wb.at_ m0
                  refine wp_region_plan [([0, 1, 2, 3, 4, 5, 6, 7, 8, 9, 10, 11, 12, 13, 14, 15], none)] (by kernel_rfl) (by kernel_rfl) ?_
                  refine seg_end _ (by dsimp only [pick, at_]) ?_
                  repeat (go_big_quiet_step (fail))
                  refine wpQuiet_nil ?_
                  refine NoPanic.normal ?_
                  clear q0 q1
                  go_wp2_with (fail)
                  go_roundg (n - (m + 1 + 1))
                  case measure => omega
                  case rel => exact ⟨m + 1 + 1, by omega, by omega, by go_num, EQ.out.trans HN.out, HB2.out.drew⟩
    · have hltz : ¬ (k : Int) < (n : Int) := by omega
      go_wp2_with (fail)
      go_ret
      exact ⟨by rw [EQ.out, check_end (by rw [HL.out]; omega)]; rfl, BW.out⟩
end Go.Proofs.Ytcebmlcdhapnkaa.idx
