/-
  Tsz: Check, the program's and the document's.
-/
import Derived.Test.YtknjejejkgihbaaDoorTs
namespace Go.Proofs.YtknjejejkgihbaaDoor.ts
open Go.ChangeShapes Go.WideShapes Go.ChangeAt Go.RowKit plain words ord mem

set_option maxHeartbeats 2000000 in
theorem check_tx (w : World) (B n c : Nat) (A : Option Addr) (l : List Pt) (h : Pts w B A n l) (hB : B ≤ w.heap.size) (hn : n ≤ 1000000000) :
    Calls Tryd.prog 19 #[.slice A n c] w fun e w' => e = .returned (.int .i64 (checkP l)) ∧ Below w.heap.size w w' := by
  have HH := Lib.hid h
  have HL := Lib.hid h.1
  clear h
  by_cases hbig : 512 < n
  · have hi : (512 : Int) < (n : Int) := by omega
    have E1 := Lib.hid (show checkP l = 52 by unfold checkP; rw [HL.out, if_pos hbig])
    go_enter Tryd.func19, Tryd.ntmps19
    go_wp2_with (fail)
    go_ret
    exact ⟨by rw [E1.out]; rfl, Below.refl _ _⟩
  have hi : ¬ (512 : Int) < (n : Int) := by omega
  have E1 := Lib.hid (show checkP l = ckF (prevP l 0) (l.drop 0) by unfold checkP; rw [HL.out, if_neg hbig]; rfl)
  go_enter Tryd.func19, Tryd.ntmps19
  go_wp2_with (fail)
  go_loopg [10] n (fun gg s7 wr => ∃ k : Nat, k ≤ n ∧ n - k ≤ gg ∧ s7 = .int .i64 k ∧ Aside (checkP l = ckF (prevP l k) (l.drop k)) ∧ Aside (Below w.heap.size w wr))
  case atStart => exact ⟨0, Nat.zero_le _, by omega, rfl, E1.out, Below.refl _ _⟩
  case round =>
    obtain ⟨k, hk, hg, rfl, EQ, BW⟩ := hrel
    have hsw := BW.out.size
    by_cases hlt : k < n
    · obtain ⟨x, hx⟩ : ∃ x, l[k]? = some x := ⟨_, List.getElem?_eq_getElem (by rw [HL.out]; exact hlt)⟩
      obtain ⟨b, off, rfl, hb, c0, c1, c2⟩ := (HH.out.below BW.out hB).at_ hlt hx
      have HX := Lib.hid hx
      obtain ⟨xt, xv, xs⟩ := x
      simp only at c0 c1 c2
      have i1 : (0 : Int) ≤ (k : Int) := by omega
      have i2 : (k : Int) < (n : Int) := by omega
      have hbw : b < wr.heap.size := by omega
      obtain ⟨so, hso⟩ : ∃ so, wr.heap.size = so := ⟨_, rfl⟩
      obtain ⟨w2, hw2⟩ : ∃ w2, wr.alloc (.cells #[.int .i64 xt, .int .u64 xv, .int .u64 xs] 39) = w2 := ⟨_, rfl⟩
      have hb2 : Below wr.heap.size wr w2 := by rw [← hw2]; exact (Below.refl _ _).alloc (Nat.le_refl _) _
      have g2 : w2.heap[so]? = some (.cells #[.int .i64 xt, .int .u64 xv, .int .u64 xs] 39 (0, 0)) := by rw [← hw2, ← hso]; exact alloc_new _ _
      have e0 : w2.cell? ⟨so, 0, none⟩ = some (.int .i64 xt) := by rw [cell_of_row _ _ _ _ _ _ g2]; rfl
      have hsl : so < w2.heap.size := blk_lt g2
      have hB2 := BW.out.trans (hb2.mono (by omega))
      clear g2 hb2
      have HB2 := Lib.hid hB2
      have HE2 := Lib.hid (HH.out.below hB2 (by omega))
      clear hx hB2
      by_cases h1 : xt < 0
      · have E2 := Lib.hid (EQ.out.trans (ck_arg HX.out (.inl h1)))
        go_wp2_with (fail)
        go_ret
        exact ⟨by rw [E2.out]; rfl, HB2.out⟩
      · by_cases h2 : 1099511627776 < xt
        · have E2 := Lib.hid (EQ.out.trans (ck_arg HX.out (.inr h2)))
          go_wp2_with (fail)
          go_ret
          exact ⟨by rw [E2.out]; rfl, HB2.out⟩
        · have HR := Lib.hid (show ¬ (xt < 0 ∨ 1099511627776 < xt) by omega)
          cases k with
          | zero =>
            have HN := Lib.hid (ck_next HX.out HR.out rfl)
            simp only [Nat.zero_mul, Nat.add_zero] at c0 c1 c2
            have i2' : (0 : Int) < (n : Int) := by omega
            go_wp2_with (fail)
            have q0 := Wb.at_ e0
            refine wp_region_plan [([0, 1, 2, 3, 4, 5, 6, 7, 8, 9, 10, 11, 12], none)] (by kernel_rfl) (by kernel_rfl) ?_
            refine seg_end _ (by dsimp only [pick, at_]) ?_
            repeat (go_big_quiet_step (fail))
            refine wpQuiet_nil ?_
            refine NoPanic.normal ?_
            clear q0
            go_wp2_with (fail)
            go_roundg (n - (0 + 1))
            case measure => omega
            case rel => exact ⟨0 + 1, by omega, by omega, by go_num, EQ.out.trans HN.out, HB2.out.drew⟩
          | succ m =>
            obtain ⟨y, hy⟩ : ∃ y, l[m]? = some y := ⟨_, List.getElem?_eq_getElem (by rw [HL.out]; omega)⟩
            obtain ⟨b', off', hAe, _, m0, _, _⟩ := HE2.out.at_ (i := m) (by omega) hy
            cases hAe
            have HLT := Lib.hid (late_at hy xt)
            obtain ⟨yt, yv, ys⟩ := y
            simp only at m0 HLT
            have hm0 : (0 : Int) < ((m : Int) + 1) := by omega
            have hwm : IntKind.i64.wrap ((m : Int) + 1 - 1) = (m : Int) := by rw [show ((m : Int) + 1 - 1) = (m : Int) from by omega]; exact IntWalk.i64_in _ (by omega)
            have hm1 : (0 : Int) ≤ (m : Int) := by omega
            have hm2 : (m : Int) < (n : Int) := by omega
            clear hy
            by_cases hq : xt ≤ yt
            · have E2 := Lib.hid (EQ.out.trans (ck_order HX.out HR.out (by rw [HLT.out]; simpa using hq)))
              go_wp2_with (fail)
              have q0 := Wb.at_ e0
              have q1 := Wb.at_ m0
              refine wp_region_plan [([0, 1, 2, 3, 4, 5, 6, 7, 8, 9, 10, 11, 12], none)] (by kernel_rfl) (by kernel_rfl) ?_
              refine seg_end _ (by dsimp only [pick, at_]) ?_
              repeat (go_big_quiet_step (fail))
              refine wpQuiet_nil ?_
              refine NoPanic.normal ?_
              clear q0 q1
              go_wp2_with (fail)
              go_ret
              exact ⟨by rw [E2.out]; rfl, HB2.out.drew⟩
            · have HN := Lib.hid (ck_next HX.out HR.out (by rw [HLT.out]; simpa using hq))
              go_wp2_with (fail)
              have q0 := Wb.at_ e0
              have q1 := Wb.at_ m0
              refine wp_region_plan [([0, 1, 2, 3, 4, 5, 6, 7, 8, 9, 10, 11, 12], none)] (by kernel_rfl) (by kernel_rfl) ?_
              refine seg_end _ (by dsimp only [pick, at_]) ?_
              repeat (go_big_quiet_step (fail))
              refine wpQuiet_nil ?_
              refine NoPanic.normal ?_
              clear q0 q1
              go_wp2_with (fail)
              go_roundg (n - (m + 1 + 1))
              case measure => omega
              case rel => exact ⟨m + 1 + 1, by omega, by omega, by go_num, EQ.out.trans HN.out, HB2.out.drew⟩
    · have hltz : ¬ (k : Int) < (n : Int) := by omega
      have E2 := Lib.hid (EQ.out.trans (ck_end (by rw [HL.out]; omega)))
      go_wp2_with (fail)
      go_ret
      exact ⟨by rw [E2.out]; rfl, BW.out⟩
set_option maxHeartbeats 2000000 in
theorem check_ty (w : World) (B n c : Nat) (A : Option Addr) (l : List Pt) (h : Pts w B A n l) (hB : B ≤ w.heap.size) (hn : n ≤ 1000000000) :
    Calls Tryd.prog 12 #[.slice A n c] w fun e w' => e = .returned (.int .i64 (checkP l)) ∧ Below w.heap.size w w' := by
  have HH := Lib.hid h
  have HL := Lib.hid h.1
  clear h
  by_cases hbig : 512 < n
  · have hi : (512 : Int) < (n : Int) := by omega
    have E1 := Lib.hid (show checkP l = 52 by unfold checkP; rw [HL.out, if_pos hbig])
    go_enter Tryd.func12, Tryd.ntmps12
    go_wp2_with (fail)
    go_ret
    exact ⟨by rw [E1.out]; rfl, Below.refl _ _⟩
  have hi : ¬ (512 : Int) < (n : Int) := by omega
  have E1 := Lib.hid (show checkP l = ckF (prevP l 0) (l.drop 0) by unfold checkP; rw [HL.out, if_neg hbig]; rfl)
  go_enter Tryd.func12, Tryd.ntmps12
  go_wp2_with (fail)
  go_loopg [3] n (fun gg s7 wr => ∃ k : Nat, k ≤ n ∧ n - k ≤ gg ∧ s7 = .int .i64 k ∧ Aside (checkP l = ckF (prevP l k) (l.drop k)) ∧ Aside (Below w.heap.size w wr))
  case atStart => exact ⟨0, Nat.zero_le _, by omega, rfl, E1.out, Below.refl _ _⟩
  case round =>
    obtain ⟨k, hk, hg, rfl, EQ, BW⟩ := hrel
    have hsw := BW.out.size
    by_cases hlt : k < n
    · obtain ⟨x, hx⟩ : ∃ x, l[k]? = some x := ⟨_, List.getElem?_eq_getElem (by rw [HL.out]; exact hlt)⟩
      obtain ⟨b, off, rfl, hb, c0, c1, c2⟩ := (HH.out.below BW.out hB).at_ hlt hx
      have HX := Lib.hid hx
      obtain ⟨xt, xv, xs⟩ := x
      simp only at c0 c1 c2
      have i1 : (0 : Int) ≤ (k : Int) := by omega
      have i2 : (k : Int) < (n : Int) := by omega
      have hbw : b < wr.heap.size := by omega
      have hB2 := BW.out
      have HB2 := Lib.hid hB2
      have HE2 := Lib.hid (HH.out.below hB2 (by omega))
      clear hx hB2
      by_cases h1 : xt < 0
      · have E2 := Lib.hid (EQ.out.trans (ck_arg HX.out (.inl h1)))
        go_wp2_with (fail)
        go_ret
        exact ⟨by rw [E2.out]; rfl, HB2.out⟩
      · by_cases h2 : 1099511627776 < xt
        · have E2 := Lib.hid (EQ.out.trans (ck_arg HX.out (.inr h2)))
          go_wp2_with (fail)
          go_ret
          exact ⟨by rw [E2.out]; rfl, HB2.out⟩
        · have HR := Lib.hid (show ¬ (xt < 0 ∨ 1099511627776 < xt) by omega)
          cases k with
          | zero =>
            have HN := Lib.hid (ck_next HX.out HR.out rfl)
            simp only [Nat.zero_mul, Nat.add_zero] at c0 c1 c2
            have i2' : (0 : Int) < (n : Int) := by omega
            go_wp2_with (fail)
            have q0 := Wb.at_ c0
            refine wp_region_plan [([0, 1, 2, 3, 4, 5, 6, 7, 8, 9, 10, 11, 12, 13, 14, 15], none)] (by kernel_rfl) (by kernel_rfl) ?_
            refine seg_end _ (by dsimp only [pick, at_]) ?_
            repeat (go_big_quiet_step (fail))
            refine wpQuiet_nil ?_
            refine NoPanic.normal ?_
            clear q0
            go_wp2_with (fail)
            go_roundg (n - (0 + 1))
            case measure => omega
            case rel => exact ⟨0 + 1, by omega, by omega, by go_num, EQ.out.trans HN.out, HB2.out.drew⟩
          | succ m =>
            obtain ⟨y, hy⟩ : ∃ y, l[m]? = some y := ⟨_, List.getElem?_eq_getElem (by rw [HL.out]; omega)⟩
            obtain ⟨b', off', hAe, _, m0, _, _⟩ := HE2.out.at_ (i := m) (by omega) hy
            cases hAe
            have HLT := Lib.hid (late_at hy xt)
            obtain ⟨yt, yv, ys⟩ := y
            simp only at m0 HLT
            have hm0 : (0 : Int) < ((m : Int) + 1) := by omega
            have hwm : IntKind.i64.wrap ((m : Int) + 1 - 1) = (m : Int) := by rw [show ((m : Int) + 1 - 1) = (m : Int) from by omega]; exact IntWalk.i64_in _ (by omega)
            have hm1 : (0 : Int) ≤ (m : Int) := by omega
            have hm2 : (m : Int) < (n : Int) := by omega
            clear hy
            by_cases hq : xt ≤ yt
            · have E2 := Lib.hid (EQ.out.trans (ck_order HX.out HR.out (by rw [HLT.out]; simpa using hq)))
              go_wp2_with (fail)
              have q0 := Wb.at_ c0
              have q1 := Wb.at_ m0
              refine wp_region_plan [([0, 1, 2, 3, 4, 5, 6, 7, 8, 9, 10, 11, 12, 13, 14, 15], none)] (by kernel_rfl) (by kernel_rfl) ?_
              refine seg_end _ (by dsimp only [pick, at_]) ?_
              repeat (go_big_quiet_step (fail))
              refine wpQuiet_nil ?_
              refine NoPanic.normal ?_
              clear q0 q1
              go_wp2_with (fail)
              go_ret
              exact ⟨by rw [E2.out]; rfl, HB2.out.drew⟩
            · have HN := Lib.hid (ck_next HX.out HR.out (by rw [HLT.out]; simpa using hq))
              go_wp2_with (fail)
              have q0 := Wb.at_ c0
              have q1 := Wb.at_ m0
              refine wp_region_plan [([0, 1, 2, 3, 4, 5, 6, 7, 8, 9, 10, 11, 12, 13, 14, 15], none)] (by kernel_rfl) (by kernel_rfl) ?_
              refine seg_end _ (by dsimp only [pick, at_]) ?_
              repeat (go_big_quiet_step (fail))
              refine wpQuiet_nil ?_
              refine NoPanic.normal ?_
              clear q0 q1
              go_wp2_with (fail)
              go_roundg (n - (m + 1 + 1))
              case measure => omega
              case rel => exact ⟨m + 1 + 1, by omega, by omega, by go_num, EQ.out.trans HN.out, HB2.out.drew⟩
    · have hltz : ¬ (k : Int) < (n : Int) := by omega
      have E2 := Lib.hid (EQ.out.trans (ck_end (by rw [HL.out]; omega)))
      go_wp2_with (fail)
      go_ret
      exact ⟨by rw [E2.out]; rfl, BW.out⟩
end Go.Proofs.YtknjejejkgihbaaDoor.ts
