/-
  Sets of times as lists of ranges: the law's same; the program's Len, Covers, Sub.
-/
import Derived.Test.YtemmfcinpkfoiaaRgProg2
namespace Go.Proofs.Ytemmfcinpkfoiaa.rg
open Go.ChangeShapes Go.WideShapes Go.ChangeAt Go.RowKit plain words ord mem

theorem neq_rg (a b a' b' : Int) (w : World) : (binOp .neq 34 (.agg #[.int .i64 a, .int .i64 b]) (.agg #[.int .i64 a', .int .i64 b'])).run Try.prog w = .ok (.bool (!(a == a' && b == b'))) w := by
  have hS : Try.prog.underlying 34 = some (.struct (Try.prog.fieldsOf 34)) := by kernel_rfl
  have hp : Try.prog.stoodInHeld 34 = false := by kernel_rfl
  have u3 := Try.underlying3
  have a3 := Try.isAgg3
  have z3 := Try.sizeOf3
  rw [run_neq_struct, show (10000 : Nat) = 9999 + 1 from rfl, run_equalIn_agg w 9999 34 _ _ hS hp]
  simp only [Program.fieldsOf, Try.underlying34]
  go_simp
  by_cases h1 : a = a' <;> by_cases h2 : b = b' <;> simp [h1, h2]
theorem guard_rg : Try.prog.eqGuardType Try.prog.depth 34 = false := by kernel_rfl
theorem take_next {l l' : List R} {i : Nat} (hi : i < l.length) (hi' : i < l'.length) (h : l.take i = l'.take i) (e : l[i] = l'[i]) : l.take (i + 1) = l'.take (i + 1) := by
  rw [List.take_succ_eq_append_getElem hi, List.take_succ_eq_append_getElem hi', h, e]
set_option maxHeartbeats 1000000 in
theorem same_x (w : World) (B n c B' n' c' : Nat) (A A' : Option Addr) (l l' : List R) (h : Rgs w B A n l) (hB : B ≤ w.heap.size) (h' : Rgs w B' A' n' l') (hB' : B' ≤ w.heap.size) (hn : n ≤ 10000000) (r : Bool) (hr : decide (l = l') = r) :
    Calls Try.prog 30 #[.slice A n c, .slice A' n' c'] w fun e w' => e = .returned (.bool r) ∧ Below w.heap.size w w' := by
  have hl := h.1
  have hl' := h'.1
  have HH := Lib.hid h
  have HH' := Lib.hid h'
  have HR := Lib.hid hr
  clear h h' hr
  by_cases hnn : n = n'
  · subst hnn
    go_enter Try.func30, Try.ntmps30
    go_wp2_with fail
    go_loopg [5] n (fun gg s5 wr => ∃ (i : Nat), i ≤ n ∧ n - i ≤ gg ∧ s5 = .int .i64 i ∧ Aside (l.take i = l'.take i) ∧ Aside (Below w.heap.size w wr))
    case atStart => exact ⟨0, Nat.zero_le _, by omega, rfl, rfl, Below.refl _ _⟩
    case round =>
      obtain ⟨i, hi, hg, rfl, EQ, BW⟩ := hrel
      have hsw := BW.out.size
      by_cases hlt : i < n
      · have hltz : (i : Int) < (n : Int) := by omega
        obtain ⟨b, off, rfl, hb, l1, l2⟩ := (HH.out.below BW.out hB).at_ hlt
        obtain ⟨b', off', rfl, hb', m1, m2⟩ := (HH'.out.below BW.out hB').at_ hlt
        obtain ⟨x, hx⟩ : ∃ x, l[i]'(by omega) = x := ⟨_, rfl⟩
        obtain ⟨y, hy⟩ : ∃ y, l'[i]'(by omega) = y := ⟨_, rfl⟩
        rw [hx] at l1 l2
        rw [hy] at m1 m2
        obtain ⟨x1, x2⟩ := x
        obtain ⟨y1, y2⟩ := y
        have hbw : b < wr.heap.size := by omega
        have hbw' : b' < wr.heap.size := by omega
        by_cases hq : (x1, x2) = (y1, y2)
        · have HN := Lib.hid (take_next (by omega) (by omega) EQ.out (hx.trans (hq.trans hy.symm)))
          obtain ⟨rfl, rfl⟩ : x1 = y1 ∧ x2 = y2 := by simpa using hq
          clear hx hy hq EQ
          go_wp2_with fail
          have hE : ∀ u : World, (binOp .neq 34 (.agg #[.int .i64 x1, .int .i64 x2]) (.agg #[.int .i64 x1, .int .i64 x2])).run Try.prog u = .ok (.bool false) u := fun u => by rw [neq_rg]; simp
          have hG := guard_rg
          have q0 := Wb.at_ l1
          have q1 := Wb.at_ l2
          have q2 := Wb.at_ m1
          have q3 := Wb.at_ m2
          refine wp_region_plan [([0, 1, 2, 3, 4, 5, 6, 7, 8], none)] (by kernel_rfl) (by kernel_rfl) ?_
          refine seg_end _ (by dsimp only [pick, at_]) ?_
          repeat (go_big_quiet_step (fail))
          refine wpQuiet_nil ?_
          refine NoPanic.normal ?_
          clear q0 q1 q2 q3 hE hG
          go_wp2_with (fail)
          go_roundg (n - (i + 1))
          case measure => omega
          case rel => exact ⟨i + 1, by omega, by omega, by go_num, HN.out, BW.out.drew⟩
        · have HN := Lib.hid (show r = false by
            rw [← HR.out]
            refine decide_eq_false fun e => hq ?_
            subst e
            exact hx.symm.trans hy)
          have hv : (x1 == y1 && x2 == y2) = false := by
            simp at hq ⊢
            exact hq
          clear hx hy hq EQ
          go_wp2_with fail
          have hE : ∀ u : World, (binOp .neq 34 (.agg #[.int .i64 x1, .int .i64 x2]) (.agg #[.int .i64 y1, .int .i64 y2])).run Try.prog u = .ok (.bool true) u := fun u => by rw [neq_rg, hv]; rfl
          have hG := guard_rg
          have q0 := Wb.at_ l1
          have q1 := Wb.at_ l2
          have q2 := Wb.at_ m1
          have q3 := Wb.at_ m2
          clear hv
          refine wp_region_plan [([0, 1, 2, 3, 4, 5, 6, 7, 8], none)] (by kernel_rfl) (by kernel_rfl) ?_
          refine seg_end _ (by dsimp only [pick, at_]) ?_
          repeat (go_big_quiet_step (fail))
          refine wpQuiet_nil ?_
          refine NoPanic.normal ?_
          clear q0 q1 q2 q3 hE hG
          go_wp2_with (fail)
          go_ret
          exact ⟨ret_bool HN.out.symm, BW.out.drew⟩
      · have hltz : ¬ (i : Int) < (n : Int) := by omega
        obtain rfl : i = n := by omega
        have HN := Lib.hid (show r = true by
          rw [← HR.out]
          refine decide_eq_true ?_
          have := EQ.out
          rwa [List.take_of_length_le (by omega), List.take_of_length_le (by omega)] at this)
        go_wp2_with fail
        go_ret
        exact ⟨ret_bool HN.out.symm, BW.out⟩
  · have HN := Lib.hid (show r = false by
      rw [← HR.out]
      refine decide_eq_false fun e => hnn ?_
      rw [← hl, ← hl', e])
    have hne : ¬ ((n : Int) = (n' : Int)) := by omega
    go_enter Try.func30, Try.ntmps30
    go_wp2_with fail
    go_ret
    exact ⟨ret_bool HN.out.symm, Below.refl _ _⟩

set_option maxHeartbeats 1000000 in
theorem cov_x (w : World) (B n c : Nat) (A : Option Addr) (l : List R) (h : Rgs w B A n l) (hA : A = none → c = 0) (hB : B ≤ w.heap.size) (hn : n ≤ 1000000) (r : R) :
    Calls Try.prog 37 #[.slice A n c, .agg #[.int .i64 r.1, .int .i64 r.2]] w fun e w' => e = .returned (.bool (coverR l r)) ∧ Below w.heap.size w w' := by
  obtain ⟨wb, hwb⟩ : ∃ wb, w.alloc (.cells #[.int .i64 r.1, .int .i64 r.2] 34) = wb := ⟨_, rfl⟩
  have hbb : Below w.heap.size w wb := by rw [← hwb]; exact below_a _ _
  have hbx : wb.heap[w.heap.size]? = some (.cells #[.int .i64 r.1, .int .i64 r.2] 34 (0, 0)) := by rw [← hwb]; exact alloc_new _ _
  have b0 : wb.cell? ⟨w.heap.size, 0, none⟩ = some (.int .i64 r.1) := by rw [cell_of_row _ _ _ _ _ _ hbx]; rfl
  have b1 : wb.cell? ⟨w.heap.size, 1, none⟩ = some (.int .i64 r.2) := by rw [cell_of_row _ _ _ _ _ _ hbx]; rfl
  have hsz := hbb.size
  have hbw : w.heap.size < wb.heap.size := blk_lt hbx
  have hem := empty_x r.1 r.2 wb
  have hnl := normR_le l
  have hl := h.1
  have HH := Lib.hid (h.below hbb hB)
  have HBB := Lib.hid hbb
  have HBX := Lib.hid hbx
  have HEM := Lib.hid hem
  have hE : coverR l r = (emptyR (r.1, r.2) || (normR l).any (covB r)) := rfl
  rw [hE]
  clear h hbb hbx hem hE
  cases hq : emptyR (r.1, r.2) with
  | true =>
    have hem := HEM.out
    rw [hq] at hem
    have HEM2 := Lib.hid hem
    clear hem HEM hq
    go_enter Try.func37, Try.ntmps37
    go_wp2_with fail
    refine HEM2.out.mono ?_
    rintro e w1 ⟨rfl, hb1⟩
    go_wp2_with fail
    go_ret
    exact ⟨rfl, HBB.out.trans (hb1.mono hsz)⟩
  | false =>
    have hem := HEM.out
    rw [hq] at hem
    have HEM2 := Lib.hid hem
    clear hem HEM hq
    go_enter Try.func37, Try.ntmps37
    go_wp2_with fail
    refine HEM2.out.mono ?_
    rintro e w1 ⟨rfl, hb1⟩
    have hs1 := hb1.size
    have hno := norm_x w1 B n c A l (HH.out.below hb1 (by omega)) hA (by omega) hn
    have HNO := Lib.hid hno
    have HB1 := Lib.hid hb1
    clear hno hb1
    go_wp2_with fail
    refine HNO.out.mono ?_
    rintro e w2 ⟨v2, rfl, hown2, hb2⟩
    obtain ⟨A2, c2, rfl, _, _, _⟩ := hown2.form
    have hbx2 := blk_below hb2 (blk_below HB1.out HBX.out hbw) (by omega)
    have d0 : w2.cell? ⟨w.heap.size, 0, none⟩ = some (.int .i64 r.1) := by rw [cell_of_row _ _ _ _ _ _ hbx2]; rfl
    have d1 : w2.cell? ⟨w.heap.size, 1, none⟩ = some (.int .i64 r.2) := by rw [cell_of_row _ _ _ _ _ _ hbx2]; rfl
    have hc := contains_x w2 w2.heap.size _ c2 A2 _ hown2.rgs (Nat.le_refl _) (by omega) 56 #[.pointer (some ⟨w.heap.size, 0, none⟩)] (covB r) (pred_cov w2 w.heap.size r d0 d1) eg_cov
    have HC := Lib.hid hc
    have HB2 := Lib.hid ((HBB.out.trans (HB1.out.mono hsz)).trans (hb2.mono (by omega)))
    clear hown2 hb2 hbx2 d0 d1 hc HNO HB1
    obtain ⟨q, hq⟩ : ∃ q, (normR l).any (covB r) = q := ⟨_, rfl⟩
    rw [hq] at HC
    have HQ := Lib.hid hq
    clear hq
    go_wp2_with fail
    refine HC.out.mono ?_
    rintro e w3 ⟨rfl, hb3⟩
    go_wp2_with fail
    go_ret
    exact ⟨ret_bool (by rw [HQ.out]; simp), HB2.out.trans (hb3.mono HB2.out.size)⟩
end Go.Proofs.Ytemmfcinpkfoiaa.rg
