/-
  Sets of times as lists of ranges: the document's own Sub, Covers, Len.
-/
import Derived.Test.YtemmfcinpkfoiaaRgRef2
namespace Go.Proofs.Ytemmfcinpkfoiaa.rg
open Go.ChangeShapes Go.WideShapes Go.ChangeAt Go.RowKit plain words ord mem

def subStep (r : R) (out : List R) (x : R) : List R := addR (addR out (x.1, min x.2 r.1)) (max x.1 r.2, x.2)
theorem subR_else (l : List R) {r : R} (h : ¬ r.2 ≤ r.1) : subR l r = (normR l).foldl (subStep r) [] := by unfold subR; rw [if_neg h]; rfl
theorem subF_le (r : R) (l acc : List R) : (l.foldl (subStep r) acc).length ≤ acc.length + 2 * l.length := by
  induction l generalizing acc with
  | nil => simp
  | cons x l ih =>
    have h1 := ih (subStep r acc x)
    have h2 : (subStep r acc x).length ≤ acc.length + 2 := by
      have := addR_le (addR acc (x.1, min x.2 r.1)) (max x.1 r.2, x.2)
      have := addR_le acc (x.1, min x.2 r.1)
      unfold subStep
      omega
    simp only [List.foldl_cons, List.length_cons]
    omega
theorem subF_take (r : R) {l : List R} {i : Nat} (hi : i < l.length) {x : R} (hx : l[i] = x) : (l.take (i + 1)).foldl (subStep r) [] = subStep r ((l.take i).foldl (subStep r) []) x := by
  rw [List.take_succ_eq_append_getElem hi, List.foldl_append, hx]; rfl
theorem subR_le (l : List R) (r : R) : (subR l r).length ≤ 2 * l.length := by
  have h0 := normR_le l
  by_cases h : r.2 ≤ r.1
  · unfold subR; rw [if_pos h]; omega
  · rw [subR_else l h]
    have := subF_le r (normR l) []
    simp at this
    omega

set_option maxHeartbeats 400000 in
set_option maxRecDepth 100000 in
theorem rsub_x (w : World) (B n c : Nat) (A : Option Addr) (l : List R) (h : Rgs w B A n l) (hB : B ≤ w.heap.size) (hn : n ≤ 1000000) (r : R) :
    Calls Try.prog 34 #[.slice A n c, .agg #[.int .i64 r.1, .int .i64 r.2]] w (RetRg w w.heap.size (subR l r)) := by
  have hl := h.1
  obtain ⟨wb, hwb⟩ : ∃ wb, w.alloc (.cells #[.int .i64 r.1, .int .i64 r.2] 34) = wb := ⟨_, rfl⟩
  have hbb : Below w.heap.size w wb := by rw [← hwb]; exact (Below.refl _ _).alloc (Nat.le_refl _) _
  have hbx : wb.heap[w.heap.size]? = some (.cells #[.int .i64 r.1, .int .i64 r.2] 34 (0, 0)) := by rw [← hwb]; exact alloc_new _ _
  have hsz := hbb.size
  have hnorm := rnorm_x wb B n c A l (h.below hbb hB) (Nat.le_trans hB hsz) hn
  have hnl := normR_le l
  have hbw : w.heap.size < wb.heap.size := blk_lt hbx
  have HN := Lib.hid hnorm
  have HBB := Lib.hid hbb
  have HBX := Lib.hid hbx
  clear h hbb hbx hnorm
  obtain ⟨N, hNe⟩ : ∃ N, normR l = N := ⟨_, rfl⟩
  rw [hNe] at HN hnl
  have hSub : subR l r = if r.2 ≤ r.1 then N else N.foldl (subStep r) [] := by
    rw [← hNe]; split
    · rename_i h0; unfold subR; rw [if_pos h0]
    · rename_i h0; exact subR_else l h0
  rw [hSub]
  clear hSub hNe
  obtain ⟨r1, r2⟩ := r
  simp only at *
  obtain ⟨F, hF⟩ : ∃ F, (if r2 ≤ r1 then N else N.foldl (subStep (r1, r2)) []) = F := ⟨_, rfl⟩
  rw [hF]
  have HF := Lib.hid hF
  clear hF
  go_enter Try.func34, Try.ntmps34
  go_wp2_with fail
  refine HN.out.mono ?_
  rintro e w1 ⟨v1, rfl, hown1, hb1⟩
  have hs1 := hb1.size
  have hbx1 := blk_below hb1 HBX.out hbw
  have b0 : w1.cell? ⟨w.heap.size, 0, none⟩ = some (.int .i64 r1) := by rw [cell_of_row _ _ _ _ _ _ hbx1]; rfl
  have b1 : w1.cell? ⟨w.heap.size, 1, none⟩ = some (.int .i64 r2) := by rw [cell_of_row _ _ _ _ _ _ hbx1]; rfl
  have hlw : w.heap.size < w1.heap.size := by omega
  have hBB1 : Below w.heap.size w w1 := HBB.out.trans (hb1.mono hsz)
  have HBB1 := Lib.hid hBB1
  have HO1 := Lib.hid hown1
  have HBX1 := Lib.hid hbx1
  obtain ⟨A1, c1, rfl, hA1, hc11, hc12⟩ := hown1.form
  clear hown1 hbx1 hb1 hBB1 HBX HN HBB
  by_cases hr : r2 ≤ r1
  · obtain rfl := (if_pos hr).symm.trans HF.out
    go_wp2_with fail
    go_ret
    exact ⟨_, rfl, HO1.out.base hsz, HBB1.out⟩
  · have HF2 := Lib.hid ((if_neg hr).symm.trans HF.out)
    clear HF
    have HLIT := Lib.hid (Own.lit w1)
    have HBL := Lib.hid (below_a w1 (.cells #[] 34))
    go_wp2_with fail
    clear b0 b1
    go_loopg [6, 7] N.length (fun gg s6 s7 wr => ∃ (i : Nat) (v6 : Value), i ≤ N.length ∧ N.length - i ≤ gg ∧ s7 = .int .i64 i ∧ v6 = s6 ∧ Aside (Own wr w1.heap.size v6 ((N.take i).foldl (subStep (r1, r2)) []).length ((N.take i).foldl (subStep (r1, r2)) [])) ∧ Aside (Below w1.heap.size w1 wr))
    case atStart => exact ⟨0, _, Nat.zero_le _, by omega, rfl, rfl, HLIT.out, HBL.out⟩
    case round =>
      obtain ⟨i, s6, hi, hg, rfl, rfl, OW, BW⟩ := hrel
      clear HLIT HBL
      by_cases hlt : i < N.length
      · have hltz : (i : Int) < (N.length : Int) := by omega
        obtain ⟨b, off, hAe, hb, l1, l2⟩ := HO1.out.rgs.at_ hlt
        cases hAe
        obtain ⟨x, hx⟩ : ∃ x, N[i]'(by omega) = x := ⟨_, rfl⟩
        rw [hx] at l1 l2
        have hsw := BW.out.size
        have hbx := blk_below BW.out HBX1.out hlw
        have c0 : wr.cell? ⟨w.heap.size, 0, none⟩ = some (.int .i64 r1) := by rw [cell_of_row _ _ _ _ _ _ hbx]; rfl
        have m1 := (BW.out.cell (p := ⟨b, off + i * 2, none⟩) hb).trans l1
        have m2 := (BW.out.cell (p := ⟨b, off + i * 2 + 1, none⟩) hb).trans l2
        have hfl := subF_le (r1, r2) (N.take i) []
        simp only [List.length_take, List.length_nil] at hfl
        have HST := Lib.hid (subF_take (r1, r2) hlt hx)
        clear hx hbx
        generalize hG : (N.take i).foldl (subStep (r1, r2)) [] = G at OW HST hfl
        obtain ⟨x1, x2⟩ := x
        simp only at m1 m2 l1 l2
        have hadd : ∀ z, z = min x2 r1 → Calls Try.prog 52 #[s6, .agg #[.int .i64 x1, .int .i64 z]] wr.drew (RetRg wr.drew w1.heap.size (addR G (x1, min x2 r1))) := fun z hz => by
          subst hz
          exact radd0_x wr.drew w1.heap.size _ _ _ (OW.out.below ((Below.refl wr.heap.size wr).drew) (Nat.le_refl _)) hsw (by omega) (x1, min x2 r1)
        have HADD := Lib.hid hadd
        have q0 := Wb.at_ c0
        have q1 := Wb.at_ m1
        have q2 := Wb.at_ m2
        have hbw1 : b < wr.heap.size := by omega
        have hlw1 : w.heap.size < wr.heap.size := by omega
        clear hadd OW m1 m2 c0 hG
        go_wp2_with fail
        refine wp_region_plan [([0, 1, 2, 3, 4, 5, 6, 7, 8, 9, 10, 11, 12, 13, 14], some (15, false)), ([16], none)] (by kernel_rfl) (by kernel_rfl) ?_
        refine seg_act _ (by dsimp only [pick, at_]) _ (by dsimp only [pick, at_]) ?_
        repeat (go_big_quiet_step (fail))
        all_goals
          refine wpQuiet_nil ?_
          intro K1 h1 h2
          clear h1 q0 q1 q2
          go_wp2_with (fail)
        all_goals
          refine (HADD.out _ (by omega)).mono ?_
          rintro e w2 ⟨v2, rfl, hown2, hb2'⟩
          have hb2 : Below wr.heap.size wr w2 := (Below.refl _ _).drew.trans hb2'
          have HB2 := Lib.hid hb2
          have HOWN2 := Lib.hid hown2
          clear hown2 hb2'
          go_wp2_with (fail)
          refine h2 _ _ hb2 ?_
          clear h2 HADD hb2
          refine seg_end _ (by dsimp only [pick, at_]) ?_
          repeat (go_big_quiet_step (fail))
          refine wpQuiet_nil (NoPanic.normal ?_)
          go_wp2_with (fail)
        all_goals
          have hb2 := HB2.out
          have hown2 := HOWN2.out
          have hs2 := hb2.size
          have hBW2 : Below w1.heap.size w1 w2 := BW.out.trans (hb2.mono hsw)
          have hbx2 := blk_below hBW2 HBX1.out hlw
          have c1' : w2.cell? ⟨w.heap.size, 1, none⟩ = some (.int .i64 r2) := by rw [cell_of_row _ _ _ _ _ _ hbx2]; rfl
          have m1 := (hBW2.cell (p := ⟨b, off + i * 2, none⟩) hb).trans l1
          have m2 := (hBW2.cell (p := ⟨b, off + i * 2 + 1, none⟩) hb).trans l2
          have hg1 := addR_le G (x1, min x2 r1)
          have hadd : ∀ z, z = max x1 r2 → Calls Try.prog 52 #[v2, .agg #[.int .i64 z, .int .i64 x2]] w2.drew (RetRg w2.drew w1.heap.size (addR (addR G (x1, min x2 r1)) (max x1 r2, x2))) := fun z hz => by
            subst hz
            exact radd0_x w2.drew w1.heap.size _ _ _ (hown2.below ((Below.refl w2.heap.size w2).drew) (Nat.le_refl _)) (by show w1.heap.size ≤ w2.heap.size; omega) (by omega) (max x1 r2, x2)
          have HADD := Lib.hid hadd
          have HBW2 := Lib.hid hBW2
          have q0 := Wb.at_ c1'
          have q1 := Wb.at_ m1
          have q2 := Wb.at_ m2
          have hbw2 : b < w2.heap.size := by omega
          have hlw2 : w.heap.size < w2.heap.size := by omega
          clear hadd hbx2 hBW2 c1' m1 m2 hown2 hb2 HB2 HOWN2
          refine wp_region_plan [([0, 1, 2, 3, 4, 5, 6, 7, 8, 9, 10, 11, 12, 13, 14], some (15, false)), ([16], none)] (by kernel_rfl) (by kernel_rfl) ?_
          refine seg_act _ (by dsimp only [pick, at_]) _ (by dsimp only [pick, at_]) ?_
          repeat (go_big_quiet_step (fail))
        all_goals
          refine wpQuiet_nil ?_
          intro K1 h1 h2
          clear h1 q0 q1 q2
          go_wp2_with (fail)
        all_goals
          refine (HADD.out _ (by omega)).mono ?_
          rintro e w3 ⟨v3, rfl, hown3, hb3'⟩
          have hb3 : Below w2.heap.size w2 w3 := (Below.refl _ _).drew.trans hb3'
          go_wp2_with (fail)
          refine h2 _ _ hb3 ?_
          clear h2 HADD
          refine seg_end _ (by dsimp only [pick, at_]) ?_
          repeat (go_big_quiet_step (fail))
          refine wpQuiet_nil (NoPanic.normal ?_)
          go_wp2_with (fail)
          go_roundg (N.length - (i + 1))
          case measure => omega
          case rel => exact ⟨i + 1, v3, by omega, by omega, by go_num, rfl, by rw [HST.out]; exact hown3, HBW2.out.trans (hb3.mono (by omega))⟩
      · have hltz : ¬ (i : Int) < (N.length : Int) := by omega
        obtain rfl : i = N.length := by omega
        rw [List.take_of_length_le (by omega)] at OW
        go_wp2_with fail
        go_ret
        rw [HF2.out] at OW
        exact ⟨_, rfl, OW.out.base (by omega), HBB1.out.trans (BW.out.mono (by omega))⟩

theorem wrap64 (z : Int) : IntKind.u64.wrap z = z % 18446744073709551616 := by simp [IntKind.wrap, IntKind.bits, IntKind.signed]
theorem len_step (S a b : Int) : IntKind.u64.wrap (IntKind.u64.wrap S + IntKind.u64.wrap (IntKind.u64.wrap a - IntKind.u64.wrap b)) = IntKind.u64.wrap (S + (a - b)) := by
  simp only [wrap64]; omega
theorem lenI_take {l : List R} {i : Nat} (hi : i < l.length) {x : R} (hx : l[i] = x) : lenI (l.take (i + 1)) = lenI (l.take i) + (x.2 - x.1) := by
  rw [List.take_succ_eq_append_getElem hi, lenI_append, hx, lenI_cons, lenI_nil]; omega

set_option maxHeartbeats 400000 in
theorem rcov_x (w : World) (B n c : Nat) (A : Option Addr) (l : List R) (h : Rgs w B A n l) (hB : B ≤ w.heap.size) (hn : n ≤ 1000000) (r : R) :
    Calls Try.prog 38 #[.slice A n c, .agg #[.int .i64 r.1, .int .i64 r.2]] w fun e w' => e = .returned (.bool (coverR l r)) ∧ Below w.heap.size w w' := by
  obtain ⟨wb, hwb⟩ : ∃ wb, w.alloc (.cells #[.int .i64 r.1, .int .i64 r.2] 34) = wb := ⟨_, rfl⟩
  have hbb : Below w.heap.size w wb := by rw [← hwb]; exact (Below.refl _ _).alloc (Nat.le_refl _) _
  have hbx : wb.heap[w.heap.size]? = some (.cells #[.int .i64 r.1, .int .i64 r.2] 34 (0, 0)) := by rw [← hwb]; exact alloc_new _ _
  have b0 : wb.cell? ⟨w.heap.size, 0, none⟩ = some (.int .i64 r.1) := by rw [cell_of_row _ _ _ _ _ _ hbx]; rfl
  have b1 : wb.cell? ⟨w.heap.size, 1, none⟩ = some (.int .i64 r.2) := by rw [cell_of_row _ _ _ _ _ _ hbx]; rfl
  have hsz := hbb.size
  have hnorm := rnorm_x wb B n c A l (h.below hbb hB) (Nat.le_trans hB hsz) hn
  have hnl := normR_le l
  have hnl2 : (normR l).length ≤ 1000000 := by have := h.1; omega
  have hbw : w.heap.size < wb.heap.size := blk_lt hbx
  have HN := Lib.hid hnorm
  have HBB := Lib.hid hbb
  have HBX := Lib.hid hbx
  clear h hbb hbx hnorm hnl
  have hE : coverR l r = (emptyR r || (normR l).any (covB r)) := rfl
  rw [hE]
  clear hE
  generalize normR l = N at *
  obtain ⟨r1, r2⟩ := r
  simp only at *
  by_cases hr : r2 ≤ r1
  · go_enter Try.func38, Try.ntmps38
    go_wp2_with fail
    go_ret
    exact ⟨ret_bool (by simp [emptyR]; omega), HBB.out⟩
  · have HE := Lib.hid (show emptyR (r1, r2) = false by simp [emptyR]; omega)
    go_enter Try.func38, Try.ntmps38
    go_wp2_with fail
    refine HN.out.mono ?_
    rintro e w1 ⟨v1, rfl, hown1, hb1⟩
    have hs1 := hb1.size
    have HBX1 := Lib.hid (blk_below hb1 HBX.out hbw)
    have HO1 := Lib.hid hown1
    have HBB1 := Lib.hid (HBB.out.trans (hb1.mono hsz))
    obtain ⟨A1, c1, rfl, hA1, hc11, hc12⟩ := hown1.form
    clear hown1 hb1 HBX HN HBB b0 b1
    go_wp2_with fail
    go_loopg [6] N.length (fun gg s6 wr => ∃ (i : Nat), i ≤ N.length ∧ N.length - i ≤ gg ∧ s6 = .int .i64 i ∧ Aside ((N.take i).any (covB (r1, r2)) = false) ∧ Aside (Below w1.heap.size w1 wr))
    case atStart => exact ⟨0, Nat.zero_le _, by omega, rfl, rfl, Below.refl _ _⟩
    case round =>
      obtain ⟨i, hi, hg, rfl, AN, BW⟩ := hrel
      have hsw := BW.out.size
      by_cases hlt : i < N.length
      · have hltz : (i : Int) < (N.length : Int) := by omega
        obtain ⟨b, off, hAe, hb, l1, l2⟩ := (HO1.out.rgs.below BW.out (Nat.le_refl _)).at_ hlt
        cases hAe
        obtain ⟨x, hx⟩ : ∃ x, N[i]'(by omega) = x := ⟨_, rfl⟩
        have hin : x ∈ N := by rw [← hx]; exact List.getElem_mem _
        have hst : (N.take (i + 1)).any (covB (r1, r2)) = covB (r1, r2) x := by
          rw [List.take_succ_eq_append_getElem (by omega), List.any_append, AN.out, hx]; simp
        have hany : covB (r1, r2) x = true → N.any (covB (r1, r2)) = true := fun e => List.any_eq_true.2 ⟨x, hin, e⟩
        rw [hx] at l1 l2
        have hbx := blk_below BW.out HBX1.out (by omega)
        have c0 : wr.cell? ⟨w.heap.size, 0, none⟩ = some (.int .i64 r1) := by rw [cell_of_row _ _ _ _ _ _ hbx]; rfl
        have c1 : wr.cell? ⟨w.heap.size, 1, none⟩ = some (.int .i64 r2) := by rw [cell_of_row _ _ _ _ _ _ hbx]; rfl
        obtain ⟨x1, x2⟩ := x
        have HANY := Lib.hid hany
        have HST := Lib.hid hst
        have q0 := Wb.at_ c0
        have q1 := Wb.at_ c1
        have q2 := Wb.at_ l1
        have q3 := Wb.at_ l2
        have hbw1 : b < wr.heap.size := by omega
        have hlw1 : w.heap.size < wr.heap.size := by omega
        clear hany hst hx hin AN hbx c0 c1 l1 l2
        by_cases h1 : x1 ≤ r1
        · by_cases h2 : r2 ≤ x2
          · go_wp2_with fail
            refine wp_region_plan [([0, 1, 2, 3, 4, 5, 6, 7, 8, 9, 10, 11, 12, 13, 14, 15, 16, 17], none)] (by kernel_rfl) (by kernel_rfl) ?_
            refine seg_end _ (by dsimp only [pick, at_]) ?_
            repeat (go_big_quiet_step (fail))
            refine wpQuiet_nil (NoPanic.normal ?_)
            go_wp2_with (fail)
            go_ret
            exact ⟨ret_bool (by rw [HANY.out (by simp [covB, h1, h2])]; simp), HBB1.out.trans ((BW.out.drew).mono (by omega))⟩
          · have HNO := Lib.hid (show covB (r1, r2) (x1, x2) = false by simp [covB]; omega)
            go_wp2_with fail
            refine wp_region_plan [([0, 1, 2, 3, 4, 5, 6, 7, 8, 9, 10, 11, 12, 13, 14, 15, 16, 17], none)] (by kernel_rfl) (by kernel_rfl) ?_
            refine seg_end _ (by dsimp only [pick, at_]) ?_
            repeat (go_big_quiet_step (fail))
            refine wpQuiet_nil (NoPanic.normal ?_)
            go_wp2_with (fail)
            go_roundg (N.length - (i + 1))
            case measure => omega
            case rel => exact ⟨i + 1, by omega, by omega, by go_num, HST.out.trans HNO.out, BW.out.drew⟩
        · have HNO := Lib.hid (show covB (r1, r2) (x1, x2) = false by simp [covB]; omega)
          go_wp2_with fail
          have hq : decide (x1 ≤ r1) = false := by simp; omega
          refine wp_region_plan [([0, 1, 2, 3, 4, 5, 6, 7, 8, 9, 10, 11, 12, 13, 14, 15, 16, 17], none)] (by kernel_rfl) (by kernel_rfl) ?_
          refine seg_end _ (by dsimp only [pick, at_]) ?_
          repeat (go_big_quiet_step (fail))
          refine wpQuiet_nil (NoPanic.normal ?_)
          go_wp2_with (fail)
          go_roundg (N.length - (i + 1))
          case measure => omega
          case rel => exact ⟨i + 1, by omega, by omega, by go_num, HST.out.trans HNO.out, BW.out.drew⟩
      · have hltz : ¬ (i : Int) < (N.length : Int) := by omega
        obtain rfl : i = N.length := by omega
        rw [List.take_of_length_le (by omega)] at AN
        go_wp2_with fail
        go_ret
        exact ⟨ret_bool (by rw [AN.out, HE.out]; rfl), HBB1.out.trans (BW.out.mono (by omega))⟩

set_option maxHeartbeats 400000 in
theorem rlen_x (w : World) (B n c : Nat) (A : Option Addr) (l : List R) (h : Rgs w B A n l) (hB : B ≤ w.heap.size) (hn : n ≤ 1000000) :
    Calls Try.prog 40 #[.slice A n c] w fun e w' => e = .returned (.int .u64 (IntKind.u64.wrap (lenI (normR l)))) ∧ Below w.heap.size w w' := by
  have hnl := normR_le l
  have hnl2 : (normR l).length ≤ 1000000 := by have := h.1; omega
  have HN := Lib.hid (rnorm_x w B n c A l h hB hn)
  clear h hnl
  generalize normR l = N at *
  go_enter Try.func40, Try.ntmps40
  go_wp2_with fail
  refine HN.out.mono ?_
  rintro e w1 ⟨v1, rfl, hown1, hb1⟩
  have hs1 := hb1.size
  have HO1 := Lib.hid hown1
  have HBB1 := Lib.hid hb1
  obtain ⟨A1, c1, rfl, hA1, hc11, hc12⟩ := hown1.form
  clear hown1 hb1 HN
  go_wp2_with fail
  go_loopg [3, 5] N.length (fun gg s3 s5 wr => ∃ (i : Nat) (z : Int), i ≤ N.length ∧ N.length - i ≤ gg ∧ s5 = .int .i64 i ∧ s3 = .int .u64 z ∧ z = IntKind.u64.wrap (lenI (N.take i)) ∧ Aside (Below w1.heap.size w1 wr))
  case atStart => exact ⟨0, 0, Nat.zero_le _, by omega, rfl, rfl, rfl, Below.refl _ _⟩
  case round =>
    obtain ⟨i, z, hi, hg, rfl, rfl, hz, BW⟩ := hrel
    have hsw := BW.out.size
    by_cases hlt : i < N.length
    · have hltz : (i : Int) < (N.length : Int) := by omega
      obtain ⟨b, off, hAe, hb, l1, l2⟩ := (HO1.out.rgs.below BW.out (Nat.le_refl _)).at_ hlt
      cases hAe
      obtain ⟨x, hx⟩ : ∃ x, N[i]'(by omega) = x := ⟨_, rfl⟩
      have hst := lenI_take hlt hx
      rw [hx] at l1 l2
      obtain ⟨x1, x2⟩ := x
      have hst2 : IntKind.u64.wrap (z + IntKind.u64.wrap (IntKind.u64.wrap x2 - IntKind.u64.wrap x1)) = IntKind.u64.wrap (lenI (N.take (i + 1))) := by
        rw [hz, len_step, hst]
      have HST := Lib.hid hst2
      have q2 := Wb.at_ l1
      have q3 := Wb.at_ l2
      have hbw1 : b < wr.heap.size := by omega
      clear hst hst2 hx hz l1 l2
      go_wp2_with fail
      refine wp_region_plan [([0, 1, 2, 3, 4, 5, 6, 7, 8, 9, 10, 11, 12, 13, 14, 15], none)] (by kernel_rfl) (by kernel_rfl) ?_
      refine seg_end _ (by dsimp only [pick, at_]) ?_
      repeat (go_big_quiet_step (fail))
      refine wpQuiet_nil ?_
      refine NoPanic.normal ?_
      go_wp2_with (fail)
      go_roundg (N.length - (i + 1))
      case measure => omega
      case rel => exact ⟨i + 1, _, by omega, by omega, by go_num, rfl, HST.out, BW.out.drew⟩
    · have hltz : ¬ (i : Int) < (N.length : Int) := by omega
      obtain rfl : i = N.length := by omega
      rw [List.take_of_length_le (by omega)] at hz
      have HZ := Lib.hid hz
      clear hz
      go_wp2_with fail
      go_ret
      exact ⟨by rw [← HZ.out]; rfl, HBB1.out.trans (BW.out.mono (by omega))⟩
end Go.Proofs.Ytemmfcinpkfoiaa.rg
