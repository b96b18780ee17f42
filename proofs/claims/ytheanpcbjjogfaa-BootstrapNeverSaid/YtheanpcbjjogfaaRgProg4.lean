/-
  Sets of times as lists of ranges: the program's Sub and Len.
-/
import Derived.Test.YtheanpcbjjogfaaRgProg3
namespace Go.Proofs.Ytheanpcbjjogfaa.rg
open Go.ChangeShapes Go.WideShapes Go.ChangeAt Go.RowKit plain words ord mem

theorem cut_le (x r : R) : (cutR x r).length ≤ 2 := by
  unfold cutR keepR
  split <;> split <;> simp
theorem flat_le (r : R) (l : List R) : (l.flatMap fun x => cutR x r).length ≤ 2 * l.length := by
  induction l with
  | nil => simp
  | cons x l ih =>
    have := cut_le x r
    simp only [List.flatMap_cons, List.length_append, List.length_cons]
    omega
theorem flat_take (r : R) {l : List R} {i : Nat} (hi : i < l.length) {x : R} (hx : l[i] = x) : (l.take (i + 1)).flatMap (fun x => cutR x r) = ((l.take i).flatMap fun x => cutR x r) ++ keepR (x.1, min x.2 r.1) ++ keepR (max x.1 r.2, x.2) := by
  rw [List.take_succ_eq_append_getElem hi, List.flatMap_append, hx]
  simp [cutR]

set_option maxHeartbeats 1000000 in
set_option maxRecDepth 100000 in
theorem sub_x (w : World) (B n c : Nat) (A : Option Addr) (l : List R) (h : Rgs w B A n l) (hA : A = none → c = 0) (hB : B ≤ w.heap.size) (hn : n ≤ 1000000) (r : R) :
    Calls Try.prog 19 #[.slice A n c, .agg #[.int .i64 r.1, .int .i64 r.2]] w (RetRg w w.heap.size (subP (normR l) r)) := by
  obtain ⟨wb, hwb⟩ : ∃ wb, w.alloc (.cells #[.int .i64 r.1, .int .i64 r.2] 27) = wb := ⟨_, rfl⟩
  have hbb : Below w.heap.size w wb := by rw [← hwb]; exact below_a _ _
  have hbx : wb.heap[w.heap.size]? = some (.cells #[.int .i64 r.1, .int .i64 r.2] 27 (0, 0)) := by rw [← hwb]; exact alloc_new _ _
  have hsz := hbb.size
  have hbw : w.heap.size < wb.heap.size := blk_lt hbx
  have hno := norm_x wb B n c A l (h.below hbb hB) hA (by omega) hn
  have hnl := normR_le l
  have hl := h.1
  rw [hl] at hnl
  have HNO := Lib.hid hno
  have HBB := Lib.hid hbb
  have HBX := Lib.hid hbx
  clear h hbb hbx hno hl
  generalize normR l = N at *
  obtain ⟨r1, r2⟩ := r
  simp only at *
  obtain ⟨F, hF⟩ : ∃ F, subP N (r1, r2) = F := ⟨_, rfl⟩
  rw [hF]
  have HF := Lib.hid hF
  clear hF
  go_enter Try.func19, Try.ntmps19
  go_wp2_with fail
  refine HNO.out.mono ?_
  rintro e w1 ⟨v1, rfl, hown1, hb1⟩
  obtain ⟨A1, c1, rfl, hA1, hc11, hc12⟩ := hown1.form
  have hs1 := hb1.size
  have HBX1 := Lib.hid (blk_below hb1 HBX.out hbw)
  have b0 : w1.cell? ⟨w.heap.size, 0, none⟩ = some (.int .i64 r1) := by rw [cell_of_row _ _ _ _ _ _ HBX1.out]; rfl
  have b1 : w1.cell? ⟨w.heap.size, 1, none⟩ = some (.int .i64 r2) := by rw [cell_of_row _ _ _ _ _ _ HBX1.out]; rfl
  have hlw : w.heap.size < w1.heap.size := by omega
  have HO1 := Lib.hid hown1
  have HB1 := Lib.hid (HBB.out.trans (hb1.mono hsz))
  have hem := empty_x r1 r2 w1
  cases hq : emptyR (r1, r2) with
  | true =>
    rw [hq] at hem
    have HEM := Lib.hid hem
    have HE := Lib.hid (show F = N by rw [← HF.out]; unfold subP; rw [if_pos (by simpa [emptyR] using hq)])
    clear hem hq hown1 hb1 HNO HBX HBX1 HF
    go_wp2_with fail
    refine HEM.out.mono ?_
    rintro e w2 ⟨rfl, hb2⟩
    go_wp2_with fail
    go_ret
    rw [HE.out]
    exact ⟨_, rfl, (HO1.out.below hb2 (Nat.le_refl _)).base hsz, HB1.out.trans (hb2.mono (by omega))⟩
  | false =>
    rw [hq] at hem
    have HEM := Lib.hid hem
    have HE := Lib.hid (show F = N.flatMap fun x => cutR x (r1, r2) by
      rw [← HF.out]; unfold subP; rw [if_neg (by simpa [emptyR] using hq)])
    clear hem hq hown1 hb1 HNO HBX HF
    go_wp2_with fail
    refine HEM.out.mono ?_
    rintro e w2 ⟨rfl, hb2⟩
    have hs2 := hb2.size
    have HBX2 := Lib.hid (blk_below hb2 HBX1.out hlw)
    have HO2 := Lib.hid (HO1.out.below hb2 (Nat.le_refl _))
    have HB2 := Lib.hid (HB1.out.trans (hb2.mono (by omega)))
    clear hb2 HEM HBX1 HO1 HB1 b0 b1
    go_wp2_with fail
    go_loopg [6, 8, 16] N.length (fun gg s6 s8 s16 wr => ∃ (i : Nat) (v6 : Value), i ≤ N.length ∧ N.length - i ≤ gg ∧ s16 = .int .i64 i ∧ v6 = s6 ∧ Aside (Own wr w2.heap.size v6 ((N.take i).flatMap fun x => cutR x (r1, r2)).length ((N.take i).flatMap fun x => cutR x (r1, r2))) ∧ Aside (Below w2.heap.size w2 wr))
    case atStart => exact ⟨0, _, Nat.zero_le _, by omega, rfl, rfl, Own.nil _ _, Below.refl _ _⟩
    case round =>
      obtain ⟨i, v6, hi, hg, rfl, rfl, OW, BW⟩ := hrel
      have hsw := BW.out.size
      by_cases hlt : i < N.length
      · have hltz : (i : Int) < (N.length : Int) := by omega
        obtain ⟨b, off, hAe, hb, l1, l2⟩ := (HO2.out.rgs.below BW.out (Nat.le_refl _)).at_ hlt
        cases hAe
        obtain ⟨x, hx⟩ : ∃ x, N[i]'(by omega) = x := ⟨_, rfl⟩
        rw [hx] at l1 l2
        have HST := Lib.hid (flat_take (r1, r2) hlt hx)
        have hfl := flat_le (r1, r2) (N.take i)
        simp only [List.length_take] at hfl
        clear hx
        generalize ((N.take i).flatMap fun x => cutR x (r1, r2)) = G at OW HST hfl
        obtain ⟨x1, x2⟩ := x
        have hbw1 : b < wr.heap.size := by omega
        obtain ⟨wc, hwc⟩ : ∃ wc, wr.alloc (.cells #[.int .i64 x1, .int .i64 x2] 27) = wc := ⟨_, rfl⟩
        have hbc : Below wr.heap.size wr wc := by rw [← hwc]; exact below_a _ _
        have hcx : wc.heap[wr.heap.size]? = some (.cells #[.int .i64 x1, .int .i64 x2] 27 (0, 0)) := by rw [← hwc]; exact alloc_new _ _
        have hrx : wc.heap[w.heap.size]? = some (.cells #[.int .i64 r1, .int .i64 r2] 27 (0, 0)) := blk_below hbc (blk_below BW.out HBX2.out (by omega)) (by omega)
        have hsc := hbc.size
        have hlc : wr.heap.size < wc.heap.size := blk_lt hcx
        have hlr : w.heap.size < wc.heap.size := by omega
        have d0 : wc.cell? ⟨wr.heap.size, 0, none⟩ = some (.int .i64 x1) := by rw [cell_of_row _ _ _ _ _ _ hcx]; rfl
        have d1 : wc.cell? ⟨wr.heap.size, 1, none⟩ = some (.int .i64 x2) := by rw [cell_of_row _ _ _ _ _ _ hcx]; rfl
        have d2 : wc.cell? ⟨w.heap.size, 0, none⟩ = some (.int .i64 r1) := by rw [cell_of_row _ _ _ _ _ _ hrx]; rfl
        have hk1 : ∀ z, z = min x2 r1 → Calls Try.prog 37 #[v6, .agg #[.int .i64 x1, .int .i64 z]] wc (fun e w' => ∃ v', e = .returned v' ∧ Own w' w2.heap.size v' (G ++ keepR (x1, min x2 r1)).length (G ++ keepR (x1, min x2 r1)) ∧ Chg (fun b => some b = v6.ownBlock) wc w') := fun z hz => by
          subst hz
          exact keep_x wc w2.heap.size _ v6 G (OW.out.below hbc (Nat.le_refl _)) (by omega) (by omega) (x1, min x2 r1)
        have hvb : ∀ g, v6.ownBlock = some g → w2.heap.size ≤ g ∧ g < wr.heap.size := fun g hg => OW.out.2.lt g hg
        have hkl : (keepR (x1, min x2 r1)).length ≤ 1 := by unfold keepR; split <;> simp
        have HVB := Lib.hid hvb
        have HK1 := Lib.hid hk1
        have HCX := Lib.hid hcx
        have HRX := Lib.hid hrx
        have HBC := Lib.hid hbc
        clear hk1 hvb hcx hrx hbc OW
        go_wp2_with fail
        all_goals
          refine (HK1.out _ (by omega)).mono ?_
          rintro e w3 ⟨v3, rfl, hown3, hch3⟩
          have hs3 := hch3.size
          have hcx3 := hch3.blk HCX.out (fun e => by have := HVB.out _ e.symm; omega)
          have hrx3 := hch3.blk HRX.out (fun e => by have := HVB.out _ e.symm; omega)
          have e0 : w3.cell? ⟨wr.heap.size, 0, none⟩ = some (.int .i64 x1) := by rw [cell_of_row _ _ _ _ _ _ hcx3]; rfl
          have e1 : w3.cell? ⟨wr.heap.size, 1, none⟩ = some (.int .i64 x2) := by rw [cell_of_row _ _ _ _ _ _ hcx3]; rfl
          have e2 : w3.cell? ⟨w.heap.size, 1, none⟩ = some (.int .i64 r2) := by rw [cell_of_row _ _ _ _ _ _ hrx3]; rfl
          have hlc3 : wr.heap.size < w3.heap.size := by omega
          have hlr3 : w.heap.size < w3.heap.size := by omega
          have hb3 : Below w2.heap.size wr w3 := (HBC.out.mono hsw).trans (hch3.below (by omega) (fun k e => (HVB.out k e.symm).1))
          have hk2 : ∀ z, z = max x1 r2 → Calls Try.prog 37 #[v3, .agg #[.int .i64 z, .int .i64 x2]] w3 (fun e w' => ∃ v', e = .returned v' ∧ Own w' w2.heap.size v' (G ++ keepR (x1, min x2 r1) ++ keepR (max x1 r2, x2)).length (G ++ keepR (x1, min x2 r1) ++ keepR (max x1 r2, x2)) ∧ Chg (fun b => some b = v3.ownBlock) w3 w') := fun z hz => by
            subst hz
            exact keep_x w3 w2.heap.size _ v3 _ hown3 (by omega) (by simp; omega) (max x1 r2, x2)
          have HVB3 := Lib.hid (fun g (hg : v3.ownBlock = some g) => (hown3.2.lt g hg).1)
          have HK2 := Lib.hid hk2
          have HB3 := Lib.hid hb3
          clear hown3 hch3 hcx3 hrx3 hb3 hk2 HK1 HCX HRX HBC d0 d1 d2
          go_wp2_with fail
        all_goals
          refine (HK2.out _ (by omega)).mono ?_
          rintro e w4 ⟨v4, rfl, hown4, hch4⟩
          have HO4 := Lib.hid hown4
          have HB4 := Lib.hid ((BW.out.trans HB3.out).trans (hch4.below (by omega) (fun k e => HVB3.out k e.symm)))
          clear hown4 hch4 HK2
          go_wp2_with fail
          go_roundg (N.length - (i + 1))
          case measure => omega
          case rel => exact ⟨i + 1, v4, by omega, by omega, by go_num, rfl, by rw [HST.out]; exact HO4.out, HB4.out⟩
      · have hltz : ¬ (i : Int) < (N.length : Int) := by omega
        obtain rfl : i = N.length := by omega
        rw [List.take_of_length_le (Nat.le_refl _)] at OW
        go_wp2_with fail
        go_ret
        rw [HE.out]
        exact ⟨_, rfl, OW.out.base (by omega), HB2.out.trans (BW.out.mono (by omega))⟩

end Go.Proofs.Ytheanpcbjjogfaa.rg
