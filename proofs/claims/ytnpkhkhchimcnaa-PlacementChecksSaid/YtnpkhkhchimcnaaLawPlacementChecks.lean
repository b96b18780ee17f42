/-
  The walk of the law PlacementChecks: for all inputs it returns true.
-/
import Derived.Test.YtnpkhkhchimcnaaPmTake

import Derived.Test.YtnpkhkhchimcnaaPmOpenP
import Derived.Test.YtnpkhkhchimcnaaPmCheckY
namespace Go.Proofs.Ytnpkhkhchimcnaa.lawPlacementChecks
open Go.ChangeShapes Go.WideShapes Go.ChangeAt Go.RowKit Go.Shelf plain words ord mem pm

set_option maxHeartbeats 4000000 in
set_option maxRecDepth 100000 in
theorem walk_ok (a0 : PV) (a10 a11 a12 : Int) (w : World) (h0 : PVok w w.heap.size a0) (w10 : (Lit.int .i64 a10).wf = true) (w11 : (Lit.int .i64 a11).wf = true) (w12 : (Lit.int .i64 a12).wf = true) :
    Calls Try.prog 7 #[a0.val, .agg #[.int .i64 a10, .int .i64 a11, .int .i64 a12]] w fun e w' => e = .returned (.bool true) ∧ Below w.heap.size w w' := by
  clear w10 w11 w12
  obtain ⟨w3, hw3⟩ : ∃ w3, (w.alloc (boxO a0)).alloc (.cells #[.int .i64 a10, .int .i64 a11, .int .i64 a12] 37) = w3 := ⟨_, rfl⟩
  have hb3 : Below w.heap.size w w3 := by rw [← hw3]; exact (below_al _ _).trans ((below_al _ _).mono (by simp))
  have gp : pm.Boxed w3 w.heap.size a0 := by rw [← hw3]; exact alloc_old _ (alloc_new _ _)
  have gs : IsV3 37 w3 (w.heap.size + 1) (.int .i64 a10) (.int .i64 a11) (.int .i64 a12) := by rw [← hw3]; have := alloc_new (w.alloc (boxO a0)) (.cells #[.int .i64 a10, .int .i64 a11, .int .i64 a12] 37); rwa [World.size_alloc] at this
  have hl3 : w.heap.size + 1 < w3.heap.size := blk_lt gs
  have HOK := Lib.hid (fun (u : World) (hu : Below w3.heap.size w3 u) => ((h0.below hb3 (Nat.le_refl _)).below hu (by omega)))
  have HHV := Lib.hid (heavy_l w3 w.heap.size a0 (HOK.out w3 (Below.refl _ _)) (by omega))
  have HCK := Lib.hid (fun (u : World) (hu : Below w3.heap.size w3 u) => pcheck_x u w.heap.size a0 (HOK.out u hu) (by have := hu.size; omega))
  have HCY := Lib.hid (fun (u : World) (hu : Below w3.heap.size w3 u) => rcheck_y u w.heap.size a0 (HOK.out u hu) (by have := hu.size; omega))
  have HST := Lib.hid (fun (u : World) (hu : Below w3.heap.size w3 u) => step_l u w.heap.size a0 (HOK.out u hu) (by have := hu.size; omega) a10 a11 a12)
  have HB3 := Lib.hid hb3
  have HGP := Lib.hid gp
  have HGS := Lib.hid gs
  have HW3 := Lib.hid hw3
  obtain ⟨ck, hck⟩ : ∃ ck, chk a0.pl = ck := ⟨_, rfl⟩
  obtain ⟨er, her⟩ : ∃ er, stepErr a0.pl a10 a11 a12 = er := ⟨_, rfl⟩
  obtain ⟨pl, hpl⟩ : ∃ pl, stepPl a0.pl a10 a11 a12 = pl := ⟨_, rfl⟩
  rw [hck] at HCK HCY
  rw [her, hpl] at HST
  obtain ⟨ver, nA, nc, nodes, sA, sc, rs⟩ := a0
  simp only [PV.val, boxO, pm.Boxed] at HHV HCK HCY HST HW3 ⊢
  have HVC := Lib.hid (fun (u : World) (hu : Below w3.heap.size w3 u) => (isv3_cells (blk_below hu HGP.out (by omega))).1)
  have HSC := Lib.hid (fun (u : World) (hu : Below w3.heap.size w3 u) => (isv3_cells (blk_below hu HGS.out (by omega))).1)
  obtain ⟨c0, c1, c2⟩ := HVC.out w3 (Below.refl _ _)
  clear h0 hw3 hb3 gp gs hck her hpl
  go_enter Try.func7, Try.ntmps7
  go_wp2_with (fail)
  rw [HW3.out]
  go_wp2_with (fail)
  refine HHV.out.mono ?_
  rintro e w4 ⟨rfl, hb4⟩
  obtain ⟨b, hbb⟩ : ∃ b, heavyB (⟨ver, nA, nc, nodes, sA, sc, rs⟩ : PV) = b := ⟨_, rfl⟩
  rw [hbb]
  clear hbb
  have HB4 := Lib.hid hb4
  have hs4 := hb4.size
  clear hb4 c0 c1 c2
  obtain ⟨c0, c1, c2⟩ := HVC.out w4 HB4.out
  have hl4 : w.heap.size < w4.heap.size := by omega
  cases b with
  | true =>
    have HBW := Lib.hid (HB3.out.trans (HB4.out.mono (by omega)))
    go_wp2_with (fail)
    go_ret
    exact ⟨rfl, HBW.out⟩
  | false =>
    have hcc : (ck != ck) = false := by simp
    go_wp2_with (fail)
    have q0 := Wb.at_ c0
    have q1 := Wb.at_ c1
    have q2 := Wb.at_ c2
    refine wp_region_plan [([0, 2], some (1, false)), ([], some (3, false)), ([4], none)] (by kernel_rfl) (by kernel_rfl) ?_
    refine seg_act _ (by dsimp only [pick, ord.at_]) _ (by dsimp only [pick, ord.at_]) ?_
    repeat (go_big_quiet_step (fail))
    refine wpQuiet_nil ?_
    intro K h1 h2
    clear h2
    go_wp2_with (fail)
    refine (HCK.out w4.drew HB4.out.drew).mono ?_
    rintro e w5 ⟨rfl, hb5⟩
    have HB5 := Lib.hid (show Below w4.heap.size w4 w5 from (Below.refl _ _).drew.trans hb5)
    have HB35 := Lib.hid (HB4.out.trans (HB5.out.mono hs4))
    clear hb5
    go_wp2_with (fail)
    refine h1 _ _ HB5.out ?_
    clear h1
    refine seg_act _ (by dsimp only [pick, ord.at_]) _ (by dsimp only [pick, ord.at_]) ?_
    repeat (go_big_quiet_step (fail))
    refine wpQuiet_nil ?_
    intro K h1 h2
    clear h2
    go_wp2_with (fail)
    refine (HCY.out w5 HB35.out).mono ?_
    rintro e w6 ⟨rfl, hb6⟩
    have HB6 := Lib.hid (HB5.out.trans (hb6.mono HB5.out.size))
    have HB36 := Lib.hid (HB35.out.trans (hb6.mono HB35.out.size))
    clear hb6
    go_wp2_with (fail)
    refine h1 _ _ HB6.out ?_
    clear h1
    refine seg_end _ (by dsimp only [pick, ord.at_]) ?_
    repeat (go_big_quiet_step (fail))
    refine wpQuiet_nil ?_
    refine NoPanic.normal ?_
    clear q0 q1 q2 c0 c1 c2
    have hs36 := HB36.out.size
    obtain ⟨c0, c1, c2⟩ := HVC.out w6 HB36.out
    obtain ⟨s0, s1, s2⟩ := HSC.out w6 HB36.out
    have hl6 : w.heap.size < w6.heap.size := by omega
    have hl6b : w.heap.size + 1 < w6.heap.size := by omega
    have HST6 := Lib.hid (HST.out w6 HB36.out)
    go_wp2_with (fail)
    refine HST6.out.mono ?_
    rintro e w7 ⟨⟨qv, qA, qc, qn, qB, qd, qr⟩, ⟨yv, yA, yc, yn, yB, yd, yr⟩, rfl, hplq, hply, hopq, hopy, hb7⟩
    clear c0 c1 c2 s0 s1 s2
    obtain ⟨wq, hwq⟩ : ∃ wq, (w7.alloc (.cells #[.int .i64 0, .slice none 0 0, .slice none 0 0] 25)).alloc (.cells #[.int .i64 0, .slice none 0 0, .slice none 0 0] 25) = wq := ⟨_, rfl⟩
    have hbq : Below w7.heap.size w7 wq := by rw [← hwq]; exact (below_al _ _).trans ((below_al _ _).mono (by simp))
    have ga : IsV3 25 wq w7.heap.size (.int .i64 0) (.slice none 0 0) (.slice none 0 0) := by rw [← hwq]; exact alloc_old _ (alloc_new _ _)
    have gb : IsV3 25 wq (w7.heap.size + 1) (.int .i64 0) (.slice none 0 0) (.slice none 0 0) := by rw [← hwq]; have := alloc_new (w7.alloc (.cells #[.int .i64 0, .slice none 0 0, .slice none 0 0] 25)) (.cells #[.int .i64 0, .slice none 0 0, .slice none 0 0] 25); rwa [World.size_alloc] at this
    have hlb : w7.heap.size + 1 < wq.heap.size := blk_lt gb
    obtain ⟨⟨a0', a1', a2'⟩, af0, af1, af2⟩ := isv3_cells ga
    obtain ⟨⟨b0', b1', b2'⟩, bf0, bf1, bf2⟩ := isv3_cells gb
    obtain ⟨w8, hw8⟩ : ∃ w8, (((((wq.setCell ⟨w7.heap.size, 0, none⟩ (.int .i64 qv)).setCell ⟨w7.heap.size, 1, none⟩ (.slice qA qn.length qc)).setCell ⟨w7.heap.size, 2, none⟩ (.slice qB qr.length qd)).setCell ⟨w7.heap.size + 1, 0, none⟩ (.int .i64 yv)).setCell ⟨w7.heap.size + 1, 1, none⟩ (.slice yA yn.length yc)).setCell ⟨w7.heap.size + 1, 2, none⟩ (.slice yB yr.length yd) = w8 := ⟨_, rfl⟩
    have hb8 : Below w7.heap.size w7 w8 := by rw [← hw8]; exact below_set3 (below_set3 hbq (Nat.le_refl _) _ _ _) (by omega) _ _ _
    have g8 : IsV3 25 w8 w7.heap.size (.int .i64 qv) (.slice qA qn.length qc) (.slice qB qr.length qd) := by rw [← hw8]; exact set3_ne (set3 ga) (by omega) _ _ _
    have g8b : IsV3 25 w8 (w7.heap.size + 1) (.int .i64 yv) (.slice yA yn.length yc) (.slice yB yr.length yd) := by rw [← hw8]; exact set3 (set3_ne gb (by omega) _ _ _)
    have hs7 := hb7.size
    have hs8 := hb8.size
    have hl8 : w7.heap.size < w8.heap.size := blk_lt g8
    have hl8b : w7.heap.size + 1 < w8.heap.size := blk_lt g8b
    have HSM := Lib.hid (same_l w8 w7.heap.size ⟨qv, qA, qc, qn, qB, qd, qr⟩ ⟨yv, yA, yc, yn, yB, yd, yr⟩ ((hopq.ok).below hb8 (Nat.le_refl _)) ((hopy.ok).below hb8 (Nat.le_refl _)) hs8 (by rw [hplq, hply]))
    have HBW8 := Lib.hid (HB3.out.trans ((HB36.out.trans ((hb7.trans (hb8.mono hs7)).mono hs36)).mono (by omega)))
    obtain ⟨⟨x0, x1, x2⟩, _⟩ := isv3_cells g8
    obtain ⟨⟨y0, y1, y2⟩, _⟩ := isv3_cells g8b
    simp only [PV.val] at HSM
    clear hb7 hb8 g8 g8b hplq hply hopq hopy hbq ga gb
    go_wp2_with (fail)
    refine HSM.out.mono ?_
    rintro e w9 ⟨rfl, hb9⟩
    have HBW9 := Lib.hid (HBW8.out.trans (hb9.mono HBW8.out.size))
    clear hb9
    go_wp2_with (fail)
    go_ret
    exact ⟨by simp, HBW9.out⟩
end Go.Proofs.Ytnpkhkhchimcnaa.lawPlacementChecks
