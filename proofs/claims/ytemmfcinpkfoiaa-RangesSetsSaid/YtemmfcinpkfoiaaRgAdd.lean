/-
  Sets of times as lists of ranges: the program's Add; the law's lent.
-/
import Derived.Test.YtemmfcinpkfoiaaRgProg4
import Derived.Test.YtemmfcinpkfoiaaTwo
namespace Go.Proofs.Ytemmfcinpkfoiaa.rg
open Go.ChangeShapes Go.WideShapes Go.ChangeAt Go.RowKit plain words ord mem

set_option maxHeartbeats 1000000 in
set_option maxRecDepth 100000 in
theorem add_x (w : World) (B n c : Nat) (A : Option Addr) (l : List R) (h : Rgs w B A n l) (hA : A = none → c = 0) (hB : B ≤ w.heap.size) (hn : n < 1000000) (r : R) :
    Calls Try.prog 28 #[.slice A n c, .agg #[.int .i64 r.1, .int .i64 r.2]] w (RetRg w w.heap.size (addR (normR l) r)) := by
  obtain ⟨wb, hwb⟩ : ∃ wb, w.alloc (.cells #[.int .i64 r.1, .int .i64 r.2] 34) = wb := ⟨_, rfl⟩
  have hbb : Below w.heap.size w wb := by rw [← hwb]; exact below_a _ _
  have hbx : wb.heap[w.heap.size]? = some (.cells #[.int .i64 r.1, .int .i64 r.2] 34 (0, 0)) := by rw [← hwb]; exact alloc_new _ _
  have b0 : wb.cell? ⟨w.heap.size, 0, none⟩ = some (.int .i64 r.1) := by rw [cell_of_row _ _ _ _ _ _ hbx]; rfl
  have b1 : wb.cell? ⟨w.heap.size, 1, none⟩ = some (.int .i64 r.2) := by rw [cell_of_row _ _ _ _ _ _ hbx]; rfl
  have hsz := hbb.size
  have hbw : w.heap.size < wb.heap.size := blk_lt hbx
  have hl := h.1
  have hcl := fun (u : World) (hu : Below wb.heap.size wb u) => clone_rg u B n c A l ((h.below hbb hB).below hu (by omega)) hA (by have := hu.size; omega) (by omega)
  rw [← normR_snoc]
  have HCL := Lib.hid hcl
  have HBB := Lib.hid hbb
  have HLN := Lib.hid hl
  clear h hbb hbx hcl hl
  go_enter Try.func28, Try.ntmps28
  go_wp2_with fail
  have q0 := Wb.at_ b0
  have q1 := Wb.at_ b1
  clear b0 b1
  refine wp_region_two [0, 2] 1 3 [([], some (3, false)), ([], some (4, true)), ([], some (5, false)), ([6], none)] [([], some (1, false)), ([], some (4, true)), ([], some (5, false)), ([6], none)] (by kernel_rfl) (by kernel_rfl) ?_
  dsimp only [pick, at_]
  repeat (go_big_quiet_step (fail))
  refine wpQuiet_nil ?_
  refine ⟨?_, ?_⟩
  · refine seg_act _ (by dsimp only [pick, at_]) _ (by dsimp only [pick, at_]) ?_
    refine wpQuiet_nil ?_
    intro K1 h1 h2
    clear h1 q0 q1
    go_wp2_with (fail)
    refine (HCL.out wb.drew ((Below.refl _ _).drew)).mono ?_
    rintro e w1 ⟨v1, rfl, hown1, hb1⟩
    have hb2 : Below wb.heap.size wb w1 := (Below.refl _ _).drew.trans hb1
    go_wp2_with (fail)
    refine h2 _ _ hb2 ?_
    clear h2
    refine seg_act _ (by dsimp only [pick, at_]) _ (by dsimp only [pick, at_]) ?_
    refine wpQuiet_nil ?_
    intro K2 h1 h2
    clear h1
    go_wp2_with (fail)
    obtain ⟨w2, hw2⟩ : ∃ w2, w1.alloc (.cells #[.int .i64 r.1, .int .i64 r.2] 34) = w2 := ⟨_, rfl⟩
    have hb3 : Below w1.heap.size w1 w2 := by rw [← hw2]; exact below_a _ _
    have HR2 := Lib.hid (show Rgs w2 (w1.heap.size + 1) (some ⟨w1.heap.size, 0, none⟩) 1 [r] by rw [← hw2]; exact rgs_new _ r)
    have HO2 := Lib.hid (hown1.below hb3 (Nat.le_refl _))
    have HB2 := Lib.hid (hb2.trans (hb3.mono hb2.size))
    have hs2 := hb3.size
    have hs1 := hb2.size
    have hln : l.length ≤ 1000000 := by have := HLN.out; omega
    rw [hw2]
    refine h2 _ _ hb3 ?_
    clear h2 hw2 hb2 hb1 hb3 hown1
    refine seg_write _ (by dsimp only [pick, at_]) _ (by dsimp only [pick, at_]) ?_
    refine wpQuiet_nil ?_
    intro K3 h3
    refine wpList_append_rg rfl (.tmp 6) (.tmp 8) rfl wb.heap.size _ l.length l (by rfl) HO2.out _ _ 1 1 (fun e => by cases e) [r] (by rfl) HR2.out (by omega) (by omega) w2 (Below.refl _ _) ?_
    intro A3 c3 w3 hown3 hb3 hA3 hc31 hc32 hs3
    have hn2 : l.length + 1 ≤ 1000000 := by have := HLN.out; omega
    have hno := norm_x w3 w3.heap.size (l.length + 1) c3 A3 (l ++ [r]) hown3.rgs hA3 (Nat.le_refl _) hn2
    have HNO := Lib.hid hno
    have HB3 := Lib.hid (HB2.out.trans (hb3.mono (by omega)))
    clear hown3 hno hb3 HO2 HR2 HB2
    go_wp2_with (fail)
    refine seg_act _ (by dsimp only [pick, at_]) _ (by dsimp only [pick, at_]) ?_
    refine wpQuiet_nil ?_
    intro K4 h1 h2
    clear h1
    go_wp2_with (fail)
    refine HNO.out.mono ?_
    rintro e w4 ⟨v4, rfl, hown4, hb4⟩
    go_wp2_with (fail)
    refine h2 _ _ hb4 ?_
    clear h2
    refine seg_end _ (by dsimp only [pick, at_]) ?_
    repeat (go_big_quiet_step (fail))
    refine wpQuiet_nil ?_
    refine NoPanic.normal ?_
    go_wp2_with (fail)
    go_ret
    exact ⟨v4, rfl, hown4.base (by omega), (HBB.out.trans (HB3.out.mono hsz)).trans (hb4.mono (by omega))⟩
  · refine seg_act _ (by dsimp only [pick, at_]) _ (by dsimp only [pick, at_]) ?_
    refine wpQuiet_nil ?_
    intro K1 h1 h2
    clear h1 q0 q1
    go_wp2_with (fail)
    obtain ⟨w1, hw1⟩ : ∃ w1, (wb.alloc (.cells #[.int .i64 r.1, .int .i64 r.2] 34)).drew = w1 := ⟨_, rfl⟩
    have hb1 : Below wb.heap.size wb w1 := by rw [← hw1]; exact (below_a _ _).drew
    have hr1 : Rgs w1 (wb.heap.size + 1) (some ⟨wb.heap.size, 0, none⟩) 1 [r] := by rw [← hw1]; exact (rgs_new (w := wb) 34 r).below ((Below.refl (wb.heap.size + 1) _).drew) (Nat.le_refl _)
    have hs1 : w1.heap.size = wb.heap.size + 1 := by rw [← hw1]; show (wb.alloc _).heap.size = _; simp
    rw [hw1]
    refine h2 _ _ hb1 ?_
    clear h2 hw1
    refine seg_act _ (by dsimp only [pick, at_]) _ (by dsimp only [pick, at_]) ?_
    refine wpQuiet_nil ?_
    intro K2 h1 h2
    clear h1
    go_wp2_with (fail)
    refine (HCL.out w1 hb1).mono ?_
    rintro e w2 ⟨v1, rfl, hown1, hb2⟩
    have HR2 := Lib.hid (hr1.below hb2 (by omega))
    have HO2 := Lib.hid (hown1.base (C := wb.heap.size) (by omega))
    have HB2 := Lib.hid (hb1.trans (hb2.mono (by omega)))
    have hs2 := hb2.size
    have hln : l.length ≤ 1000000 := by have := HLN.out; omega
    go_wp2_with (fail)
    refine h2 _ _ hb2 ?_
    clear h2 hb1 hb2 hr1 hown1
    refine seg_write _ (by dsimp only [pick, at_]) _ (by dsimp only [pick, at_]) ?_
    refine wpQuiet_nil ?_
    intro K3 h3
    refine wpList_append_rg rfl (.tmp 6) (.tmp 8) rfl wb.heap.size _ l.length l (by rfl) HO2.out _ _ 1 1 (fun e => by cases e) [r] (by rfl) HR2.out (by omega) (by omega) w2 (Below.refl _ _) ?_
    intro A3 c3 w3 hown3 hb3 hA3 hc31 hc32 hs3
    have hn2 : l.length + 1 ≤ 1000000 := by have := HLN.out; omega
    have hno := norm_x w3 w3.heap.size (l.length + 1) c3 A3 (l ++ [r]) hown3.rgs hA3 (Nat.le_refl _) hn2
    have HNO := Lib.hid hno
    have HB3 := Lib.hid (HB2.out.trans (hb3.mono (by omega)))
    clear hown3 hno hb3 HO2 HR2 HB2
    go_wp2_with (fail)
    refine seg_act _ (by dsimp only [pick, at_]) _ (by dsimp only [pick, at_]) ?_
    refine wpQuiet_nil ?_
    intro K4 h1 h2
    clear h1
    go_wp2_with (fail)
    refine HNO.out.mono ?_
    rintro e w4 ⟨v4, rfl, hown4, hb4⟩
    go_wp2_with (fail)
    refine h2 _ _ hb4 ?_
    clear h2
    refine seg_end _ (by dsimp only [pick, at_]) ?_
    repeat (go_big_quiet_step (fail))
    refine wpQuiet_nil ?_
    refine NoPanic.normal ?_
    go_wp2_with (fail)
    go_ret
    exact ⟨v4, rfl, hown4.base (by omega), (HBB.out.trans (HB3.out.mono hsz)).trans (hb4.mono (by omega))⟩
end Go.Proofs.Ytemmfcinpkfoiaa.rg
