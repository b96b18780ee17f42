/-
  The law's same.
-/
import Derived.Test.YtemmfcinpkfoiaaMgVw
namespace Go.Proofs.Ytemmfcinpkfoiaa.mg
open Go.ChangeShapes Go.WideShapes Go.ChangeAt Go.RowKit Go.Shelf plain words ord mem rg

set_option maxRecDepth 100000 in
set_option maxHeartbeats 4000000 in
theorem same_y (w : World) (B n c d : Nat) (A A' : Option Addr) (l : List Pt) (h : Ls PE w B A n l) (h' : Ls PE w B A' n l) (hB : B ≤ w.heap.size) (hn : n ≤ 9223372036854775807) :
    Calls Try.prog 17 #[.slice A n c, .slice A' n d] w fun e w' => e = .returned (.bool true) ∧ Below w.heap.size w w' := by
  have HA := Lib.hid h
  have HB := Lib.hid h'
  clear h h'
  go_enter Try.func17, Try.ntmps17
  go_wp2_with fail
  go_loopg [5] n (fun gg s5 wr => ∃ (i : Nat), s5 = .int .i64 i ∧ i ≤ n ∧ n - i ≤ gg ∧ Aside (Below w.heap.size w wr))
  case atStart => exact ⟨0, rfl, Nat.zero_le _, by omega, Below.refl _ _⟩
  case round =>
    obtain ⟨i, rfl, hi, hg, W⟩ := hrel
    obtain ⟨wv, rfl⟩ : ∃ wv, wv = wr := ⟨wr, rfl⟩
    by_cases hlt : i < n
    · obtain ⟨x, hx⟩ := HA.out.get hlt
      obtain ⟨ba, oa, eA, _, xa0, xa1, xa2⟩ := Ls.pt (HA.out.below W.out hB) hx
      obtain ⟨bb, ob, eB, _, yb0, yb1, yb2⟩ := Ls.pt (HB.out.below W.out hB) hx
      subst eA eB
      have i1 : (i : Int) < (n : Int) := by omega
      have i0 : (0 : Int) ≤ (i : Int) := by omega
      have hbal : ba < wv.heap.size := World.block_lt_of_cell? wv _ xa0
      have hbbl : bb < wv.heap.size := World.block_lt_of_cell? wv _ yb0
      have p0 := Wb.at_ xa0
      have p1 := Wb.at_ xa1
      have p2 := Wb.at_ xa2
      have p3 := Wb.at_ yb0
      have p4 := Wb.at_ yb1
      have p5 := Wb.at_ yb2
      clear xa0 xa1 xa2 yb0 yb1 yb2 hx
      go_wp2_with fail
      refine wp_region_plan [([0, 1, 2, 3, 4, 5, 6, 7, 8], none)] (by kernel_rfl) (by kernel_rfl) ?_
      refine seg_end _ (by dsimp only [pick, at_]) ?_
      repeat (go_big_quiet_step (fail))
      refine wpQuiet_nil ?_
      refine NoPanic.normal ?_
      clear p0 p1 p2 p3 p4 p5
      go_wp2_with fail
      go_roundg (n - (i + 1))
      case measure => omega
      case rel => exact ⟨i + 1, by go_num, by omega, by omega, W.out.drew⟩
    · have i1 : ¬ (i : Int) < (n : Int) := by omega
      go_wp2_with fail
      go_ret
      exact ⟨rfl, W.out⟩
end Go.Proofs.Ytemmfcinpkfoiaa.mg
