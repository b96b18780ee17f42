/-
  The law's same, at equal lists.
-/
import Derived.Test.YtmegkemileailaaGreatDoorClD
namespace Go.Proofs.YtmegkemileailaaGreatDoor.cl
open Go.ChangeShapes Go.WideShapes Go.ChangeAt Go.RowKit plain words ord mem uvs uvc

theorem rec_at {w : World} {B n i : Nat} {A : Option Addr} {l : List Rec} {x : Rec} (h : Ls RE w B A n l) (hx : l[i]? = some x) :
    ∃ b off, A = some ⟨b, off, none⟩ ∧ b < B ∧ w.cell? ⟨b, off + i * 5, none⟩ = some (.int .i64 x.sp) ∧ w.cell? ⟨b, off + i * 5 + 1, none⟩ = some (.string (tx x.id)) ∧ w.cell? ⟨b, off + i * 5 + 2, none⟩ = some (.int .i64 x.t) ∧ w.cell? ⟨b, off + i * 5 + 3, none⟩ = some (.int .u64 x.v) ∧ w.cell? ⟨b, off + i * 5 + 4, none⟩ = some (.int .u64 x.s) := by
  obtain ⟨b, off, rfl, hb, hc⟩ := h.at_ hx
  exact ⟨b, off, rfl, hb, hc 0 (by decide), hc 1 (by decide), hc 2 (by decide), hc 3 (by decide), hc 4 (by decide)⟩
set_option maxHeartbeats 1000000 in
set_option maxRecDepth 100000 in
theorem same_r (w : World) (B1 B2 n c1 c2 : Nat) (A1 A2 : Option Addr) (l : List Rec) (h1 : Ls RE w B1 A1 n l) (h2 : Ls RE w B2 A2 n l) (hB1 : B1 ≤ w.heap.size) (hB2 : B2 ≤ w.heap.size) (hn : n ≤ 1000000000) :
    Calls Tryz.prog 13 #[.slice A1 n c1, .slice A2 n c2] w fun e w' => e = .returned (.bool true) ∧ Below w.heap.size w w' := by
  have H1 := Lib.hid h1
  have H2 := Lib.hid h2
  clear h1 h2
  go_enter Tryz.func13, Tryz.ntmps13
  go_wp2_with (fail)
  go_loopg [5] n (fun gg s5 wr => ∃ (i : Nat), s5 = .int .i64 i ∧ i ≤ n ∧ n - i ≤ gg ∧ Aside (Below w.heap.size w wr))
  case atStart => exact ⟨0, rfl, Nat.zero_le _, by omega, Below.refl _ _⟩
  case round =>
    obtain ⟨i, rfl, hi, hg, BW⟩ := hrel
    obtain ⟨wv, rfl⟩ : ∃ wv, wv = wr := ⟨wr, rfl⟩
    by_cases hlt : i < n
    · have i1 : (i : Int) < (n : Int) := by omega
      have i0 : (0 : Int) ≤ (i : Int) := by omega
      obtain ⟨x, hx⟩ := H1.out.get hlt
      obtain ⟨b, off, eA, hb, c0, c1', c2', c3, c4⟩ := rec_at (H1.out.below BW.out hB1) hx
      obtain ⟨b', off', eA', hb', d0, d1, d2, d3, d4⟩ := rec_at (H2.out.below BW.out hB2) hx
      subst eA eA'
      obtain ⟨sp, id, t, v, s⟩ := x
      simp only at c0 c1' c2' c3 c4 d0 d1 d2 d3 d4
      have lb : b < wv.heap.size := World.block_lt_of_cell? wv _ c0
      have lb' : b' < wv.heap.size := World.block_lt_of_cell? wv _ d0
      have z0 := Wb.at_ c0
      have z1 := Wb.at_ c1'
      have z2 := Wb.at_ c2'
      have z3 := Wb.at_ c3
      have z4 := Wb.at_ c4
      have y0 := Wb.at_ d0
      have y1 := Wb.at_ d1
      have y2 := Wb.at_ d2
      have y3 := Wb.at_ d3
      have y4 := Wb.at_ d4
      clear hx
      go_wp2_with (fail)
      refine wp_region_plan [([0, 1, 2, 3, 4, 5, 6, 7, 8], none)] (by kernel_rfl) (by kernel_rfl) ?_
      refine seg_end _ (by dsimp only [pick, at_]) ?_
      repeat (go_big_quiet_step (fail))
      refine wpQuiet_nil (NoPanic.normal ?_)
      clear z0 z1 z2 z3 z4 y0 y1 y2 y3 y4
      go_wp2_with (fail)
      go_roundg (n - (i + 1))
      case measure => omega
      case rel => exact ⟨i + 1, by go_num, by omega, by omega, by first | exact BW.out | exact BW.out.drew⟩
    · have i1 : ¬ (i : Int) < (n : Int) := by omega
      go_wp2_with (fail)
      go_ret
      exact ⟨rfl, BW.out⟩
end Go.Proofs.YtmegkemileailaaGreatDoor.cl
