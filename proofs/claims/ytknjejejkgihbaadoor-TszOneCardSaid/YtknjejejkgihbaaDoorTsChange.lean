/-
  Tsz: the program's way to write a time.
-/
import Derived.Test.YtknjejejkgihbaaDoorTsWrite
namespace Go.Proofs.YtknjejejkgihbaaDoor.ts
open Go.ChangeShapes Go.WideShapes Go.ChangeAt Go.RowKit plain words ord mem bitm

theorem PW.chgF2 {H N : Nat} {w w' : World} {pe pw : Nat} {r r' : Option Nat} {X X' : List Bool} {t d : Int} {v s : Nat} {a b : Win} (h : PW H w pe pw r X t d v a s b) (h' : PW H w' pe pw r' X' t d v a s b) (hc : Chg (Touch pe pw r) w w') (hN : N ≠ pe ∧ N ≠ pw ∧ some N ≠ r) : Chg (fun k => k ≠ pe ∧ k ≠ N) w w' :=
  ⟨hc.os, hc.tape, hc.output, hc.size, fun k hk hn => by
    by_cases e : k = pe
    · subst e; exact h'.enc.trans h.enc.symm
    · obtain rfl : k = N := Classical.not_not.1 (fun e2 => hn ⟨e, e2⟩)
      exact hc.block k hk (n_t hN.1 hN.2.1 hN.2.2)⟩
def NoFit (k : Nat) (x : Int) : Prop := (1 ≤ k → ¬ (-63 ≤ x ∧ x ≤ 64)) ∧ (2 ≤ k → ¬ (-255 ≤ x ∧ x ≤ 256)) ∧ (3 ≤ k → ¬ (-2047 ≤ x ∧ x ≤ 2048))
theorem idx0 (w : World) : (Instr.index 97 (.agg #[.int .i64 7, .int .i64 63, .int .i64 9, .int .i64 255, .int .i64 12, .int .i64 2047]) (.int .i64 0)).run Tryd.prog w = .ok (.agg #[.int .i64 7, .int .i64 63]) w := by
  have h := Tryd.underlying97
  simp [Instr.index, run_underlying h, asIntOf, go_sem]
theorem idx1 (w : World) : (Instr.index 97 (.agg #[.int .i64 7, .int .i64 63, .int .i64 9, .int .i64 255, .int .i64 12, .int .i64 2047]) (.int .i64 1)).run Tryd.prog w = .ok (.agg #[.int .i64 9, .int .i64 255]) w := by
  have h := Tryd.underlying97
  simp [Instr.index, run_underlying h, asIntOf, go_sem]
theorem idx2 (w : World) : (Instr.index 97 (.agg #[.int .i64 7, .int .i64 63, .int .i64 9, .int .i64 255, .int .i64 12, .int .i64 2047]) (.int .i64 2)).run Tryd.prog w = .ok (.agg #[.int .i64 12, .int .i64 2047]) w := by
  have h := Tryd.underlying97
  simp [Instr.index, run_underlying h, asIntOf, go_sem]
theorem Lay.cells {w : World} (h : Lay w) : w.cell? ⟨0, 0, none⟩ = some (.int .i64 7) ∧ w.cell? ⟨0, 1, none⟩ = some (.int .i64 63) ∧ w.cell? ⟨0, 2, none⟩ = some (.int .i64 9) ∧ w.cell? ⟨0, 3, none⟩ = some (.int .i64 255) ∧ w.cell? ⟨0, 4, none⟩ = some (.int .i64 12) ∧ w.cell? ⟨0, 5, none⟩ = some (.int .i64 2047) :=
  ⟨h.cls 0 7 rfl, h.cls 1 63 rfl, h.cls 2 9 rfl, h.cls 3 255 rfl, h.cls 4 12 rfl, h.cls 5 2047 rfl⟩
set_option maxHeartbeats 1000000 in
set_option maxRecDepth 100000 in
theorem change_x (H : Nat) (w : World) (pe pw : Nat) (r : Option Nat) (X : List Bool) (t d : Int) (v : Nat) (a : Win) (s : Nat) (b : Win) (h : PW H w pe pw r X t d v a s b) (hl : X.length ≤ 900000000) (x : Int) (hx : -4611686018427387904 ≤ x ∧ x ≤ 4611686018427387904) :
    Calls Tryd.prog 41 #[.pointer (some ⟨pe, 0, none⟩), .int .i64 x] w (RetPW H w pe pw r (X ++ timeB x) t d v a s b) := by
  have PH := Lib.hid h
  obtain ⟨⟨c0, _, _⟩, _⟩ := h.cells
  by_cases h0 : x = 0
  · subst h0
    have HP := Lib.hid (h.put (by omega) 0 (by unfold lt64; omega) 1 (by omega))
    have E1 := Lib.hid (show timeB 0 = bitsOf 0 1 from rfl)
    clear h
    go_enter Tryd.func41, Tryd.ntmps41
    go_wp2_with (fail)
    refine HP.out.mono ?_
    rintro e w1 h1
    have h3 := h1.1
    subst h3
    have H1 := Lib.hid h1
    clear h1
    go_wp2_with (fail)
    go_end0
    rw [E1.out]
    exact H1.out
  · have hz : (x == 0) = false := by simpa using h0
    obtain ⟨l0, l1, l2, l3, l4, l5⟩ := h.lay.cells
    clear h
    go_enter Tryd.func41, Tryd.ntmps41
    go_wp2_with (fail)
    go_loopg [4, 5, 14] 3 (fun gg s4 s5 s14 wr => ∃ k : Nat, k ≤ 3 ∧ 3 - k ≤ gg ∧ s14 = .int .i64 k ∧ Aside (NoFit k x) ∧ Aside (PW H wr pe pw r X t d v a s b) ∧ Aside (Below w.heap.size w wr))
    case atStart => exact ⟨0, by omega, by omega, rfl, ⟨by omega, by omega, by omega⟩, PH.out, Below.refl _ _⟩
    case round =>
      clear PH c0 l0 l1 l2 l3 l4 l5
      obtain ⟨k, hk, hg, rfl, HNF, HP, HB⟩ := hrel
      have hk4 : k = 0 ∨ k = 1 ∨ k = 2 ∨ k = 3 := by omega
      rcases hk4 with rfl | rfl | rfl | rfl
      · obtain ⟨N, hN⟩ : ∃ N, wr.heap.size = N := ⟨_, rfl⟩
        obtain ⟨w3, hw3⟩ : ∃ w3, wr.alloc (.cells #[.int .i64 7, .int .i64 63] 96) = w3 := ⟨_, rfl⟩
        have hb3 : Below wr.heap.size wr w3 := by rw [← hw3]; exact (Below.refl _ _).alloc (Nat.le_refl _) _
        have hg3 : w3.heap[N]? = some (.cells #[.int .i64 7, .int .i64 63] 96 (0, 0)) := by rw [← hw3, ← hN]; exact alloc_new _ _
        have P3 := Lib.hid (HP.out.below hb3)
        have B3 := Lib.hid (HB.out.trans (hb3.mono HB.out.size))
        have hc0 : w3.cell? ⟨N, 0, none⟩ = some (.int .i64 7) := by rw [cell_of_row _ _ _ _ _ _ hg3]; rfl
        have hc1 : w3.cell? ⟨N, 1, none⟩ = some (.int .i64 63) := by rw [cell_of_row _ _ _ _ _ _ hg3]; rfl
        have HPN := Lib.hid (show N ≠ pe ∧ N ≠ pw ∧ some N ≠ r from by
          have h1 := blk_lt HP.out.enc
          have h2 := HP.out.wr.lt
          refine ⟨by omega, by omega, fun e => ?_⟩
          cases e
          have := HP.out.wr.row_lt
          omega)
        have G3 := Lib.hid hg3
        have HW3 := Lib.hid hw3
        have HN := Lib.hid hN
        clear hb3 hg3 hw3 hN
        have ix := idx0
        by_cases hc : -63 ≤ x ∧ x ≤ 64
        · have hne := HNF.out
          obtain ⟨p1, p2⟩ := hc
          obtain ⟨V, hV⟩ : ∃ V : Nat, x + 63 = V := ⟨(x + 63).toNat, by omega⟩
          have hV64 : lt64 V := by unfold lt64; omega
          have E1 := Lib.hid (show timeB x = bitsOf 2 2 ++ bitsOf V 7 by unfold timeB; rw [if_neg h0, if_pos (And.intro p1 p2)]; rw [show (x + 63).toNat = V from by omega])
          have hw : IntKind.i64.wrap (x + 63) = (V : Int) := by rw [IntWalk.i64_in _ (by omega)]; exact hV
          have hm : (V : Int) % 18446744073709551616 = (V : Int) := by omega
          have HI := Lib.hid (And.intro hw hm)
          clear hw hm hV hne
          have d1 : decide (-63 ≤ x) = true := by simp; omega
          have d2 : decide (x ≤ 64) = true := by simp; omega
          go_wp2_with (fail)
          rw [HN.out, HW3.out]
          clear d1 d2
          obtain ⟨⟨k0, _, _⟩, _⟩ := P3.out.cells
          have hltp : pe < w3.heap.size := blk_lt P3.out.enc
          clear hltp
          replace k0 := Wf.at_ (F := fun k => k ≠ pe ∧ k ≠ N) k0 (fun e => e.1 rfl)
          refine fr.wp_region_tree (F := fun k => k ≠ pe ∧ k ≠ N) (.reads [0, 1, 2, 3, 4, 5, 6, 7, 8, 9] (.one 10 false .stop)) (by kernel_rfl) (by kernel_rfl) ?_
          refine fr.tr_reads _ (by dsimp only [pick, at_]) ?_
          repeat (go_big_quiet_step (fail))
          refine wpQuiet_nil ?_
          clear k0
          refine fr.tr_one _ (by dsimp only [pick, at_]) ?_
          intro K1 g1 g2
          clear g1
          have HQ := Lib.hid (P3.out.drew.put (by omega) 2 (by unfold lt64; omega) 2 (by omega))
          go_wp2_with (fail)
          refine HQ.out.mono ?_
          rintro e w4 ⟨rfl, hk4, r4, X4, HX4, hp4, hr4⟩
          have hF4 := P3.out.chgF2 hp4 ((touch_none (words.below_drewN _ w3 1)).trans hk4 (fun _ _ e => e)) HPN.out
          have P4 := Lib.hid hp4
          have K4 := Lib.hid ((touch_none (pe := pe) (pw := pw) (r := r) (words.below_drewN _ w3 1)).trans hk4 (fun _ _ e => e))
          have R4 := Lib.hid hr4
          have n4 := n_r HPN.out.2.2 hr4 (by have := blk_lt G3.out; simp; omega)
          have G4 := Lib.hid (hF4.blk G3.out (fun e => e.2 rfl))
          have HF4 := Lib.hid hF4
          have hX4 : X4.length ≤ 900000064 := by rw [HX4.out, List.length_append, bitsOf_len]; omega
          clear hF4 hk4 hp4 hr4 HQ
          go_wp2_with (fail)
          refine g2 _ _ HF4.out ?_
          clear g2
          refine fr.tr_stop ?_
          refine NoPanic.normal ?_
          go_wp2_with (fail)
          obtain ⟨⟨k0, _, _⟩, _⟩ := P4.out.cells
          replace k0 := Wf.at_ (F := fun k => k ≠ pe ∧ k ≠ N) k0 (fun e => e.1 rfl)
          have m0 := Wf.at_ (F := fun k => k ≠ pe ∧ k ≠ N) (show w4.cell? ⟨N, 0, none⟩ = _ by rw [cell_of_row _ _ _ _ _ _ G4.out]; rfl) (fun e => e.2 rfl)
          have m1 := Wf.at_ (F := fun k => k ≠ pe ∧ k ≠ N) (show w4.cell? ⟨N, 1, none⟩ = _ by rw [cell_of_row _ _ _ _ _ _ G4.out]; rfl) (fun e => e.2 rfl)
          obtain ⟨i1, i2⟩ := HI.out
          refine fr.wp_region_tree (F := fun k => k ≠ pe ∧ k ≠ N) (.reads [0, 1, 2, 3, 4, 5, 6, 7, 8, 9, 10] (.one 11 false .stop)) (by kernel_rfl) (by kernel_rfl) ?_
          refine fr.tr_reads _ (by dsimp only [pick, at_]) ?_
          repeat (go_big_quiet_step (fail))
          refine wpQuiet_nil ?_
          clear k0 m0 m1 i1 i2
          refine fr.tr_one _ (by dsimp only [pick, at_]) ?_
          intro K1 g1 g2
          clear g1
          have HQ := Lib.hid (P4.out.drew.put (by omega) V hV64 7 (by omega))
          go_wp2_with (fail)
          refine HQ.out.mono ?_
          rintro e w5 ⟨rfl, hk5, r5, X5, HX5, hp5, hr5⟩
          have hF5 := P4.out.chgF2 hp5 ((touch_none (words.below_drewN _ w4 1)).trans hk5 (fun _ _ e => e)) ⟨HPN.out.1, HPN.out.2.1, n4⟩
          have P5 := Lib.hid hp5
          have K5 := Lib.hid ((touch_none (pe := pe) (pw := pw) (r := r4) (words.below_drewN _ w4 1)).trans hk5 (fun _ _ e => e))
          have R5 := Lib.hid hr5
          have HF5 := Lib.hid hF5
          clear hF5 hk5 hp5 hr5 HQ
          go_wp2_with (fail)
          refine g2 _ _ HF5.out ?_
          clear g2
          refine fr.tr_stop ?_
          refine NoPanic.normal ?_
          go_wp2_with (fail)
          go_end0
          rw [E1.out]
          exact ⟨rfl, touch_chg (touch_chg (touch_none B3.out) (.inl rfl) K4.out) (two_r (.inl rfl) R4.out B3.out.size) K5.out, r5, X5, Lib.hid (by rw [HX5.out, HX4.out, List.append_assoc]), P5.out, two_r (two_r (.inl rfl) R4.out B3.out.size) R5.out (Nat.le_trans B3.out.size K4.out.size)⟩
        · have HNF2 := Lib.hid (show NoFit 1 x from ⟨fun _ => hc, fun _ => by omega, fun _ => by omega⟩)
          rcases (show x < -63 ∨ 64 < x by omega) with q1 | q1
          · have d1 : decide (-63 ≤ x) = false := by simp; omega
            go_wp2_with (fail)
            rw [HW3.out]
            go_roundg (3 - 1)
            case measure => omega
            case rel => exact ⟨1, by omega, by omega, rfl, HNF2.out, P3.out, B3.out⟩
          · have d1 : decide (-63 ≤ x) = true := by simp; omega
            have d2 : decide (x ≤ 64) = false := by simp; omega
            go_wp2_with (fail)
            rw [HW3.out]
            go_roundg (3 - 1)
            case measure => omega
            case rel => exact ⟨1, by omega, by omega, rfl, HNF2.out, P3.out, B3.out⟩
      · obtain ⟨N, hN⟩ : ∃ N, wr.heap.size = N := ⟨_, rfl⟩
        obtain ⟨w3, hw3⟩ : ∃ w3, wr.alloc (.cells #[.int .i64 9, .int .i64 255] 96) = w3 := ⟨_, rfl⟩
        have hb3 : Below wr.heap.size wr w3 := by rw [← hw3]; exact (Below.refl _ _).alloc (Nat.le_refl _) _
        have hg3 : w3.heap[N]? = some (.cells #[.int .i64 9, .int .i64 255] 96 (0, 0)) := by rw [← hw3, ← hN]; exact alloc_new _ _
        have P3 := Lib.hid (HP.out.below hb3)
        have B3 := Lib.hid (HB.out.trans (hb3.mono HB.out.size))
        have hc0 : w3.cell? ⟨N, 0, none⟩ = some (.int .i64 9) := by rw [cell_of_row _ _ _ _ _ _ hg3]; rfl
        have hc1 : w3.cell? ⟨N, 1, none⟩ = some (.int .i64 255) := by rw [cell_of_row _ _ _ _ _ _ hg3]; rfl
        have HPN := Lib.hid (show N ≠ pe ∧ N ≠ pw ∧ some N ≠ r from by
          have h1 := blk_lt HP.out.enc
          have h2 := HP.out.wr.lt
          refine ⟨by omega, by omega, fun e => ?_⟩
          cases e
          have := HP.out.wr.row_lt
          omega)
        have G3 := Lib.hid hg3
        have HW3 := Lib.hid hw3
        have HN := Lib.hid hN
        clear hb3 hg3 hw3 hN
        have ix := idx1
        by_cases hc : -255 ≤ x ∧ x ≤ 256
        · have hne := HNF.out
          obtain ⟨p1, p2⟩ := hc
          obtain ⟨V, hV⟩ : ∃ V : Nat, x + 255 = V := ⟨(x + 255).toNat, by omega⟩
          have hV64 : lt64 V := by unfold lt64; omega
          have E1 := Lib.hid (show timeB x = bitsOf 6 3 ++ bitsOf V 9 by unfold timeB; rw [if_neg h0, if_neg (HNF.out.1 (by omega)), if_pos (And.intro p1 p2)]; rw [show (x + 255).toNat = V from by omega])
          have hw : IntKind.i64.wrap (x + 255) = (V : Int) := by rw [IntWalk.i64_in _ (by omega)]; exact hV
          have hm : (V : Int) % 18446744073709551616 = (V : Int) := by omega
          have HI := Lib.hid (And.intro hw hm)
          clear hw hm hV hne
          have d1 : decide (-255 ≤ x) = true := by simp; omega
          have d2 : decide (x ≤ 256) = true := by simp; omega
          go_wp2_with (fail)
          rw [HN.out, HW3.out]
          clear d1 d2
          obtain ⟨⟨k0, _, _⟩, _⟩ := P3.out.cells
          have hltp : pe < w3.heap.size := blk_lt P3.out.enc
          clear hltp
          replace k0 := Wf.at_ (F := fun k => k ≠ pe ∧ k ≠ N) k0 (fun e => e.1 rfl)
          refine fr.wp_region_tree (F := fun k => k ≠ pe ∧ k ≠ N) (.reads [0, 1, 2, 3, 4, 5, 6, 7, 8, 9] (.one 10 false .stop)) (by kernel_rfl) (by kernel_rfl) ?_
          refine fr.tr_reads _ (by dsimp only [pick, at_]) ?_
          repeat (go_big_quiet_step (fail))
          refine wpQuiet_nil ?_
          clear k0
          refine fr.tr_one _ (by dsimp only [pick, at_]) ?_
          intro K1 g1 g2
          clear g1
          have HQ := Lib.hid (P3.out.drew.put (by omega) 6 (by unfold lt64; omega) 3 (by omega))
          go_wp2_with (fail)
          refine HQ.out.mono ?_
          rintro e w4 ⟨rfl, hk4, r4, X4, HX4, hp4, hr4⟩
          have hF4 := P3.out.chgF2 hp4 ((touch_none (words.below_drewN _ w3 1)).trans hk4 (fun _ _ e => e)) HPN.out
          have P4 := Lib.hid hp4
          have K4 := Lib.hid ((touch_none (pe := pe) (pw := pw) (r := r) (words.below_drewN _ w3 1)).trans hk4 (fun _ _ e => e))
          have R4 := Lib.hid hr4
          have n4 := n_r HPN.out.2.2 hr4 (by have := blk_lt G3.out; simp; omega)
          have G4 := Lib.hid (hF4.blk G3.out (fun e => e.2 rfl))
          have HF4 := Lib.hid hF4
          have hX4 : X4.length ≤ 900000064 := by rw [HX4.out, List.length_append, bitsOf_len]; omega
          clear hF4 hk4 hp4 hr4 HQ
          go_wp2_with (fail)
          refine g2 _ _ HF4.out ?_
          clear g2
          refine fr.tr_stop ?_
          refine NoPanic.normal ?_
          go_wp2_with (fail)
          obtain ⟨⟨k0, _, _⟩, _⟩ := P4.out.cells
          replace k0 := Wf.at_ (F := fun k => k ≠ pe ∧ k ≠ N) k0 (fun e => e.1 rfl)
          have m0 := Wf.at_ (F := fun k => k ≠ pe ∧ k ≠ N) (show w4.cell? ⟨N, 0, none⟩ = _ by rw [cell_of_row _ _ _ _ _ _ G4.out]; rfl) (fun e => e.2 rfl)
          have m1 := Wf.at_ (F := fun k => k ≠ pe ∧ k ≠ N) (show w4.cell? ⟨N, 1, none⟩ = _ by rw [cell_of_row _ _ _ _ _ _ G4.out]; rfl) (fun e => e.2 rfl)
          obtain ⟨i1, i2⟩ := HI.out
          refine fr.wp_region_tree (F := fun k => k ≠ pe ∧ k ≠ N) (.reads [0, 1, 2, 3, 4, 5, 6, 7, 8, 9, 10] (.one 11 false .stop)) (by kernel_rfl) (by kernel_rfl) ?_
          refine fr.tr_reads _ (by dsimp only [pick, at_]) ?_
          repeat (go_big_quiet_step (fail))
          refine wpQuiet_nil ?_
          clear k0 m0 m1 i1 i2
          refine fr.tr_one _ (by dsimp only [pick, at_]) ?_
          intro K1 g1 g2
          clear g1
          have HQ := Lib.hid (P4.out.drew.put (by omega) V hV64 9 (by omega))
          go_wp2_with (fail)
          refine HQ.out.mono ?_
          rintro e w5 ⟨rfl, hk5, r5, X5, HX5, hp5, hr5⟩
          have hF5 := P4.out.chgF2 hp5 ((touch_none (words.below_drewN _ w4 1)).trans hk5 (fun _ _ e => e)) ⟨HPN.out.1, HPN.out.2.1, n4⟩
          have P5 := Lib.hid hp5
          have K5 := Lib.hid ((touch_none (pe := pe) (pw := pw) (r := r4) (words.below_drewN _ w4 1)).trans hk5 (fun _ _ e => e))
          have R5 := Lib.hid hr5
          have HF5 := Lib.hid hF5
          clear hF5 hk5 hp5 hr5 HQ
          go_wp2_with (fail)
          refine g2 _ _ HF5.out ?_
          clear g2
          refine fr.tr_stop ?_
          refine NoPanic.normal ?_
          go_wp2_with (fail)
          go_end0
          rw [E1.out]
          exact ⟨rfl, touch_chg (touch_chg (touch_none B3.out) (.inl rfl) K4.out) (two_r (.inl rfl) R4.out B3.out.size) K5.out, r5, X5, Lib.hid (by rw [HX5.out, HX4.out, List.append_assoc]), P5.out, two_r (two_r (.inl rfl) R4.out B3.out.size) R5.out (Nat.le_trans B3.out.size K4.out.size)⟩
        · have HNF2 := Lib.hid (show NoFit 2 x from ⟨fun _ => HNF.out.1 (by omega), fun _ => hc, fun _ => by omega⟩)
          rcases (show x < -255 ∨ 256 < x by omega) with q1 | q1
          · have d1 : decide (-255 ≤ x) = false := by simp; omega
            go_wp2_with (fail)
            rw [HW3.out]
            go_roundg (3 - 2)
            case measure => omega
            case rel => exact ⟨2, by omega, by omega, rfl, HNF2.out, P3.out, B3.out⟩
          · have d1 : decide (-255 ≤ x) = true := by simp; omega
            have d2 : decide (x ≤ 256) = false := by simp; omega
            go_wp2_with (fail)
            rw [HW3.out]
            go_roundg (3 - 2)
            case measure => omega
            case rel => exact ⟨2, by omega, by omega, rfl, HNF2.out, P3.out, B3.out⟩
      · obtain ⟨N, hN⟩ : ∃ N, wr.heap.size = N := ⟨_, rfl⟩
        obtain ⟨w3, hw3⟩ : ∃ w3, wr.alloc (.cells #[.int .i64 12, .int .i64 2047] 96) = w3 := ⟨_, rfl⟩
        have hb3 : Below wr.heap.size wr w3 := by rw [← hw3]; exact (Below.refl _ _).alloc (Nat.le_refl _) _
        have hg3 : w3.heap[N]? = some (.cells #[.int .i64 12, .int .i64 2047] 96 (0, 0)) := by rw [← hw3, ← hN]; exact alloc_new _ _
        have P3 := Lib.hid (HP.out.below hb3)
        have B3 := Lib.hid (HB.out.trans (hb3.mono HB.out.size))
        have hc0 : w3.cell? ⟨N, 0, none⟩ = some (.int .i64 12) := by rw [cell_of_row _ _ _ _ _ _ hg3]; rfl
        have hc1 : w3.cell? ⟨N, 1, none⟩ = some (.int .i64 2047) := by rw [cell_of_row _ _ _ _ _ _ hg3]; rfl
        have HPN := Lib.hid (show N ≠ pe ∧ N ≠ pw ∧ some N ≠ r from by
          have h1 := blk_lt HP.out.enc
          have h2 := HP.out.wr.lt
          refine ⟨by omega, by omega, fun e => ?_⟩
          cases e
          have := HP.out.wr.row_lt
          omega)
        have G3 := Lib.hid hg3
        have HW3 := Lib.hid hw3
        have HN := Lib.hid hN
        clear hb3 hg3 hw3 hN
        have ix := idx2
        by_cases hc : -2047 ≤ x ∧ x ≤ 2048
        · have hne := HNF.out
          obtain ⟨p1, p2⟩ := hc
          obtain ⟨V, hV⟩ : ∃ V : Nat, x + 2047 = V := ⟨(x + 2047).toNat, by omega⟩
          have hV64 : lt64 V := by unfold lt64; omega
          have E1 := Lib.hid (show timeB x = bitsOf 14 4 ++ bitsOf V 12 by unfold timeB; rw [if_neg h0, if_neg (HNF.out.1 (by omega)), if_neg (HNF.out.2.1 (by omega)), if_pos (And.intro p1 p2)]; rw [show (x + 2047).toNat = V from by omega])
          have hw : IntKind.i64.wrap (x + 2047) = (V : Int) := by rw [IntWalk.i64_in _ (by omega)]; exact hV
          have hm : (V : Int) % 18446744073709551616 = (V : Int) := by omega
          have HI := Lib.hid (And.intro hw hm)
          clear hw hm hV hne
          have d1 : decide (-2047 ≤ x) = true := by simp; omega
          have d2 : decide (x ≤ 2048) = true := by simp; omega
          go_wp2_with (fail)
          rw [HN.out, HW3.out]
          clear d1 d2
          obtain ⟨⟨k0, _, _⟩, _⟩ := P3.out.cells
          have hltp : pe < w3.heap.size := blk_lt P3.out.enc
          clear hltp
          replace k0 := Wf.at_ (F := fun k => k ≠ pe ∧ k ≠ N) k0 (fun e => e.1 rfl)
          refine fr.wp_region_tree (F := fun k => k ≠ pe ∧ k ≠ N) (.reads [0, 1, 2, 3, 4, 5, 6, 7, 8, 9] (.one 10 false .stop)) (by kernel_rfl) (by kernel_rfl) ?_
          refine fr.tr_reads _ (by dsimp only [pick, at_]) ?_
          repeat (go_big_quiet_step (fail))
          refine wpQuiet_nil ?_
          clear k0
          refine fr.tr_one _ (by dsimp only [pick, at_]) ?_
          intro K1 g1 g2
          clear g1
          have HQ := Lib.hid (P3.out.drew.put (by omega) 14 (by unfold lt64; omega) 4 (by omega))
          go_wp2_with (fail)
          refine HQ.out.mono ?_
          rintro e w4 ⟨rfl, hk4, r4, X4, HX4, hp4, hr4⟩
          have hF4 := P3.out.chgF2 hp4 ((touch_none (words.below_drewN _ w3 1)).trans hk4 (fun _ _ e => e)) HPN.out
          have P4 := Lib.hid hp4
          have K4 := Lib.hid ((touch_none (pe := pe) (pw := pw) (r := r) (words.below_drewN _ w3 1)).trans hk4 (fun _ _ e => e))
          have R4 := Lib.hid hr4
          have n4 := n_r HPN.out.2.2 hr4 (by have := blk_lt G3.out; simp; omega)
          have G4 := Lib.hid (hF4.blk G3.out (fun e => e.2 rfl))
          have HF4 := Lib.hid hF4
          have hX4 : X4.length ≤ 900000064 := by rw [HX4.out, List.length_append, bitsOf_len]; omega
          clear hF4 hk4 hp4 hr4 HQ
          go_wp2_with (fail)
          refine g2 _ _ HF4.out ?_
          clear g2
          refine fr.tr_stop ?_
          refine NoPanic.normal ?_
          go_wp2_with (fail)
          obtain ⟨⟨k0, _, _⟩, _⟩ := P4.out.cells
          replace k0 := Wf.at_ (F := fun k => k ≠ pe ∧ k ≠ N) k0 (fun e => e.1 rfl)
          have m0 := Wf.at_ (F := fun k => k ≠ pe ∧ k ≠ N) (show w4.cell? ⟨N, 0, none⟩ = _ by rw [cell_of_row _ _ _ _ _ _ G4.out]; rfl) (fun e => e.2 rfl)
          have m1 := Wf.at_ (F := fun k => k ≠ pe ∧ k ≠ N) (show w4.cell? ⟨N, 1, none⟩ = _ by rw [cell_of_row _ _ _ _ _ _ G4.out]; rfl) (fun e => e.2 rfl)
          obtain ⟨i1, i2⟩ := HI.out
          refine fr.wp_region_tree (F := fun k => k ≠ pe ∧ k ≠ N) (.reads [0, 1, 2, 3, 4, 5, 6, 7, 8, 9, 10] (.one 11 false .stop)) (by kernel_rfl) (by kernel_rfl) ?_
          refine fr.tr_reads _ (by dsimp only [pick, at_]) ?_
          repeat (go_big_quiet_step (fail))
          refine wpQuiet_nil ?_
          clear k0 m0 m1 i1 i2
          refine fr.tr_one _ (by dsimp only [pick, at_]) ?_
          intro K1 g1 g2
          clear g1
          have HQ := Lib.hid (P4.out.drew.put (by omega) V hV64 12 (by omega))
          go_wp2_with (fail)
          refine HQ.out.mono ?_
          rintro e w5 ⟨rfl, hk5, r5, X5, HX5, hp5, hr5⟩
          have hF5 := P4.out.chgF2 hp5 ((touch_none (words.below_drewN _ w4 1)).trans hk5 (fun _ _ e => e)) ⟨HPN.out.1, HPN.out.2.1, n4⟩
          have P5 := Lib.hid hp5
          have K5 := Lib.hid ((touch_none (pe := pe) (pw := pw) (r := r4) (words.below_drewN _ w4 1)).trans hk5 (fun _ _ e => e))
          have R5 := Lib.hid hr5
          have HF5 := Lib.hid hF5
          clear hF5 hk5 hp5 hr5 HQ
          go_wp2_with (fail)
          refine g2 _ _ HF5.out ?_
          clear g2
          refine fr.tr_stop ?_
          refine NoPanic.normal ?_
          go_wp2_with (fail)
          go_end0
          rw [E1.out]
          exact ⟨rfl, touch_chg (touch_chg (touch_none B3.out) (.inl rfl) K4.out) (two_r (.inl rfl) R4.out B3.out.size) K5.out, r5, X5, Lib.hid (by rw [HX5.out, HX4.out, List.append_assoc]), P5.out, two_r (two_r (.inl rfl) R4.out B3.out.size) R5.out (Nat.le_trans B3.out.size K4.out.size)⟩
        · have HNF2 := Lib.hid (show NoFit 3 x from ⟨fun _ => HNF.out.1 (by omega), fun _ => HNF.out.2.1 (by omega), fun _ => hc⟩)
          rcases (show x < -2047 ∨ 2048 < x by omega) with q1 | q1
          · have d1 : decide (-2047 ≤ x) = false := by simp; omega
            go_wp2_with (fail)
            rw [HW3.out]
            go_roundg (3 - 3)
            case measure => omega
            case rel => exact ⟨3, by omega, by omega, rfl, HNF2.out, P3.out, B3.out⟩
          · have d1 : decide (-2047 ≤ x) = true := by simp; omega
            have d2 : decide (x ≤ 2048) = false := by simp; omega
            go_wp2_with (fail)
            rw [HW3.out]
            go_roundg (3 - 3)
            case measure => omega
            case rel => exact ⟨3, by omega, by omega, rfl, HNF2.out, P3.out, B3.out⟩
      · obtain ⟨n1, n2, n3⟩ := HNF.out
        replace n1 := n1 (by omega)
        replace n2 := n2 (by omega)
        replace n3 := n3 (by omega)
        obtain ⟨V, hV⟩ : ∃ V : Nat, x % 18446744073709551616 = V := ⟨(x % 18446744073709551616).toNat, by omega⟩
        have hV64 : lt64 V := by unfold lt64; omega
        have E1 := Lib.hid (show timeB x = bitsOf 15 4 ++ bitsOf V 64 by unfold timeB; rw [if_neg h0, if_neg n1, if_neg n2, if_neg n3]; rw [show (x % 18446744073709551616).toNat = V from by omega])
        have HV := Lib.hid hV
        clear hV n1 n2 n3
        obtain ⟨⟨k0, _, _⟩, _⟩ := HP.out.cells
        have HQ := Lib.hid (HP.out.put (by omega) 15 (by unfold lt64; omega) 4 (by omega))
        go_wp2_with (fail)
        refine HQ.out.mono ?_
        rintro e w4 ⟨rfl, hk4, r4, X4, HX4, hp4, hr4⟩
        have P4 := Lib.hid hp4
        have K4 := Lib.hid hk4
        have R4 := Lib.hid hr4
        have hX4 : X4.length ≤ 900000064 := by rw [HX4.out, List.length_append, bitsOf_len]; omega
        clear hk4 hp4 hr4 HQ k0
        obtain ⟨⟨k0, _, _⟩, _⟩ := P4.out.cells
        have HQ := P4.out.put (by omega) V hV64 64 (by omega)
        rw [← HV.out, ← IntKind.wrap_u64] at HQ
        replace HQ := Lib.hid HQ
        go_wp2_with (fail)
        refine HQ.out.mono ?_
        rintro e w5 ⟨rfl, hk5, r5, X5, HX5, hp5, hr5⟩
        have P5 := Lib.hid hp5
        have K5 := Lib.hid hk5
        have R5 := Lib.hid hr5
        clear hk5 hp5 hr5 HQ
        go_wp2_with (fail)
        go_end0
        rw [E1.out]
        exact ⟨rfl, touch_chg (touch_chg (touch_none HB.out) (.inl rfl) K4.out) (two_r (.inl rfl) R4.out HB.out.size) K5.out, r5, X5, Lib.hid (by rw [HX5.out, HX4.out, List.append_assoc]), P5.out, two_r (two_r (.inl rfl) R4.out HB.out.size) R5.out (Nat.le_trans HB.out.size K4.out.size)⟩
end Go.Proofs.YtknjejejkgihbaaDoor.ts
