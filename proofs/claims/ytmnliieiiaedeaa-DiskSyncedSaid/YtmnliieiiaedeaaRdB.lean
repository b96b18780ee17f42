/-
  The document's disk: New, Clone, Files.
-/
import Derived.Test.YtmnliieiiaedeaaRdA
namespace Go.Proofs.Ytmnliieiiaedeaa.dk
open Go.ChangeShapes Go.WideShapes Go.ChangeAt Go.RowKit Go.Maps Go.Sort Go.Shelf plain words ord mem al

set_option maxRecDepth 100000 in
theorem new_r (w : World) (room : Int) : Calls Try.prog 22 #[.int .i64 room] w fun e w' => e = .returned (ptr w.heap.size) ∧ RM w' w.heap.size (fun k => k = w.heap.size) (newSt room) ∧ Below w.heap.size w w' ∧ w'.heap.size = w.heap.size + 1 := by
  obtain ⟨R, hR⟩ : ∃ R, max 0 room = R := ⟨_, rfl⟩
  have hR2 : (newSt room).room = R := by rw [← hR]; show max room 0 = _; omega
  have HR := Lib.hid hR
  have HR2 := Lib.hid hR2
  have hR3 : max room 0 = R := by omega
  clear hR2
  go_enter Try.func22, Try.ntmps22
  go_wp2_with fail
  go_ret
  have gr := alloc_new w (.cells #[.int .i64 R, .slice none 0 0, .slice none 0 0, .int .i64 0, .bool false, .int .i64 0, .int .i64 0, .int .i64 0, .bool false] 87)
  refine ⟨rfl, ⟨none, 0, none, 0, ⟨?_, ⟨Ls.nil _ _ _, fun _ => rfl, Nat.le_refl _, by omega⟩, Ls.nil _ _ _, fun _ => rfl, Nat.le_refl _, by omega, .nil⟩, fun a e => (by cases e), fun a e => (by cases e), rfl⟩, (Below.refl _ _).alloc (Nat.le_refl _) _, by simp⟩
  rw [gr, HR2.out]
  rfl
set_option maxHeartbeats 2000000 in
set_option maxRecDepth 100000 in
theorem clone_r (w : World) (r : Nat) (X : Nat → Prop) (st : St) (h : RM w r X st) (hs : Sm st) :
    Calls Try.prog 25 #[ptr r] w fun e w' => ∃ r2, e = .returned (ptr r2) ∧ RM w' r2 (fun k => w.heap.size ≤ k ∧ k < w'.heap.size) st ∧ Below w.heap.size w w' := by
  obtain ⟨A, c, A2, c2, hk, hA, hA2, hr⟩ := h
  have lr := blk_lt hk.blk
  have HK := Lib.hid hk
  obtain ⟨n, hn⟩ : ∃ n, st.last.length = n := ⟨_, rfl⟩
  obtain ⟨m, hm⟩ : ∃ m, st.pend.length = m := ⟨_, rfl⟩
  have gb := hk.blk
  rw [hn, hm] at gb
  have q0 : w.cell? ⟨r, 0, none⟩ = some (.int .i64 st.room) := by rw [cell_of_row _ _ _ _ _ _ gb]; rfl
  have q1 : w.cell? ⟨r, 1, none⟩ = some (.slice A n c) := by rw [cell_of_row _ _ _ _ _ _ gb]; rfl
  have q2 : w.cell? ⟨r, 2, none⟩ = some (.slice A2 m c2) := by rw [cell_of_row _ _ _ _ _ _ gb]; rfl
  have q3 : w.cell? ⟨r, 3, none⟩ = some (.int .i64 st.ops) := by rw [cell_of_row _ _ _ _ _ _ gb]; rfl
  have q4 : w.cell? ⟨r, 4, none⟩ = some (.bool false) := by rw [cell_of_row _ _ _ _ _ _ gb]; rfl
  have q5 : w.cell? ⟨r, 5, none⟩ = some (.int .i64 0) := by rw [cell_of_row _ _ _ _ _ _ gb]; rfl
  have q6 : w.cell? ⟨r, 6, none⟩ = some (.int .i64 0) := by rw [cell_of_row _ _ _ _ _ _ gb]; rfl
  have q7 : w.cell? ⟨r, 7, none⟩ = some (.int .i64 0) := by rw [cell_of_row _ _ _ _ _ _ gb]; rfl
  have q8 : w.cell? ⟨r, 8, none⟩ = some (.bool false) := by rw [cell_of_row _ _ _ _ _ _ gb]; rfl
  obtain ⟨w1, hw1⟩ : ∃ w1, w.alloc (.cells #[.int .i64 st.room, .slice none 0 0, .slice A2 m c2, .int .i64 st.ops, .bool false, .int .i64 0, .int .i64 0, .int .i64 0, .bool false] 87) = w1 := ⟨_, rfl⟩
  have hb1 : Below w.heap.size w w1 := by rw [← hw1]; exact (Below.refl _ _).alloc (Nat.le_refl _) _
  have hs1 : w1.heap.size = w.heap.size + 1 := by rw [← hw1]; simp
  have g1 : w1.heap[w.heap.size]? = some (.cells #[.int .i64 st.room, .slice none 0 0, .slice A2 m c2, .int .i64 st.ops, .bool false, .int .i64 0, .int .i64 0, .int .i64 0, .bool false] 87 (0, 0)) := by rw [← hw1]; exact alloc_new _ _
  have gr1 := blk_below hb1 gb lr
  have e1 : w1.cell? ⟨w.heap.size, 1, none⟩ = some (.slice none 0 0) := by rw [cell_of_row _ _ _ _ _ _ g1]; rfl
  have r1 : w1.cell? ⟨r, 1, none⟩ = some (.slice A n c) := by rw [cell_of_row _ _ _ _ _ _ gr1]; rfl
  have ls1 : w.heap.size < w1.heap.size := blk_lt g1
  have lr1 : r < w1.heap.size := blk_lt gr1
  have hfls := hk.fr.ls
  rw [hn] at hfls
  have hls1 := (hfls.below hb1 (Nat.le_refl _))
  have hnil1 := hk.fr.nil
  have hch := hk.ch
  rw [hm] at hch
  have hnil2 := hk.nil
  have hln : n ≤ 536870912 := by rw [← hn]; have := hs.len; omega
  have hlm : m ≤ 536870912 := by rw [← hm]; have := hs.len; omega
  have GB := Lib.hid gb
  have HN := Lib.hid (And.intro hn hm)
  have W1 := Lib.hid hw1
  have B1 := Lib.hid hb1
  have G1 := Lib.hid g1
  have CH := Lib.hid hch
  have HS1 := Lib.hid hs1
  clear hk hA hA2 hr hn hm gb hw1 hb1 g1 gr1 hfls hch hs1
  go_enter Try.func25, Try.ntmps25
  go_wp2_with fail
  rw [W1.out]
  have z1 := Wb.at_ e1
  have z2 := Wb.at_ r1
  clear q0 q1 q2 q3 q4 q5 q6 q7 q8
  refine wp_region_plan [([0, 1, 2, 3, 4, 5], some (6, true)), ([7], some (8, true)), ([], none)] (by kernel_rfl) (by kernel_rfl) ?_
  refine seg_write _ (by dsimp only [pick, at_]) _ (by dsimp only [pick, at_]) ?_
  repeat (go_big_quiet_step (fail))
  refine wpQuiet_nil ?_
  intro K1 h1
  clear z1 z2
  go_wp2_with (at_builtin; refine append_f rfl (.tmp 9) (.tmp 13) rfl w1.heap.size _ 0 [] rfl (Ow.nil _ _) w.heap.size A n c hnil1 st.last rfl hls1.drew (by omega) (Nat.le_refl _) ?_; intro A4 c4 w4 hown4 hg4 hA4 hc41 hc42 hs4)
  simp only [Nat.zero_add, List.nil_append] at hown4
  have hb4 : Below w1.heap.size w1 w4 := (Ow.nil (E := FE) w1.drew w1.heap.size).below_grown ((Below.refl _ _).drew) hg4 (Nat.le_refl _)
  have g4 := blk_below hb4 G1.out ls1
  have e4 : w4.cell? ⟨w.heap.size, 1, none⟩ = some (.slice none 0 0) := by rw [cell_of_row _ _ _ _ _ _ g4]; rfl
  have fz4 := frozen_of_row _ _ 1 _ _ g4
  have ls4 : w.heap.size < w4.heap.size := blk_lt g4
  have O4 := Lib.hid (And.intro hown4 (And.intro hb4 (And.intro g4 (And.intro hA4 (And.intro hc41 hc42)))))
  clear hown4 hg4 hb4 g4 hA4 hc41 hc42 e1 r1
  refine seg_write _ (by dsimp only [pick, at_]) _ (by dsimp only [pick, at_]) ?_
  repeat (go_big_quiet_step (fail))
  refine wpQuiet_nil ?_
  intro K2 h2
  go_wp2_with fail
  refine seg_end _ (by dsimp only [pick, at_]) ?_
  repeat (go_big_quiet_step (fail))
  refine wpQuiet_nil (NoPanic.normal ?_)
  obtain ⟨w5, hw5⟩ : ∃ w5, w4.setCell ⟨w.heap.size, 1, none⟩ (.slice A4 n c4) = w5 := ⟨_, rfl⟩
  obtain ⟨w6, hw6⟩ : ∃ w6, w5.setCell ⟨w.heap.size, 2, none⟩ (.slice none 0 0) = w6 := ⟨_, rfl⟩
  have hc45 : Chg (fun k => k = w.heap.size) w4 w5 := by rw [← hw5]; exact chg_set _ _ _ _
  have hc56 : Chg (fun k => k = w.heap.size) w5 w6 := by rw [← hw6]; exact chg_set _ _ _ _
  have g5 : w5.heap[w.heap.size]? = some (.cells #[.int .i64 st.room, .slice A4 n c4, .slice A2 m c2, .int .i64 st.ops, .bool false, .int .i64 0, .int .i64 0, .int .i64 0, .bool false] 87 (0, 0)) := by
    rw [← hw5, setp_obj O4.out.2.2.1]; simp
  have g6 : w6.heap[w.heap.size]? = some (.cells #[.int .i64 st.room, .slice A4 n c4, .slice none 0 0, .int .i64 st.ops, .bool false, .int .i64 0, .int .i64 0, .int .i64 0, .bool false] 87 (0, 0)) := by
    rw [← hw6, setp_obj g5]; simp
  have e5 : w5.cell? ⟨w.heap.size, 2, none⟩ = some (.slice A2 m c2) := by rw [cell_of_row _ _ _ _ _ _ g5]; rfl
  have fz5 := frozen_of_row _ _ 2 _ _ g5
  have l5 := blk_lt g5
  have hc46 : Chg (fun k => k = w.heap.size) w4 w6 := hc45.trans hc56 (fun _ _ e => e)
  have hb14 := O4.out.2.1
  have gr6 : w6.heap[r]? = some (.cells #[.int .i64 st.room, .slice A n c, .slice A2 m c2, .int .i64 st.ops, .bool false, .int .i64 0, .int .i64 0, .int .i64 0, .bool false] 87 (0, 0)) :=
    hc46.blk (blk_below hb14 (blk_below B1.out GB.out lr) lr1) (by omega)
  have e6 : w6.cell? ⟨w.heap.size, 2, none⟩ = some (.slice none 0 0) := by rw [cell_of_row _ _ _ _ _ _ g6]; rfl
  have r6 : w6.cell? ⟨r, 2, none⟩ = some (.slice A2 m c2) := by rw [cell_of_row _ _ _ _ _ _ gr6]; rfl
  have l6 := blk_lt g6
  have lr6 := blk_lt gr6
  have O6 := Lib.hid (And.intro hc46 (And.intro g6 hw6))
  rw [hw5]
  clear hc45 hc56 g5 g6 hc46 hb14 gr6 hw5 hw6 e4 fz4
  go_wp2_with fail
  rw [O6.out.2.2]
  have b06 : Below w.heap.size w w6 := (B1.out.trans (O4.out.2.1.mono B1.out.size)).trans (O6.out.1.below (B := w.heap.size) (by have := O4.out.2.1.size; have := B1.out.size; omega) (fun k e => by omega))
  have hch6 := CH.out.below b06.drew (Nat.le_refl _)
  have B06 := Lib.hid b06
  have z1 := Wb.at_ e6
  have z2 := Wb.at_ r6
  clear b06 e5 fz5 l5 e6 r6
  refine wp_region_plan [([0, 1, 2, 3, 4, 5], some (6, true)), ([7], some (8, true)), ([], none)] (by kernel_rfl) (by kernel_rfl) ?_
  refine seg_write _ (by dsimp only [pick, at_]) _ (by dsimp only [pick, at_]) ?_
  repeat (go_big_quiet_step (fail))
  refine wpQuiet_nil ?_
  intro K3 h3
  clear z1 z2
  go_wp2_with (at_builtin; refine append_h rfl (.tmp 18) (.tmp 22) rfl w6.heap.size _ 0 [] rfl (Ow.nil _ _) w.heap.size A2 m c2 hnil2 st.pend rfl hch6 (by omega) (Nat.le_refl _) ?_; intro A7 c7 w7 hown7 hg7 hA7 hc71 hc72 hs7)
  simp only [Nat.zero_add, List.nil_append] at hown7
  have hb7 : Below w6.heap.size w6 w7 := (Ow.nil (E := CHE) w6.drew w6.heap.size).below_grown ((Below.refl _ _).drew) hg7 (Nat.le_refl _)
  have g7 := blk_below hb7 O6.out.2.1 l6
  have e7 : w7.cell? ⟨w.heap.size, 2, none⟩ = some (.slice none 0 0) := by rw [cell_of_row _ _ _ _ _ _ g7]; rfl
  have fz7 := frozen_of_row _ _ 2 _ _ g7
  have ls7 : w.heap.size < w7.heap.size := blk_lt g7
  have O7 := Lib.hid (And.intro hown7 (And.intro hb7 (And.intro g7 (And.intro hA7 (And.intro hc71 hc72)))))
  clear hown7 hg7 hb7 g7 hA7 hc71 hc72 hch6
  refine seg_write _ (by dsimp only [pick, at_]) _ (by dsimp only [pick, at_]) ?_
  repeat (go_big_quiet_step (fail))
  refine wpQuiet_nil ?_
  intro K4 h4
  go_wp2_with fail
  refine seg_end _ (by dsimp only [pick, at_]) ?_
  repeat (go_big_quiet_step (fail))
  refine wpQuiet_nil (NoPanic.normal ?_)
  clear e7 fz7
  go_wp2_with fail
  go_ret
  obtain ⟨hown4, hb4, g4, hA4, hc41, hc42⟩ := O4.out
  obtain ⟨hown7, hb7, g7, hA7, hc71, hc72⟩ := O7.out
  have hc78 := chg_set w7 w.heap.size 2 (.slice A7 m c7)
  have a4 : ∀ a, A4 = some a → w1.heap.size ≤ a.block ∧ a.block < w4.heap.size := fun a e => by subst e; exact hown4.lt a.block rfl
  have a7 : ∀ a, A7 = some a → w6.heap.size ≤ a.block ∧ a.block < w7.heap.size := fun a e => by subst e; exact hown7.lt a.block rfl
  have hs1 := HS1.out
  have hs46 := O6.out.1.size
  have hs67 := hb7.size
  have hs14 := hb4.size
  have hs78 := hc78.size
  have fr4 : Fr w4 A4 c4 st.last := ow_fr hown4
  have fr6 := (fr4.chg O6.out.1 (fun a e => by have := a4 a e; omega)).below hb7
  have fr8 := fr6.chg hc78 (fun a e => by have := a4 a e; omega)
  have ch8 := (ls_chg hown7.ls (Nat.le_refl _) hc78 (fun a e => by have := a7 a e; omega)).more hs78
  refine ⟨w.heap.size, rfl, ⟨A4, c4, A7, c7, ⟨?_, fr8, by rw [HN.out.2]; exact ch8, hA7, by rw [HN.out.2]; omega, hc72, HK.out.srt⟩, fun a e => ⟨⟨by have := a4 a e; omega, by have := a4 a e; omega⟩, by have := a4 a e; omega⟩, fun a e => ⟨⟨by have := a7 a e; omega, by have := a7 a e; omega⟩, by have := a7 a e; omega⟩, ⟨Nat.le_refl _, by omega⟩⟩, (B06.out.trans (hb7.mono (by omega))).trans (hc78.below (B := w.heap.size) (by omega) (fun k e => by omega))⟩
  rw [setp_obj g7, HN.out.1, HN.out.2]
  simp
end Go.Proofs.Ytmnliieiiaedeaa.dk
