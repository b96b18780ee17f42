/-
  The commit log's Encode: the closures that write a number.
-/
import Derived.Test.YtmegkemileailaaGreatDoorClF
import Derived.Test.YtmegkemileailaaGreatDoorRow
namespace Go.Proofs.YtmegkemileailaaGreatDoor.cl
open Go.ChangeShapes Go.WideShapes Go.ChangeAt Go.RowKit plain words ord mem uvs uvc

/-- a variable at block g that holds bytes in a row of its own, from block B on -/
def OutV (w : World) (g B : Nat) (l : By) : Prop :=
  ∃ A c, w.heap[g]? = some (.cells #[.slice A l.length c] 28 (0, 0)) ∧ w.ownsRow B 5 1 (.slice A l.length c) l.length (u8s l)
/-- bytes are added to the variable; what lay below B stays, but for the variable -/
def RetOut (w : World) (g B : Nat) (l : By) (e : Ending) (w' : World) : Prop := e = .returned (.tuple #[]) ∧ OutV w' g B l ∧ Chg (fun k => k = g ∨ B ≤ k) w w'
theorem own_fit {w : World} {B n : Nat} {v : Value} {l : By} (hl : l.length = n) (h : w.ownsRow B 5 1 v n (u8s l)) : ∃ A c, v = .slice A n c ∧ (A = none → c = 0) ∧ n ≤ c ∧ c ≤ 9223372036854775807 := by
  rcases own_form h with ⟨rfl, e0⟩ | ⟨g, cap, rfl, _, _, h1, h2⟩
  · exact ⟨none, 0, by rw [e0], fun _ => rfl, by omega, by omega⟩
  · unfold maxLen at h2
    exact ⟨_, cap, rfl, (fun e => by cases e), h1, h2⟩
theorem chg_set (w : World) (g o : Nat) (u : Value) : Chg (fun k => k = g) w (w.setCell ⟨g, o, none⟩ u) := Chg.setCell (S := fun k => k = g) (Chg.refl _ _) (p := ⟨g, o, none⟩) (fun _ => rfl) u
theorem out_put {w w2 : World} {g B n : Nat} {v0 v2 : Value} {l : By} (hg : w2.heap[g]? = some (.cells #[v0] 28 (0, 0))) (ho : w2.ownsRow B 5 1 v2 n (u8s l)) (hl : l.length = n) (hb : Chg (fun k => k = g ∨ B ≤ k) w w2) (hgB : g < B) :
    RetOut w g B l (.returned (.tuple #[])) (w2.setCell ⟨g, 0, none⟩ v2) := by
  subst hl
  obtain ⟨A, c, rfl, _⟩ := own_fit rfl ho
  refine ⟨rfl, ⟨A, c, ?_, own_chg ho (chg_set w2 g 0 _) (fun k hk e => by have := (ho.lt k hk).1; omega)⟩, hb.setCell (p := ⟨g, 0, none⟩) (fun _ => .inl rfl) _⟩
  have := heap_setCell_same w2 g 0 _ _ (.slice A l.length c) hg
  simpa using this
set_option maxHeartbeats 1000000 in
set_option maxRecDepth 100000 in
theorem num_c (w : World) (g B : Nat) (l : By) (z : Nat) (h : OutV w g B l) (hgB : g < B) (hB : B ≤ w.heap.size) (hn : l.length ≤ 1000000000) (hz : z ≤ 9223372036854775807) :
    Calls Tryz.prog 62 #[.int .i64 z, .pointer (some ⟨g, 0, none⟩)] w (RetOut w g B (l ++ uv z)) := by
  obtain ⟨i0, hi, hz0, hz1, hz2⟩ := info_parts mem.infoB
  obtain ⟨A, c, hg, ho⟩ := h
  have hgl := blk_lt hg
  have c0 : w.cell? ⟨g, 0, none⟩ = some (.slice A l.length c) := by rw [cell_of_row _ _ _ _ _ _ hg]; rfl
  have huv := uvarint_x w.drew 0 0 0 none [] z (Rd.nil _ _ _) (Nat.zero_le _) (by omega) (by omega)
  rw [List.nil_append] at huv
  have hul := uv_len z
  have hz' : (z : Int) % 18446744073709551616 = (z : Int) := by omega
  have HUV := Lib.hid huv
  have HUL := Lib.hid hul
  have HG := Lib.hid hg
  have HO := Lib.hid ho
  obtain ⟨L, hL⟩ : ∃ L, l.length = L := ⟨_, rfl⟩
  rw [hL] at HG HO c0 hn
  have HL := Lib.hid hL
  have z0 := Wb.at_ c0
  clear huv hul hg ho hL
  go_enter Tryz.func62, Tryz.ntmps62
  go_wp2_with (fail)
  refine wp_region_plan [([0, 1, 2], some (3, false)), ([], some (4, true)), ([], some (5, true)), ([], none)] (by kernel_rfl) (by kernel_rfl) ?_
  refine seg_act _ (by dsimp only [pick, at_]) _ (by dsimp only [pick, at_]) ?_
  repeat (go_big_quiet_step (fail))
  refine wpQuiet_nil ?_
  intro K1 h1 h2
  clear h1
  go_wp2_with (fail)
  refine HUV.out.mono ?_
  rintro e w1 ⟨A', c', rfl, hown, hb⟩
  have hrd := own_rd hown
  have hL2 := HUL.out
  have hs1 : w.heap.size ≤ w1.heap.size := hb.size
  have ho1 : w1.ownsRow B 5 1 (.slice A L c) L (u8s l) := own_keep HO.out (show Below w.heap.size w w1 from (Below.refl _ _).drew.trans hb) (Nat.le_refl _)
  have g1 : w1.heap[g]? = some (.cells #[.slice A L c] 28 (0, 0)) := blk_below hb HG.out hgl
  have HB1 := Lib.hid hb
  clear hb z0 c0
  go_wp2_with (fail)
  refine h2 _ _ (by exact (Below.refl _ _).drew.trans HB1.out) ?_
  refine seg_write _ (by dsimp only [pick, at_]) _ (by dsimp only [pick, at_]) ?_
  repeat (go_big_quiet_step (fail))
  refine wpQuiet_nil ?_
  intro K2 g2
  go_wp2_with (at_builtin; (refine wpList_append_rd rfl (.tmp 3) (.tmp 6) 28 rfl B 5 i0 (.int .u8 0) 1 1 Tryz.underlying28 hi hz0 hz1 hz2 rfl (by decide) (.slice A L c) L (u8s l) rfl ho1 w1.heap.size A' (uv z).length c' (fun e => by
      rcases own_form hown with ⟨e', _⟩ | ⟨g, cap, e', _⟩
      · injection e'
      · rw [e] at e'; injection e' with e'; cases e') (u8s (uv z)) rfl hrd (u8s_one _) (by unfold maxLen; omega) (by omega) (by omega) ?_; intro v2 w2 hown2 hg2 hnn2; have gb2 : w2.heap[g]? = some (.cells #[.slice A L c] 28 (0, 0)) := (hg2.block g (blk_lt g1) (fun e => by have := (ho1.lt g e.symm).1; omega)).trans g1; have hbg2 : Chg (fun k => k = g ∨ B ≤ k) w w2 := ((Chg.of_below (show Below w.heap.size w w1 from (Below.refl _ _).drew.trans HB1.out)).mono (fun _ _ e => e.elim)).grown hg2 (fun k hk _ => .inr (ho1.lt k hk).1); have c2 : w2.cell? ⟨g, 0, none⟩ = some (.slice A L c) := (by rw [cell_of_row _ _ _ _ _ _ gb2]; rfl); have f2 := frozen_of_row w2 g 0 _ _ gb2))
  have hlen : (l ++ uv z).length = L + (uv z).length := by rw [List.length_append, HL.out]
  have HF := Lib.hid (out_put (w := w) (l := l ++ uv z) gb2 (by rw [u8s_append]; exact hown2) hlen hbg2 hgB)
  obtain ⟨A2, cc2, rfl, _⟩ := own_fit hlen (by rw [u8s_append]; exact hown2)
  clear hown2 hg2 hnn2 gb2 hbg2 hown hrd hlen ho1 g1
  refine seg_write _ (by dsimp only [pick, at_]) _ (by dsimp only [pick, at_]) ?_
  repeat (go_big_quiet_step (fail))
  refine wpQuiet_nil ?_
  intro K3 g3
  go_wp2_with (fail)
  refine seg_end _ (by dsimp only [pick, at_]) ?_
  repeat (go_big_quiet_step (fail))
  refine wpQuiet_nil (NoPanic.normal ?_)
  go_wp2_with (fail)
  go_end0
  exact HF.out
end Go.Proofs.YtmegkemileailaaGreatDoor.cl
