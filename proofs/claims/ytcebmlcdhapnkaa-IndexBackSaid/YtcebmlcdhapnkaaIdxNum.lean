/-
  Index: numbers and names laid down, the program's and the document's; an entry.
-/
import Derived.Test.YtcebmlcdhapnkaaIdxCheck
namespace Go.Proofs.Ytcebmlcdhapnkaa.idx
open Go.ChangeShapes Go.WideShapes Go.ChangeAt Go.RowKit plain words ord mem uvs uvc Go.Lib

/-- bytes that a slice shows from its row's head on -/
abbrev BRow (w : World) (v : Value) (bs : List UInt8) : Prop := Row w 5 1 v bs.length (u8s bs)
def RetRow (w : World) (v : Value) (bs : List UInt8) (e : Ending) (w' : World) : Prop :=
  ∃ v', e = .returned v' ∧ BRow w' v' bs ∧ Chg (fun b => some b = v.ownBlock) w w' ∧ (v'.ownBlock = v.ownBlock ∨ ∃ g, v'.ownBlock = some g ∧ w.heap.size ≤ g)
theorem chg_row {w w1 w2 : World} {o : Option Nat} (h : Below w.heap.size w w1) (hg : w1.grownBy w2 o) : Chg (fun b => some b = o) w w2 := ((Chg.of_below h).mono (fun _ _ e => e.elim)).grown hg (fun _ e _ => e.symm)
theorem loc_row {w w1 : World} {v v' : Value} (h : Below w.heap.size w w1) (hl : v'.ownBlock = v.ownBlock ∨ v'.ownBlock = some w1.heap.size) : v'.ownBlock = v.ownBlock ∨ ∃ g, v'.ownBlock = some g ∧ w.heap.size ≤ g := hl.imp id fun e => ⟨_, e, h.size⟩

theorem brow_append {w : World} {v : Value} {bs cs : List UInt8} (h : Row w 5 1 v (bs.length + cs.length) (u8s bs ++ u8s cs)) : BRow w v (bs ++ cs) := by
  show Row _ _ _ _ _ _
  rw [List.length_append, u8s_append]
  exact h
set_option maxRecDepth 100000 in
theorem number_x (w : World) (v : Value) (bs : List UInt8) (h : BRow w v bs) (hn : bs.length ≤ 1099511627776) (z : Nat) (hz : z ≤ 9223372036854775807) :
    Calls Try.prog 43 #[v, .int .i64 (z : Int)] w (RetRow w v (bs ++ uv z)) := by
  obtain ⟨i0, hi, hz0, hz1, hz2⟩ := info_parts mem.infoB
  have huv := uvarint_x w 0 0 0 none [] z (Rd.nil _ _ _) (Nat.zero_le _) (by omega) (by omega)
  rw [List.nil_append] at huv
  have hul := uv_len z
  have hz' : (z : Int) % 18446744073709551616 = (z : Int) := by omega
  have HUV := Lib.hid huv
  have HUL := Lib.hid hul
  clear huv hul
  go_enter Try.func43, Try.ntmps43
  go_wp2_with (fail)
  refine HUV.out.mono ?_
  rintro e w1 ⟨A', c', rfl, hown, hb⟩
  have hrd := own_rd hown
  have hL := HUL.out
  go_wp2_with (at_builtin; refine wpList_append_row _ rfl (.tmp 5) (.tmp 8) 28 rfl 5 i0 (.int .u8 0) 1 1 Try.underlying28 hi hz0 hz1 hz2 rfl (by decide) v bs.length (u8s bs) rfl (h.below hb (Nat.le_refl _)) w1.heap.size _ _ _ (fun e => by
      rcases own_form hown with ⟨e', _⟩ | ⟨g, cap, e', _⟩
      · injection e'
      · rw [e] at e'; injection e' with e'; cases e') (u8s (uv z)) rfl hrd (u8s_one _) (by unfold maxLen; omega) (by omega) ?_; intro v2 w2 hrow hg hloc _)
  go_ret
  exact ⟨v2, rfl, brow_append hrow, chg_row hb hg, loc_row hb hloc⟩

theorem str_len (s : ByteArray) : s.data.toList.length = s.size := by rw [Array.length_toList]; rfl
theorem brow_text {w : World} {v : Value} {bs : List UInt8} {s : ByteArray} (h : Row w 5 1 v (bs.length + s.size) (u8s bs ++ strCells s)) : BRow w v (bs ++ s.data.toList) := by
  rw [strCells_u8s, ← str_len] at h
  exact brow_append h
theorem Ret.then {w w1 w2 : World} {v v1 v2 : Value} (hb : Chg (fun b => some b = v.ownBlock) w w1) (hl : v1.ownBlock = v.ownBlock ∨ ∃ g, v1.ownBlock = some g ∧ w.heap.size ≤ g)
    (hb2 : Chg (fun b => some b = v1.ownBlock) w1 w2) (hl2 : v2.ownBlock = v1.ownBlock ∨ ∃ g, v2.ownBlock = some g ∧ w1.heap.size ≤ g) :
    Chg (fun b => some b = v.ownBlock) w w2 ∧ (v2.ownBlock = v.ownBlock ∨ ∃ g, v2.ownBlock = some g ∧ w.heap.size ≤ g) := by
  have hs := hb.size
  refine ⟨hb.trans hb2 (fun i hi e => ?_), ?_⟩
  · rcases hl with e2 | ⟨g, e2, hg⟩
    · rw [e, e2]
    · rw [e2] at e
      injection e with e
      omega
  · rcases hl2 with e2 | ⟨g, e2, hg⟩
    · rw [e2]; exact hl
    · exact .inr ⟨g, e2, by omega⟩
set_option maxRecDepth 100000 in
theorem text_x (w : World) (v : Value) (bs : List UInt8) (h : BRow w v bs) (hn : bs.length ≤ 1000000000) (s : ByteArray) (hs : s.size ≤ 1000000000) :
    Calls Try.prog 44 #[v, .string s] w (RetRow w v (bs ++ txt s)) := by
  obtain ⟨i0, hi, hz0, hz1, hz2⟩ := info_parts mem.infoB
  have HN := Lib.hid (number_x w v bs h (by omega) s.size (by omega))
  have hul := uv_len s.size
  clear h
  go_enter Try.func44, Try.ntmps44
  go_wp2_with (fail)
  refine HN.out.mono ?_
  rintro e w1 ⟨v1, rfl, hr1, hc1, hl1⟩
  have HR1 := Lib.hid hr1
  clear hr1 HN
  go_wp2_with (at_builtin; refine wpList_append_row_string _ rfl (.tmp 8) (.tmp 9) 28 9 rfl 5 i0 Try.underlying28 Try.underlying9 hi hz0 hz1 hz2 v1 _ _ rfl HR1.out s rfl (by unfold maxLen; simp only [List.length_append]; omega) (by simp only [List.length_append]; omega) ?_; intro v2 w2 hrow hg hloc)
  go_ret
  obtain ⟨h1, h2⟩ := Ret.then hc1 hl1 (chg_row (Below.refl _ _) hg) (loc_row (Below.refl _ _) hloc)
  refine ⟨v2, rfl, ?_, h1, h2⟩
  have := brow_text hrow
  rwa [List.append_assoc] at this
set_option maxRecDepth 100000 in
theorem text_y (w : World) (B n c : Nat) (A : Option Addr) (bs : List UInt8) (h : Bs w B A n bs) (hA : A = none → c = 0) (hB : B ≤ w.heap.size) (hn : n ≤ 1000000000) (s : ByteArray) (hs : s.size ≤ 1000000000) :
    Calls Try.prog 46 #[.slice A n c, .string s] w (RetBytes w (bs ++ txt s)) := by
  obtain ⟨i0, hi, hz0, hz1, hz2⟩ := info_parts mem.infoB
  have hun := uvarint_y w B n c A bs s.size h hA hB (by omega) (by omega)
  have hul := uv_len s.size
  have hlen := h.len_
  have hz' : (s.size : Int) % 18446744073709551616 = (s.size : Int) := by omega
  have hYL : (bs ++ uv s.size).length ≤ 1000000100 := by simp only [List.length_append]; omega
  obtain ⟨Y, hY⟩ : ∃ Y, bs ++ uv s.size = Y := ⟨_, rfl⟩
  have e1 : (bs ++ txt s) = Y ++ s.data.toList := by rw [← hY]; simp [txt]
  rw [hY] at hun hYL
  have HN := Lib.hid hun
  have E1 := Lib.hid e1
  clear h hun hY e1 hul hlen
  go_enter Try.func46, Try.ntmps46
  go_wp2_with (fail)
  refine HN.out.mono ?_
  rintro e w1 ⟨A1, c1, rfl, hr1, hb1⟩
  have hs1 := hb1.size
  have HR1 := Lib.hid hr1
  clear hr1 HN
  go_wp2_with (at_builtin; refine Lib.wpList_append_own_string _ rfl (.tmp 9) (.tmp 10) 28 9 rfl w.heap.size 5 i0 Try.underlying28 Try.underlying9 hi hz0 hz1 hz2 _ _ _ rfl HR1.out s rfl (by unfold maxLen; omega) (by omega) hs1 ?_; intro v2 w2 hrow hg hnn)
  go_ret
  rw [E1.out]
  have e2 : (Y ++ s.data.toList).length = Y.length + s.size := by rw [List.length_append, str_len]
  have hrow2 : w2.ownsRow w.heap.size 5 1 v2 (Y ++ s.data.toList).length (u8s (Y ++ s.data.toList)) := by
    rw [e2, u8s_append]
    rw [strCells_u8s] at hrow
    exact hrow
  rcases own_form hrow2 with ⟨e, e0⟩ | ⟨g, cap, e, _⟩
  · subst e
    exact ⟨none, 0, by rw [e0]; rfl, by rw [e0] at hrow2 ⊢; exact hrow2, own_below hb1 HR1.out hs1 hg⟩
  · subst e
    exact ⟨_, cap, rfl, hrow2, own_below hb1 HR1.out hs1 hg⟩
end Go.Proofs.Ytcebmlcdhapnkaa.idx
