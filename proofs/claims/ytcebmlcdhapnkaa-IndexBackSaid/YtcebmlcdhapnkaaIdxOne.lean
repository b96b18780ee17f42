/-
  Index: an entry's bytes, the document's; four bytes of a sum.
-/
import Derived.Test.YtcebmlcdhapnkaaIdxNum
namespace Go.Proofs.Ytcebmlcdhapnkaa.idx
open Go.ChangeShapes Go.WideShapes Go.ChangeAt Go.RowKit plain words ord mem uvs uvc Go.Lib

theorem be_cells (z : Int) (h0 : 0 ≤ z) (h1 : z < 4294967296) : u8s (be z) = [.int .u8 (z / 16777216), .int .u8 (z / 65536 % 256), .int .u8 (z / 256 % 256), .int .u8 (z % 256)] := by
  obtain ⟨n, rfl⟩ : ∃ n : Nat, z = n := ⟨z.toNat, by omega⟩
  simp only [be, u8s, U8, List.map_cons, List.map_nil, UInt8.toNat_ofNat', Int.toNat_natCast]
  congr 1
  · congr 1; omega
theorem rd_fresh {w : World} (t : TypeId) (l : List Value) {m : Nat} (hm : l.length = m) : Rd (w.alloc (.cells l.toArray t)) (w.heap.size + 1) (some ⟨w.heap.size, 0, none⟩) m l :=
  ⟨hm, fun j hj => ⟨w.heap.size, 0, l[j]'(by omega), rfl, by omega, List.getElem?_eq_getElem _, by rw [Nat.zero_add, World.cell?_alloc_new w l.toArray t j]; simp⟩⟩
theorem below_al (w : World) (o : Obj) : Below w.heap.size w (w.alloc o) := (Below.refl _ _).alloc (Nat.le_refl _) o

theorem ret_bytes {w w' : World} {v : Value} {X : List UInt8} (h : w'.ownsRow w.heap.size 5 1 v X.length (u8s X)) (hb : Below w.heap.size w w') : RetBytes w X (.returned v) w' := by
  rcases own_form h with ⟨rfl, e0⟩ | ⟨g, cap, rfl, _⟩
  · exact ⟨none, 0, by rw [e0], by rw [e0] at h ⊢; exact h, hb⟩
  · exact ⟨_, cap, rfl, h, hb⟩
set_option maxHeartbeats 1000000 in
set_option maxRecDepth 100000 in
theorem one_y (w : World) (B n c : Nat) (A : Option Addr) (bs : List UInt8) (h : Bs w B A n bs) (hA : A = none → c = 0) (hB : B ≤ w.heap.size) (hn : n ≤ 900000000) (x : En) (hs : x.1.size ≤ 16) (h1 : 0 ≤ x.2.1 ∧ x.2.1 ≤ 2147483647) (h2 : 0 ≤ x.2.2.1 ∧ x.2.2.1 ≤ 2147483647) (h3 : 0 ≤ x.2.2.2 ∧ x.2.2.2 < 4294967296) :
    Calls Try.prog 48 #[.slice A n c, .agg #[.string x.1, .int .i64 x.2.1, .int .i64 x.2.2.1, .int .u32 x.2.2.2]] w (RetBytes w (bs ++ oneE x)) := by
  obtain ⟨i0, hi, hz0, hz1, hz2⟩ := info_parts mem.infoB
  obtain ⟨s, o, z, m⟩ := x
  simp only at hs h1 h2 h3 ⊢
  obtain ⟨wb, hwb⟩ : ∃ wb, w.alloc (.cells #[.string s, .int .i64 o, .int .i64 z, .int .u32 m] 81) = wb := ⟨_, rfl⟩
  have hbb : Below w.heap.size w wb := by rw [← hwb]; exact below_al _ _
  have gb : wb.heap[w.heap.size]? = some (.cells #[.string s, .int .i64 o, .int .i64 z, .int .u32 m] 81 (0, 0)) := by rw [← hwb]; exact alloc_new _ _
  have hsb := hbb.size
  have hlb : w.heap.size < wb.heap.size := blk_lt gb
  have HB := Lib.hid hbb
  have GB := Lib.hid gb
  have hl := h.len_
  have htx := text_y wb B n c A bs (h.below hbb hB) hA (by omega) (by omega) s (by omega)
  have htl := txt_len s hs
  have ho1 : ((bs ++ txt s) ++ uv o.toNat) ++ uv z.toNat ++ be m = bs ++ oneE (s, o, z, m) := by simp [oneE]
  obtain ⟨Y1, hY1⟩ : ∃ Y, bs ++ txt s = Y := ⟨_, rfl⟩
  have hYL1 : Y1.length ≤ 900000026 := by rw [← hY1, List.length_append]; omega
  rw [hY1] at htx ho1
  obtain ⟨Y2, hY2⟩ : ∃ Y, Y1 ++ uv o.toNat = Y := ⟨_, rfl⟩
  have hu2 := uv_len o.toNat
  have hYL2 : Y2.length ≤ 900000036 := by rw [← hY2, List.length_append]; omega
  obtain ⟨Y3, hY3⟩ : ∃ Y, Y2 ++ uv z.toNat = Y := ⟨_, rfl⟩
  have hu3 := uv_len z.toNat
  have hYL3 : Y3.length ≤ 900000046 := by rw [← hY3, List.length_append]; omega
  rw [hY2, hY3] at ho1
  have HTX := Lib.hid htx
  have HO := Lib.hid ho1
  have HY2 := Lib.hid hY2
  have HY3 := Lib.hid hY3
  have hoz : o % 18446744073709551616 = o := by omega
  have hzz : z % 18446744073709551616 = z := by omega
  clear h hbb gb htx ho1 hY1 hY2 hY3 hu2 hu3 htl hl
  have c0 : wb.cell? ⟨w.heap.size, 0, none⟩ = some (.string s) := by rw [cell_of_row _ _ _ _ _ _ GB.out]; rfl
  go_enter Try.func48, Try.ntmps48
  go_wp2_with (fail)
  refine HTX.out.mono ?_
  rintro e w1 ⟨A1, c1, rfl, hr1, hb1⟩
  have hs1 := hb1.size
  have g1 := blk_below hb1 GB.out hlb
  have c1' : w1.cell? ⟨w.heap.size, 1, none⟩ = some (.int .i64 o) := by rw [cell_of_row _ _ _ _ _ _ g1]; rfl
  have hun := uvarint_y w1 w1.heap.size Y1.length c1 A1 Y1 o.toNat (own_bs hr1) (fun e => by
    rcases own_form hr1 with ⟨e', _⟩ | ⟨_, _, e', _⟩
    · injection e'
    · rw [e] at e'; injection e' with e'; cases e') (Nat.le_refl _) (by omega) (by omega)
  rw [HY2.out, show ((o.toNat : Nat) : Int) = o from by omega] at hun
  have HUN := Lib.hid hun
  have G1 := Lib.hid g1
  have HB1 := Lib.hid (HB.out.trans (hb1.mono hsb))
  have hl1 : w.heap.size < w1.heap.size := by omega
  clear hun g1 hr1 hb1 HTX c0
  go_wp2_with (fail)
  refine HUN.out.mono ?_
  rintro e w2 ⟨A2, c2, rfl, hr2, hb2⟩
  have hs2 := hb2.size
  have g2 := blk_below hb2 G1.out hl1
  have c2' : w2.cell? ⟨w.heap.size, 2, none⟩ = some (.int .i64 z) := by rw [cell_of_row _ _ _ _ _ _ g2]; rfl
  have hun := uvarint_y w2 w2.heap.size Y2.length c2 A2 Y2 z.toNat (own_bs hr2) (fun e => by
    rcases own_form hr2 with ⟨e', _⟩ | ⟨_, _, e', _⟩
    · injection e'
    · rw [e] at e'; injection e' with e'; cases e') (Nat.le_refl _) (by omega) (by omega)
  rw [HY3.out, show ((z.toNat : Nat) : Int) = z from by omega] at hun
  have HUN2 := Lib.hid hun
  have G2 := Lib.hid g2
  have HB2 := Lib.hid (HB1.out.trans (hb2.mono (by omega)))
  have hl2 : w.heap.size < w2.heap.size := by omega
  clear hun g2 hr2 hb2 HUN c1'
  go_wp2_with (fail)
  refine HUN2.out.mono ?_
  rintro e w3 ⟨A3, c3, rfl, hr3, hb3⟩
  have hs3 := hb3.size
  have g3 := blk_below hb3 G2.out hl2
  have c3' : w3.cell? ⟨w.heap.size, 3, none⟩ = some (.int .u32 m) := by rw [cell_of_row _ _ _ _ _ _ g3]; rfl
  have hl3 : w.heap.size < w3.heap.size := by omega
  have HR3 := Lib.hid (own_base hr3 (show w.heap.size ≤ w2.heap.size by omega))
  have HB3 := Lib.hid (HB2.out.trans (hb3.mono (by omega)))
  clear g3 hr3 hb3 HUN2 c2'
  go_wp2_with (at_builtin; refine wpList_append_rd rfl (.tmp 19) (.tmp 35) 28 rfl w.heap.size 5 i0 (.int .u8 0) 1 1 Try.underlying28 hi hz0 hz1 hz2 rfl (by decide) _ Y3.length (u8s Y3) rfl (own_keep HR3.out (below_al w3 _) (Nat.le_refl _)) (w3.heap.size + 1) _ 4 4 (fun e => by cases e) _ rfl (rd_fresh (w := w3) _ _ rfl) (by intro u hu; simp at hu; rcases hu with rfl | rfl | rfl | rfl <;> rfl) (by unfold maxLen; omega) (by omega) (by simp; omega) ?_; intro v4 w4 hown4 hg4 hnn4)
  go_ret
  rw [← HO.out]
  refine ret_bytes ?_ (own_below (HB3.out.trans ((below_al w3 _).mono (by omega))) (own_keep HR3.out (below_al w3 _) (Nat.le_refl _)) (by simp; omega) hg4)
  rw [List.length_append, u8s_append, be_cells m h3.1 h3.2]
  exact hown4
end Go.Proofs.Ytcebmlcdhapnkaa.idx
