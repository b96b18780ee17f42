/-
  The document's Text: a length and the bytes.
-/
import Derived.Test.YthkcnakodlbdpaaRowStr
import Derived.Test.YthkcnakodlbdpaaUvC
namespace Go.Proofs.Ythkcnakodlbdpaa.cl
open Go.ChangeShapes Go.WideShapes Go.ChangeAt Go.RowKit plain words ord mem uvs uvc Go.Lib

def txt (s : ByteArray) : List UInt8 := uv s.size ++ s.data.toList
theorem str_len (s : ByteArray) : s.data.toList.length = s.size := by rw [Array.length_toList]; rfl
set_option maxRecDepth 100000 in
theorem text_y (w : World) (B n c : Nat) (A : Option Addr) (bs : List UInt8) (h : Bs w B A n bs) (hA : A = none → c = 0) (hB : B ≤ w.heap.size) (hn : n ≤ 1000000000) (s : ByteArray) (hs : s.size ≤ 1000000000) :
    Calls Try.prog 38 #[.slice A n c, .string s] w (RetBytes w (bs ++ txt s)) := by
  obtain ⟨i0, hi, hz0, hz1, hz2⟩ := info_parts mem.infoB
  have hun := uvarint_y w B n c A bs s.size h hA hB (by omega) (by omega)
  have hul := uv_len s.size
  have hlen := h.len_
  have hz' : (s.size : Int) % 18446744073709551616 = (s.size : Int) := by omega
  have hYL : (bs ++ uv s.size).length ≤ 1000000100 := by simp only [List.length_append]; omega
  obtain ⟨Y, hY⟩ : ∃ Y, bs ++ uv s.size = Y := ⟨_, rfl⟩
  have e1 : (bs ++ txt s) = Y ++ s.data.toList := by rw [← hY]; simp [txt]
  rw [hY] at hun hYL
  have HN := Lib.hid hun
  have E1 := Lib.hid e1
  clear h hun hY e1 hul hlen
  go_enter Try.func38, Try.ntmps38
  go_wp2_with (fail)
  refine HN.out.mono ?_
  rintro e w1 ⟨A1, c1, rfl, hr1, hb1⟩
  have hs1 := hb1.size
  have HR1 := Lib.hid hr1
  clear hr1 HN
  go_wp2_with (at_builtin; refine Lib.wpList_append_own_string _ rfl (.tmp 9) (.tmp 10) 33 9 rfl w.heap.size 5 i0 Try.underlying33 Try.underlying9 hi hz0 hz1 hz2 _ _ _ rfl HR1.out s rfl (by unfold maxLen; omega) (by omega) hs1 ?_; intro v2 w2 hrow hg hnn)
  go_ret
  rw [E1.out]
  have e2 : (Y ++ s.data.toList).length = Y.length + s.size := by rw [List.length_append, str_len]
  have hrow2 : w2.ownsRow w.heap.size 5 1 v2 (Y ++ s.data.toList).length (u8s (Y ++ s.data.toList)) := by
    rw [e2, u8s_append]
    rw [strCells_u8s] at hrow
    exact hrow
  rcases own_form hrow2 with ⟨e, e0⟩ | ⟨g, cap, e, _⟩
  · subst e
    exact ⟨none, 0, by rw [e0]; rfl, by rw [e0] at hrow2 ⊢; exact hrow2, own_below hb1 HR1.out hs1 hg⟩
  · subst e
    exact ⟨_, cap, rfl, hrow2, own_below hb1 HR1.out hs1 hg⟩
end Go.Proofs.Ythkcnakodlbdpaa.cl
