/-
  The walk of the law IndexLists.
-/
import Derived.Test.YtcebmlcdhapnkaaIdxListX
namespace Go.Proofs.Ytcebmlcdhapnkaa.lawIndexLists
open Go.ChangeShapes Go.WideShapes Go.ChangeAt Go.RowKit plain words ord mem uvs uvc idx

theorem lstF_len (f : Nat) (l : List UInt8) (x : List En) (h : lstF f l = some x) : x.length ≤ l.length := by
  induction f generalizing l x with
  | zero =>
    simp only [lstF] at h
    split at h
    · cases h; simp
    · cases h
  | succ f ih =>
    simp only [lstF] at h
    split at h
    · cases h; simp
    · split at h
      · cases h
      · rename_i h1 h2
        cases hr : lstF f (l.drop (re l).2) with
        | none => rw [hr] at h; cases h
        | some y =>
          rw [hr] at h
          cases h
          have h3 := ih _ _ hr
          have h4 := re_le l
          rw [List.length_drop] at h3
          simp only [List.length_cons]
          omega
theorem lsB_len (l : List UInt8) : (lsB l).length ≤ l.length := by
  unfold lsB
  cases h : lst l with
  | none => simp
  | some x =>
    simp only
    split
    · exact lstF_len _ _ _ h
    · simp
set_option maxHeartbeats 4000000 in
set_option maxRecDepth 100000 in
theorem walk_ok (A : Option Addr) (n c : Nat) (z0 : List Int) (w : World) (w0 : IsRow .u8 w A n c z0) :
    Calls Try.prog 10 #[.slice A n c] w fun e w' => e = .returned (.bool true) ∧ Below w.heap.size w w' := by
  obtain ⟨bs, hbs, hm, ⟨hc1, hc2⟩, hA⟩ := w0.bytes
  unfold maxLen at hm hc2
  obtain ⟨i0, hi, hz0, hz1, hz2⟩ := info_parts mem.infoB
  clear w0
  by_cases hn : n ≤ 65536
  · have hn' : ¬ (65536 : Int) < (n : Int) := by omega
    have hlen := hbs.len_
    have hlit := World.ownsRow_lit (w := w) (base := w.heap.size) (e := 5) (size := 1) #[] 0 (Nat.le_refl _) (by simp) rfl
    have hb0 := below_al w (.cells #[] 5)
    have hrd := hbs.below hb0 (Nat.le_refl _)
    have HB := Lib.hid hbs
    have hLB := lsB_len bs
    obtain ⟨ls, hls⟩ : ∃ ls, lsB bs = ls := ⟨_, rfl⟩
    rw [hls, hlen] at hLB
    have HLS := Lib.hid hls
    have HLB := Lib.hid hLB
    have HL := Lib.hid hlen
    clear hbs hlen hls hLB
    go_enter Try.func10, Try.ntmps10
    go_wp2_with (at_builtin; refine wpList_append_rd rfl (.tmp 12) (.tmp 13) 28 rfl w.heap.size 5 i0 (.int .u8 0) 1 1 Try.underlying28 hi hz0 hz1 hz2 rfl (by decide) _ 0 [] rfl hlit w.heap.size A n c hA (u8s bs) rfl (by rw [Nat.mul_one]; exact hrd) (u8s_one bs) (by unfold maxLen; omega) (by omega) (by simp) ?_; intro v1 w1 hown1 hg1 hnn1; simp only [Nat.zero_add, List.nil_append] at hown1)
    have hB1 := own_below hb0 hlit (by simp) hg1
    obtain ⟨A1, c1, rfl, hc11, hc12⟩ : ∃ A c, v1 = .slice A n c ∧ n ≤ c ∧ c ≤ 9223372036854775807 := by
      rcases own_form hown1 with ⟨rfl, e0⟩ | ⟨g, cap, rfl, _, _, h1, h2⟩
      · exact ⟨none, 0, by rw [e0], by omega, by omega⟩
      · unfold maxLen at h2
        exact ⟨_, cap, rfl, h1, h2⟩
    have HB1 := Lib.hid hB1
    have HO1 := Lib.hid (own_bs hown1)
    have hs1 := hB1.size
    have HX := Lib.hid (list_x w1 w1.heap.size n c1 A1 bs HO1.out (Nat.le_refl _) hc11 hc12 (by omega))
    clear hrd hlit hb0 hown1 hg1 hnn1 hB1
    go_wp2_with (fail)
    refine HX.out.mono ?_
    rintro e w2 ⟨A2, c2, rfl, he2, hb2⟩
    rw [HLS.out] at he2 ⊢
    have hs2 := hb2.size
    have HB2 := Lib.hid (HB1.out.trans (hb2.mono hs1))
    have HO2 := Lib.hid (HO1.out.below hb2 (Nat.le_refl _))
    have HE2 := Lib.hid he2
    have HY := Lib.hid (list_y w2 w.heap.size n c A bs (HB.out.below HB2.out (Nat.le_refl _)) (by omega) hc1 hc2 (by omega))
    clear hb2 he2 HX HO1
    go_wp2_with (fail)
    refine HY.out.mono ?_
    rintro e w3 ⟨A3, c3, rfl, he3, hb3⟩
    rw [HLS.out] at he3 ⊢
    have hs3 := hb3.size
    have HB3 := Lib.hid (HB2.out.trans (hb3.mono (by omega)))
    have HO3 := Lib.hid (HO2.out.below hb3 (by omega))
    have HS := Lib.hid (same_x w3 w2.heap.size ls.length c2 w3.heap.size c3 A2 A3 ls (HE2.out.below hb3 (Nat.le_refl _)) hs3 he3 (Nat.le_refl _) (by have := HLB.out; omega))
    clear hb3 he3 HY HO2 HE2
    go_wp2_with (fail)
    refine HS.out.mono ?_
    rintro e w4 ⟨rfl, hb4⟩
    have HB4 := Lib.hid (HB3.out.trans (hb4.mono (by omega)))
    have k0 := conv_string (P := Try.prog) (c := c1) (HO3.out.below hb4 (by omega)) 28 9 5 Try.underlying28 Try.underlying9 Try.underlying5
    have k1 := conv_string (P := Try.prog) (c := c) (HB.out.below HB4.out (Nat.le_refl _)) 28 9 5 Try.underlying28 Try.underlying9 Try.underlying5
    clear hb4 HS HO3
    go_wp2_with (fail)
    go_ret
    exact ⟨rfl, HB4.out⟩
  · have hn' : (65536 : Int) < (n : Int) := by omega
    go_enter Try.func10, Try.ntmps10
    go_wp2_with (fail)
    go_ret
    exact ⟨rfl, Below.refl _ _⟩
end Go.Proofs.Ytcebmlcdhapnkaa.lawIndexLists
