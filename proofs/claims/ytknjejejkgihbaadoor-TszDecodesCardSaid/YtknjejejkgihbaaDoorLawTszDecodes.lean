/-
  The law TszDecodes: its walk.
-/
import Derived.Test.YtknjejejkgihbaaDoorTsDy
import Derived.Test.YtknjejejkgihbaaDoorTsLaw
namespace Go.Proofs.YtknjejejkgihbaaDoor.lawTszDecodes
open Go.ChangeShapes Go.WideShapes Go.ChangeAt Go.RowKit plain words ord mem bitm uvs ts
set_option maxHeartbeats 1000000 in
set_option maxRecDepth 100000 in
theorem walk_ok (A : Option Addr) (n c : Nat) (zs : List Int) (w : World) (hlay : Lay w) (w0 : IsRow .u8 w A n c zs) :
    Calls Tryd.prog 6 #[.slice A n c] w fun e w' => e = .returned (.bool true) ∧ Below w.heap.size w w' := by
  obtain ⟨bs, hbs, hm, ⟨hc1, hc2⟩, hA⟩ := w0.bytes
  unfold maxLen at hm hc2
  obtain ⟨i0, hi, hz0, hz1, hz2⟩ := info_parts mem.infoB
  have h2 := two_le hlay
  clear w0
  by_cases hn : n ≤ 65536
  · have hn' : ¬ (65536 : Int) < (n : Int) := by omega
    have hlit := World.ownsRow_lit (w := w) (base := w.heap.size) (e := 5) (size := 1) #[] 0 (Nat.le_refl _) (by simp) rfl
    have hb0 : Below w.heap.size w (w.alloc (.cells #[] 5)) := (Below.refl _ _).alloc (Nat.le_refl _) _
    have hrd := hbs.below hb0 (Nat.le_refl _)
    have HB := Lib.hid hbs
    have HLAY := Lib.hid hlay
    clear hbs hlay
    go_enter Tryd.func6, Tryd.ntmps6
    go_wp2_with (at_builtin; refine wpList_append_rd rfl (.tmp 12) (.tmp 13) 23 rfl w.heap.size 5 i0 (.int .u8 0) 1 1 Tryd.underlying23 hi hz0 hz1 hz2 rfl (by decide) _ 0 [] rfl hlit w.heap.size A n c hA (u8s bs) rfl (by rw [Nat.mul_one]; exact hrd) (u8s_one bs) (by unfold maxLen; omega) (by omega) (by simp) ?_; intro v1 w1 hown1 hg1 hnn1; simp only [Nat.zero_add, List.nil_append] at hown1)
    have hB1 := own_below hb0 hlit (by simp) hg1
    obtain ⟨A1, c1, rfl, hA1, hc11, hc12⟩ : ∃ A c, v1 = .slice A n c ∧ (A = none → c = 0) ∧ n ≤ c ∧ c ≤ 9223372036854775807 := by
      rcases own_form hown1 with ⟨rfl, e0⟩ | ⟨g, cap, rfl, _, _, h1, h2⟩
      · exact ⟨none, 0, by rw [e0], fun _ => rfl, by omega, by omega⟩
      · unfold maxLen at h2
        exact ⟨_, cap, rfl, (fun e => by cases e), h1, h2⟩
    have HB1 := Lib.hid hB1
    have HO1 := Lib.hid (own_bs hown1)
    have hs1 := hB1.size
    have HX := Lib.hid (decode_x w1 (by omega) (HLAY.out.below hB1 h2) w1.heap.size n c1 A1 bs HO1.out hA1 (Nat.le_refl _) hc11 hc12 (by omega))
    clear hrd hlit hb0 hown1 hg1 hnn1 hB1
    go_wp2_with (fail)
    refine HX.out.mono ?_
    rintro e w2 (⟨l, han, A2, c2, rfl, hp2, hb2⟩ | ⟨hno, rfl, hb2⟩)
    · have hs2 := hb2.size
      have HB2 := Lib.hid (HB1.out.trans (hb2.mono hs1))
      have HO2 := Lib.hid (HO1.out.below hb2 (Nat.le_refl _))
      have HP2 := Lib.hid hp2
      have HAN := Lib.hid han
      have h512 := (check_goes han.2.1).1
      obtain ⟨L, hL⟩ : ∃ L, l.length = L := ⟨_, rfl⟩
      rw [hL] at HP2 h512 ⊢
      have HL := Lib.hid hL
      have HY := Lib.hid (decode_y w2 w.heap.size n c A bs (HB.out.below HB2.out (Nat.le_refl _)) hA (by omega) hc1 hc2 (by omega))
      clear hb2 HX HO1 hp2 han hL
      go_wp2_with (fail)
      refine HY.out.mono ?_
      rintro e w3 (⟨l', han', A3, c3, rfl, hp3, hb3⟩ | ⟨hno, _⟩)
      · obtain rfl : l' = l := ans_one han' HAN.out
        rw [HL.out] at hp3 ⊢
        have hs3 := hb3.size
        have HB3 := Lib.hid (HB2.out.trans (hb3.mono (by omega)))
        have HO3 := Lib.hid (HO2.out.below hb3 (by omega))
        have HS := Lib.hid (same_t w3 w2.heap.size L c2 w3.heap.size c3 A2 A3 _ (HP2.out.below hb3 (Nat.le_refl _)) hs3 hp3 (Nat.le_refl _) (by omega))
        clear hb3 hp3 HY HO2 HP2 han'
        go_wp2_with (fail)
        refine HS.out.mono ?_
        rintro e w4 ⟨rfl, hb4⟩
        have HB4 := Lib.hid (HB3.out.trans (hb4.mono (by omega)))
        have k0 := conv_string (P := Tryd.prog) (c := c1) (HO3.out.below hb4 (by omega)) 23 9 5 Tryd.underlying23 Tryd.underlying9 Tryd.underlying5
        have k1 := conv_string (P := Tryd.prog) (c := c) (HB.out.below HB4.out (Nat.le_refl _)) 23 9 5 Tryd.underlying23 Tryd.underlying9 Tryd.underlying5
        clear hb4 HS HO3
        go_wp2_with (fail)
        go_ret
        exact ⟨rfl, HB4.out⟩
      · exact absurd HAN.out (hno l)
    · have hs2 := hb2.size
      have HB2 := Lib.hid (HB1.out.trans (hb2.mono hs1))
      have HO2 := Lib.hid (HO1.out.below hb2 (Nat.le_refl _))
      have HNO := Lib.hid hno
      have HY := Lib.hid (decode_y w2 w.heap.size n c A bs (HB.out.below HB2.out (Nat.le_refl _)) hA (by omega) hc1 hc2 (by omega))
      clear hb2 HX HO1 hno
      go_wp2_with (fail)
      refine HY.out.mono ?_
      rintro e w3 (⟨l', han', _⟩ | ⟨hno, rfl, hb3⟩)
      · exact absurd han' (HNO.out l')
      · have hs3 := hb3.size
        have HB3 := Lib.hid (HB2.out.trans (hb3.mono (by omega)))
        have HO3 := Lib.hid (HO2.out.below hb3 (by omega))
        have HS := Lib.hid (same_t w3 w3.heap.size 0 0 w3.heap.size 0 none none [] (Pts.none0 _ _ _) (Nat.le_refl _) (Pts.none0 _ _ _) (Nat.le_refl _) (by omega))
        clear hb3 HY HO2 hno
        go_wp2_with (fail)
        refine HS.out.mono ?_
        rintro e w4 ⟨rfl, hb4⟩
        have HB4 := Lib.hid (HB3.out.trans (hb4.mono (by omega)))
        have k0 := conv_string (P := Tryd.prog) (c := c1) (HO3.out.below hb4 (by omega)) 23 9 5 Tryd.underlying23 Tryd.underlying9 Tryd.underlying5
        have k1 := conv_string (P := Tryd.prog) (c := c) (HB.out.below HB4.out (Nat.le_refl _)) 23 9 5 Tryd.underlying23 Tryd.underlying9 Tryd.underlying5
        clear hb4 HS HO3
        go_wp2_with (fail)
        go_ret
        exact ⟨rfl, HB4.out⟩
  · have hn' : (65536 : Int) < (n : Int) := by omega
    go_enter Tryd.func6, Tryd.ntmps6
    go_wp2_with (fail)
    go_ret
    exact ⟨rfl, Below.refl _ _⟩
end Go.Proofs.YtknjejejkgihbaaDoor.lawTszDecodes
