/-
  Index: the program's text and entry.
-/
import Derived.Test.YtcebmlcdhapnkaaIdxReadY2
namespace Go.Proofs.Ytcebmlcdhapnkaa.idx
open Go.ChangeShapes Go.WideShapes Go.ChangeAt Go.RowKit plain words ord mem uvs uvc Go.Lib

theorem IsRd.chg {S : Nat → Prop} {w w' : World} {p B : Nat} {bs : List UInt8} (h : IsRd w p B bs) (hc : Chg S w w') (hp : ¬ S p) (hS : ∀ b, b < B → ¬ S b) : IsRd w' p B bs := by
  have hlt := h.lt
  obtain ⟨A, c, h1, h2, h3, h4⟩ := h
  refine ⟨A, c, hc.blk h1 hp, ?_, h3, h4⟩
  by_cases e : 0 < bs.length
  · obtain ⟨b, off, rfl, hb⟩ := Rd.some_of h2 e
    exact rd_chg h2 hc (by omega) (fun b' off' e => by cases e; exact hS _ hb)
  · have : bs = [] := List.eq_nil_of_length_eq_zero (by omega)
    subst this
    exact Rd.nil _ _ _
set_option maxHeartbeats 1000000 in
set_option maxRecDepth 100000 in
theorem text_r (w : World) (p B : Nat) (bs : List UInt8) (h : IsRd w p B bs) (hn : bs.length ≤ 1099511627776) :
    Calls Try.prog 55 #[.pointer (some ⟨p, 0, none⟩)] w fun e w' => e = .returned (.tuple #[.string (rt bs).1, .bool (!decide ((rt bs).2 = 0))]) ∧ (∃ k, k ≤ bs.length ∧ IsRd w' p B (bs.drop k) ∧ ((rt bs).2 ≠ 0 → k = (rt bs).2)) ∧ Chg (fun b => b = p) w w' := by
  obtain ⟨hp1, hp2⟩ := h.lt
  have HNU := Lib.hid (number_r w p B bs h hn)
  obtain ⟨hV, hN, hz0⟩ := rn_facts bs
  have HNO := Lib.hid (rt_no (l := bs))
  have HYES := Lib.hid (rt_yes (l := bs))
  obtain ⟨V, N, hVN⟩ : ∃ V N, rn bs = (V, N) := ⟨_, _, rfl⟩
  rw [hVN] at HNU HNO HYES hV hN
  simp only at hV hN
  clear h hz0 hVN
  obtain ⟨L, hL⟩ : ∃ L, bs.length = L := ⟨_, rfl⟩
  rw [hL] at HNO HYES hN hn
  have HL := Lib.hid hL
  clear hL
  go_enter Try.func55, Try.ntmps55
  go_wp2_with (fail)
  refine HNU.out.mono ?_
  rintro e w1 ⟨rfl, hr1, hc1⟩
  have HR1 := Lib.hid hr1
  have HC1 := Lib.hid hc1
  obtain ⟨A, c, g, hb, _, hnc, hcm⟩ := id hr1
  obtain ⟨L1, hL1⟩ : ∃ L1, (bs.drop N).length = L1 := ⟨_, rfl⟩
  rw [hL1] at g hb hnc
  have hLN : L - N = L1 := by rw [← hL1, List.length_drop, HL.out]
  have c0 : w1.cell? ⟨p, 0, none⟩ = some (.slice A L1 c) := by rw [cell_of_row _ _ _ _ _ _ g]; rfl
  have hfz := frozen_of_row _ _ 0 _ _ g
  have hs1 := hc1.size
  have hp3 : p < w1.heap.size := by omega
  have G := Lib.hid g
  have HB := Lib.hid hb
  have HLD := Lib.hid hL1
  clear hr1 hc1 HNU g hb hL1
  by_cases hz : N = 0
  · have hdz : decide (N = 0) = true := by simpa using hz
    have E1 := Lib.hid (HNO.out (.inl hz))
    clear HNO HYES
    go_wp2_with (fail)
    go_ret2
    rw [E1.out]
    exact ⟨rfl, ⟨N, by rw [HL.out]; exact hN, HR1.out, fun e => absurd rfl e⟩, HC1.out⟩
  · have hdz : decide (N = 0) = false := by simpa using hz
    by_cases h1 : V < 1
    · have hi1 : (V : Int) < 1 := by omega
      have E1 := Lib.hid (HNO.out (.inr (.inl h1)))
      clear HNO HYES
      go_wp2_with (fail)
      go_ret2
      rw [E1.out]
      exact ⟨rfl, ⟨N, by rw [HL.out]; exact hN, HR1.out, fun e => absurd rfl e⟩, HC1.out⟩
    · have hi1 : ¬ (V : Int) < 1 := by omega
      by_cases h2 : 16 < V
      · have hi2 : (16 : Int) < (V : Int) := by omega
        have E1 := Lib.hid (HNO.out (.inr (.inr (.inl h2))))
        clear HNO HYES
        go_wp2_with (fail)
        go_ret2
        rw [E1.out]
        exact ⟨rfl, ⟨N, by rw [HL.out]; exact hN, HR1.out, fun e => absurd rfl e⟩, HC1.out⟩
      · have hi2 : ¬ (16 : Int) < (V : Int) := by omega
        by_cases h3 : L1 < V
        · have hi3 : (L1 : Int) < (V : Int) := by omega
          have E1 := Lib.hid (HNO.out (.inr (.inr (.inr (by omega)))))
          clear HNO HYES
          go_wp2_with (fail)
          go_ret2
          rw [E1.out]
          exact ⟨rfl, ⟨N, by rw [HL.out]; exact hN, HR1.out, fun e => absurd rfl e⟩, HC1.out⟩
        · have hi3 : ¬ (L1 : Int) < (V : Int) := by omega
          have E1 := Lib.hid (HYES.out (by omega))
          obtain ⟨b, off, rfl, hbB⟩ := Rd.some_of HB.out (show 0 < L1 by omega)
          have i1 : (0 : Int) ≤ (V : Int) := by omega
          have i2 : (V : Int) ≤ (L1 : Int) := by omega
          have i3 : (L1 : Int) ≤ (c : Int) := by omega
          have i4 : (V : Int) ≤ (c : Int) := by omega
          have k0 := conv_string (P := Try.prog) (c := c) (bs_less HB.out (show V ≤ L1 by omega)) 28 9 5 Try.underlying28 Try.underlying9 Try.underlying5
          have HD := Lib.hid (bs_cut HB.out (show V ≤ L1 by omega) hnc)
          have hdz2 : decide (N + V = 0) = false := by simp; omega
          clear HNO HYES
          go_wp2_with (fail)
          all_goals
            go_ret2
            rw [E1.out]
            have h3 := HD.out
            first | rw [if_pos rfl] at h3 | rw [if_pos (by assumption)] at h3 | rw [if_neg (by assumption)] at h3
            rw [List.drop_drop] at h3
            refine ⟨by simp only [hdz2]; rfl, ⟨N + V, by rw [HL.out]; omega, ?_, fun _ => rfl⟩, HC1.out.setCell (p := ⟨p, 0, none⟩) (fun _ => rfl) _⟩
            refine IsRd.set G.out h3 (by rw [List.length_drop, HL.out]; omega) hp1 (by omega) (by omega)
end Go.Proofs.Ytcebmlcdhapnkaa.idx
