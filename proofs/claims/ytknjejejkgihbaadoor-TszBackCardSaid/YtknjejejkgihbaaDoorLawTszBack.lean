/-
  The law TszBack: its walk.
-/
import Derived.Test.YtknjejejkgihbaaDoorTsDcd
import Derived.Test.YtknjejejkgihbaaDoorTsLaw
namespace Go.Proofs.YtknjejejkgihbaaDoor.lawTszBack
open Go.ChangeShapes Go.WideShapes Go.ChangeAt Go.RowKit plain words ord mem bitm uvs ts
set_option maxHeartbeats 1000000 in
set_option maxRecDepth 100000 in
theorem walk_ok (a : Option Addr) (n c : Nat) (w : World) (hlay : Lay w) (h : IsPts w a n c) :
    Calls Tryd.prog 7 #[.slice a n c] w fun e w' => e = .returned (.bool true) ∧ Below w.heap.size w w' := by
  obtain ⟨l, hp, hf, hnc, hcm, hnil⟩ := h
  have h2 := two_le hlay
  by_cases hbig : 4096 < n
  · have i1 : (4096 : Int) < (n : Int) := by omega
    go_enter Tryd.func7, Tryd.ntmps7
    go_wp2_with (fail)
    go_ret
    exact ⟨rfl, Below.refl _ _⟩
  · have i1 : ¬ (4096 : Int) < (n : Int) := by omega
    have HEN := Lib.hid (encode_x w h2 hlay w.heap.size n c a l hp hf (Nat.le_refl _) (by omega))
    have HCK := Lib.hid (fun (u : World) (hu : Below w.heap.size w u) => check_ty u w.heap.size n c a l (hp.below hu (Nat.le_refl _)) hu.size (by omega))
    have HPT := Lib.hid hp
    have HF := Lib.hid hf
    have HLAY := Lib.hid hlay
    clear hp hf hlay hnil
    go_enter Tryd.func7, Tryd.ntmps7
    go_wp2_with (fail)
    refine HEN.out.mono ?_
    by_cases hc : checkP l = 0
    · have hlen := encP_len l HF.out
      have h512 := (check_goes hc).1
      obtain ⟨M, hM⟩ : ∃ M, (encP l).length = M := ⟨_, rfl⟩
      rw [hM] at hlen
      rintro e w1 hr
      unfold RetEnc at hr
      rw [if_pos hc, hM] at hr
      obtain ⟨A1, c1, rfl, ho1, hb1⟩ := hr
      obtain ⟨hA1, hM1, hc1⟩ := own_cap' ho1
      have hs1 := hb1.size
      have HO1 := Lib.hid ho1
      have HB1 := Lib.hid hb1
      have HC := Lib.hid hc
      have hln : n ≤ 512 := by rw [← HPT.out.1]; exact h512
      clear ho1 hb1 hM hc HEN h512
      go_wp2_with (fail)
      refine (HCK.out _ HB1.out).mono ?_
      rintro e w2 ⟨rfl, hb2⟩
      rw [HC.out]
      have hs2 := hb2.size
      have HB2 := Lib.hid (HB1.out.trans (hb2.mono hs1))
      have HO2 := Lib.hid (own_keep HO1.out hb2 (Nat.le_refl _))
      clear hb2
      go_wp2_with (fail)
      refine (decode_x w2 (by omega) (HLAY.out.below HB2.out h2) w2.heap.size M c1 A1 (encP l) (own_bs HO2.out) hA1 (Nat.le_refl _) hM1 hc1 (by have := HPT.out.1; omega)).mono ?_
      rintro e w3 (⟨l', han, A3, c3, rfl, hp3, hb3⟩ | ⟨hno, _⟩)
      · obtain rfl : l' = l := ans_one han ⟨HF.out, HC.out, rfl⟩
        have HB3 := Lib.hid (HB2.out.trans (hb3.mono (by omega)))
        rw [HPT.out.1] at hp3 ⊢
        have HP3 := Lib.hid hp3
        clear hp3 hb3 han
        go_wp2_with (fail)
        refine (same_t w3 w.heap.size n c w3.heap.size c3 _ _ _ (HPT.out.below HB3.out (Nat.le_refl _)) HB3.out.size HP3.out (Nat.le_refl _) (by omega)).mono ?_
        rintro e w4 ⟨rfl, hb4⟩
        have HB4 := Lib.hid (HB3.out.trans (hb4.mono HB3.out.size))
        clear hb4
        go_wp2_with (fail)
        go_ret
        exact ⟨rfl, HB4.out⟩
      · exact absurd ⟨HF.out, HC.out, rfl⟩ (hno l)
    · obtain ⟨z, hz⟩ : ∃ z, checkP l = z := ⟨_, rfl⟩
      rintro e w1 hr
      unfold RetEnc at hr
      rw [if_neg hc, hz] at hr
      obtain ⟨rfl, hb1⟩ := hr
      rw [hz] at hc
      have HB1 := Lib.hid hb1
      have HZ := Lib.hid hz
      have z1 : (z == 0) = false := by simpa using hc
      have z2 : (z != 0) = true := by simpa using hc
      have z3 : (z != z) = false := by simp
      have z4 : (z == z) = true := by simp
      clear hb1 HEN hz
      go_wp2_with (fail)
      refine (HCK.out _ HB1.out).mono ?_
      rintro e w2 ⟨rfl, hb2⟩
      rw [HZ.out]
      have HB2 := Lib.hid (HB1.out.trans (hb2.mono HB1.out.size))
      clear hb2
      go_wp2_with (fail)
      go_ret
      exact ⟨rfl, HB2.out⟩
end Go.Proofs.YtknjejejkgihbaaDoor.lawTszBack
