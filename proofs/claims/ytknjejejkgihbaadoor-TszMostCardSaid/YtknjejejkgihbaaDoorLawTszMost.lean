/-
  The law TszMost: its walk.
-/
import Derived.Test.YtknjejejkgihbaaDoorTsEncX
import Derived.Test.YtknjejejkgihbaaDoorTsLay
namespace Go.Proofs.YtknjejejkgihbaaDoor.ts
open Go.ChangeShapes Go.WideShapes Go.ChangeAt Go.RowKit plain words ord mem bitm uvs

theorem uv_len2 (n : Nat) (h : n ≤ 512) : (uv n).length ≤ 2 := by
  unfold uv
  by_cases h1 : n < 128
  · rw [uvf_small _ _ h1]; simp
  · rw [uvf_big 8 n (by omega), uvf_small _ _ (by omega)]; simp
theorem bitsP_len2 (p : Pt) (l : List Pt) (hf : ∀ x ∈ p :: l, FitP x) : (bitsP (p :: l)).length ≤ 192 + 222 * l.length := by
  have hp := fit_v (hf p (by simp))
  have h4 := restB_len l p.1 0 p.2.1.toNat p.2.2.toNat none none (fun x hx => hf x (by simp [hx])) hp.1 hp.2 win0 win0
  simp only [bitsP, List.length_append, bitsOf_len]
  omega
theorem encP_most (l : List Pt) (hf : ∀ x ∈ l, FitP x) (hc : checkP l = 0) : 1 ≤ (encP l).length ∧ (encP l).length ≤ 26 + 28 * (l.length - 1) := by
  have hn := (check_goes hc).1
  have h1 := uv_len l.length
  have h2 := uv_len2 l.length hn
  have h3 : (bitsP l).length ≤ 192 + 222 * (l.length - 1) := by
    cases l with
    | nil => simp [bitsP]
    | cons p l => have := bitsP_len2 p l hf; simpa using this
  unfold encP
  rw [List.length_append, pack_len]
  omega
end Go.Proofs.YtknjejejkgihbaaDoor.ts
namespace Go.Proofs.YtknjejejkgihbaaDoor.lawTszMost
open Go.ChangeShapes Go.WideShapes Go.ChangeAt Go.RowKit plain words ord mem bitm uvs ts
set_option maxHeartbeats 1000000 in
set_option maxRecDepth 100000 in
theorem walk_ok (a : Option Addr) (n c : Nat) (w : World) (hlay : Lay w) (h : IsPts w a n c) :
    Calls Tryd.prog 3 #[.slice a n c] w fun e w' => e = .returned (.bool true) ∧ Below w.heap.size w w' := by
  obtain ⟨l, hp, hf, hnc, hcm, hnil⟩ := h
  have h2 := two_le hlay
  by_cases hbig : 4096 < n
  · have i1 : (4096 : Int) < (n : Int) := by omega
    go_enter Tryd.func3, Tryd.ntmps3
    go_wp2_with (fail)
    go_ret
    exact ⟨rfl, Below.refl _ _⟩
  · have i1 : ¬ (4096 : Int) < (n : Int) := by omega
    have i2 : (n : Int) ≤ 4096 := by omega
    have HEN := Lib.hid (encode_x w h2 hlay w.heap.size n c a l hp hf (Nat.le_refl _) (by omega))
    have HCK := Lib.hid (fun (u : World) (hu : Below w.heap.size w u) => check_ty u w.heap.size n c a l (hp.below hu (Nat.le_refl _)) hu.size (by omega))
    have HM := Lib.hid (encP_most l hf)
    have HL := Lib.hid hp.1
    clear hp hf hlay hnil
    go_enter Tryd.func3, Tryd.ntmps3
    go_wp2_with (fail)
    refine HEN.out.mono ?_
    by_cases hc : checkP l = 0
    · obtain ⟨m1, m2⟩ := HM.out hc
      rw [HL.out] at m2
      obtain ⟨M, hM⟩ : ∃ M, (encP l).length = M := ⟨_, rfl⟩
      rintro e w1 hr
      unfold RetEnc at hr
      rw [if_pos hc, hM] at hr
      rw [hM] at m1 m2
      obtain ⟨A1, c1, rfl, ho1, hb1⟩ := hr
      have HB1 := Lib.hid hb1
      have HC := Lib.hid hc
      clear ho1 hb1 hM hc HM HEN
      go_wp2_with (fail)
      refine (HCK.out _ HB1.out).mono ?_
      rintro e w2 ⟨rfl, hb2⟩
      rw [HC.out]
      have HB2 := Lib.hid (HB1.out.trans (hb2.mono HB1.out.size))
      clear hb2
      go_wp2_with (fail)
      all_goals first | (exfalso; omega) | skip
      all_goals go_ret
      all_goals exact ⟨by congr 2; simp; omega, HB2.out⟩
    · obtain ⟨z, hz⟩ : ∃ z, checkP l = z := ⟨_, rfl⟩
      rintro e w1 hr
      unfold RetEnc at hr
      rw [if_neg hc, hz] at hr
      obtain ⟨rfl, hb1⟩ := hr
      rw [hz] at hc
      have HB1 := Lib.hid hb1
      have HZ := Lib.hid hz
      have z1 : (z == 0) = false := by simpa using hc
      have z2 : (z != 0) = true := by simpa using hc
      have z3 : (z != z) = false := by simp
      clear hb1 HM HEN hz
      go_wp2_with (fail)
      refine (HCK.out _ HB1.out).mono ?_
      rintro e w2 ⟨rfl, hb2⟩
      rw [HZ.out]
      have HB2 := Lib.hid (HB1.out.trans (hb2.mono HB1.out.size))
      clear hb2
      go_wp2_with (fail)
      go_ret
      exact ⟨rfl, HB2.out⟩
end Go.Proofs.YtknjejejkgihbaaDoor.lawTszMost
