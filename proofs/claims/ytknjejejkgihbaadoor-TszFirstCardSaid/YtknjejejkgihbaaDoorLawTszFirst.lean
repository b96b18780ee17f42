/-
  The law TszFirst: its walk.
-/
import Derived.Test.YtknjejejkgihbaaDoorTsDcd
import Derived.Test.YtknjejejkgihbaaDoorTsLaw
namespace Go.Proofs.YtknjejejkgihbaaDoor.ts
open Go.RowKit plain words bitm uvs

theorem at_mod (a : Int) (L : Nat) (hL : 0 < L) (h512 : L ≤ 512) : (-(L : Int) < a.tmod (L : Int) ∧ a.tmod (L : Int) < (L : Int)) ∧ ∃ m : Nat, m < L ∧ (a.tmod (L : Int) + (L : Int)).tmod (L : Int) = (m : Int) := by
  have h1 : -(L : Int) < a.tmod (L : Int) ∧ a.tmod (L : Int) < (L : Int) := by
    constructor
    · have := Int.lt_tmod_of_pos a (show (0 : Int) < (L : Int) by omega); omega
    · exact Int.tmod_lt_of_pos a (by omega)
  refine ⟨h1, ((a.tmod (L : Int) + (L : Int)) % (L : Int)).toNat, ?_, ?_⟩
  · have := Int.emod_lt_of_pos (a.tmod (L : Int) + (L : Int)) (show (0 : Int) < (L : Int) by omega)
    have := Int.emod_nonneg (a.tmod (L : Int) + (L : Int)) (show (L : Int) ≠ 0 by omega)
    omega
  · rw [Int.tmod_eq_emod_of_nonneg (by omega)]
    have := Int.emod_nonneg (a.tmod (L : Int) + (L : Int)) (show (L : Int) ≠ 0 by omega)
    omega
theorem ck_take (l : List Pt) : ∀ (m : Nat) (p : Option Int), ckF p l = 0 → ckF p (l.take m) = 0 := by
  induction l with
  | nil => intro m p _; cases m <;> cases p <;> rfl
  | cons x l ih =>
    intro m p h
    cases m with
    | zero => cases p <;> rfl
    | succ m =>
      unfold ckF at h
      rw [List.take_succ_cons, ckF]
      split at h
      · simp at h
      · rename_i h1
        rw [if_neg h1]
        split at h
        · simp at h
        · rename_i h2
          rw [if_neg h2]
          exact ih m _ h
theorem check_take {l : List Pt} (h : checkP l = 0) (m : Nat) : checkP (l.take m) = 0 := by
  have h5 := (check_goes h).1
  unfold checkP at h ⊢
  rw [if_neg (by omega)] at h
  rw [if_neg (by rw [List.length_take]; omega)]
  exact ck_take l m none h
theorem rest_take (l : List Pt) : ∀ (m : Nat) (t d : Int) (v s : Nat) (a b : Win), (restB t d v s a b (l.take m)).length ≤ (restB t d v s a b l).length := by
  induction l with
  | nil => intro m; intros; simp
  | cons x l ih =>
    intro m t d v s a b
    cases m with
    | zero => simp [restB]
    | succ m =>
      rw [List.take_succ_cons]
      simp only [restB, List.length_append]
      have := ih m x.1 (x.1 - t) x.2.1.toNat x.2.2.toNat (valW a (x.2.1.toNat ^^^ v)) (valW b (x.2.2.toNat ^^^ s))
      omega
theorem bits_take (l : List Pt) (m : Nat) : (bitsP (l.take m)).length ≤ (bitsP l).length := by
  cases l with
  | nil => simp
  | cons x l =>
    cases m with
    | zero => simp [bitsP]
    | succ m =>
      rw [List.take_succ_cons]
      simp only [bitsP, List.length_append]
      have := rest_take l m x.1 0 x.2.1.toNat x.2.2.toNat none none
      omega
theorem uv_mono {m n : Nat} (h : m ≤ n) (hn : n ≤ 512) : (uv m).length ≤ (uv n).length := by
  unfold uv
  by_cases h1 : m < 128
  · rw [uvf_small _ _ h1]
    have := (uvf_len 9 n).1
    simpa using this
  · rw [uvf_big 8 m (by omega), uvf_small _ _ (by omega), uvf_big 8 n (by omega), uvf_small _ _ (by omega)]; simp
theorem enc_take {l : List Pt} (hc : checkP l = 0) (m : Nat) : (encP (l.take m)).length ≤ (encP l).length := by
  have h5 := (check_goes hc).1
  have h1 := bits_take l m
  have h2 := uv_mono (m := (l.take m).length) (n := l.length) (by rw [List.length_take]; omega) h5
  unfold encP
  rw [List.length_append, List.length_append, pack_len, pack_len]
  omega
end Go.Proofs.YtknjejejkgihbaaDoor.ts
namespace Go.Proofs.YtknjejejkgihbaaDoor.lawTszFirst
open Go.ChangeShapes Go.WideShapes Go.ChangeAt Go.RowKit plain words ord mem bitm uvs ts
set_option maxHeartbeats 1000000 in
set_option maxRecDepth 100000 in
theorem walk_ok (a : Option Addr) (n c : Nat) (at_ : Int) (w : World) (hlay : Lay w) (h : IsPts w a n c) (hat : (Lit.int .i64 at_).wf = true) :
    Calls Tryd.prog 4 #[.slice a n c, .int .i64 at_] w fun e w' => e = .returned (.bool true) ∧ Below w.heap.size w w' := by
  obtain ⟨l, hp, hf, hnc, hcm, hnil⟩ := h
  have h2 := two_le hlay
  unfold maxLen at hcm
  by_cases hbig : 4096 < n
  · have i1 : (4096 : Int) < (n : Int) := by omega
    go_enter Tryd.func4, Tryd.ntmps4
    go_wp2_with (fail)
    go_ret
    exact ⟨rfl, Below.refl _ _⟩
  · have i1 : ¬ (4096 : Int) < (n : Int) := by omega
    by_cases hn0 : n = 0
    · have i2 : ((n : Int) == 0) = true := by simp; omega
      go_enter Tryd.func4, Tryd.ntmps4
      go_wp2_with (fail)
      go_ret
      exact ⟨rfl, Below.refl _ _⟩
    · have i2 : ((n : Int) == 0) = false := by simp; omega
      have hn0z : ¬ (n : Int) = 0 := by omega
      have HEN := Lib.hid (encode_x w h2 hlay w.heap.size n c a l hp hf (Nat.le_refl _) (by omega))
      have HCK := Lib.hid (fun (u : World) (hu : Below w.heap.size w u) => check_ty u w.heap.size n c a l (hp.below hu (Nat.le_refl _)) hu.size (by omega))
      have HPT := Lib.hid hp
      have HF := Lib.hid hf
      have HLAY := Lib.hid hlay
      obtain ⟨b, off, rfl, hb⟩ := Rd.some_of hp.2 (show 0 < n * 3 by omega)
      clear hp hf hlay hnil
      go_enter Tryd.func4, Tryd.ntmps4
      go_wp2_with (fail)
      refine HEN.out.mono ?_
      by_cases hc : checkP l = 0
      · have h512 := (check_goes hc).1
        obtain ⟨M, hM⟩ : ∃ M, (encP l).length = M := ⟨_, rfl⟩
        rintro e w1 hr
        unfold RetEnc at hr
        rw [if_pos hc, hM] at hr
        obtain ⟨A1, c1, rfl, ho1, hb1⟩ := hr
        have hs1 := hb1.size
        have HB1 := Lib.hid hb1
        have HC := Lib.hid hc
        have HM := Lib.hid hM
        have hln : n ≤ 512 := by rw [← HPT.out.1]; exact h512
        clear ho1 hb1 hM hc HEN h512
        go_wp2_with (fail)
        refine (HCK.out _ HB1.out).mono ?_
        rintro e w2 ⟨rfl, hb2⟩
        rw [HC.out]
        have hs2 := hb2.size
        have HB2 := Lib.hid (HB1.out.trans (hb2.mono hs1))
        obtain ⟨⟨t1, t2⟩, m, hm, hmm⟩ := at_mod at_ n (by omega) hln
        have hv1 : IntKind.i64.wrap (at_.tmod (n : Int)) = at_.tmod (n : Int) := IntWalk.i64_in _ (by omega)
        have hv2 : IntKind.i64.wrap (at_.tmod (n : Int) + (n : Int)) = at_.tmod (n : Int) + (n : Int) := IntWalk.i64_in _ (by omega)
        have hv3 : IntKind.i64.wrap (m : Int) = (m : Int) := IntWalk.i64_in _ (by omega)
        have j1 : (0 : Int) ≤ (m : Int) := by omega
        have j2 : (m : Int) ≤ (c : Int) := by omega
        obtain ⟨lm, hlm⟩ : ∃ lm, l.take m = lm := ⟨_, rfl⟩
        have hpm := (HPT.out.below HB2.out (Nat.le_refl _)).take m (by omega)
        have hcm2 := check_take HC.out m
        have hle := enc_take HC.out m
        have hfm : ∀ x ∈ lm, FitP x := fun x hx => by rw [← hlm] at hx; exact HF.out x (List.mem_of_mem_take hx)
        rw [hlm] at hpm hcm2 hle
        have HPM := Lib.hid hpm
        have HCM := Lib.hid hcm2
        have HFM := Lib.hid hfm
        have HLM := Lib.hid hlm
        obtain ⟨Mm, hMm⟩ : ∃ Mm, (encP lm).length = Mm := ⟨_, rfl⟩
        rw [hMm, HM.out] at hle
        have hlez : (Mm : Int) ≤ (M : Int) := by omega
        have hMl := encP_len lm HFM.out
        rw [hMm, hpm.1] at hMl
        have HMM := Lib.hid hMm
        clear hb2 hpm hcm2 hfm hlm hMm
        go_wp2_with (fail)
        refine (encode_x w2 (by omega) (HLAY.out.below HB2.out h2) w.heap.size m c _ lm HPM.out HFM.out (by omega) (by omega)).mono ?_
        rintro e w3 hr
        unfold RetEnc at hr
        rw [if_pos HCM.out, HMM.out] at hr
        obtain ⟨A3, c3, rfl, ho3, hb3⟩ := hr
        obtain ⟨hA3, hM3, hc3⟩ := own_cap' ho3
        have HB3 := Lib.hid (HB2.out.trans (hb3.mono (by omega)))
        have hs3 := hb3.size
        have HO3 := Lib.hid (own_bs ho3)
        have HPM3 := Lib.hid (HPM.out.below hb3 (by omega))
        clear ho3 hb3
        go_wp2_with (fail)
        refine (decode_x w3 (by omega) (HLAY.out.below HB3.out h2) w3.heap.size Mm c3 A3 (encP lm) HO3.out hA3 (Nat.le_refl _) hM3 hc3 (by omega)).mono ?_
        rintro e w4 (⟨l', han, A4, c4, rfl, hp4, hb4⟩ | ⟨hno, _⟩)
        · obtain rfl : l' = lm := ans_one han ⟨HFM.out, HCM.out, rfl⟩
          have HB4 := Lib.hid (HB3.out.trans (hb4.mono (by omega)))
          have HPM4 := Lib.hid (HPM3.out.below hb4 (by omega))
          have hs4 := hb4.size
          rw [HPM.out.1] at hp4 ⊢
          have HP4 := Lib.hid hp4
          clear hp4 hb4 han
          go_wp2_with (fail)
          refine (same_t w4 w4.heap.size m c4 w.heap.size c _ _ _ HP4.out (Nat.le_refl _) HPM4.out (by omega) (by omega)).mono ?_
          rintro e w5 ⟨rfl, hb5⟩
          have HB5 := Lib.hid (HB4.out.trans (hb5.mono HB4.out.size))
          clear hb5
          go_wp2_with (fail)
          go_ret
          exact ⟨rfl, HB5.out⟩
        · exact absurd ⟨HFM.out, HCM.out, rfl⟩ (hno lm)
      · obtain ⟨z, hz⟩ : ∃ z, checkP l = z := ⟨_, rfl⟩
        rintro e w1 hr
        unfold RetEnc at hr
        rw [if_neg hc, hz] at hr
        obtain ⟨rfl, hb1⟩ := hr
        rw [hz] at hc
        have HB1 := Lib.hid hb1
        have HZ := Lib.hid hz
        have z1 : (z == 0) = false := by simpa using hc
        have z2 : (z != 0) = true := by simpa using hc
        have z3 : (z != z) = false := by simp
        have z4 : (z == z) = true := by simp
        clear hb1 HEN hz
        go_wp2_with (fail)
        refine (HCK.out _ HB1.out).mono ?_
        rintro e w2 ⟨rfl, hb2⟩
        rw [HZ.out]
        have HB2 := Lib.hid (HB1.out.trans (hb2.mono HB1.out.size))
        clear hb2
        go_wp2_with (fail)
        refine (HCK.out _ HB2.out).mono ?_
        rintro e w3 ⟨rfl, hb3⟩
        rw [HZ.out]
        have HB3 := Lib.hid (HB2.out.trans (hb3.mono HB2.out.size))
        clear hb3
        go_wp2_with (fail)
        go_ret
        exact ⟨rfl, HB3.out⟩
end Go.Proofs.YtknjejejkgihbaaDoor.lawTszFirst
