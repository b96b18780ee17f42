/-
  The law TszOne: its walk.
-/
import Derived.Test.YtknjejejkgihbaaDoorTsDy
import Derived.Test.YtknjejejkgihbaaDoorTsLaw
namespace Go.Proofs.YtknjejejkgihbaaDoor.lawTszOne
open Go.ChangeShapes Go.WideShapes Go.ChangeAt Go.RowKit plain words ord mem bitm uvs ts
theorem at_mod (a : Int) (L : Nat) (hL : 0 < L) (hm : L ≤ 100000) : (-(L : Int) < a.tmod (L : Int) ∧ a.tmod (L : Int) < (L : Int)) ∧ ∃ m : Nat, m < L ∧ (a.tmod (L : Int) + (L : Int)).tmod (L : Int) = (m : Int) := by
  have h1 : -(L : Int) < a.tmod (L : Int) ∧ a.tmod (L : Int) < (L : Int) := by
    constructor
    · have := Int.lt_tmod_of_pos a (show (0 : Int) < (L : Int) by omega); omega
    · exact Int.tmod_lt_of_pos a (by omega)
  refine ⟨h1, ((a.tmod (L : Int) + (L : Int)) % (L : Int)).toNat, ?_, ?_⟩
  · have := Int.emod_lt_of_pos (a.tmod (L : Int) + (L : Int)) (show (0 : Int) < (L : Int) by omega)
    have := Int.emod_nonneg (a.tmod (L : Int) + (L : Int)) (show (L : Int) ≠ 0 by omega)
    omega
  · rw [Int.tmod_eq_emod_of_nonneg (by omega)]
    have := Int.emod_nonneg (a.tmod (L : Int) + (L : Int)) (show (L : Int) ≠ 0 by omega)
    omega
theorem bs_pre {w : World} {B n m : Nat} {A : Option Addr} {bs : List UInt8} (h : Bs w B A n bs) (hm : m ≤ n) : Bs w B A m (bs.take m) := by
  have := Rd.less h hm
  rwa [show (u8s bs).take m = u8s (bs.take m) from by simp [u8s, List.map_take]] at this
theorem cap_of {w : World} {base n : Nat} {v : Value} {e : TypeId} {xs : List Value} (h : w.ownsRow base e 1 v n xs) : ∃ A c, v = .slice A n c ∧ (A = none → c = 0) ∧ n ≤ c ∧ c ≤ 9223372036854775807 := by
  rcases own_form h with ⟨rfl, e0⟩ | ⟨g, cap, rfl, _, _, h1, h2⟩
  · exact ⟨none, 0, by rw [e0], fun _ => rfl, by omega, by omega⟩
  · unfold maxLen at h2
    exact ⟨_, cap, rfl, (fun e => by cases e), h1, h2⟩
set_option maxHeartbeats 2000000 in
set_option maxRecDepth 100000 in
theorem walk_ok (A : Option Addr) (n c : Nat) (zs : List Int) (at_ : Int) (A' : Option Addr) (n' c' : Nat) (zs' : List Int) (w : World) (hlay : Lay w) (w0 : IsRow .u8 w A n c zs) (hat : (Lit.int .i64 at_).wf = true) (w2 : IsRow .u8 w A' n' c' zs') :
    Calls Tryd.prog 8 #[.slice A n c, .int .i64 at_, .slice A' n' c'] w fun e w' => e = .returned (.bool true) ∧ Below w.heap.size w w' := by
  obtain ⟨bs, hbs, hm, ⟨hc1, hc2⟩, hA⟩ := w0.bytes
  obtain ⟨ms, hms, hm', ⟨hc1', hc2'⟩, hA'⟩ := w2.bytes
  unfold maxLen at hm hc2 hm' hc2'
  obtain ⟨i0, hi, hz0, hz1, hz2⟩ := info_parts mem.infoB
  have h2 := two_le hlay
  clear w0 w2
  by_cases hbig : 65536 < n ∨ 4096 < n'
  · by_cases hn : 65536 < n
    · have i1 : (65536 : Int) < (n : Int) := by omega
      go_enter Tryd.func8, Tryd.ntmps8
      go_wp2_with (fail)
      go_ret
      exact ⟨rfl, Below.refl _ _⟩
    · have i1 : ¬ (65536 : Int) < (n : Int) := by omega
      have i2 : (4096 : Int) < (n' : Int) := by omega
      go_enter Tryd.func8, Tryd.ntmps8
      go_wp2_with (fail)
      go_ret
      exact ⟨rfl, Below.refl _ _⟩
  · have i1 : ¬ (65536 : Int) < (n : Int) := by omega
    have i2 : ¬ (4096 : Int) < (n' : Int) := by omega
    have HB := Lib.hid hbs
    have HM := Lib.hid hms
    have HLAY := Lib.hid hlay
    have HX := Lib.hid (decode_x w h2 hlay w.heap.size n c A bs hbs hA (Nat.le_refl _) hc1 hc2 (by omega))
    clear hbs hms hlay hbig
    go_enter Tryd.func8, Tryd.ntmps8
    go_wp2_with (fail)
    refine HX.out.mono ?_
    rintro e w2 (⟨l, han, A2, c2, rfl, hp2, hb2⟩ | ⟨hno, rfl, hb2⟩)
    · have hs2 := hb2.size
      have HB2 := Lib.hid hb2
      have HP2 := Lib.hid hp2
      have HAN := Lib.hid han
      have h512 := (check_goes han.2.1).1
      have hnl : (encP l).length = n := by rw [han.2.2]; exact HB.out.len_
      have hn0 : 0 < n := by
        have := (uvs.uv_len l.length).1
        rw [← hnl]; unfold encP; rw [List.length_append]; omega
      obtain ⟨L, hL⟩ : ∃ L, l.length = L := ⟨_, rfl⟩
      rw [hL] at HP2 h512 ⊢
      have HL := Lib.hid hL
      have HNL := Lib.hid hnl
      have HY := Lib.hid (decode_y w2 w.heap.size n c A bs (HB.out.below HB2.out (Nat.le_refl _)) hA (by omega) hc1 hc2 (by omega))
      clear hb2 HX hp2 han hL hnl
      go_wp2_with (fail)
      refine HY.out.mono ?_
      rintro e w3 (⟨l', han', A3, c3, rfl, hp3, hb3⟩ | ⟨hno, _⟩)
      · have hs3 := hb3.size
        have HB3 := Lib.hid (HB2.out.trans (hb3.mono (by omega)))
        have HP3 := Lib.hid (HP2.out.below hb3 (Nat.le_refl _))
        have HEN := Lib.hid (encode_x w3 (by omega) (HLAY.out.below HB3.out h2) w2.heap.size L c2 A2 l HP3.out HAN.out.1 hs3 (by omega))
        clear hb3 hp3 han' HY HP2
        go_wp2_with (fail)
        refine HEN.out.mono ?_
        intro e w4 hr
        unfold RetEnc at hr
        rw [if_pos HAN.out.2.1, HNL.out] at hr
        obtain ⟨A4, c4, rfl, ho4, hb4⟩ := hr
        have hs4 := hb4.size
        have HB4 := Lib.hid (HB3.out.trans (hb4.mono (by omega)))
        have HE4 := Lib.hid (own_bs ho4)
        obtain ⟨⟨t1, t2⟩, m, hmn, hmm⟩ := at_mod at_ n hn0 (by omega)
        have hnz : ¬ (n : Int) = 0 := by omega
        have hv1 : IntKind.i64.wrap (at_.tmod (n : Int)) = at_.tmod (n : Int) := IntWalk.i64_in _ (by omega)
        have hv2 : IntKind.i64.wrap (at_.tmod (n : Int) + (n : Int)) = at_.tmod (n : Int) + (n : Int) := IntWalk.i64_in _ (by omega)
        have hv3 : IntKind.i64.wrap (m : Int) = (m : Int) := IntWalk.i64_in _ (by omega)
        have j1 : (0 : Int) ≤ (m : Int) := by omega
        have j2 : (m : Int) ≤ (c : Int) := by omega
        obtain ⟨b0, off0, rfl, hb0⟩ := Rd.some_of HB.out hn0
        have HPRE := Lib.hid (bs_pre (HB.out.below HB4.out (Nat.le_refl _)) (show m ≤ n by omega))
        have HZ := Lib.hid (decode_x w4 (by omega) (HLAY.out.below HB4.out h2) w.heap.size m c (some ⟨b0, off0, none⟩) (bs.take m) HPRE.out (fun e => by cases e) (by omega) (by omega) hc2 (by omega))
        have HNO1 := Lib.hid (show ∀ x, ¬ ans (bs.take m) x from fun x hx => by
          have h3 := (ans_prefix HAN.out hx (List.take_append_drop m bs).symm).2
          have h4 := congrArg List.length h3
          rw [List.length_drop, HB.out.len_] at h4
          simp at h4
          omega)
        clear hb4 ho4 HEN HP3
        go_wp2_with (fail)
        refine HZ.out.mono ?_
        rintro e w5 (⟨x, hx, _⟩ | ⟨_, rfl, hb5⟩)
        · exact absurd hx (HNO1.out x)
        · have hs5 := hb5.size
          have HB5 := Lib.hid (HB4.out.trans (hb5.mono (by omega)))
          have HE5 := Lib.hid (HE4.out.below hb5 (Nat.le_refl _))
          have hlit := World.ownsRow_lit (w := w5) (base := w5.heap.size) (e := 5) (size := 1) #[] 0 (Nat.le_refl _) (by simp) rfl
          have hba : Below w5.heap.size w5 (w5.alloc (.cells #[] 5)) := (Below.refl _ _).alloc (Nat.le_refl _) _
          have hrd := (HB.out.below HB5.out (Nat.le_refl _)).below hba (by omega)
          have hmd := (HM.out.below HB5.out (Nat.le_refl _)).below hba (by omega)
          have HMD := Lib.hid hmd
          clear hb5 hmd HZ HE4
          go_wp2_with (first | (at_builtin; refine wpList_append_rd rfl (.tmp 67) (.tmp 68) 23 rfl w5.heap.size 5 i0 (.int .u8 0) 1 1 Tryd.underlying23 hi hz0 hz1 hz2 rfl (by decide) _ 0 [] rfl hlit w.heap.size _ n c (fun e => by cases e) (u8s bs) rfl (by rw [Nat.mul_one]; exact hrd) (u8s_one bs) (by unfold maxLen; omega) (by omega) (by simp) ?_; intro v6 w6 hown6 hg6 hnn6; simp only [Nat.zero_add, List.nil_append] at hown6; have hB6 := own_below hba hlit (by simp) hg6; have HO6 := Lib.hid hown6; have HB6 := Lib.hid hB6; clear hown6 hg6 hnn6 hB6 hrd hlit hba) | (at_builtin; refine wpList_append_rd rfl (.tmp 71) (.tmp 72) 23 rfl w5.heap.size 5 i0 (.int .u8 0) 1 1 Tryd.underlying23 hi hz0 hz1 hz2 rfl (by decide) _ n (u8s bs) rfl HO6.out w.heap.size A' n' c' hA' (u8s ms) rfl (by rw [Nat.mul_one]; exact (HM.out.below HB5.out (Nat.le_refl _)).below HB6.out (by omega)) (u8s_one ms) (by unfold maxLen; omega) (by omega) HB6.out.size ?_; intro v7 w7 hown7 hg7 hnn7; have hB7 := own_below HB6.out HO6.out HB6.out.size hg7; rw [← u8s_append] at hown7; obtain ⟨A7, c7, rfl, hA7, hc71, hc72⟩ := cap_of hown7; have HO7 := Lib.hid (own_bs hown7); have HB7 := Lib.hid hB7; clear hown7 hg7 hnn7 hB7))
          have hs7 := HB7.out.size
          have HB7w := Lib.hid (HB5.out.trans (HB7.out.mono HB5.out.size))
          refine (decode_x w7 (by omega) (HLAY.out.below HB7w.out h2) w7.heap.size (n + n') c7 A7 (bs ++ ms) HO7.out hA7 (Nat.le_refl _) hc71 hc72 (by omega)).mono ?_
          rintro e w8 (⟨x, hx, A8, c8, rfl, _, hb8⟩ | ⟨hno, rfl, hb8⟩)
          · have hms0 := (ans_prefix hx HAN.out rfl).2
            have hn'0 : n' = 0 := by have := HM.out.len_; rw [hms0] at this; simpa using this.symm
            have hz : ((n' : Int) == 0) = true := by simp; omega
            have HB8 := Lib.hid (HB7w.out.trans (hb8.mono HB7w.out.size))
            have k2 := conv_string (P := Tryd.prog) (c := c4) ((HE5.out.below HB7.out (by omega)).below hb8 (by omega)) 23 9 5 Tryd.underlying23 Tryd.underlying9 Tryd.underlying5
            have k3 := conv_string (P := Tryd.prog) (c := c) (HB.out.below HB8.out (Nat.le_refl _)) 23 9 5 Tryd.underlying23 Tryd.underlying9 Tryd.underlying5
            rw [HAN.out.2.2] at k2
            clear hb8 hx hms0
            go_wp2_with (fail)
            go_ret
            exact ⟨rfl, HB8.out⟩
          · have hms0 : ms ≠ [] := fun e => hno l (by rw [e, List.append_nil]; exact HAN.out)
            have hn'0 : n' ≠ 0 := fun e => by
              have := HM.out.len_
              rw [e] at this
              exact hms0 (List.eq_nil_of_length_eq_zero this)
            have hz : ((n' : Int) == 0) = false := by simp; omega
            have HB8 := Lib.hid (HB7w.out.trans (hb8.mono HB7w.out.size))
            have k2 := conv_string (P := Tryd.prog) (c := c4) ((HE5.out.below HB7.out (by omega)).below hb8 (by omega)) 23 9 5 Tryd.underlying23 Tryd.underlying9 Tryd.underlying5
            have k3 := conv_string (P := Tryd.prog) (c := c) (HB.out.below HB8.out (Nat.le_refl _)) 23 9 5 Tryd.underlying23 Tryd.underlying9 Tryd.underlying5
            rw [HAN.out.2.2] at k2
            clear hb8 hno hms0
            go_wp2_with (fail)
            go_ret
            exact ⟨rfl, HB8.out⟩
      · exact absurd HAN.out (hno l)
    · have hs2 := hb2.size
      have HB2 := Lib.hid hb2
      have HNO := Lib.hid hno
      have HY := Lib.hid (decode_y w2 w.heap.size n c A bs (HB.out.below HB2.out (Nat.le_refl _)) hA (by omega) hc1 hc2 (by omega))
      clear hb2 HX hno
      go_wp2_with (fail)
      refine HY.out.mono ?_
      rintro e w3 (⟨l', han', _⟩ | ⟨hno, rfl, hb3⟩)
      · exact absurd han' (HNO.out l')
      · have HB3 := Lib.hid (HB2.out.trans (hb3.mono (by omega)))
        clear hb3 HY hno
        go_wp2_with (fail)
        go_ret
        exact ⟨rfl, HB3.out⟩
end Go.Proofs.YtknjejejkgihbaaDoor.lawTszOne
