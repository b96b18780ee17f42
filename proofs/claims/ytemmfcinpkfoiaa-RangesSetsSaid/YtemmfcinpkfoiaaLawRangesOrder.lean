/-
  The walk of the law RangesOrder.
-/
import Derived.Test.YtemmfcinpkfoiaaLawRangesNormal
import Derived.Test.YtemmfcinpkfoiaaRgAdd
namespace Go.Proofs.Ytemmfcinpkfoiaa.lawRangesOrder
open Go.ChangeShapes Go.WideShapes Go.ChangeAt Go.RowKit plain words ord mem rg

theorem has_twice (D : List R) (x : R) (l : List R) {m : Nat} (hm : m < l.length) (hx : l[m] = x) (h : ∀ t, hasR D t ↔ hasR (l.drop (m + 1)) t) (t : Int) : hasR (D ++ [x, x]) t ↔ hasR (l.drop m) t := by
  rw [getRg hm, hx, hasR_append, hasR_cons, hasR_cons, hasR_cons, h t]
  have : ¬ hasR [] t := hasR_nil t
  constructor
  · rintro (h | h | h | h)
    · exact .inr h
    · exact .inl h
    · exact .inl h
    · exact absurd h this
  · rintro (h | h)
    · exact .inr (.inl h)
    · exact .inl h
theorem norm_take {l : List R} {i : Nat} (hi : i < l.length) {x : R} (hx : l[i] = x) : addR (normR (normR (l.take i))) x = normR (l.take (i + 1)) := by
  rw [normR_idem, ← normR_snoc, List.take_succ_eq_append_getElem hi, hx]
theorem norm_same {D l : List R} (h : ∀ t, hasR D t ↔ hasR l t) : normR D = normR l := normR_congr h
theorem rgs_two {w : World} (t : TypeId) (r : R) : Rgs (w.alloc (.cells #[.int .i64 r.1, .int .i64 r.2, .int .i64 r.1, .int .i64 r.2] t)) (w.heap.size + 1) (some ⟨w.heap.size, 0, none⟩) 2 [r, r] :=
  ⟨rfl, rd_new t [.int .i64 r.1, .int .i64 r.2, .int .i64 r.1, .int .i64 r.2] rfl⟩
theorem rgs_take {w : World} {B n : Nat} {A : Option Addr} {l : List R} (h : Rgs w B A n l) (k : Nat) (hk : k ≤ n) : Rgs w B A k (l.take k) := by
  refine ⟨by rw [List.length_take, h.1]; omega, by rw [cs_len rgE_len, List.length_take, h.1]; omega, fun j hj => ?_⟩
  obtain ⟨b', off', v, e, hb, hv, hc⟩ := h.2.at_ j (by omega)
  exact ⟨b', off', v, e, hb, by rw [← cs_take rgE_len, List.getElem?_take, if_pos hj]; exact hv, hc⟩

set_option maxHeartbeats 1000000 in
theorem walk_nil (a : Int) (w : World) : Calls Try.prog 10 #[.slice none 0 0, .int .i64 a] w fun e w' => e = .returned (.bool true) ∧ Below w.heap.size w w' := by
  obtain ⟨wb, hwb⟩ : ∃ wb, w.alloc (.cells #[] 34) = wb := ⟨_, rfl⟩
  have HB := Lib.hid (show Below w.heap.size w wb by rw [← hwb]; exact below_a _ _)
  have HO := Lib.hid (show Own wb w.heap.size (.slice (some ⟨w.heap.size, 0, none⟩) 0 0) 0 [] by rw [← hwb]; exact Own.lit w)
  have hm : a.tmod 1 = 0 := Int.tmod_one a
  have e0 : normR [] = [] := rfl
  have hn1 := norm_x wb 0 0 0 none [] (Rgs.none0 _ _) (fun _ => rfl) (Nat.zero_le _) (by omega)
  rw [e0] at hn1
  have HN1 := Lib.hid hn1
  clear hn1
  go_enter Try.func10, Try.ntmps10
  go_wp2_with fail
  go_loopg [5, 6] 0 (fun gg s5 s6 wr => s5 = .slice (some ⟨w.heap.size, 0, none⟩) 0 0 ∧ s6 = .int .i64 (-1) ∧ wr = wb)
  case atStart => exact ⟨rfl, rfl, rfl⟩
  case round =>
    obtain ⟨rfl, rfl, rfl⟩ := hrel
    go_wp2_with fail
    refine HN1.out.mono ?_
    rintro e w1 ⟨v7, rfl, hown7, hb7⟩
    have HO7 := Lib.hid hown7
    have HB7 := Lib.hid (HB.out.trans (hb7.mono HB.out.size))
    have HOB1 := Lib.hid (HO.out.below hb7 (Nat.le_refl _))
    clear hown7 hb7 HN1
    go_wp2_with fail
    go_loopg [7, 8] 0 (fun gg s7 s8 wr => s7 = v7 ∧ s8 = .int .i64 0 ∧ wr = w1)
    case atStart => exact ⟨rfl, rfl, rfl⟩
    case round =>
      obtain ⟨rfl, rfl, rfl⟩ := hrel
      go_wp2_with fail
      refine (rnorm_x _ 0 0 0 none [] (Rgs.none0 _ _) (Nat.zero_le _) (by omega)).mono ?_
      rintro e w2 ⟨v9, rfl, hown9, hb9⟩
      rw [e0] at hown9
      obtain ⟨A9, c9, rfl, hA9, hc91, hc92⟩ := hown9.form
      obtain ⟨A7, c7, rfl, hA7, hc71, hc72⟩ := HO7.out.form
      simp only [List.length_nil] at hown9
      have hs9 := hb9.size
      have HB9 := Lib.hid (HB7.out.trans (hb9.mono HB7.out.size))
      have HX7 := Lib.hid (HO7.out.rgs.below hb9 (Nat.le_refl _))
      have HX9 := Lib.hid hown9.rgs
      have hnb := norm_x w2 w2.heap.size 0 0 (some ⟨w.heap.size, 0, none⟩) [] ((HOB1.out.below hb9 (Nat.le_refl _)).rgs) (fun e => by cases e) (Nat.le_refl _) (by omega)
      rw [e0] at hnb
      have HNB := Lib.hid hnb
      clear hnb hown9 hb9
      go_wp2_with fail
      refine HNB.out.mono ?_
      rintro e w3 ⟨v10, rfl, hown10, hb10⟩
      have hs10 := hb10.size
      obtain ⟨A10, c10, rfl, _, _, _⟩ := hown10.form
      have hsame := same_x w3 w3.heap.size 0 c10 w2.heap.size 0 c9 A10 A9 _ _ hown10.rgs (Nat.le_refl _) (HX9.out.below hb10 (Nat.le_refl _)) hs10 (by omega) true (by simp)
      have HS := Lib.hid hsame
      have HB10 := Lib.hid (HB9.out.trans (hb10.mono HB9.out.size))
      have HY9 := Lib.hid (HX9.out.below hb10 (Nat.le_refl _))
      have HY7 := Lib.hid (HX7.out.below hb10 hs9)
      clear hsame hown10 hb10
      go_wp2_with fail
      refine HS.out.mono ?_
      rintro e w4 ⟨rfl, hb11⟩
      have hs11 := hb11.size
      have hsame := same_x w4 _ 0 c7 w2.heap.size 0 c9 A7 A9 _ _ (HY7.out.below hb11 (by omega)) (by omega) (HY9.out.below hb11 hs10) (by omega) (by omega) true (by simp)
      have HS2 := Lib.hid hsame
      have HB11 := Lib.hid (HB10.out.trans (hb11.mono HB10.out.size))
      clear hsame hb11
      go_wp2_with fail
      refine HS2.out.mono ?_
      rintro e w5 ⟨rfl, hb12⟩
      go_wp2_with fail
      go_ret
      exact ⟨rfl, HB11.out.trans (hb12.mono HB11.out.size)⟩

set_option maxHeartbeats 1000000 in
set_option maxRecDepth 100000 in
theorem walk_ok (A : Option Addr) (n c : Nat) (a : Int) (w : World) (h0 : IsPairs .i64 .i64 w A n c) (_ : (Lit.int .i64 a).wf = true) :
    Calls Try.prog 10 #[.slice A n c, .int .i64 a] w fun e w' => e = .returned (.bool true) ∧ Below w.heap.size w w' := by
  obtain ⟨l, h, hA, hc1, hc2⟩ := rgs_of h0
  clear h0
  have hl := h.1
  by_cases hAn : A = none
  · subst hAn
    obtain rfl := hA rfl
    obtain rfl : n = 0 := by omega
    exact walk_nil a w
  by_cases hbig : 512 < n
  · have hbz : (512 : Int) < (n : Int) := by omega
    clear h hA
    go_enter Try.func10, Try.ntmps10
    go_wp2_with fail
    go_ret
    exact ⟨rfl, Below.refl _ _⟩
  · have hbz : ¬ (512 : Int) < (n : Int) := by omega
    have HH := Lib.hid h
    have HLIT := Lib.hid (Own.lit w)
    have HBL := Lib.hid (below_a w (.cells #[] 34))
    have hw0 : IntKind.i64.wrap ((n : Int) - 1) = (n : Int) - 1 := IntWalk.i64_in _ (by omega)
    clear h
    go_enter Try.func10, Try.ntmps10
    go_wp2_with fail
    go_loopg [5, 6] n (fun gg s5 s6 wr => ∃ (k : Nat) (v5 : Value) (D : List R), k ≤ n ∧ k ≤ gg ∧ s6 = .int .i64 ((k : Int) - 1) ∧ v5 = s5 ∧ D.length = 2 * (n - k) ∧ Aside (Own wr w.heap.size v5 D.length D) ∧ Aside (∀ t, hasR D t ↔ hasR (l.drop k) t) ∧ Aside (Below w.heap.size w wr))
    case atStart => exact ⟨n, _, [], Nat.le_refl _, Nat.le_refl _, rfl, rfl, by simp, HLIT.out, fun t => by rw [List.drop_of_length_le (by omega)], HBL.out⟩
    case round =>
      obtain ⟨k, v5, D, hk, hg, rfl, rfl, hD, OW, HD, BW⟩ := hrel
      have HDL := Lib.hid hD
      have hD2 : D.length ≤ 1024 := by omega
      clear HLIT HBL hw0 hD
      have hsw := BW.out.size
      cases k with
      | succ m =>
        have hm : m < n := by omega
        have hkz : (((m + 1 : Nat) : Int) - 1) = (m : Int) := by omega
        rw [hkz]
        have hmz : (0 : Int) ≤ (m : Int) := by omega
        have hmn : (m : Int) < (n : Int) := by omega
        obtain ⟨b, off, rfl, hb, l1, l2⟩ := (HH.out.below BW.out (Nat.le_refl _)).at_ hm
        obtain ⟨x, hx⟩ : ∃ x, l[m]'(by omega) = x := ⟨_, rfl⟩
        rw [hx] at l1 l2
        have HHT := Lib.hid (has_twice D x l (by omega) hx HD.out)
        have hbw : b < wr.heap.size := by omega
        have hwm : IntKind.i64.wrap ((m : Int) - 1) = (m : Int) - 1 := IntWalk.i64_in _ (by omega)
        clear hx HD hkz
        go_wp2_with fail
        have q0 := Wb.at_ l1
        have q1 := Wb.at_ l2
        refine wp_region_plan [([0, 1, 2, 3, 4, 5, 6, 7, 8], some (9, false)), ([], some (10, true)), ([11], none)] (by kernel_rfl) (by kernel_rfl) ?_
        refine seg_act _ (by dsimp only [pick, at_]) _ (by dsimp only [pick, at_]) ?_
        repeat (go_big_quiet_step (fail))
        refine wpQuiet_nil ?_
        intro K1 h1 h2
        clear h1 q0 q1
        go_wp2_with (fail)
        obtain ⟨w1, hw1⟩ : ∃ w1, (wr.alloc (.cells #[.int .i64 x.1, .int .i64 x.2, .int .i64 x.1, .int .i64 x.2] 34)).drew = w1 := ⟨_, rfl⟩
        have hb1 : Below wr.heap.size wr w1 := by rw [← hw1]; exact (below_a _ _).drew
        have hr1 : Rgs w1 (wr.heap.size + 1) (some ⟨wr.heap.size, 0, none⟩) 2 [x, x] := by rw [← hw1]; exact (rgs_two (w := wr) 34 x).below ((Below.refl (wr.heap.size + 1) _).drew) (Nat.le_refl _)
        have hs1 := hb1.size
        rw [hw1]
        refine h2 _ _ hb1 ?_
        clear h2 hw1
        have hO1 := OW.out.below hb1 (Nat.le_refl _)
        have hB1 := BW.out.trans (hb1.mono hsw)
        refine seg_write _ (by dsimp only [pick, at_]) _ (by dsimp only [pick, at_]) ?_
        refine wpQuiet_nil ?_
        intro K3 h3
        refine wpList_append_rg rfl (.tmp 21) (.tmp 30) rfl w.heap.size _ D.length D (by rfl) hO1 _ _ 2 2 (fun e => by cases e) [x, x] (by rfl) hr1 (by omega) (by omega) w hB1 ?_
        intro A3 c3 w3 hown3 hb3 hA3 hc31 hc32 hs3
        have HO3 := Lib.hid hown3
        have HB3 := Lib.hid hb3
        clear hown3 hb3 hO1 hB1 hb1 hr1 OW
        go_wp2_with (fail)
        refine seg_end _ (by dsimp only [pick, at_]) ?_
        repeat (go_big_quiet_step (fail))
        refine wpQuiet_nil ?_
        refine NoPanic.normal ?_
        go_wp2_with (fail)
        go_roundg m
        case measure => omega
        case rel => exact ⟨m, _, D ++ [x, x], by omega, Nat.le_refl _, rfl, rfl, by have := HDL.out; simp; omega, by rw [List.length_append]; exact HO3.out, HHT.out, HB3.out⟩
      | zero =>
        have hz0 : ¬ ((0 : Int) ≤ ((0 : Nat) : Int) - 1) := by omega
        obtain ⟨⟨t1, t2⟩, k, hk2, hkm⟩ := at_mod a (n + 1) (by omega) (by omega)
        simp only [Int.natCast_add, Int.cast_ofNat_Int, Int.natCast_one] at t1 t2 hkm
        rw [← Int.add_assoc] at hkm
        have hv1 : IntKind.i64.wrap ((n : Int) + 1) = (n : Int) + 1 := IntWalk.i64_in _ (by omega)
        have hv2 : IntKind.i64.wrap (a.tmod ((n : Int) + 1)) = a.tmod ((n : Int) + 1) := IntWalk.i64_in _ (by omega)
        have hv3 : IntKind.i64.wrap (a.tmod ((n : Int) + 1) + n) = a.tmod ((n : Int) + 1) + n := IntWalk.i64_in _ (by omega)
        have hv4 : IntKind.i64.wrap (a.tmod ((n : Int) + 1) + n + 1) = a.tmod ((n : Int) + 1) + n + 1 := IntWalk.i64_in _ (by omega)
        have hv5 : IntKind.i64.wrap ((k : Int)) = (k : Int) := IntWalk.i64_in _ (by omega)
        have hnz : ((n : Int) + 1 == 0) = false := by simp; omega
        have hk3 : (k : Int) ≤ (n : Int) := by omega
        have hk4 : (0 : Int) ≤ (k : Int) := by omega
        have hk5 : (k : Int) ≤ (c : Int) := by omega
        have hno := norm_x wr w.heap.size k c A (l.take k) (rgs_take (HH.out.below BW.out (Nat.le_refl _)) k (by omega)) hA hsw (by omega)
        have HNO := Lib.hid hno
        have HOW := Lib.hid OW.out
        have HHD := Lib.hid HD.out
        have HBW := Lib.hid BW.out
        clear hno OW HD BW HDL
        cases A
        case none => exact absurd rfl hAn
        case some ad =>
          go_wp2_with fail
          refine HNO.out.mono ?_
          rintro e w1 ⟨v7, rfl, hown7, hb7⟩
          have hs7 := hb7.size
          have HO7 := Lib.hid hown7
          have HB7 := Lib.hid (HBW.out.trans (hb7.mono hsw))
          have HOB1 := Lib.hid (HOW.out.below hb7 (Nat.le_refl _))
          clear hown7 hb7 HNO HOW HBW
          go_wp2_with fail
          go_loopg [7, 8] n (fun gg s7 s8 wr => ∃ (i : Nat) (v7 : Value), i ≤ n ∧ n - i ≤ gg ∧ s8 = .int .i64 i ∧ v7 = s7 ∧ Aside (Own wr w.heap.size v7 (normR (l.take i)).length (normR (l.take i))) ∧ Aside (Below w1.heap.size w1 wr))
          case atStart => exact ⟨k, _, by omega, by omega, rfl, rfl, HO7.out.base (by omega), Below.refl _ _⟩
          case round =>
            obtain ⟨i, v7, hi, hg2, rfl, rfl, OW, BW⟩ := hrel
            have hsr := BW.out.size
            have HB := Lib.hid (HB7.out.trans (BW.out.mono HB7.out.size))
            have HOB0 := Lib.hid (HOB1.out.below BW.out (Nat.le_refl _))
            by_cases hlt : i < n
            · have hltz : (i : Int) < (n : Int) := by omega
              obtain ⟨b, off, hAe, hb, l1, l2⟩ := (HH.out.below HB.out (Nat.le_refl _)).at_ hlt
              cases hAe
              obtain ⟨x, hx⟩ : ∃ x, l[i]'(by omega) = x := ⟨_, rfl⟩
              rw [hx] at l1 l2
              have hNT := norm_take (by omega) hx
              obtain ⟨A7, c7, rfl, hA7, hc71, hc72⟩ := OW.out.form
              have hnl := normR_le (l.take i)
              simp only [List.length_take] at hnl
              have hadd := add_x wr wr.heap.size (normR (l.take i)).length c7 A7 (normR (l.take i)) OW.out.rgs hA7 (Nat.le_refl _) (by omega) x
              rw [hNT] at hadd
              have HADD := Lib.hid hadd
              have hbw : b < wr.heap.size := by omega
              clear hx hNT hadd OW
              go_wp2_with fail
              refine HADD.out.mono ?_
              rintro e w2 ⟨v2, rfl, hown2, hb2⟩
              have HO2 := Lib.hid (hown2.base (C := w.heap.size) (by omega))
              have HBX := Lib.hid (BW.out.trans (hb2.mono hsr))
              clear hown2 hb2 HADD
              go_wp2_with fail
              go_roundg (n - (i + 1))
              case measure => omega
              case rel => exact ⟨i + 1, v2, by omega, by omega, by go_num, rfl, HO2.out, HBX.out⟩
            · obtain rfl : i = n := by omega
              have hltz : ¬ (i : Int) < (i : Int) := by omega
              rw [List.take_of_length_le (by omega)] at OW
              have HO7 := Lib.hid OW.out
              have hnl := normR_le l
              clear OW
              refine ?_

              have hrn := rnorm_x wr w.heap.size i c _ l (HH.out.below HB.out (Nat.le_refl _)) HB.out.size (by omega)
              have HRN := Lib.hid hrn
              clear hrn
              go_wp2_with fail
              refine HRN.out.mono ?_
              rintro e w2 ⟨v9, rfl, hown9, hb9⟩
              have hs9 := hb9.size
              obtain ⟨A9, c9, rfl, hA9, hc91, hc92⟩ := hown9.form
              have HO9 := Lib.hid hown9
              have HOB := Lib.hid (HOB0.out.below hb9 (Nat.le_refl _))
              have HO7b := Lib.hid (HO7.out.below hb9 (Nat.le_refl _))
              have HB9 := Lib.hid (HB.out.trans (hb9.mono HB.out.size))
              obtain ⟨A5, c5, rfl, hA5, hc51, hc52⟩ := HOB.out.form
              obtain ⟨A7, c7, rfl, hA7, hc71, hc72⟩ := HO7b.out.form
              have hnb := norm_x w2 w2.heap.size D.length c5 A5 D HOB.out.rgs hA5 (Nat.le_refl _) (by omega)
              rw [norm_same HHD.out] at hnb
              have HNB := Lib.hid hnb
              clear hnb hown9 hb9
              go_wp2_with fail
              refine HNB.out.mono ?_
              rintro e w3 ⟨v10, rfl, hown10, hb10⟩
              have hs10 := hb10.size
              obtain ⟨A10, c10, rfl, _, _, _⟩ := hown10.form
              have hsame := same_x w3 w3.heap.size (normR l).length c10 w2.heap.size (normR l).length c9 A10 A9 _ _ hown10.rgs (Nat.le_refl _) (HO9.out.rgs.below hb10 (Nat.le_refl _)) hs10 (by omega) true (by simp)
              have HS := Lib.hid hsame
              have HB10 := Lib.hid (HB9.out.trans (hb10.mono HB9.out.size))
              have HX9 := Lib.hid (HO9.out.rgs.below hb10 (Nat.le_refl _))
              have HX7 := Lib.hid (HO7b.out.rgs.below hb10 (Nat.le_refl _))
              clear hsame hown10 hb10
              go_wp2_with fail
              refine HS.out.mono ?_
              rintro e w4 ⟨rfl, hb11⟩
              have hs11 := hb11.size
              have hsame := same_x w4 w2.heap.size (normR l).length c7 w2.heap.size (normR l).length c9 A7 A9 _ _ (HX7.out.below hb11 hs10) (by omega) (HX9.out.below hb11 hs10) (by omega) (by omega) true (by simp)
              have HS2 := Lib.hid hsame
              have HB11 := Lib.hid (HB10.out.trans (hb11.mono HB10.out.size))
              clear hsame hb11
              go_wp2_with fail
              refine HS2.out.mono ?_
              rintro e w5 ⟨rfl, hb12⟩
              go_wp2_with fail
              go_ret
              exact ⟨rfl, HB11.out.trans (hb12.mono HB11.out.size)⟩
end Go.Proofs.Ytemmfcinpkfoiaa.lawRangesOrder
