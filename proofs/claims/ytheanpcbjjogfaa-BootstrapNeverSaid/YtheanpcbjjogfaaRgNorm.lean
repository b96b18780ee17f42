/-
  The program's Normal.
-/
import Derived.Test.YtheanpcbjjogfaaRgDelX
import Derived.WalkMore
import Derived.Shelf.SlSortCmp.NoneTotal
namespace Go.Proofs.Ytheanpcbjjogfaa.rg
open Go.ChangeShapes Go.WideShapes Go.ChangeAt Go.RowKit plain words ord mem

theorem join_drop {s : List R} {i : Nat} (hi : i < s.length) {x : R} (hx : s[i] = x) : joinR (s.drop i) = go x (s.drop (i + 1)) := by
  rw [getRg hi, hx]; rfl
theorem go_brk {s : List R} {k : Nat} (hk : k < s.length) {x r : R} (hx : s[k] = x) (h : r.2 < x.1) : go r (s.drop k) = r :: joinR (s.drop k) := by
  rw [getRg hk, hx, go, if_pos h]; rfl
theorem go_on {s : List R} {k : Nat} (hk : k < s.length) {x r : R} (hx : s[k] = x) (h : ¬ r.2 < x.1) : go r (s.drop k) = go (r.1, max r.2 x.2) (s.drop (k + 1)) := by
  rw [getRg hk, hx, go, if_neg h]
theorem go_end {s : List R} {k : Nat} (hk : s.length ≤ k) (r : R) : go r (s.drop k) = [r] := by
  rw [List.drop_of_length_le hk]; rfl
theorem join_end {s : List R} {k : Nat} (hk : s.length ≤ k) : joinR (s.drop k) = [] := by
  rw [List.drop_of_length_le hk]; rfl

theorem Own.chg2 {w w' : World} {B n H : Nat} {v : Value} {l : List R} (h : Own w B v n l) (hc : Chg (fun b => b = H) w w') (hS : v.ownBlock ≠ some H) : Own w' B v n l :=
  ⟨h.1, own_chg h.2 hc fun g hg e => hS (by rw [hg, e])⟩
theorem del_nil (w : World) : Calls Try.prog 27 #[.slice none 0 0, .func (.func 29) #[] #[]] w fun e w' => e = .returned (.slice none 0 0) ∧ Below w.heap.size w w' := by
  have eg : ∀ args w, (callFunc 29 args).run Try.prog w = .ok (.enter 29 args) w := enters_of Try.func29 (by kernel_rfl) rfl
  have hix := index_x w 0 0 0 none [] (Rgs.none0 w 0) (Nat.zero_le _) (by omega) 29 #[] emptyR (pred_empty w) eg
  have e : ixF emptyR [] 0 = -1 := rfl
  rw [e] at hix
  have HIX := Lib.hid hix
  clear hix e
  go_enter Try.func27, Try.ntmps27
  go_wp2_with fail
  refine HIX.out.mono ?_
  rintro e w1 ⟨rfl, hb1⟩
  go_wp2_with fail
  go_ret
  exact ⟨rfl, hb1⟩

theorem sortn_x (w : World) : Calls Try.prog 30 #[.slice none 0 0, .func (.func 31) #[] #[]] w fun e w' => e = .returned (.tuple #[]) ∧ w' = w := by
  have hcon := AnyF.slices_SortFunc_none sortRg none 0 (.func (.func 31) #[] #[]) w
  change Calls Try.prog 30 _ _ _ at hcon
  exact hcon
set_option maxHeartbeats 1000000 in
set_option maxRecDepth 100000 in
theorem norm_x (w : World) (B n c : Nat) (A : Option Addr) (l : List R) (h : Rgs w B A n l) (hA : A = none → c = 0) (hB : B ≤ w.heap.size) (hn : n ≤ 1000000) :
    Calls Try.prog 15 #[.slice A n c] w (RetRg w w.heap.size (normR l)) := by
  have hl := h.1
  have hcl := clone_rg w B n c A l h hA hB hn
  have hnl := normR_le l
  have HCL := Lib.hid hcl
  clear h hcl
  go_enter Try.func15, Try.ntmps15
  go_wp2_with fail
  go_step3
  go_wp2_with fail
  refine HCL.out.mono ?_
  rintro e w1 ⟨v1, rfl, hown1, hb1⟩
  rw [hl] at hown1 hnl
  have HLN := Lib.hid hl
  clear hl
  rcases own_form hown1.2 with ⟨rfl, hl0⟩ | ⟨g, cap, rfl, hg0, hg1, hcap1, hcap2⟩
  · have hdn := del_nil w1
    have HDN := Lib.hid hdn
    clear hdn hown1 HCL
    go_wp2_with fail
    refine HDN.out.mono ?_
    rintro e w2 ⟨rfl, hb2⟩
    have hsn := sortn_x w2
    have HSN := Lib.hid hsn
    have HB2 := Lib.hid (hb1.trans (hb2.mono hb1.size))
    have HNE := Lib.hid (show normR l = [] by
      have : l = [] := List.eq_nil_of_length_eq_zero (HLN.out.trans hl0)
      rw [this]; rfl)
    clear hsn HDN hb1 hb2
    go_wp2_with fail
    refine HSN.out.mono ?_
    rintro e w3 ⟨rfl, rfl⟩
    go_wp2_with fail
    go_step3
    go_wp2_with fail
    go_loopg [4, 5, 6] 0 (fun gg s4 s5 s6 wr => s4 = .slice none 0 0 ∧ s5 = .int .i64 0 ∧ wr = w3)
    case atStart => exact ⟨rfl, rfl, rfl⟩
    case round =>
      obtain ⟨rfl, rfl, rfl⟩ := hrel
      go_wp2_with fail
      try rw [Exit.noGoto_ret]
      go_ret
      rw [HNE.out]
      exact ⟨_, rfl, Own.nil _ _, HB2.out⟩
  · have hdel := del_x w1 w.heap.size g n cap l hown1 hg0 (by omega)
    have HDEL := Lib.hid hdel
    have HB1 := Lib.hid hb1
    have hs1 := hb1.size
    clear hdel hown1 HCL hb1
    go_wp2_with fail
    refine HDEL.out.mono ?_
    rintro e w2 ⟨m, rfl, hown2, hb2⟩
    have hs2 := hb2.size
    have hml : m ≤ n := by rw [← hown2.1, ← HLN.out]; exact List.length_filter_le _ _
    have hsort := sort_x w2 w.heap.size g m cap _ hown2 hg0 (by omega)
    have HS := Lib.hid hsort
    have HB2 := Lib.hid (HB1.out.trans hb2)
    have hmc := own_form hown2.2
    clear hsort hown2 hb2 HB1 HDEL
    go_wp2_with fail
    refine HS.out.mono ?_
    rintro e w3 ⟨rfl, s, hperm, hsrt, hown3, hb3⟩
    have HF := Lib.hid (normal_eq l s hperm hsrt)
    have hs3 := hb3.size
    have hsl := hown3.1
    have HO3 := Lib.hid hown3
    have HB3 := Lib.hid (HB2.out.trans hb3)
    generalize normR l = F at *
    clear hperm hsrt hown3 hb3 HS HB2 hmc
    have hgl : g < w3.heap.size := own_lt HO3.out.2 rfl
    obtain ⟨_, c0, hce, _, hmc1, hmc2⟩ := HO3.out.form
    cases hce
    go_wp2_with fail
    go_step3
    go_wp2_with fail
    go_loopg [4, 5, 6] m (fun gg s4 s5 s6 wr => ∃ (i : Nat) (v4 : Value) (o : List R), i ≤ m ∧ m - i ≤ gg ∧ s5 = .int .i64 i ∧ v4 = s4 ∧ Aside (Own wr w3.heap.size v4 o.length o) ∧ Aside (o ++ joinR (s.drop i) = F) ∧ Aside (Below w3.heap.size w3 wr))
    case atStart => exact ⟨0, _, [], Nat.zero_le _, by omega, rfl, rfl, Own.nil _ _, HF.out, Below.refl _ _⟩
    case round =>
      obtain ⟨i, v4, o, hi, hg2, rfl, rfl, OW, EQ, BW⟩ := hrel
      clear HF
      have hsw := BW.out.size
      by_cases hlt : i < m
      · have hltz : (i : Int) < (m : Int) := by omega
        obtain ⟨b, off, hbe, hb, l1, l2⟩ := (HO3.out.rgs.below BW.out (Nat.le_refl _)).at_ hlt
        cases hbe
        simp only [Nat.zero_add] at l1 l2
        obtain ⟨x, hx⟩ : ∃ x, s[i]'(by omega) = x := ⟨_, rfl⟩
        rw [hx] at l1 l2
        have hEQ2 : o ++ go x (s.drop (i + 1)) = F := by rw [← join_drop (by omega) hx]; exact EQ.out
        have HEQ2 := Lib.hid hEQ2
        obtain ⟨r1, r2⟩ := x
        have hbw : g < wr.heap.size := by omega
        obtain ⟨wb, hwb⟩ : ∃ wb, wr.alloc (.cells #[.int .i64 r1, .int .i64 r2] 27) = wb := ⟨_, rfl⟩
        have hbb : Below wr.heap.size wr wb := by rw [← hwb]; exact below_a _ _
        have hbx : wb.heap[wr.heap.size]? = some (.cells #[.int .i64 r1, .int .i64 r2] 27 (0, 0)) := by rw [← hwb]; exact alloc_new _ _
        have HBB := Lib.hid hbb
        have HBX := Lib.hid hbx
        have hlb : wr.heap.size < wb.heap.size := blk_lt hbx
        have HOW := Lib.hid OW.out
        have HBW := Lib.hid BW.out
        clear hbb hbx hx EQ hEQ2 OW BW
        go_wp2_with fail
        obtain ⟨wv, rfl⟩ : ∃ wv, wv = wr := ⟨wr, rfl⟩
        go_loopg [4, 5] m (fun gg s4 s5 wr => ∃ (k : Nat) (y2 : Int), i < k ∧ k ≤ m ∧ m - k ≤ gg ∧ s5 = .int .i64 k ∧ v4 = s4 ∧ Aside (wr.heap[wv.heap.size]? = some (.cells #[.int .i64 r1, .int .i64 y2] 27 (0, 0))) ∧ Aside (Chg (fun b => b = wv.heap.size) wb wr) ∧ Aside (o ++ go (r1, y2) (s.drop k) = F))
        case atStart => exact ⟨i + 1, r2, by omega, by omega, by omega, by go_num, rfl, HBX.out, Chg.refl _ _, HEQ2.out⟩
        case round =>
          obtain ⟨k, y2, hik, hk, hg3, rfl, hs4e, BX, CH, EQ3⟩ := hrel
          subst hs4e
          clear HEQ2 HBX
          have hs2 := CH.out.size
          have hbw2 : g < wr.heap.size := by omega
          have hlw2 : wv.heap.size < wr.heap.size := by omega
          have hbel : Below w3.heap.size wb wr := CH.out.below (by omega) (fun j e => by omega)
          have hbelv : Below w3.heap.size wv wr := (HBB.out.mono hsw).trans hbel
          have HBR := Lib.hid (HBW.out.trans hbelv)
          have hoo : Own wr w3.heap.size v4 o.length o := (HOW.out.below HBB.out (Nat.le_refl _)).chg2 CH.out (fun e => by have := own_lt HOW.out.2 e; omega)
          have HOO := Lib.hid hoo
          clear hbel hoo
          by_cases hlt2 : k < m
          · have hltz2 : (k : Int) < (m : Int) := by omega
            obtain ⟨b, off, hbe, hb2, l1, l2⟩ := (HO3.out.rgs.below HBR.out (Nat.le_refl _)).at_ hlt2
            cases hbe
            simp only [Nat.zero_add] at l1 l2
            obtain ⟨x, hx⟩ : ∃ x, s[k]'(by omega) = x := ⟨_, rfl⟩
            rw [hx] at l1 l2
            have HX := Lib.hid hx
            obtain ⟨x1, x2⟩ := x
            have b0 : wr.cell? ⟨wv.heap.size, 0, none⟩ = some (.int .i64 r1) := by rw [cell_of_row _ _ _ _ _ _ BX.out]; rfl
            have b1 : wr.cell? ⟨wv.heap.size, 1, none⟩ = some (.int .i64 y2) := by rw [cell_of_row _ _ _ _ _ _ BX.out]; rfl
            clear hx
            by_cases hbrk : y2 < x1
            · have HE := Lib.hid (show o ++ [(r1, y2)] ++ joinR (s.drop k) = F by
                have := EQ3.out
                rw [go_brk (by omega) HX.out hbrk] at this
                simpa using this)
              have hol : o.length < 1000001 := by
                have := congrArg List.length HE.out
                simp at this
                omega
              go_wp2_with fail
              have q0 := Wb.at_ b1
              have q1 := Wb.at_ l1
              refine wp_region_plan [([0, 1, 2, 3, 4, 5, 6, 7], none)] (by kernel_rfl) (by kernel_rfl) ?_
              refine seg_end _ (by dsimp only [pick, at_]) ?_
              repeat (go_big_quiet_step (fail))
              refine wpQuiet_nil ?_
              refine NoPanic.normal ?_
              clear q0 q1
              go_wp2_with (at_builtin; go_loud (refine wpList_append_rg rfl (.tmp 36) (.tmp 38) rfl w3.heap.size _ o.length o rfl (HOO.out.below (below_da wr _) (Nat.le_refl _)) (wr.heap.size + 1) _ 1 1 (fun e => by cases e) [(r1, y2)] rfl (rgs_new (w := wr.drew) _ (r1, y2)) (by omega) (by simp; omega) w3 (HBR.out.trans ((below_da wr _).mono (by omega))) ?_); intro A4 c4 w4 hown4 hb4 hA4 hc41 hc42 hs4)
              go_roundg (m - k)
              case measure => omega
              case rel => exact ⟨k, .slice A4 (o.length + 1) c4, o ++ [(r1, y2)], by omega, by omega, rfl, rfl, by rw [List.length_append]; exact hown4, HE.out, hb4⟩
            · have HE := Lib.hid (show o ++ go (r1, max y2 x2) (s.drop (k + 1)) = F by
                rw [← go_on (r := (r1, y2)) (by omega) HX.out hbrk]; exact EQ3.out)
              have hq : ¬ y2 < x1 := hbrk
              go_wp2_with fail
              have q0 := Wb.at_ b1
              have q1 := Wb.at_ l1
              refine wp_region_plan [([0, 1, 2, 3, 4, 5, 6, 7], none)] (by kernel_rfl) (by kernel_rfl) ?_
              refine seg_end _ (by dsimp only [pick, at_]) ?_
              repeat (go_big_quiet_step (fail))
              refine wpQuiet_nil ?_
              refine NoPanic.normal ?_
              clear q0 q1
              go_wp2_with fail
              obtain ⟨w5, hw5⟩ : ∃ w5, wr.drew = w5 := ⟨_, rfl⟩
              have hs5 : w5.heap.size = wr.heap.size := by rw [← hw5]; rfl
              have CH5 : Chg (fun b => b = wv.heap.size) wb w5 := by rw [← hw5]; exact CH.out.drew
              have BX5 : w5.heap[wv.heap.size]? = some (.cells #[.int .i64 r1, .int .i64 y2] 27 (0, 0)) := by rw [← hw5]; exact BX.out
              have l25 : w5.cell? ⟨g, k * 2 + 1, none⟩ = some (.int .i64 x2) := by rw [← hw5]; exact l2
              have b15 : w5.cell? ⟨wv.heap.size, 1, none⟩ = some (.int .i64 y2) := by rw [← hw5]; exact b1
              have f15 : w5.frozen? ⟨wv.heap.size, 1, none⟩ = false := frozen_of_row _ _ _ _ _ BX5
              have hbw5 : g < w5.heap.size := by omega
              have hlw5 : wv.heap.size < w5.heap.size := by omega
              rw [hw5]
              clear hw5 l1 l2 b0 b1
              have q0 := Wb.at_ b15
              have q1 := Wb.at_ l25
              refine wp_region_plan [([0, 1, 2, 3, 4, 5, 6, 7, 8], some (9, true)), ([], none)] (by kernel_rfl) (by kernel_rfl) ?_
              refine seg_write _ (by dsimp only [pick, at_]) _ (by dsimp only [pick, at_]) ?_
              repeat (go_big_quiet_step (fail))
              all_goals
                refine wpQuiet_nil ?_
                intro K1 h1
                go_wp2_with (fail)
              all_goals
                refine seg_end _ (by dsimp only [pick, at_]) ?_
                refine wpQuiet_nil (NoPanic.normal ?_)
                go_wp2_with (fail)
              all_goals
                go_roundg (m - (k + 1))
                case measure => omega
                case rel =>
                  refine ⟨k + 1, _, by omega, by omega, by omega, by go_num, rfl, heap_setCell_same _ _ _ _ _ _ BX5, (CH5.setCell (fun _ => rfl) _).drew, ?_⟩
                  refine Eq.trans ?_ HE.out
                  congr 3
                  all_goals first | omega | (simp only; omega)
          · obtain rfl : k = m := by omega
            have hltz2 : ¬ (k : Int) < (k : Int) := by omega
            have HE := Lib.hid (show o ++ [(r1, y2)] ++ joinR (s.drop k) = F by
              have := EQ3.out
              rw [go_end (by omega)] at this
              rw [join_end (by omega), List.append_nil]
              exact this)
            have hol : o.length < 1000001 := by
              have := congrArg List.length HE.out
              simp at this
              omega
            have b0 : wr.cell? ⟨wv.heap.size, 0, none⟩ = some (.int .i64 r1) := by rw [cell_of_row _ _ _ _ _ _ BX.out]; rfl
            have b1 : wr.cell? ⟨wv.heap.size, 1, none⟩ = some (.int .i64 y2) := by rw [cell_of_row _ _ _ _ _ _ BX.out]; rfl
            go_wp2_with (at_builtin; refine wpList_append_rg rfl (.tmp 49) (.tmp 51) rfl w3.heap.size _ o.length o rfl (HOO.out.below (below_a wr _) (Nat.le_refl _)) (wr.heap.size + 1) _ 1 1 (fun e => by cases e) [(r1, y2)] rfl (rgs_new (w := wr) _ (r1, y2)) (by omega) (by simp; omega) w3 (HBR.out.trans ((below_a wr _).mono (by omega))) ?_; intro A4 c4 w4 hown4 hb4 hA4 hc41 hc42 hs4)
            go_roundg (k - k)
            case measure => omega
            case rel => exact ⟨k, .slice A4 (o.length + 1) c4, o ++ [(r1, y2)], by omega, by omega, rfl, rfl, by rw [List.length_append]; exact hown4, HE.out, hb4⟩
      · obtain rfl : i = m := by omega
        have hltz : ¬ (i : Int) < (i : Int) := by omega
        go_wp2_with fail
        try rw [Exit.noGoto_ret]
        go_ret
        have e := EQ.out
        rw [join_end (by omega), List.append_nil] at e
        subst e
        exact ⟨_, rfl, OW.out.base (by omega), (HB3.out.mono (Nat.le_refl _)).trans (BW.out.mono (by omega))⟩
end Go.Proofs.Ytheanpcbjjogfaa.rg
