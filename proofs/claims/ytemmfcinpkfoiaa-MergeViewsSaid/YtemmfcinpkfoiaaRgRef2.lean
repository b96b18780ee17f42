/-
  Sets of times as lists of ranges: the document's own answer, whole.
-/
import Derived.Test.YtemmfcinpkfoiaaRgRef
namespace Go.Proofs.Ytemmfcinpkfoiaa.rg
open Go.ChangeShapes Go.WideShapes Go.ChangeAt Go.RowKit plain words ord mem

theorem eat_le (l : List R) (r : R) : (eat l r).length ≤ l.length + 1 := by
  induction l generalizing r with
  | nil => simp [eat]
  | cons x l ih =>
    rw [eat]
    split
    · have := ih (min r.1 x.1, max r.2 x.2); simp; omega
    · simp
theorem addF_le (l : List R) (r : R) : (addF l r).length ≤ l.length + 1 := by
  induction l with
  | nil => simp [addF]
  | cons x l ih =>
    rw [addF]
    split
    · simp; omega
    · exact eat_le _ _
theorem addR_le (l : List R) (r : R) : (addR l r).length ≤ l.length + 1 := by
  unfold addR
  split
  · omega
  · exact addF_le l r
theorem fold_le (l acc : List R) : (l.foldl addR acc).length ≤ acc.length + l.length := by
  induction l generalizing acc with
  | nil => simp
  | cons x l ih =>
    have h1 := ih (addR acc x)
    have h2 := addR_le acc x
    simp only [List.foldl_cons, List.length_cons]
    omega
theorem normR_le (l : List R) : (normR l).length ≤ l.length := by have := fold_le l []; simpa [normR] using this
theorem fold_take {l : List R} {i : Nat} (hi : i < l.length) {x : R} (hx : l[i] = x) : (l.take (i + 1)).foldl addR [] = addR ((l.take i).foldl addR []) x := by
  rw [List.take_succ_eq_append_getElem hi, List.foldl_append, hx]; rfl

/-- a list of ranges in a row of its own is returned -/
def RetRg (w : World) (B : Nat) (l : List R) (e : Ending) (w' : World) : Prop := ∃ v', e = .returned v' ∧ Own w' B v' l.length l ∧ Below w.heap.size w w'
theorem Own.addr {w : World} {B n c : Nat} {A : Option Addr} {l : List R} (h : Own w B (.slice A n c) n l) : (A = none → c = 0) ∧ ∀ ad, A = some ad → ∃ g off, ad = (⟨g, off, none⟩ : Addr) := by
  rcases own_form h.2 with ⟨e, rfl⟩ | ⟨g, cap, e, _, _, _, _⟩
  · cases e; exact ⟨fun _ => rfl, fun ad e => (by cases e)⟩
  · cases e; exact ⟨fun e => (by cases e), fun ad e => ⟨g, 0, by cases e; rfl⟩⟩

theorem radd0_x (w : World) (B n : Nat) (v : Value) (l : List R) (h : Own w B v n l) (hB : B ≤ w.heap.size) (hn : n ≤ 10000000) (r : R) :
    Calls Try.prog 52 #[v, .agg #[.int .i64 r.1, .int .i64 r.2]] w (RetRg w B (addR l r)) := by
  obtain ⟨A, c, rfl, hA, hc1, hc2⟩ := h.form
  have hl := h.1
  by_cases hr : r.2 ≤ r.1
  · have hbb := below_a w (.cells #[.int .i64 r.1, .int .i64 r.2] 34)
    have ho := h.below hbb (Nat.le_refl _)
    have HO := Lib.hid ho
    have HBB := Lib.hid hbb
    clear h ho hbb
    go_enter Try.func52, Try.ntmps52
    go_wp2_with fail
    go_ret
    refine ⟨_, rfl, ?_, HBB.out⟩
    rw [addR, if_pos hr, hl]
    exact HO.out
  · refine (addF_x w w.heap.size n c A l h.rgs (Nat.le_refl _) h.addr hc1 hc2 (by omega) r (by omega)).mono ?_
    rintro e w' ⟨v', rfl, ho, hb⟩
    refine ⟨_, rfl, ?_, hb⟩
    rw [addR, if_neg hr]
    exact ho.base hB

set_option maxHeartbeats 1000000 in
theorem rnorm_x (w : World) (B n c : Nat) (A : Option Addr) (l : List R) (h : Rgs w B A n l) (hB : B ≤ w.heap.size) (hn : n ≤ 1000000) :
    Calls Try.prog 29 #[.slice A n c] w (RetRg w w.heap.size (normR l)) := by
  have hl := h.1
  have HH := Lib.hid h
  have HLIT := Lib.hid (Own.lit w)
  have HBL := Lib.hid (below_a w (.cells #[] 34))
  clear h
  go_enter Try.func29, Try.ntmps29
  go_wp2_with fail
  go_loopg [3, 4] n (fun gg s3 s4 wr => ∃ (i : Nat), i ≤ n ∧ n - i ≤ gg ∧ s4 = .int .i64 i ∧ Aside (Own wr w.heap.size s3 ((l.take i).foldl addR []).length ((l.take i).foldl addR [])) ∧ Aside (Below w.heap.size w wr))
  case atStart => exact ⟨0, Nat.zero_le _, by omega, rfl, HLIT.out, HBL.out⟩
  case round =>
    obtain ⟨i, hi, hg, rfl, OW, BW⟩ := hrel
    by_cases hlt : i < n
    · have hltz : (i : Int) < (n : Int) := by omega
      obtain ⟨b, off, rfl, hb, l1, l2⟩ := (HH.out.below BW.out hB).at_ hlt
      have hsw := BW.out.size
      have hbw : b < wr.heap.size := by omega
      obtain ⟨x, hx⟩ : ∃ x, l[i]'(by omega) = x := ⟨_, rfl⟩
      have hfl := fold_le (l.take i) []
      simp only [List.length_take, List.length_nil] at hfl
      have hadd := radd0_x wr w.heap.size _ _ _ OW.out hsw (by omega) x
      have HF := Lib.hid (fold_take (by omega) hx)
      rw [hx] at l1 l2
      clear hx
      generalize addR ((l.take i).foldl addR []) x = F at hadd HF
      clear HLIT HBL OW hfl
      go_wp2_with (go_at_call 52; refine hadd.mono ?_; rintro e w2 ⟨v2, rfl, hown2, hb2⟩)
      go_roundg (n - (i + 1))
      case measure => omega
      case rel => exact ⟨i + 1, by omega, by omega, by go_num, by rw [HF.out]; exact hown2, BW.out.trans (hb2.mono hsw)⟩
    · have hltz : ¬ (i : Int) < (n : Int) := by omega
      obtain rfl : i = n := by omega
      rw [List.take_of_length_le (by omega)] at OW
      go_wp2_with fail
      go_ret
      exact ⟨_, rfl, OW.out, BW.out⟩

set_option maxHeartbeats 1000000 in
theorem rhas_x (w : World) (B n c : Nat) (A : Option Addr) (l : List R) (h : Rgs w B A n l) (hB : B ≤ w.heap.size) (hn : n ≤ 1000000) (t : Int) :
    Calls Try.prog 36 #[.slice A n c, .int .i64 t] w fun e w' => e = .returned (.bool (l.any (hasB t))) ∧ Below w.heap.size w w' := by
  have hl := h.1
  have HH := Lib.hid h
  clear h
  go_enter Try.func36, Try.ntmps36
  go_wp2_with fail
  go_loopg [5] n (fun gg s5 wr => ∃ (i : Nat), i ≤ n ∧ n - i ≤ gg ∧ s5 = .int .i64 i ∧ Aside ((l.take i).any (hasB t) = false) ∧ Aside (Below w.heap.size w wr))
  case atStart => exact ⟨0, Nat.zero_le _, by omega, rfl, rfl, Below.refl _ _⟩
  case round =>
    obtain ⟨i, hi, hg, rfl, AN, BW⟩ := hrel
    by_cases hlt : i < n
    · have hltz : (i : Int) < (n : Int) := by omega
      obtain ⟨b, off, rfl, hb, l1, l2⟩ := (HH.out.below BW.out hB).at_ hlt
      have hsw := BW.out.size
      have hbw : b < wr.heap.size := by omega
      obtain ⟨x, hx⟩ : ∃ x, l[i]'(by omega) = x := ⟨_, rfl⟩
      have hin : x ∈ l := by rw [← hx]; exact List.getElem_mem _
      have hst : (l.take (i + 1)).any (hasB t) = hasB t x := by
        rw [List.take_succ_eq_append_getElem (by omega), List.any_append, AN.out, hx]; simp
      have hany : hasB t x = true → l.any (hasB t) = true := fun e => List.any_eq_true.2 ⟨x, hin, e⟩
      rw [hx] at l1 l2
      obtain ⟨x1, x2⟩ := x
      have HANY := Lib.hid hany
      have HST := Lib.hid hst
      clear hany hst hx hin AN
      by_cases h1 : x1 ≤ t
      · by_cases h2 : t < x2
        · go_wp2_with fail
          go_ret
          exact ⟨ret_bool (by rw [HANY.out (by simp [hasB, h1, h2])]), BW.out⟩
        · have HNO := Lib.hid (show hasB t (x1, x2) = false by simp [hasB]; omega)
          go_wp2_with fail
          go_roundg (n - (i + 1))
          case measure => omega
          case rel => exact ⟨i + 1, by omega, by omega, by go_num, HST.out.trans HNO.out, BW.out⟩
      · have HNO := Lib.hid (show hasB t (x1, x2) = false by simp [hasB]; omega)
        go_wp2_with fail
        go_roundg (n - (i + 1))
        case measure => omega
        case rel => exact ⟨i + 1, by omega, by omega, by go_num, HST.out.trans HNO.out, BW.out⟩
    · have hltz : ¬ (i : Int) < (n : Int) := by omega
      obtain rfl : i = n := by omega
      rw [List.take_of_length_le (by omega)] at AN
      go_wp2_with fail
      go_ret
      exact ⟨ret_bool (by rw [AN.out]), BW.out⟩

set_option maxHeartbeats 1000000 in
theorem radd_x (w : World) (B n c : Nat) (A : Option Addr) (l : List R) (h : Rgs w B A n l) (hB : B ≤ w.heap.size) (hn : n ≤ 1000000) (r : R) :
    Calls Try.prog 32 #[.slice A n c, .agg #[.int .i64 r.1, .int .i64 r.2]] w (RetRg w w.heap.size (addR (normR l) r)) := by
  have hl := h.1
  obtain ⟨wb, hwb⟩ : ∃ wb, w.alloc (.cells #[.int .i64 r.1, .int .i64 r.2] 34) = wb := ⟨_, rfl⟩
  have hbb : Below w.heap.size w wb := by rw [← hwb]; exact (Below.refl _ _).alloc (Nat.le_refl _) _
  have hbx : wb.heap[w.heap.size]? = some (.cells #[.int .i64 r.1, .int .i64 r.2] 34 (0, 0)) := by rw [← hwb]; exact alloc_new _ _
  have b0 : wb.cell? ⟨w.heap.size, 0, none⟩ = some (.int .i64 r.1) := by rw [cell_of_row _ _ _ _ _ _ hbx]; rfl
  have b1 : wb.cell? ⟨w.heap.size, 1, none⟩ = some (.int .i64 r.2) := by rw [cell_of_row _ _ _ _ _ _ hbx]; rfl
  have hsz := hbb.size
  have hnorm := rnorm_x wb.drew B n c A l ((h.below hbb hB).below ((Below.refl wb.heap.size wb).drew) (by omega)) (Nat.le_trans hB hsz) hn
  have hnl := normR_le l
  have HN := Lib.hid hnorm
  have HBB := Lib.hid hbb
  have hbw : w.heap.size < wb.heap.size := blk_lt hbx
  clear h hbb hbx hnorm
  go_enter Try.func32, Try.ntmps32
  go_wp2_with fail
  have q0 := Wb.at_ b0
  have q1 := Wb.at_ b1
  clear b0 b1
  refine wp_region_plan [([0, 2], some (1, false)), ([], some (3, false)), ([4], none)] (by kernel_rfl) (by kernel_rfl) ?_
  refine seg_act _ (by dsimp only [pick, at_]) _ (by dsimp only [pick, at_]) ?_
  repeat (go_big_quiet_step (fail))
  refine wpQuiet_nil ?_
  intro K1 h1 h2
  clear h1
  go_wp2_with (fail)
  refine HN.out.mono ?_
  rintro e w1 ⟨v1, rfl, hown1, hb1⟩
  have hb2 : Below wb.heap.size wb w1 := (Below.refl _ _).drew.trans hb1
  go_wp2_with (fail)
  refine h2 _ _ hb2 ?_
  clear h2 q0 q1
  have hadd := radd0_x w1 _ _ v1 _ hown1 hb2.size (by omega) r
  have HADD := Lib.hid hadd
  have HB2 := Lib.hid hb2
  clear hadd hown1 hb1 hb2
  refine seg_act _ (by dsimp only [pick, at_]) _ (by dsimp only [pick, at_]) ?_
  refine wpQuiet_nil ?_
  intro K2 h1 h2
  clear h1
  go_wp2_with (fail)
  refine HADD.out.mono ?_
  rintro e w2 ⟨v2, rfl, hown2, hb3⟩
  go_wp2_with (fail)
  refine h2 _ _ hb3 ?_
  clear h2
  refine seg_end _ (by dsimp only [pick, at_]) ?_
  repeat (go_big_quiet_step (fail))
  refine wpQuiet_nil (NoPanic.normal ?_)
  go_wp2_with (fail)
  go_ret
  exact ⟨v2, rfl, hown2.base hsz, (HBB.out.trans (HB2.out.mono hsz)).trans (hb3.mono (by have := HB2.out.size; omega))⟩
end Go.Proofs.Ytemmfcinpkfoiaa.rg
