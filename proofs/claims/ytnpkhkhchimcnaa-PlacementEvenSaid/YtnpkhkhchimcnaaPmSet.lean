/-
  Placements: an owner set in its place, the document's way.
-/
import Derived.Test.YtnpkhkhchimcnaaPmMake
import Derived.Test.YtnpkhkhchimcnaaOrd
import Derived.Deep.QuietTactic
namespace Go.Proofs.Ytnpkhkhchimcnaa.pm
open Go.ChangeShapes Go.WideShapes Go.ChangeAt Go.RowKit Go.Shelf plain words ord mem

def pos (l : List O) (n : Int) : Nat := (l.takeWhile fun x => decide (x.1 < n)).length
def own (l : List O) (o : O) : List O := l.take (pos l o.1) ++ o :: l.drop (pos l o.1)
theorem pos_of {l : List O} {n : Int} {i : Nat} (hi : i ≤ l.length) (h : ∀ (j : Nat) (x : O), j < i → l[j]? = some x → x.1 < n) (he : ∀ x, l[i]? = some x → ¬ x.1 < n) : pos l n = i := by
  unfold pos
  induction l generalizing i with
  | nil => simp at hi; subst hi; rfl
  | cons y l ih =>
    cases i with
    | zero => rw [List.takeWhile_cons_of_neg (by simpa using he y rfl)]; rfl
    | succ i =>
      rw [List.takeWhile_cons_of_pos (by simpa using h 0 y (by omega) rfl), List.length_cons]
      rw [ih (i := i) (by simpa using hi) (fun j x hj hx => h (j + 1) x (by omega) (by simpa using hx)) (fun x hx => he x (by simpa using hx))]
theorem pos_le (l : List O) (n : Int) : pos l n ≤ l.length := (List.takeWhile_sublist _).length_le
theorem own_len (l : List O) (o : O) : (own l o).length = l.length + 1 := by
  have := pos_le l o.1
  simp [own]; omega
theorem ls_rest {α : Type} {E : El α} {w : World} {B g n c i o : Nat} {l : List α} (h : Ls E w B (some ⟨g, 0, none⟩) n l) (hi : i ≤ n) (hn : n ≤ c) (ho : o = i * E.k) : Ls E w B (if c = i then some ⟨g, 0, none⟩ else some ⟨g, o, none⟩) (n - i) (l.drop i) := by
  by_cases hc : c = i
  · obtain rfl : n = i := by omega
    rw [if_pos hc]
    have : l.drop n = [] := List.drop_eq_nil_of_le (by rw [h.1]; exact Nat.le_refl _)
    rw [this, Nat.sub_self]
    exact Ls.nil _ _ _
  · rw [if_neg hc]
    have := h.drop (i := i) hi
    rwa [Nat.zero_add, ← ho] at this
theorem ls_rest2 {w : World} {B g n c i : Nat} {l : List O} (h : Ls OE w B (some ⟨g, 0, none⟩) n l) (hi : i ≤ n) (hn : n ≤ c) : (c = i → Ls OE w B (some ⟨g, 0, none⟩) (n - i) (l.drop i)) ∧ (¬ c = i → Ls OE w B (some ⟨g, i * 3, none⟩) (n - i) (l.drop i)) := by
  have := ls_rest (o := i * 3) h hi hn rfl
  exact ⟨fun e => by rwa [if_pos e] at this, fun e => by rwa [if_neg e] at this⟩
theorem below_pos {l : List O} {n : Int} {i : Nat} {x : O} (hx : l[i]? = some x) (hp : x.1 < n) (h : ∀ (j : Nat) (y : O), j < i → l[j]? = some y → y.1 < n) : ∀ (j : Nat) (y : O), j < i + 1 → l[j]? = some y → y.1 < n := fun j y hj hy => by
  rcases Nat.lt_or_ge j i with h1 | h1
  · exact h j y h1 hy
  · obtain rfl : j = i := by omega
    rw [hx] at hy; cases hy; exact hp
set_option maxHeartbeats 1000000 in
theorem set_y (w : World) (B n c : Nat) (A : Option Addr) (l : List O) (h : Ls OE w B A n l) (hB : B ≤ w.heap.size) (hn : n ≤ 1000000) (o : O) :
    Calls Try.prog 37 #[.slice A n c, oV o] w (RetO w (own (disown l o.1) o)) := by
  obtain ⟨o1, o2, o3⟩ := o
  obtain ⟨wa, hwa⟩ : ∃ wa, w.alloc (.cells #[.int .i64 o1, .int .i64 o2, .int .i64 o3] 44) = wa := ⟨_, rfl⟩
  have hba : Below w.heap.size w wa := by rw [← hwa]; exact below_al _ _
  have gp : IsV3 44 wa w.heap.size (.int .i64 o1) (.int .i64 o2) (.int .i64 o3) := by rw [← hwa]; exact alloc_new _ _
  have hsa : w.heap.size < wa.heap.size := blk_lt gp
  have HUN := Lib.hid (unset_y wa B n c A l (h.below hba hB) (by omega) hn o1)
  obtain ⟨L, hL⟩ : ∃ L, disown l o1 = L := ⟨_, rfl⟩
  have hLn : L.length ≤ n := by rw [← hL, ← h.1]; exact List.length_filter_le _ _
  rw [hL] at HUN ⊢
  have HWA := Lib.hid hwa
  have HBA := Lib.hid hba
  have GP := Lib.hid gp
  clear hwa hba gp h hL
  go_enter Try.func37, Try.ntmps37
  go_wp2_with (fail)
  rw [HWA.out]
  refine HUN.out.mono ?_
  rintro e w1 ⟨g, c1, rfl, how, hb1⟩
  obtain ⟨m, hm⟩ : ∃ m, L.length = m := ⟨_, rfl⟩
  rw [hm] at how hLn ⊢
  have hs1 := hb1.size
  obtain ⟨hgl, hgs⟩ := how.lt g rfl
  obtain ⟨_, c1', hce, _, hc1, hc2⟩ := how.form
  cases hce
  have HO := Lib.hid how
  have HB := Lib.hid (HBA.out.trans (hb1.mono (by omega)))
  have HV := Lib.hid (blk_below hb1 GP.out hsa)
  have HM := Lib.hid hm
  clear hb1 how GP HBA HUN HWA hm
  go_wp2_with (fail)
  go_loopg [6] m (fun gg s6 wr => ∃ i : Nat, s6 = .int .i64 i ∧ i ≤ m ∧ m - i ≤ gg ∧ Aside (∀ (j : Nat) (y : O), j < i → L[j]? = some y → y.1 < o1) ∧ Aside (Below w.heap.size w wr) ∧ Aside (Ow OE wr wa.heap.size (.slice (some ⟨g, 0, none⟩) m c1) m L) ∧ Aside (IsV3 44 wr w.heap.size (.int .i64 o1) (.int .i64 o2) (.int .i64 o3)) ∧ g < wr.heap.size)
  case atStart => exact ⟨0, rfl, by omega, by omega, fun j y hj => by omega, HB.out, HO.out, HV.out, hgs⟩
  case round =>
    obtain ⟨i, rfl, hi, hg, HU, HB2, HO2, HV2, hgw⟩ := hrel
    clear HB HO HV
    have hs2 := HB2.out.size
    have hpw : w.heap.size < wr.heap.size := blk_lt HV2.out
    obtain ⟨⟨c0, _, _⟩, _⟩ := isv3_cells HV2.out
    have q0 := Wb.at_ c0
    by_cases hlt : i < m
    · have hltz : (i : Int) < (m : Int) := by omega
      have t0 : decide ((i : Int) < (m : Int)) = true := decide_eq_true hltz
      obtain ⟨x, hx⟩ := HO2.out.ls.get hlt
      obtain ⟨b, off, he, hb, l0, _, _⟩ := own_at HO2.out.ls hx
      cases he
      simp only [Nat.zero_add] at l0
      have q1 := Wb.at_ l0
      have HX := Lib.hid hx
      obtain ⟨x1, x2, x3⟩ := x
      simp only at l0 q1
      clear hx
      by_cases hq : x1 < o1
      · have t1 : decide (x1 < o1) = true := decide_eq_true hq
        have HU2 := Lib.hid (below_pos HX.out hq HU.out)
        go_wp2_with (fail)
        refine wp_region_plan [([0, 1, 2, 3, 4, 5, 6, 7, 8, 9, 10, 11, 12, 13], none)] (by kernel_rfl) (by kernel_rfl) ?_
        refine seg_end _ (by dsimp only [pick, at_]) ?_
        repeat (go_big_quiet_step (fail))
        refine wpQuiet_nil ?_
        refine NoPanic.normal ?_
        clear q0 q1 c0 l0
        go_wp2_with (fail)
        go_roundg (m - (i + 1))
        case measure => omega
        case rel => exact ⟨i + 1, by go_num, by omega, by omega, HU2.out, HB2.out.drew, ⟨HO2.out.1, HO2.out.2.drew⟩, HV2.out, hgw⟩
      · have t1 : decide (x1 < o1) = false := decide_eq_false hq
        have hci : ¬ c1 = i := by omega
        have HP := Lib.hid (show pos L o1 = i from pos_of (by have := HO2.out.1; omega) HU.out (fun y hy => by have e := HX.out; rw [hy] at e; cases e; exact hq))
        go_wp2_with (fail)
        refine wp_region_plan [([0, 1, 2, 3, 4, 5, 6, 7, 8, 9, 10, 11, 12, 13], none)] (by kernel_rfl) (by kernel_rfl) ?_
        refine seg_end _ (by dsimp only [pick, at_]) ?_
        repeat (go_big_quiet_step (fail))
        refine wpQuiet_nil ?_
        refine NoPanic.normal ?_
        clear q0 q1 c0 l0
        have HOl := Lib.hid (show Ow OE (wr.alloc (.cells #[] 44)).drew wr.heap.size (.slice (some ⟨wr.heap.size, 0, none⟩) 0 0) 0 [] from ⟨(Ow.lit (E := OE) wr).1, (Ow.lit (E := OE) wr).2.drew⟩)
        have HBl := Lib.hid (show Below wr.heap.size wr (wr.alloc (.cells #[] 44)).drew from (below_al wr _).drew)
        have HLl := Lib.hid ((HO2.out.below HBl.out (Nat.le_refl _)).ls.take hi)
        have HIC := Lib.hid (Nat.le_trans hi hc1)
        have i1 : (i : Int) ≤ (m : Int) := by omega
        have i2 : (m : Int) ≤ (c1 : Int) := by omega
        have i3 : (i : Int) ≤ (c1 : Int) := by omega
        go_wp2_with (first | (at_builtin; refine app_o rfl (.tmp 29) (.tmp 32) rfl wr.heap.size _ 0 [] rfl HOl.out _ (some ⟨g, 0, none⟩) i c1 (fun e => by cases e) (L.take i) (by rfl) HLl.out (by omega) (by simp) ?_; intro A4 c4 w4 hown4 hg4 _ _ _ hs4; simp only [Nat.zero_add, List.nil_append] at hown4; have HB4 := Lib.hid (own_below HBl.out HOl.out.2 (by simp) hg4); have HV4 := Lib.hid (blk_below HB4.out HV2.out hpw); have HL4 := Lib.hid (HO2.out.below HB4.out (Nat.le_refl _)); have HO4 := Lib.hid (hown4.below (below_al w4 (.cells #[.int .i64 o1, .int .i64 o2, .int .i64 o3] 44)) (Nat.le_refl _)); have H9 := Lib.hid (ls_new (E := OE) (w := w4) 44 ((o1, o2, o3) : O)); obtain ⟨⟨d0, d1, d2⟩, _⟩ := isv3_cells HV4.out; have hpw4 : w.heap.size < w4.heap.size := blk_lt HV4.out; have hsw4 := HB4.out.size; clear hown4 hg4) | (at_builtin; refine app_o rfl (.tmp 34) (.tmp 36) rfl wr.heap.size _ i (L.take i) rfl HO4.out (w4.heap.size + 1) (some ⟨w4.heap.size, 0, none⟩) 1 1 (fun e => by cases e) [(o1, o2, o3)] (by rfl) H9.out (by omega) (by simp; omega) ?_; intro A5 c5 w5 hown5 hg5 _ hc5a hc5b hs5; have HB5 := Lib.hid (own_below (HB4.out.trans ((below_al w4 (.cells #[.int .i64 o1, .int .i64 o2, .int .i64 o3] 44)).mono hsw4)) HO4.out.2 (by simp; omega) hg5); have HO5 := Lib.hid hown5; have HL5 := Lib.hid ((ls_rest2 (HO2.out.below HB5.out (Nat.le_refl _)).ls hi hc1).2 hci); clear hown5 hg5) | (at_builtin; refine app_o rfl (.tmp 38) (.tmp 41) rfl wr.heap.size _ (i + 1) (L.take i ++ [(o1, o2, o3)]) rfl HO5.out _ (some ⟨g, i * 3, none⟩) (m - i) _ (fun e => by cases e) (L.drop i) (by rfl) (HL5.out) (by omega) (by have := HB5.out.size; omega) ?_; intro A6 c6 w6 hown6 hg6 _ _ _ hs6; have HB6 := Lib.hid (own_below HB5.out HO5.out.2 (by have := HB5.out.size; omega) hg6); have HO6 := Lib.hid hown6; clear hown6 hg6))
        go_ret
        obtain ⟨g6, c7, he6, _⟩ := HO6.out.some_ (by omega)
        cases he6
        have hfin : L.take i ++ [(o1, o2, o3)] ++ L.drop i = own L (o1, o2, o3) := by simp [own, HP.out]
        have hfl : (own L (o1, o2, o3)).length = i + 1 + (m - i) := by rw [own_len, HM.out]; omega
        have h6 := HO6.out
        rw [hfin] at h6
        exact ⟨g6, _, by rw [hfl]; rfl, by rw [hfl]; exact h6.base hs2, HB2.out.trans (HB6.out.mono hs2)⟩
    · obtain rfl : i = m := by omega
      have hltz : ¬ (i : Int) < (i : Int) := by omega
      have t0 : decide ((i : Int) < (i : Int)) = false := decide_eq_false hltz
      have HP := Lib.hid (show pos L o1 = i from pos_of (by have := HO2.out.1; omega) HU.out (fun y hy => by have := HM.out; rw [List.getElem?_eq_none (by omega)] at hy; cases hy))
      go_wp2_with (fail)
      refine wp_region_plan [([0, 1, 2, 3, 4, 5, 6, 7, 8, 9, 10, 11, 12, 13], none)] (by kernel_rfl) (by kernel_rfl) ?_
      refine seg_end _ (by dsimp only [pick, at_]) ?_
      repeat (go_big_quiet_step (fail))
      refine wpQuiet_nil ?_
      refine NoPanic.normal ?_
      clear q0 c0
      by_cases hci : c1 = i
      · subst hci
        have HOl := Lib.hid (show Ow OE (wr.alloc (.cells #[] 44)).drew wr.heap.size (.slice (some ⟨wr.heap.size, 0, none⟩) 0 0) 0 [] from ⟨(Ow.lit (E := OE) wr).1, (Ow.lit (E := OE) wr).2.drew⟩)
        have HBl := Lib.hid (show Below wr.heap.size wr (wr.alloc (.cells #[] 44)).drew from (below_al wr _).drew)
        have HLl := Lib.hid ((HO2.out.below HBl.out (Nat.le_refl _)).ls.take hi)
        have HIC := Lib.hid (Nat.le_trans hi hc1)
        have i1 : (c1 : Int) ≤ (c1 : Int) := by omega
        have i2 : (c1 : Int) ≤ (c1 : Int) := by omega
        have i3 : (c1 : Int) ≤ (c1 : Int) := by omega
        go_wp2_with (first | (at_builtin; refine app_o rfl (.tmp 29) (.tmp 32) rfl wr.heap.size _ 0 [] rfl HOl.out _ (some ⟨g, 0, none⟩) c1 c1 (fun e => by cases e) (L.take c1) (by rfl) HLl.out (by omega) (by simp) ?_; intro A4 c4 w4 hown4 hg4 _ _ _ hs4; simp only [Nat.zero_add, List.nil_append] at hown4; have HB4 := Lib.hid (own_below HBl.out HOl.out.2 (by simp) hg4); have HV4 := Lib.hid (blk_below HB4.out HV2.out hpw); have HL4 := Lib.hid (HO2.out.below HB4.out (Nat.le_refl _)); have HO4 := Lib.hid (hown4.below (below_al w4 (.cells #[.int .i64 o1, .int .i64 o2, .int .i64 o3] 44)) (Nat.le_refl _)); have H9 := Lib.hid (ls_new (E := OE) (w := w4) 44 ((o1, o2, o3) : O)); obtain ⟨⟨d0, d1, d2⟩, _⟩ := isv3_cells HV4.out; have hpw4 : w.heap.size < w4.heap.size := blk_lt HV4.out; have hsw4 := HB4.out.size; clear hown4 hg4) | (at_builtin; refine app_o rfl (.tmp 34) (.tmp 36) rfl wr.heap.size _ c1 (L.take c1) rfl HO4.out (w4.heap.size + 1) (some ⟨w4.heap.size, 0, none⟩) 1 1 (fun e => by cases e) [(o1, o2, o3)] (by rfl) H9.out (by omega) (by simp; omega) ?_; intro A5 c5 w5 hown5 hg5 _ hc5a hc5b hs5; obtain ⟨g5, c55, he5, _⟩ := hown5.some_ (by omega); cases he5; have HB5 := Lib.hid (own_below (HB4.out.trans ((below_al w4 (.cells #[.int .i64 o1, .int .i64 o2, .int .i64 o3] 44)).mono hsw4)) HO4.out.2 (by simp; omega) hg5); have HO5 := Lib.hid hown5; clear hown5 hg5))
        have hdr : L.drop c1 = [] := List.drop_eq_nil_of_le (by rw [HM.out]; exact Nat.le_refl _)
        have HFI := Lib.hid (show L.take c1 ++ [(o1, o2, o3)] = own L (o1, o2, o3) by simp [own, HP.out, hdr])
        have HFL := Lib.hid (show (own L (o1, o2, o3)).length = c1 + 1 by rw [own_len, HM.out])
        clear hdr
        go_ret
        have h6 := HO5.out
        rw [HFI.out] at h6
        exact ⟨g5, _, by rw [HFL.out]; rfl, by rw [HFL.out]; exact h6.base hs2, HB2.out.trans (HB5.out.mono hs2)⟩
      · have hcz : ¬ (c1 : Int) = (i : Int) := by omega
        have HOl := Lib.hid (show Ow OE (wr.alloc (.cells #[] 44)).drew wr.heap.size (.slice (some ⟨wr.heap.size, 0, none⟩) 0 0) 0 [] from ⟨(Ow.lit (E := OE) wr).1, (Ow.lit (E := OE) wr).2.drew⟩)
        have HBl := Lib.hid (show Below wr.heap.size wr (wr.alloc (.cells #[] 44)).drew from (below_al wr _).drew)
        have HLl := Lib.hid ((HO2.out.below HBl.out (Nat.le_refl _)).ls.take hi)
        have HIC := Lib.hid (Nat.le_trans hi hc1)
        have i1 : (i : Int) ≤ (i : Int) := by omega
        have i2 : (i : Int) ≤ (c1 : Int) := by omega
        have i3 : (i : Int) ≤ (c1 : Int) := by omega
        go_wp2_with (first | (at_builtin; refine app_o rfl (.tmp 29) (.tmp 32) rfl wr.heap.size _ 0 [] rfl HOl.out _ (some ⟨g, 0, none⟩) i c1 (fun e => by cases e) (L.take i) (by rfl) HLl.out (by omega) (by simp) ?_; intro A4 c4 w4 hown4 hg4 _ _ _ hs4; simp only [Nat.zero_add, List.nil_append] at hown4; have HB4 := Lib.hid (own_below HBl.out HOl.out.2 (by simp) hg4); have HV4 := Lib.hid (blk_below HB4.out HV2.out hpw); have HL4 := Lib.hid (HO2.out.below HB4.out (Nat.le_refl _)); have HO4 := Lib.hid (hown4.below (below_al w4 (.cells #[.int .i64 o1, .int .i64 o2, .int .i64 o3] 44)) (Nat.le_refl _)); have H9 := Lib.hid (ls_new (E := OE) (w := w4) 44 ((o1, o2, o3) : O)); obtain ⟨⟨d0, d1, d2⟩, _⟩ := isv3_cells HV4.out; have hpw4 : w.heap.size < w4.heap.size := blk_lt HV4.out; have hsw4 := HB4.out.size; clear hown4 hg4) | (at_builtin; refine app_o rfl (.tmp 34) (.tmp 36) rfl wr.heap.size _ i (L.take i) rfl HO4.out (w4.heap.size + 1) (some ⟨w4.heap.size, 0, none⟩) 1 1 (fun e => by cases e) [(o1, o2, o3)] (by rfl) H9.out (by omega) (by simp; omega) ?_; intro A5 c5 w5 hown5 hg5 _ hc5a hc5b hs5; obtain ⟨g5, c55, he5, _⟩ := hown5.some_ (by omega); cases he5; have HB5 := Lib.hid (own_below (HB4.out.trans ((below_al w4 (.cells #[.int .i64 o1, .int .i64 o2, .int .i64 o3] 44)).mono hsw4)) HO4.out.2 (by simp; omega) hg5); have HO5 := Lib.hid hown5; clear hown5 hg5))
        have hdr : L.drop i = [] := List.drop_eq_nil_of_le (by rw [HM.out]; exact Nat.le_refl _)
        have HFI := Lib.hid (show L.take i ++ [(o1, o2, o3)] = own L (o1, o2, o3) by simp [own, HP.out, hdr])
        have HFL := Lib.hid (show (own L (o1, o2, o3)).length = i + 1 by rw [own_len, HM.out])
        clear hdr
        go_ret
        have h6 := HO5.out
        rw [HFI.out] at h6
        exact ⟨g5, _, by rw [HFL.out]; rfl, by rw [HFL.out]; exact h6.base hs2, HB2.out.trans (HB5.out.mono hs2)⟩
end Go.Proofs.Ytnpkhkhchimcnaa.pm
