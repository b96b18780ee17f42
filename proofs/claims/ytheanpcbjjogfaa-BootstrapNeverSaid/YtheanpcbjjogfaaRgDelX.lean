/-
  slices.DeleteFunc on a row of the call's own: the call.
-/
import Derived.Test.YtheanpcbjjogfaaRgDel
namespace Go.Proofs.Ytheanpcbjjogfaa.rg
open Go.ChangeShapes Go.WideShapes Go.ChangeAt Go.RowKit plain words ord mem

/-- the row cut to the ranges that are not empty -/
def RetDel (w : World) (B g cap : Nat) (l : List R) (e : Ending) (w' : World) : Prop :=
  ∃ m, e = .returned (.slice (some ⟨g, 0, none⟩) m cap) ∧ Own w' B (.slice (some ⟨g, 0, none⟩) m cap) m (l.filter fun r => !emptyR r) ∧ Below B w w'
set_option maxHeartbeats 1000000 in
theorem del_x (w : World) (B g n cap : Nat) (l : List R) (h : Own w B (.slice (some ⟨g, 0, none⟩) n cap) n l) (hB : B ≤ g) (hn : n ≤ 1000000) :
    Calls Try.prog 27 #[.slice (some ⟨g, 0, none⟩) n cap, .func (.func 29) #[] #[]] w (RetDel w B g cap l) := by
  have eg : ∀ args w, (callFunc 29 args).run Try.prog w = .ok (.enter 29 args) w := enters_of Try.func29 (by kernel_rfl) rfl
  have hix := index_x w w.heap.size n cap (some ⟨g, 0, none⟩) l h.rgs (Nat.le_refl _) (by omega) 29 #[] emptyR (pred_empty w) eg
  have hl := h.1
  have hg : g < w.heap.size := own_lt h.2 rfl
  obtain ⟨_, c0, hce, _, hcap1, hcap2⟩ := h.form
  cases hce
  have HO := Lib.hid h
  clear h
  rcases ixF_spec emptyR l 0 with ⟨e1, hall⟩ | ⟨k0, hk0, e1, ht, hall⟩
  · rw [e1] at hix
    have HF := Lib.hid (show l.filter (fun r => !emptyR r) = l from List.filter_eq_self.2 fun r hr => by
      obtain ⟨j, hj, rfl⟩ := List.mem_iff_getElem.1 hr
      rw [hall j hj]; rfl)
    have HIX := Lib.hid hix
    clear hix hall e1
    go_enter Try.func27, Try.ntmps27
    go_wp2_with fail
    refine HIX.out.mono ?_
    rintro e w1 ⟨rfl, hb1⟩
    go_wp2_with fail
    go_ret
    refine ⟨n, rfl, ?_, hb1.mono (by omega)⟩
    rw [HF.out]
    exact HO.out.below hb1 (Nat.le_refl _)
  · rw [e1, Nat.zero_add] at hix
    have HD := Lib.hid (Del.start hk0 ht hall)
    have hk1 : k0 < n := by omega
    have HIX := Lib.hid hix
    clear hix hall e1 ht hk0
    go_enter Try.func27, Try.ntmps27
    go_wp2_with fail
    refine HIX.out.mono ?_
    rintro e w1 ⟨rfl, hb1⟩
    have HO1 := Lib.hid (HO.out.below hb1 (Nat.le_refl _))
    have HB1 := Lib.hid (hb1.mono (show B ≤ w.heap.size by omega))
    have hne : ((k0 : Int) == -1) = false := by simp
    have hs1 := hb1.size
    clear hb1 HO HIX
    go_wp2_with fail
    go_loopg [5, 6, 7] n (fun gg s5 s6 s7 wr => ∃ (i j : Nat) (d : List R), s5 = .int .i64 i ∧ s6 = .int .i64 j ∧ j ≤ n ∧ n - j ≤ gg ∧ Aside (Del emptyR l d i j) ∧ Aside (Own wr B (.slice (some ⟨g, 0, none⟩) n cap) n d) ∧ Aside (Below B w wr) ∧ w.heap.size ≤ wr.heap.size)
    case atStart => exact ⟨k0, k0 + 1, l, rfl, by go_num, by omega, by omega, HD.out, HO1.out, HB1.out, hs1⟩
    case round =>
      obtain ⟨i, j, d, rfl, rfl, hj, hg2, D, OW, BW, hsw⟩ := hrel
      clear HD HO1 HB1
      have hij := D.out.lt
      by_cases hlt : j < n
      · have hltz : (j : Int) < (n : Int) := by omega
        obtain ⟨b, off, hbe, hb, l1, l2⟩ := OW.out.rgs.at_ hlt
        cases hbe
        have hdx := D.out.at_ (j := j) (by omega)
        obtain ⟨x, hx⟩ : ∃ x, l[j]'(by omega) = x := ⟨_, rfl⟩
        rw [hdx, hx] at l1 l2
        simp only [Nat.zero_add] at l1 l2
        obtain ⟨x1, x2⟩ := x
        have HX := Lib.hid hx
        clear hdx hx
        obtain ⟨wb, hwb⟩ : ∃ wb, wr.alloc (.cells #[.int .i64 x1, .int .i64 x2] 27) = wb := ⟨_, rfl⟩
        have hbb : Below wr.heap.size wr wb := by rw [← hwb]; exact below_a _ _
        have hbx : wb.heap[wr.heap.size]? = some (.cells #[.int .i64 x1, .int .i64 x2] 27 (0, 0)) := by rw [← hwb]; exact alloc_new _ _
        have hem := empty_x x1 x2 wb
        have HEM := Lib.hid hem
        have HBB := Lib.hid hbb
        have HBX := Lib.hid hbx
        have hlb : wr.heap.size < wb.heap.size := blk_lt hbx
        have b0 : wb.cell? ⟨wr.heap.size, 0, none⟩ = some (.int .i64 x1) := by rw [cell_of_row _ _ _ _ _ _ hbx]; rfl
        have b1 : wb.cell? ⟨wr.heap.size, 1, none⟩ = some (.int .i64 x2) := by rw [cell_of_row _ _ _ _ _ _ hbx]; rfl
        have HSW := Lib.hid hsw
        clear hem hbb hbx
        go_wp2_with fail
        refine HEM.out.mono ?_
        rintro e w2 ⟨rfl, hb2⟩
        have hs2 := hb2.size
        have hB2 : Below wr.heap.size wr w2 := HBB.out.trans (hb2.mono (by omega))
        have hbx2 := blk_below hb2 HBX.out hlb
        have d0 : w2.cell? ⟨wr.heap.size, 0, none⟩ = some (.int .i64 x1) := by rw [cell_of_row _ _ _ _ _ _ hbx2]; rfl
        have d1 : w2.cell? ⟨wr.heap.size, 1, none⟩ = some (.int .i64 x2) := by rw [cell_of_row _ _ _ _ _ _ hbx2]; rfl
        have OW2 := OW.out.below hB2 (Nat.le_refl _)
        obtain ⟨cur, hcur⟩ := own_blk OW2.2
        have f0 : w2.frozen? ⟨g, i * 2, none⟩ = false := frozen_of_row _ _ _ _ _ hcur
        have f1 : w2.frozen? ⟨g, i * 2 + 1, none⟩ = false := frozen_of_row _ _ _ _ _ hcur
        obtain ⟨b', off', hbe', hb', m1, m2⟩ := OW2.rgs.at_ (show i < n by omega)
        cases hbe'
        simp only [Nat.zero_add] at m1 m2
        obtain ⟨o1, n1⟩ : ∃ o, w2.cell? ⟨g, i * 2, none⟩ = some (.int .i64 o) := ⟨_, m1⟩
        obtain ⟨o2, n2⟩ : ∃ o, w2.cell? ⟨g, i * 2 + 1, none⟩ = some (.int .i64 o) := ⟨_, m2⟩
        clear m1 m2
        have hi1 : (i : Int) < (n : Int) := by omega
        have hlw2 : wr.heap.size < w2.heap.size := by omega
        have HOW2 := Lib.hid OW2
        have HB2 := Lib.hid hB2
        clear hb2 hB2 hbx2 OW2 hcur HEM HBX HBB l1 l2 b0 b1 hwb
        cases hq : emptyR (x1, x2) with
        | true =>
          go_wp2_with fail
          go_roundg (n - (j + 1))
          case measure => omega
          case rel => exact ⟨i, j + 1, d, rfl, by go_num, by omega, by omega, D.out.skip (by omega) HX.out hq, HOW2.out, BW.out.trans (HB2.out.mono (by omega)), by omega⟩
        | false =>
          go_wp2_with fail
          go_roundg (n - (j + 1))
          case measure => omega
          case rel => exact ⟨i + 1, j + 1, d.set i (x1, x2), by go_num, by go_num, by omega, by omega, D.out.keep (by omega) HX.out hq, own_setr HOW2.out (x1, x2), (BW.out.trans (HB2.out.mono (by omega))).trans ((below_set hB _).trans (below_set hB _)), by simp [World.setCell]; omega⟩
      · obtain rfl : j = n := by omega
        have hltz : ¬ (j : Int) < (j : Int) := by omega
        have hlt' : (i : Int) < (j : Int) := by omega
        obtain ⟨zs, hcl⟩ := clear_x wr B g j i cap d OW.out hij
        have hi1 : (i : Int) ≤ (j : Int) := by omega
        have hi2 : (i : Int) ≤ (cap : Int) := by omega
        have hne2 : cap ≠ i := by omega
        clear hlt'
        go_wp2_with fail
        go_ret
        obtain ⟨h1, h2⟩ := own_cells zs wr (i * 2) (Nat.le_refl _) hB (own_cut OW.out (by omega))
        refine ⟨i, rfl, ?_, BW.out.trans h2⟩
        have e := (show Del emptyR l d i l.length from by rw [hl]; exact D.out).done
        rw [← e]
        exact h1
end Go.Proofs.Ytheanpcbjjogfaa.rg
