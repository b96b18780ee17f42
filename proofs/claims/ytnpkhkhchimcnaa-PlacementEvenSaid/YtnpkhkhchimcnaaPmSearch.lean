/-
  Placements: the program's search, holds, Find.
-/
import Derived.Test.YtnpkhkhchimcnaaPmMem
import Derived.Laws.ResultCell
import Derived.Shelf.Abstract
namespace Go.Proofs.Ytnpkhkhchimcnaa.pm
open Go.ChangeShapes Go.WideShapes Go.ChangeAt Go.RowKit Go.Shelf plain words ord mem

/-- a variable of three cells -/
abbrev IsV3 (T : TypeId) (w : World) (g : Nat) (a b c : Value) : Prop := w.heap[g]? = some (.cells #[a, b, c] T (0, 0))
theorem set3 {T : TypeId} {w : World} {g : Nat} {a b c a' b' c' : Value} (h : IsV3 T w g a b c) : IsV3 T (((w.setCell ⟨g, 0, none⟩ a').setCell ⟨g, 1, none⟩ b').setCell ⟨g, 2, none⟩ c') g a' b' c' := by
  have h0 := heap_setCell_same w g 0 _ _ a' h
  have h1 := heap_setCell_same _ g 1 _ _ b' h0
  have h2 := heap_setCell_same _ g 2 _ _ c' h1
  simpa using h2
theorem below_set3 {B : Nat} {a w : World} (h : Below B a w) {g : Nat} (hg : B ≤ g) (v0 v1 v2 : Value) : Below B a (((w.setCell ⟨g, 0, none⟩ v0).setCell ⟨g, 1, none⟩ v1).setCell ⟨g, 2, none⟩ v2) :=
  ((h.setCell (p := ⟨g, 0, none⟩) hg v0).setCell (p := ⟨g, 1, none⟩) hg v1).setCell (p := ⟨g, 2, none⟩) hg v2
theorem isv3_cells {T : TypeId} {w : World} {g : Nat} {a b c : Value} (h : IsV3 T w g a b c) : (w.cell? ⟨g, 0, none⟩ = some a ∧ w.cell? ⟨g, 1, none⟩ = some b ∧ w.cell? ⟨g, 2, none⟩ = some c) ∧ w.frozen? ⟨g, 0, none⟩ = false ∧ w.frozen? ⟨g, 1, none⟩ = false ∧ w.frozen? ⟨g, 2, none⟩ = false :=
  ⟨⟨by rw [cell_of_row _ _ _ _ _ _ h]; rfl, by rw [cell_of_row _ _ _ _ _ _ h]; rfl, by rw [cell_of_row _ _ _ _ _ _ h]; rfl⟩, frozen_of_row _ _ 0 _ _ h, frozen_of_row _ _ 1 _ _ h, frozen_of_row _ _ 2 _ _ h⟩
theorem ret_cell {P : Program} {fn : Func} {p u : Tmp} {ty : TypeId} (h : fn.results = #[.cell p ty, .tmp u]) (tmps : Array Value) (w : World) (g : Nat) (t : TypeId) (cs : Array Value) (fr : Nat × Nat) (d : TypeDesc)
    (hp : tmps.getD p undef = .pointer (some ⟨g, 0, none⟩)) (hg : w.heap[g]? = some (.cells cs t fr))
    (hu : P.underlying ty = some d) (hd : (match d with | .struct _ | .array _ _ => true | _ => false) = true) (hi : (P.info? ty).map (·.size) = some cs.size) :
    (results fn tmps).run P w = .ok (.tuple #[.agg cs, tmps.getD u undef]) w := by
  have hp' : tmps[p]?.getD undef = .pointer (some ⟨g, 0, none⟩) := by simpa using hp
  rw [results_cell_tmp h]
  simp [hp', asAddr, Result.andThen, run_loadVar_row w g t ty cs fr d hg hu hd hi]
theorem below_al (w : World) (o : Obj) : Below w.heap.size w (w.alloc o) := (Below.refl _ w).alloc (Nat.le_refl _) o
theorem sizeO : (Try.prog.info? 44).map (·.size) = some 3 := by kernel_rfl

/-- what is asked of a test of owners -/
def Pred (g : Nat) (lb : Array Value) (p : O → Bool) (w : World) : Prop :=
  ∀ (W : World) (o : O), Below w.heap.size w W → Calls Try.prog g (#[oV o] ++ lb) W fun e w' => e = .returned (.bool (p o)) ∧ Below W.heap.size W w'
def fnd (p : O → Bool) (l : List O) : O := (l.find? p).getD (0, 0, 0)
def fis (p : O → Bool) (l : List O) : Bool := (l.find? p).isSome
theorem fnd_none {p : O → Bool} {l : List O} (h : ∀ (j : Nat) (hj : j < l.length), p l[j] = false) : fnd p l = (0, 0, 0) ∧ fis p l = false := by
  have : l.find? p = none := List.find?_eq_none.2 fun x hx => by
    obtain ⟨j, hj, rfl⟩ := List.mem_iff_getElem.1 hx
    simp [h j hj]
  unfold fnd fis
  rw [this]; exact ⟨rfl, rfl⟩
theorem fnd_some {p : O → Bool} {l : List O} {i : Nat} {x : O} (hx : l[i]? = some x) (hp : p x = true) (h : ∀ (j : Nat) (hj : j < l.length), j < i → p l[j] = false) : fnd p l = x ∧ fis p l = true := by
  obtain ⟨hi, rfl⟩ := List.getElem?_eq_some_iff.1 hx
  have e : l.find? p = some l[i] := by
    rw [List.find?_eq_some_iff_getElem]
    exact ⟨hp, i, hi, rfl, fun j hj => by simp [h j (by omega) hj]⟩
  unfold fnd fis
  rw [e]; exact ⟨rfl, rfl⟩
set_option maxHeartbeats 1000000 in
theorem search_x (w : World) (B n c : Nat) (A : Option Addr) (l : List O) (h : Ls OE w B A n l) (hB : B ≤ w.heap.size) (hn : n ≤ 9223372036854775807) (g : Nat) (lb : Array Value) (p : O → Bool)
    (eg : ∀ args w, (callFunc g args).run Try.prog w = .ok (.enter g args) w) (hp : Pred g lb p w) :
    Calls Try.prog 57 #[.slice A n c, .func (.func g) #[] lb] w fun e w' => e = .returned (.tuple #[oV (fnd p l), .bool (fis p l)]) ∧ Below w.heap.size w w' := by
  have hl := h.1
  obtain ⟨wa, hwa⟩ : ∃ wa, w.alloc (.cells #[.int .i64 0, .int .i64 0, .int .i64 0] 44) = wa := ⟨_, rfl⟩
  have hba : Below w.heap.size w wa := by rw [← hwa]; exact below_al _ _
  have gr : IsV3 44 wa w.heap.size (.int .i64 0) (.int .i64 0) (.int .i64 0) := by rw [← hwa]; exact alloc_new _ _
  have hsa : w.heap.size < wa.heap.size := blk_lt gr
  have HWA := Lib.hid hwa
  have HBA := Lib.hid hba
  have GR := Lib.hid gr
  have HH := Lib.hid h
  have HP := Lib.hid hp
  have HL := Lib.hid hl
  clear h hp hwa hba gr hl
  go_enter Try.func57, Try.ntmps57
  go_wp2_with (fail)
  rw [HWA.out]
  go_loopg [5, 7, 11] n (fun gg s5 s7 s11 wr => ∃ i : Nat, s11 = .int .i64 i ∧ i ≤ n ∧ n - i ≤ gg ∧ s5 = .bool false ∧ Aside (∀ (j : Nat) (hj : j < l.length), j < i → p l[j] = false) ∧ Aside (Below w.heap.size w wr) ∧ Aside (IsV3 44 wr w.heap.size (.int .i64 0) (.int .i64 0) (.int .i64 0)) ∧ w.heap.size < wr.heap.size)
  case atStart => exact ⟨0, rfl, by omega, by omega, rfl, fun j hj hj2 => by omega, HBA.out, GR.out, hsa⟩
  case round =>
    obtain ⟨i, rfl, hi, hg, rfl, HN, HB, HV, hsw⟩ := hrel
    clear HBA GR
    by_cases hlt : i < n
    · have hltz : (i : Int) < (n : Int) := by omega
      obtain ⟨x, hx⟩ := HH.out.get hlt
      obtain ⟨b, off, hAe, hb, l0, l1, l2⟩ := own_at (HH.out.below HB.out hB) hx
      subst hAe
      have hbw : b < wr.heap.size := by omega
      obtain ⟨x1, x2, x3⟩ := x
      have HX := Lib.hid hx
      obtain ⟨wb, hwb⟩ : ∃ wb, wr.alloc (.cells #[.int .i64 x1, .int .i64 x2, .int .i64 x3] 44) = wb := ⟨_, rfl⟩
      have hbb : Below wr.heap.size wr wb := by rw [← hwb]; exact below_al _ _
      have gx : IsV3 44 wb wr.heap.size (.int .i64 x1) (.int .i64 x2) (.int .i64 x3) := by rw [← hwb]; exact alloc_new _ _
      obtain ⟨⟨d0, d1, d2⟩, _⟩ := isv3_cells gx
      have hsb : wr.heap.size < wb.heap.size := blk_lt gx
      have HBB := Lib.hid hbb
      have GX := Lib.hid gx
      have HWB := Lib.hid hwb
      have HC := Lib.hid (HP.out wb (x1, x2, x3) (HB.out.trans (hbb.mono (by omega))))
      clear hx hbb gx hwb
      go_wp2_with (fail)
      rw [HWB.out]
      refine HC.out.mono ?_
      rintro e w2 ⟨rfl, hb2⟩
      have hs2 := hb2.size
      have HV2 := Lib.hid (blk_below hb2 (blk_below HBB.out HV.out hsw) (by omega))
      have HB2 := Lib.hid (HB.out.trans ((HBB.out.trans (hb2.mono (by omega))).mono (by omega)))
      have gx2 := blk_below hb2 GX.out hsb
      obtain ⟨⟨c0, c1, c2⟩, _⟩ := isv3_cells gx2
      obtain ⟨⟨r0, r1, r2⟩, f0, f1, f2⟩ := isv3_cells HV2.out
      have hlw : wr.heap.size < w2.heap.size := by omega
      have hlw0 : w.heap.size < w2.heap.size := by omega
      clear hb2 gx2 HC d0 d1 d2 l0 l1 l2
      cases hq : p (x1, x2, x3) with
      | true =>
        have HQ := Lib.hid (fnd_some HX.out hq HN.out)
        go_wp2_with (fail)
        (try simp only [Exit.inBlock, Exit.then])
        refine bodyPost_ret (ret_cell rfl _ _ w.heap.size 44 _ _ _ rfl (set3 HV2.out) Try.underlying44 rfl sizeO) rfl ?_
        rw [HQ.out.1, HQ.out.2]
        exact ⟨rfl, below_set3 HB2.out (Nat.le_refl _) _ _ _⟩
      | false =>
        go_wp2_with (fail)
        go_roundg (n - (i + 1))
        case measure => omega
        case rel =>
          refine ⟨i + 1, by go_num, by omega, by omega, rfl, fun j hj hj2 => ?_, HB2.out, HV2.out, hlw0⟩
          rcases Nat.lt_or_ge j i with h | h
          · exact HN.out j hj h
          · obtain rfl : j = i := by omega
            obtain ⟨_, hx2⟩ := List.getElem?_eq_some_iff.1 HX.out
            rw [hx2]; exact hq
    · obtain rfl : i = n := by omega
      have hltz : ¬ (i : Int) < (i : Int) := by omega
      have HQ := Lib.hid (fnd_none (fun j hj => HN.out j hj (by rw [← HL.out]; exact hj)))
      obtain ⟨⟨r0, r1, r2⟩, f0, f1, f2⟩ := isv3_cells HV.out
      have HV2 := Lib.hid (show IsV3 44 (wr.alloc (.cells #[.int .i64 0, .int .i64 0, .int .i64 0] 44)) w.heap.size (.int .i64 0) (.int .i64 0) (.int .i64 0) from alloc_old _ HV.out)
      have HB2 := Lib.hid (show Below w.heap.size w (wr.alloc (.cells #[.int .i64 0, .int .i64 0, .int .i64 0] 44)) from HB.out.alloc (by omega) _)
      go_wp2_with (fail)
      (try simp only [Exit.inBlock, Exit.then])
      refine bodyPost_ret (ret_cell rfl _ _ w.heap.size 44 _ _ _ rfl (alloc_old _ (set3 HV.out)) Try.underlying44 rfl sizeO) rfl ?_
      rw [HQ.out.1, HQ.out.2]
      exact ⟨rfl, (below_set3 HB.out (Nat.le_refl _) _ _ _).alloc (by simp [World.setCell]; omega) _⟩
/-- the test of holds .. -/
theorem holds1_x (W : World) (g : Nat) (n : Int) (o : O) (hg : g < W.heap.size) (hc : W.cell? ⟨g, 0, none⟩ = some (.int .i64 n)) :
    Calls Try.prog 72 #[oV o, .pointer (some ⟨g, 0, none⟩)] W fun e w' => e = .returned (.bool (o.1 == n && o.2.1 != 3)) ∧ Below W.heap.size W w' := by
  obtain ⟨o1, o2, o3⟩ := o
  go_enter Try.func72, Try.ntmps72
  by_cases h1 : o1 = n
  · have e1 : (o1 == n) = true := by simp [h1]
    go_wp2_with (fail)
    all_goals (go_ret; exact ⟨by simp_all, below_al _ _⟩)
  · have e1 : (o1 == n) = false := by simp [h1]
    go_wp2_with (fail)
    all_goals (go_ret; exact ⟨by simp_all, below_al _ _⟩)
/-- .. and of Find, and of ownerValid -/
theorem find1_x (W : World) (g : Nat) (n : Int) (o : O) (hg : g < W.heap.size) (hc : W.cell? ⟨g, 0, none⟩ = some (.int .i64 n)) :
    Calls Try.prog 58 #[oV o, .pointer (some ⟨g, 0, none⟩)] W fun e w' => e = .returned (.bool (o.1 == n)) ∧ Below W.heap.size W w' := by
  obtain ⟨o1, o2, o3⟩ := o
  go_enter Try.func58, Try.ntmps58
  go_wp2_with (fail)
  all_goals (go_ret; exact ⟨by simp_all, below_al _ _⟩)
theorem valid1_x (W : World) (g : Nat) (q1 q2 q3 : Int) (o : O) (hg : g < W.heap.size) (hc : W.cell? ⟨g, 2, none⟩ = some (.int .i64 q3)) :
    Calls Try.prog 92 #[oV o, .pointer (some ⟨g, 0, none⟩)] W fun e w' => e = .returned (.bool (o.1 == q3)) ∧ Below W.heap.size W w' := by
  obtain ⟨o1, o2, o3⟩ := o
  go_enter Try.func92, Try.ntmps92
  go_wp2_with (fail)
  all_goals (go_ret; exact ⟨by simp_all, below_al _ _⟩)
theorem busy11_x (W : World) (o : O) :
    Calls Try.prog 67 #[oV o] W fun e w' => e = .returned (.bool (o.2.1 == 1)) ∧ Below W.heap.size W w' := by
  obtain ⟨o1, o2, o3⟩ := o
  go_enter Try.func67, Try.ntmps67
  go_wp2_with (fail)
  all_goals (go_ret; exact ⟨by simp_all, below_al _ _⟩)
/-- holds -/
theorem holds_x (w : World) (B n c : Nat) (A : Option Addr) (l : List O) (h : Ls OE w B A n l) (hB : B ≤ w.heap.size) (hn : n ≤ 9223372036854775807) (k : Int) :
    Calls Try.prog 50 #[.slice A n c, .int .i64 k] w fun e w' => e = .returned (.bool (holds l k)) ∧ Below w.heap.size w w' := by
  have eg : ∀ args w, (callFunc 72 args).run Try.prog w = .ok (.enter 72 args) w := enters_of Try.func72 (by kernel_rfl) rfl
  have hbx := below_al w (.cells #[.int .i64 k] 3)
  have hc0 : (w.alloc (.cells #[.int .i64 k] 3)).cell? ⟨w.heap.size, 0, none⟩ = some (.int .i64 k) := by rw [cell_of_row _ _ _ _ _ _ (alloc_new w _)]; rfl
  have hs := search_x (w.alloc (.cells #[.int .i64 k] 3)) B n c A l (h.below hbx hB) (by simp; omega) hn 72 #[.pointer (some ⟨w.heap.size, 0, none⟩)] (fun o => o.1 == k && o.2.1 != 3) eg
    (fun W o hW => holds1_x W w.heap.size k o (by have := hW.size; simp at this; omega) ((hW.cell (p := ⟨w.heap.size, 0, none⟩) (by simp)).trans hc0))
  have hfis : fis (fun o : O => o.1 == k && o.2.1 != 3) l = holds l k := List.isSome_find?
  rw [hfis] at hs
  have HS := Lib.hid hs
  have HBX := Lib.hid hbx
  clear hs hbx hc0 hfis
  go_enter Try.func50, Try.ntmps50
  go_wp2_with (fail)
  refine HS.out.mono ?_
  rintro e w2 ⟨rfl, hb2⟩
  have HB2 := Lib.hid (HBX.out.trans (hb2.mono (by simp)))
  clear hb2
  go_wp2_with (fail)
  go_ret
  exact ⟨rfl, HB2.out.alloc (by have := HB2.out.size; omega) _⟩
end Go.Proofs.Ytnpkhkhchimcnaa.pm
