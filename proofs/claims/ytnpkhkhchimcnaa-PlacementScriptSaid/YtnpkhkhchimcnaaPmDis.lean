/-
  A placement in a variable, no two rows in one block; an owner goes.
-/
import Derived.Test.YtnpkhkhchimcnaaPmB
import Derived.Test.YtnpkhkhchimcnaaFree
namespace Go.Proofs.Ytnpkhkhchimcnaa.pm
open Go.ChangeShapes Go.WideShapes Go.ChangeAt Go.RowKit Go.Shelf plain words ord mem

structure WD (w : World) (B pb : Nat) (v : PV) : Prop where
  wp : WP w B pb v
  apart : ∀ (i j : Nat) (r s : Rw3), i ≠ j → v.rs[i]? = some r → v.rs[j]? = some s → r.A = s.A → r.A = none
theorem WD.below {w w' : World} {B pb C : Nat} {v : PV} (h : WD w B pb v) (hb : Below C w w') (hC : w.heap.size ≤ C) : WD w' B pb v := ⟨h.wp.below hb hC, h.apart⟩
theorem WD.drew {w : World} {B pb : Nat} {v : PV} (h : WD w B pb v) : WD w.drew B pb v := ⟨h.wp.drew, h.apart⟩
/-- a row laid in place of another one: its block is the old one's, or new -/
theorem apart_set {rs : List Rw3} {k : Nat} {r r' : Rw3} (h : ∀ (i j : Nat) (r s : Rw3), i ≠ j → rs[i]? = some r → rs[j]? = some s → r.A = s.A → r.A = none) (hr : rs[k]? = some r)
    (hA : r'.A = r.A ∨ ∀ (j : Nat) (s : Rw3), rs[j]? = some s → r'.A = s.A → r'.A = none) :
    ∀ (i j : Nat) (x y : Rw3), i ≠ j → (rs.set k r')[i]? = some x → (rs.set k r')[j]? = some y → x.A = y.A → x.A = none := by
  have hk := (List.getElem?_eq_some_iff.1 hr).1
  intro i j x y hij hx hy he
  by_cases hi : k = i
  · subst hi
    rw [List.getElem?_set_self hk] at hx; cases hx
    rw [List.getElem?_set_ne hij] at hy
    rcases hA with hA | hA
    · rw [hA] at he ⊢; exact h k j r y hij hr hy he
    · exact hA j y hy he
  · rw [List.getElem?_set_ne hi] at hx
    by_cases hj : k = j
    · subst hj
      rw [List.getElem?_set_self hk] at hy; cases hy
      rcases hA with hA | hA
      · rw [hA] at he; exact h i k x r hij hx hr he
      · have e := hA i x hx he.symm
        rw [he]; exact e
    · rw [List.getElem?_set_ne hj] at hy
      exact h i j x y hij hx hy he
/-- a row that was changed where it lies, and then laid in its place -/
theorem WD.cut {w w' : World} {B pb sb g k c : Nat} {v : PV} {r : Rw3} (h : WD w B pb v) (hsA : v.sA = some ⟨sb, 0, none⟩) (hr : v.rs[k]? = some r) (hA : r.A = some ⟨g, 0, none⟩)
    (hc : Chg (fun b => b = g) w w') (m : Nat) (l : List O) (hr' : Ow OE w' B (.slice (some ⟨g, 0, none⟩) m c) m l) :
    WD (w'.setCell ⟨sb, k, none⟩ (.slice (some ⟨g, 0, none⟩) m c)) B pb { v with rs := v.rs.set k ⟨some ⟨g, 0, none⟩, c, l⟩ } ∧ g ≠ sb ∧ g ≠ pb ∧ B ≤ g ∧ B ≤ sb := by
  have hk := (List.getElem?_eq_some_iff.1 hr).1
  obtain ⟨sb', cur, hsA', hB, hlt, hcur, hne⟩ := h.wp.srow hk
  obtain rfl : sb' = sb := by rw [hsA'] at hsA; cases hsA; rfl
  have hrow := h.wp.each r (List.mem_of_getElem? hr)
  have hrow' : Ow OE w B (.slice (some ⟨g, 0, none⟩) r.l.length r.c) r.l.length r.l := by have := hrow; unfold Rw3.val at this; rwa [hA] at this
  obtain ⟨cg, hcg⟩ := own_blk hrow'.2
  have hBg := (hrow'.lt g rfl).1
  have hgs : g ≠ sb' := fun e => blk_type hcg hcur (by decide) e
  have hgp : g ≠ pb := fun e => blk_type hcg h.wp.var (by decide) e
  have hcur' := hc.blk hcur (fun e => hgs e.symm)
  have hc2 : Chg (fun b => b = sb') w' (w'.setCell ⟨sb', k, none⟩ (.slice (some ⟨g, 0, none⟩) m c)) := chg_set1 _
  have hm : l.length = m := hr'.1
  refine ⟨⟨⟨h.wp.le, ?_, ow_other (ow_other h.wp.n hc hcg (by decide)) hc2 hcur' (by decide), ?_, fun q hq => ?_⟩, apart_set h.apart hr (.inl hA.symm)⟩, hgs, hgp, hBg, hB⟩
  · have := hc2.blk (hc.blk h.wp.var (fun e => hgp e.symm)) (fun e => hne e.symm)
    simp only [Boxed, IsV3, List.length_set] at this ⊢
    exact this
  · have hs := ow_other h.wp.s hc hcg (by decide)
    rw [hsA'] at hs
    have := ow_set1 hs (i := k) ⟨some ⟨g, 0, none⟩, c, l⟩
    simp only [List.length_set, hsA', Rw3.val, hm] at this ⊢
    exact this
  · obtain ⟨j, hj⟩ := List.mem_iff_getElem?.1 hq
    by_cases hjk : k = j
    · subst hjk
      rw [List.getElem?_set_self hk] at hj; cases hj
      simp only [Rw3.val, hm]
      exact ow_other hr' hc2 hcur' (by decide)
    · rw [List.getElem?_set_ne hjk] at hj
      have ho := h.wp.each q (List.mem_of_getElem? hj)
      refine ow_other (ho.chg hc fun b hb e => ?_) hc2 hcur' (by decide)
      have hqA : q.A = some ⟨b, 0, none⟩ := by
        obtain ⟨A, c2, he, _⟩ := ho.form
        rcases Nat.eq_zero_or_pos q.l.length with h0 | h0
        · rcases own_form ho.2 with ⟨e1, _⟩ | ⟨g2, cap, e1, _⟩
          · rw [e1] at hb; cases hb
          · rw [e1] at hb; cases hb
            unfold Rw3.val at e1; exact (Value.slice.inj e1).1
        · obtain ⟨g2, cap, e1, _⟩ := ho.some_ h0
          rw [e1] at hb; cases hb
          unfold Rw3.val at e1; exact (Value.slice.inj e1).1
      subst e
      have := h.apart k j r q hjk hr hj (by rw [hA, hqA])
      rw [hA] at this; cases this
/-- what lies in the call's own blocks may change -/
def RetSet (w : World) (B pb k : Nat) (v : PV) (l : List O) (e : Ending) (w' : World) : Prop :=
  e = .returned (.tuple #[]) ∧ ∃ r' : Rw3, r'.l = l ∧ WD w' B pb { v with rs := v.rs.set k r' } ∧ Chg (fun b => B ≤ b) w w'
set_option maxHeartbeats 2000000 in
theorem disown_x (w : World) (B pb sb : Nat) (v : PV) (h : WD w B pb v) (hsA : v.sA = some ⟨sb, 0, none⟩) (k : Nat) (r : Rw3) (hr : v.rs[k]? = some r) (hn : r.l.length ≤ 1000000) (h0 : 0 < r.l.length) (x : Int) :
    Calls Try.prog 60 #[.pointer (some ⟨pb, 0, none⟩), .int .i64 k, .int .i64 x] w (RetSet w B pb k v (disown r.l x)) := by
  have hkN : k < v.rs.length := (List.getElem?_eq_some_iff.1 hr).1
  have hrow := h.wp.each r (List.mem_of_getElem? hr)
  obtain ⟨sb', cur, hsA', hBs, hsl, hcur, hne⟩ := h.wp.srow hkN
  obtain rfl : sb' = sb := by rw [hsA'] at hsA; cases hsA; rfl
  have hcell : w.cell? ⟨sb', k, none⟩ = some r.val := by
    obtain ⟨b, off, e1, _, e2, _⟩ := h.wp.ok.s.at_ hr
    rw [hsA] at e1; cases e1
    simpa using e2
  obtain ⟨⟨_, _, c2⟩, _⟩ := isv3_cells h.wp.var
  have hpl := h.wp.lt
  obtain ⟨g, c0, he0, hBg, hgl, _⟩ := hrow.some_ h0
  obtain ⟨A, c, L⟩ := r
  simp only [Rw3.val] at hcell hrow hn he0 ⊢
  obtain ⟨rfl, _, rfl⟩ := Value.slice.inj he0
  obtain ⟨m, hm⟩ : ∃ m, L.length = m := ⟨_, rfl⟩
  rw [hm] at hcell hrow hn
  obtain ⟨wa, hwa⟩ : ∃ wa, w.alloc (.cells #[.int .i64 x] 3) = wa := ⟨_, rfl⟩
  have hba : Below w.heap.size w wa := by rw [← hwa]; exact below_al _ _
  have hca : wa.cell? ⟨w.heap.size, 0, none⟩ = some (.int .i64 x) := by rw [← hwa, cell_of_row _ _ _ _ _ _ (alloc_new w _)]; rfl
  have hsa : w.heap.size < wa.heap.size := by rw [← hwa, World.size_alloc]; omega
  rw [hsA] at c2
  have hc0 : wa.cell? ⟨pb, 2, none⟩ = some (.slice (some ⟨sb', 0, none⟩) v.rs.length v.sc) := (hba.cell (p := ⟨pb, 2, none⟩) hpl).trans c2
  have hcw : wa.cell? ⟨sb', k, none⟩ = some (.slice (some ⟨g, 0, none⟩) m c) := (hba.cell (p := ⟨sb', k, none⟩) hsl).trans hcell
  have hw := h.below hba (Nat.le_refl _)
  obtain ⟨_, hgs, hgp, _, _⟩ := hw.cut hsA hr rfl (Chg.refl (fun b => b = g) wa) m L (c := c) (hrow.below hba (Nat.le_refl _))
  have hdel := del_x wa.drew B g m c L (hrow.below hba.drew (Nat.le_refl _)) hn w.heap.size x hsa (by omega) hca
  have HW := Lib.hid hw
  have HD := Lib.hid hdel
  have HWA := Lib.hid hwa
  have HBA := Lib.hid hba
  have HSA := Lib.hid hsA
  have HR := Lib.hid hr
  have q0 := Wf.at_ (F := fun b => b = g) hc0 (fun e => hgp e.symm)
  have q1 := Wf.at_ (F := fun b => b = g) hcw (fun e => hgs e.symm)
  have hkz : (k : Int) < (v.rs.length : Int) := by omega
  have i0 : (0 : Int) ≤ (k : Int) := by omega
  clear h hrow hw hdel hwa hba hsA hsA' hr c2 hcur hcell hc0 hcw hca
  go_enter Try.func60, Try.ntmps60
  go_wp2_with (fail)
  rw [HWA.out]
  refine fr.wp_region_tree (F := fun b => b = g) (.reads [0, 1, 2, 3, 4, 5, 6, 7, 8, 9, 10, 11] (.one 12 false (.one 13 false (.reads [14] (.one 15 true .stop))))) (by kernel_rfl) (by kernel_rfl) ?_
  refine fr.tr_reads _ (by dsimp only [pick, at_]) ?_
  repeat (go_big_quiet_step (fail))
  refine wpQuiet_nil ?_
  refine fr.tr_one _ (by dsimp only [pick, at_]) ?_
  intro K1 g1 g2
  clear g2
  go_wp2_with (fail)
  refine g1 _ _ (Chg.refl _ _).drew ?_
  clear g1
  refine fr.tr_one _ (by dsimp only [pick, at_]) ?_
  intro K1 g1 g2
  clear g2
  go_wp2_with (fail)
  refine HD.out.mono ?_
  rintro e w2 ⟨m2, rfl, hown, hchg⟩
  go_wp2_with (fail)
  refine g1 _ _ (chg_trans (Chg.refl _ _).drew hchg) ?_
  clear g1
  refine fr.tr_reads _ (by dsimp only [pick, at_]) ?_
  repeat (go_big_quiet_step (fail))
  refine wpQuiet_nil ?_
  have hX := HW.out.cut HSA.out HR.out rfl (chg_trans (Chg.refl _ _).drew hchg) m2 _ hown
  have hcx : Chg (fun b => b = g) wa w2 := chg_trans (Chg.refl _ _).drew hchg
  have hf : w2.frozen? ⟨sb', k, none⟩ = false := by
    obtain ⟨sb2, cur2, e2, _, _, hcur2, _⟩ := HW.out.wp.srow hkN
    have e3 := HSA.out
    rw [e2] at e3; cases e3
    exact frozen_of_row _ _ _ _ _ (hcx.blk hcur2 (fun e => hgs e.symm))
  have hks : w2.cell? ⟨sb', k, none⟩ = some (.slice (some ⟨g, 0, none⟩) m c) := q1 ⟨w2, hcx⟩
  have HX := Lib.hid hX
  have HCX := Lib.hid hcx
  clear hX hcx hown hchg
  refine fr.tr_write _ (by dsimp only [pick, at_]) ?_
  intro K2 g3
  go_wp2_with (fail)
  refine fr.tr_stop ?_
  refine NoPanic.normal ?_
  go_wp2_with (fail)
  refine bodyPost_ret (results_none rfl _ _ _) rfl ?_
  obtain ⟨hX, _, _, hB1, hB2⟩ := HX.out
  refine ⟨rfl, ⟨some ⟨g, 0, none⟩, c, disown L x⟩, rfl, ?_, ?_⟩
  · exact hX
  · have c1 : Chg (fun b => B ≤ b) w w2 := ((Chg.of_below HBA.out).mono (fun _ _ h => h.elim)).trans HCX.out (fun i _ e => by subst e; exact hB1)
    exact c1.setCell (p := ⟨sb', k, none⟩) (fun _ => hB2) _
end Go.Proofs.Ytnpkhkhchimcnaa.pm
