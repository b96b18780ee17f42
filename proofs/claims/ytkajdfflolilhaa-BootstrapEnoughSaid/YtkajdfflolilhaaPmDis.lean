/-
  A placement in a variable, no two rows in one block; an owner goes.
-/
import Derived.Test.YtkajdfflolilhaaPmB
import Derived.Test.YtkajdfflolilhaaFree
namespace Go.Proofs.Ytkajdfflolilhaa.pm
open Go.ChangeShapes Go.WideShapes Go.ChangeAt Go.RowKit Go.Shelf plain words ord mem

structure WD (w : World) (B pb : Nat) (v : PV) : Prop where
  wp : WP w B pb v
  apart : ∀ (i j : Nat) (r s : Rw3), i ≠ j → v.rs[i]? = some r → v.rs[j]? = some s → r.A = s.A → r.A = none
theorem WD.below {w w' : World} {B pb C : Nat} {v : PV} (h : WD w B pb v) (hb : Below C w w') (hC : w.heap.size ≤ C) : WD w' B pb v := ⟨h.wp.below hb hC, h.apart⟩
theorem WD.drew {w : World} {B pb : Nat} {v : PV} (h : WD w B pb v) : WD w.drew B pb v := ⟨h.wp.drew, h.apart⟩
/-- a row laid in place of another one: its block is the old one's, or new -/
theorem apart_set {rs : List Rw3} {k : Nat} {r r' : Rw3} (h : ∀ (i j : Nat) (r s : Rw3), i ≠ j → rs[i]? = some r → rs[j]? = some s → r.A = s.A → r.A = none) (hr : rs[k]? = some r)
    (hA : r'.A = r.A ∨ ∀ (j : Nat) (s : Rw3), rs[j]? = some s → r'.A = s.A → r'.A = none) :
    ∀ (i j : Nat) (x y : Rw3), i ≠ j → (rs.set k r')[i]? = some x → (rs.set k r')[j]? = some y → x.A = y.A → x.A = none := by
  have hk := (List.getElem?_eq_some_iff.1 hr).1
  intro i j x y hij hx hy he
  by_cases hi : k = i
  · subst hi
    rw [List.getElem?_set_self hk] at hx; cases hx
    rw [List.getElem?_set_ne hij] at hy
    rcases hA with hA | hA
    · rw [hA] at he ⊢; exact h k j r y hij hr hy he
    · exact hA j y hy he
  · rw [List.getElem?_set_ne hi] at hx
    by_cases hj : k = j
    · subst hj
      rw [List.getElem?_set_self hk] at hy; cases hy
      rcases hA with hA | hA
      · rw [hA] at he; exact h i k x r hij hx hr he
      · have e := hA i x hx he.symm
        rw [he]; exact e
    · rw [List.getElem?_set_ne hj] at hy
      exact h i j x y hij hx hy he
/-- a row that was changed where it lies, and then laid in its place -/
theorem WD.cut {w w' : World} {B pb sb g k c : Nat} {v : PV} {r : Rw3} (h : WD w B pb v) (hsA : v.sA = some ⟨sb, 0, none⟩) (hr : v.rs[k]? = some r) (hA : r.A = some ⟨g, 0, none⟩)
    (hc : Chg (fun b => b = g) w w') (m : Nat) (l : List O) (hr' : Ow OE w' B (.slice (some ⟨g, 0, none⟩) m c) m l) :
    WD (w'.setCell ⟨sb, k, none⟩ (.slice (some ⟨g, 0, none⟩) m c)) B pb { v with rs := v.rs.set k ⟨some ⟨g, 0, none⟩, c, l⟩ } ∧ g ≠ sb ∧ g ≠ pb ∧ B ≤ g ∧ B ≤ sb := by
  have hk := (List.getElem?_eq_some_iff.1 hr).1
  obtain ⟨sb', cur, hsA', hB, hlt, hcur, hne⟩ := h.wp.srow hk
  obtain rfl : sb' = sb := by rw [hsA'] at hsA; cases hsA; rfl
  have hrow := h.wp.each r (List.mem_of_getElem? hr)
  have hrow' : Ow OE w B (.slice (some ⟨g, 0, none⟩) r.l.length r.c) r.l.length r.l := by have := hrow; unfold Rw3.val at this; rwa [hA] at this
  obtain ⟨cg, hcg⟩ := own_blk hrow'.2
  have hBg := (hrow'.lt g rfl).1
  have hgs : g ≠ sb' := fun e => blk_type hcg hcur (by decide) e
  have hgp : g ≠ pb := fun e => blk_type hcg h.wp.var (by decide) e
  have hcur' := hc.blk hcur (fun e => hgs e.symm)
  have hc2 : Chg (fun b => b = sb') w' (w'.setCell ⟨sb', k, none⟩ (.slice (some ⟨g, 0, none⟩) m c)) := chg_set1 _
  have hm : l.length = m := hr'.1
  refine ⟨⟨⟨h.wp.le, ?_, ow_other (ow_other h.wp.n hc hcg (by decide)) hc2 hcur' (by decide), ?_, fun q hq => ?_⟩, apart_set h.apart hr (.inl hA.symm)⟩, hgs, hgp, hBg, hB⟩
  · have := hc2.blk (hc.blk h.wp.var (fun e => hgp e.symm)) (fun e => hne e.symm)
    simp only [Boxed, IsV3, List.length_set] at this ⊢
    exact this
  · have hs := ow_other h.wp.s hc hcg (by decide)
    rw [hsA'] at hs
    have := ow_set1 hs (i := k) ⟨some ⟨g, 0, none⟩, c, l⟩
    simp only [List.length_set, hsA', Rw3.val, hm] at this ⊢
    exact this
  · obtain ⟨j, hj⟩ := List.mem_iff_getElem?.1 hq
    by_cases hjk : k = j
    · subst hjk
      rw [List.getElem?_set_self hk] at hj; cases hj
      simp only [Rw3.val, hm]
      exact ow_other hr' hc2 hcur' (by decide)
    · rw [List.getElem?_set_ne hjk] at hj
      have ho := h.wp.each q (List.mem_of_getElem? hj)
      refine ow_other (ho.chg hc fun b hb e => ?_) hc2 hcur' (by decide)
      have hqA : q.A = some ⟨b, 0, none⟩ := by
        obtain ⟨A, c2, he, _⟩ := ho.form
        rcases Nat.eq_zero_or_pos q.l.length with h0 | h0
        · rcases own_form ho.2 with ⟨e1, _⟩ | ⟨g2, cap, e1, _⟩
          · rw [e1] at hb; cases hb
          · rw [e1] at hb; cases hb
            unfold Rw3.val at e1; exact (Value.slice.inj e1).1
        · obtain ⟨g2, cap, e1, _⟩ := ho.some_ h0
          rw [e1] at hb; cases hb
          unfold Rw3.val at e1; exact (Value.slice.inj e1).1
      subst e
      have := h.apart k j r q hjk hr hj (by rw [hA, hqA])
      rw [hA] at this; cases this
/-- what lies in the call's own blocks may change -/
def RetSet (w : World) (B pb k : Nat) (v : PV) (l : List O) (e : Ending) (w' : World) : Prop :=
  e = .returned (.tuple #[]) ∧ ∃ r' : Rw3, r'.l = l ∧ WD w' B pb { v with rs := v.rs.set k r' } ∧ Chg (fun b => B ≤ b) w w'
end Go.Proofs.Ytkajdfflolilhaa.pm
