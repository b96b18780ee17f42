/-
  A placement in a variable, no two rows in one block; an owner goes.
-/
import Derived.Test.YtheanpcbjjogfaaPmB
import Derived.Test.YtheanpcbjjogfaaFree
import Derived.Test.YtheanpcbjjogfaaPmA
import Derived.Test.YtheanpcbjjogfaaPmC
namespace Go.Proofs.Ytheanpcbjjogfaa.pm
open Go.ChangeShapes Go.WideShapes Go.ChangeAt Go.RowKit Go.Shelf plain words ord mem

structure WD (w : World) (B pb : Nat) (v : PV) : Prop where
  wp : WP w B pb v
  apart : ∀ (i j : Nat) (r s : Rw3), i ≠ j → v.rs[i]? = some r → v.rs[j]? = some s → r.A = s.A → r.A = none
theorem WD.below {w w' : World} {B pb C : Nat} {v : PV} (h : WD w B pb v) (hb : Below C w w') (hC : w.heap.size ≤ C) : WD w' B pb v := ⟨h.wp.below hb hC, h.apart⟩
theorem WD.drew {w : World} {B pb : Nat} {v : PV} (h : WD w B pb v) : WD w.drew B pb v := ⟨h.wp.drew, h.apart⟩
/-- a row laid in place of another one: its block is the old one's, or new -/
theorem apart_set {rs : List Rw3} {k : Nat} {r r' : Rw3} (h : ∀ (i j : Nat) (r s : Rw3), i ≠ j → rs[i]? = some r → rs[j]? = some s → r.A = s.A → r.A = none) (hr : rs[k]? = some r)
    (hA : r'.A = r.A ∨ ∀ (j : Nat) (s : Rw3), rs[j]? = some s → r'.A = s.A → r'.A = none) :
    ∀ (i j : Nat) (x y : Rw3), i ≠ j → (rs.set k r')[i]? = some x → (rs.set k r')[j]? = some y → x.A = y.A → x.A = none := by
  have hk := (List.getElem?_eq_some_iff.1 hr).1
  intro i j x y hij hx hy he
  by_cases hi : k = i
  · subst hi
    rw [List.getElem?_set_self hk] at hx; cases hx
    rw [List.getElem?_set_ne hij] at hy
    rcases hA with hA | hA
    · rw [hA] at he ⊢; exact h k j r y hij hr hy he
    · exact hA j y hy he
  · rw [List.getElem?_set_ne hi] at hx
    by_cases hj : k = j
    · subst hj
      rw [List.getElem?_set_self hk] at hy; cases hy
      rcases hA with hA | hA
      · rw [hA] at he; exact h i k x r hij hx hr he
      · have e := hA i x hx he.symm
        rw [he]; exact e
    · rw [List.getElem?_set_ne hj] at hy
      exact h i j x y hij hx hy he
/-- a row that was changed where it lies, and then laid in its place -/
theorem WD.cut {w w' : World} {B pb sb g k c : Nat} {v : PV} {r : Rw3} (h : WD w B pb v) (hsA : v.sA = some ⟨sb, 0, none⟩) (hr : v.rs[k]? = some r) (hA : r.A = some ⟨g, 0, none⟩)
    (hc : Chg (fun b => b = g) w w') (m : Nat) (l : List O) (hr' : Ow OE w' B (.slice (some ⟨g, 0, none⟩) m c) m l) :
    WD (w'.setCell ⟨sb, k, none⟩ (.slice (some ⟨g, 0, none⟩) m c)) B pb { v with rs := v.rs.set k ⟨some ⟨g, 0, none⟩, c, l⟩ } ∧ g ≠ sb ∧ g ≠ pb ∧ B ≤ g ∧ B ≤ sb := by
  have hk := (List.getElem?_eq_some_iff.1 hr).1
  obtain ⟨sb', cur, hsA', hB, hlt, hcur, hne⟩ := h.wp.srow hk
  obtain rfl : sb' = sb := by rw [hsA'] at hsA; cases hsA; rfl
  have hrow := h.wp.each r (List.mem_of_getElem? hr)
  have hrow' : Ow OE w B (.slice (some ⟨g, 0, none⟩) r.l.length r.c) r.l.length r.l := by have := hrow; unfold Rw3.val at this; rwa [hA] at this
  obtain ⟨cg, hcg⟩ := own_blk hrow'.2
  have hBg := (hrow'.lt g rfl).1
  have hgs : g ≠ sb' := fun e => blk_type hcg hcur (by decide) e
  have hgp : g ≠ pb := fun e => blk_type hcg h.wp.var (by decide) e
  have hcur' := hc.blk hcur (fun e => hgs e.symm)
  have hc2 : Chg (fun b => b = sb') w' (w'.setCell ⟨sb', k, none⟩ (.slice (some ⟨g, 0, none⟩) m c)) := chg_set1 _
  have hm : l.length = m := hr'.1
  refine ⟨⟨⟨h.wp.le, ?_, ow_other (ow_other h.wp.n hc hcg (by decide)) hc2 hcur' (by decide), ?_, fun q hq => ?_⟩, apart_set h.apart hr (.inl hA.symm)⟩, hgs, hgp, hBg, hB⟩
  · have := hc2.blk (hc.blk h.wp.var (fun e => hgp e.symm)) (fun e => hne e.symm)
    simp only [Boxed, IsV3, List.length_set] at this ⊢
    exact this
  · have hs := ow_other h.wp.s hc hcg (by decide)
    rw [hsA'] at hs
    have := ow_set1 hs (i := k) ⟨some ⟨g, 0, none⟩, c, l⟩
    simp only [List.length_set, hsA', Rw3.val, hm] at this ⊢
    exact this
  · obtain ⟨j, hj⟩ := List.mem_iff_getElem?.1 hq
    by_cases hjk : k = j
    · subst hjk
      rw [List.getElem?_set_self hk] at hj; cases hj
      simp only [Rw3.val, hm]
      exact ow_other hr' hc2 hcur' (by decide)
    · rw [List.getElem?_set_ne hjk] at hj
      have ho := h.wp.each q (List.mem_of_getElem? hj)
      refine ow_other (ho.chg hc fun b hb e => ?_) hc2 hcur' (by decide)
      have hqA : q.A = some ⟨b, 0, none⟩ := by
        obtain ⟨A, c2, he, _⟩ := ho.form
        rcases Nat.eq_zero_or_pos q.l.length with h0 | h0
        · rcases own_form ho.2 with ⟨e1, _⟩ | ⟨g2, cap, e1, _⟩
          · rw [e1] at hb; cases hb
          · rw [e1] at hb; cases hb
            unfold Rw3.val at e1; exact (Value.slice.inj e1).1
        · obtain ⟨g2, cap, e1, _⟩ := ho.some_ h0
          rw [e1] at hb; cases hb
          unfold Rw3.val at e1; exact (Value.slice.inj e1).1
      subst e
      have := h.apart k j r q hjk hr hj (by rw [hA, hqA])
      rw [hA] at this; cases this
/-- what lies in the call's own blocks may change -/
def RetSet (w : World) (B pb k : Nat) (v : PV) (l : List O) (e : Ending) (w' : World) : Prop :=
  e = .returned (.tuple #[]) ∧ ∃ r' : Rw3, r'.l = l ∧ WD w' B pb { v with rs := v.rs.set k r' } ∧ Chg (fun b => B ≤ b) w w'
end Go.Proofs.Ytheanpcbjjogfaa.pm
/-
  The first row of owners that is what is sought; whether a placement is busy.
-/
namespace Go.Proofs.Ytheanpcbjjogfaa.pm
open Go.ChangeShapes Go.WideShapes Go.ChangeAt Go.RowKit Go.Shelf plain words ord mem

/-- what is asked of a test of rows -/
def PredL (g : Nat) (lb : Array Value) (p : List O → Bool) (rs : List Rw3) (B : Nat) (w : World) : Prop :=
  ∀ (W : World) (r : Rw3), r ∈ rs → RwOk W B r → Below w.heap.size w W → Calls Try.prog g (#[r.val] ++ lb) W fun e w' => e = .returned (.bool (p r.l)) ∧ Below W.heap.size W w'
def IxL (p : List O → Bool) (l : List (List O)) (z : Int) : Prop := (z = -1 ∧ ∀ (j : Nat) (x : List O), l[j]? = some x → p x = false) ∨ ∃ k : Nat, z = k ∧ ∃ x, l[k]? = some x ∧ p x = true ∧ ∀ (j : Nat) (y : List O), j < k → l[j]? = some y → p y = false
theorem any_of_none {l : List (List O)} {p : List O → Bool} (h : ∀ (j : Nat) (x : List O), l[j]? = some x → p x = false) : l.any p = false :=
  List.any_eq_false.2 fun x hx => by
    obtain ⟨j, hj⟩ := List.mem_iff_getElem?.1 hx
    simp [h j x hj]
theorem any_of_some {l : List (List O)} {p : List O → Bool} {k : Nat} {x : List O} (hx : l[k]? = some x) (h : p x = true) : l.any p = true :=
  List.any_eq_true.2 ⟨x, List.mem_of_getElem? hx, h⟩
theorem rs_at {rs : List Rw3} {i : Nat} {r : Rw3} (h : rs[i]? = some r) : (rs.map (·.l))[i]? = some r.l := by rw [List.getElem?_map, h]; rfl
theorem rs_step {rs : List Rw3} {p : List O → Bool} {i : Nat} {r : Rw3} (h : rs[i]? = some r) (hp : p r.l = false) (hl : ∀ (j : Nat) (y : List O), j < i → (rs.map (·.l))[j]? = some y → p y = false) : ∀ (j : Nat) (y : List O), j < i + 1 → (rs.map (·.l))[j]? = some y → p y = false := fun j y hj hy => by
  rcases Nat.lt_or_ge j i with h1 | h1
  · exact hl j y h1 hy
  · obtain rfl : j = i := by omega
    rw [rs_at h] at hy; cases hy; exact hp
end Go.Proofs.Ytheanpcbjjogfaa.pm
/-
  Placements: the program's giver.
-/
namespace Go.Proofs.Ytheanpcbjjogfaa.pm
open Go.ChangeShapes Go.WideShapes Go.ChangeAt Go.RowKit Go.Shelf plain words ord mem

def gp (n node : Int) (l : List O) : Bool := holds l n && !holds l node
def gidx (ss : List (List O)) (p : List O → Bool) : Int := if ss.any p then (ss.findIdx p : Int) else -1
theorem IxL.idx {p : List O → Bool} {l : List (List O)} {z : Int} (h : IxL p l z) : z = gidx l p := by
  unfold gidx
  rcases h with ⟨rfl, h⟩ | ⟨k, rfl, x, hx, hp, hl⟩
  · rw [any_of_none h]; rfl
  · rw [any_of_some hx hp, if_pos rfl]
    obtain ⟨hk, rfl⟩ := List.getElem?_eq_some_iff.1 hx
    have : l.findIdx p = k := (List.findIdx_eq hk).2 ⟨hp, fun j hj => hl j _ hj (List.getElem?_eq_getElem (by omega))⟩
    rw [this]
def giveStep (ss : List (List O)) (node : Int) (b : Int × Int) (n : Int) : Int × Int := if 0 ≤ gidx ss (gp n node) ∧ (b.1 < 0 ∨ load ss b.1 < load ss n) then (n, gidx ss (gp n node)) else b
def givers (nodes : List Int) (ss : List (List O)) (node : Int) : Int × Int := nodes.foldl (giveStep ss node) (-1, -1)
end Go.Proofs.Ytheanpcbjjogfaa.pm
/-
  Placements: the document's Owns, Load and busy.
-/
namespace Go.Proofs.Ytheanpcbjjogfaa.pm
open Go.ChangeShapes Go.WideShapes Go.ChangeAt Go.RowKit Go.Shelf plain words ord mem

abbrev Rises (ss : List (List O)) : Prop := ∀ l ∈ ss, Rise (fun o : O => o.1) l
theorem holds_fnd {l : List O} (h : Rise (fun o : O => o.1) l) (n : Int) : (fis (byNode n) l && (fnd (byNode n) l).2.1 != 3) = holds l n := by
  unfold fis fnd
  cases hf : l.find? (byNode n) with
  | none =>
    have : holds l n = false := by
      unfold holds
      rw [List.any_eq_false]
      intro x hx
      have := List.find?_eq_none.1 hf x hx
      simp [byNode] at this ⊢
      intro e; exact absurd e this
    rw [this]; rfl
  | some x =>
    obtain ⟨hx, hn⟩ := (find_iff h n x).1 hf
    have : holds l n = (x.2.1 != 3) := by
      unfold holds
      by_cases h3 : x.2.1 = 3
      · rw [show (x.2.1 != 3) = false by simp [h3], List.any_eq_false]
        intro y hy
        by_cases e : y.1 = n
        · have := rise_inj h hx hy (show x.1 = y.1 by omega)
          subst this; simp [h3]
        · simp [e]
      · rw [show (x.2.1 != 3) = true by simp [h3], List.any_eq_true]
        exact ⟨x, hx, by simp [hn, h3]⟩
    rw [this]; simp
theorem rise_at {ss : List (List O)} (h : Rises ss) (s : Int) : Rise (fun o : O => o.1) (shardAt ss s) := by
  unfold shardAt
  split
  · exact Rise.nil _
  · cases hs : ss[s.toNat]? with
    | none => exact Rise.nil _
    | some l => exact h l (List.mem_of_getElem? hs)
set_option maxHeartbeats 1000000 in
theorem rowns_y (w : World) (B : Nat) (v : PV) (h : PVok w B v) (hB : B ≤ w.heap.size) (hR : Rises v.pl.ss) (s n : Int) :
    Calls Try.prog 17 #[v.val, .int .i64 s, .int .i64 n] w fun e w' => e = .returned (.bool (holds (shardAt v.pl.ss s) n)) ∧ Below w.heap.size w w' := by
  have HQ := Lib.hid (holds_fnd (rise_at hR s) n)
  have hba := below_al w (boxO v)
  have HF := Lib.hid (rfind_y (w.alloc (boxO v)) B v (h.below hba hB) (by simp; omega) s n)
  have HBA := Lib.hid hba
  clear h hba
  obtain ⟨⟨y1, y2, y3⟩, hy⟩ : ∃ y, fnd (byNode n) (shardAt v.pl.ss s) = y := ⟨_, rfl⟩
  obtain ⟨z, hz⟩ : ∃ z, fis (byNode n) (shardAt v.pl.ss s) = z := ⟨_, rfl⟩
  rw [hy, hz] at HQ HF
  clear hy hz
  go_enter Try.func17, Try.ntmps17
  go_wp2_with (fail)
  refine HF.out.mono ?_
  rintro e w2 ⟨rfl, hb2⟩
  have HB2 := Lib.hid (HBA.out.trans (hb2.mono (by simp)))
  have hs2 := HB2.out.size
  clear hb2
  cases z with
  | true =>
    by_cases h3 : y2 = 3
    · have t3 : (y2 != 3) = false := by simp [h3]
      have t4 : (y2 == 3) = true := by simp [h3]
      have HQ2 := Lib.hid (show holds (shardAt v.pl.ss s) n = false by rw [← HQ.out]; simp [h3])
      clear h3
      go_wp2_with (fail)
      go_ret
      rw [HQ2.out]
      exact ⟨rfl, HB2.out.alloc (by omega) _⟩
    · have t3 : (y2 != 3) = true := by simp [h3]
      have t4 : (y2 == 3) = false := by simp [h3]
      have HQ2 := Lib.hid (show holds (shardAt v.pl.ss s) n = true by rw [← HQ.out]; simp [h3])
      clear h3
      go_wp2_with (fail)
      go_ret
      rw [HQ2.out]
      exact ⟨rfl, HB2.out.alloc (by omega) _⟩
  | false =>
    have HQ2 := Lib.hid (show holds (shardAt v.pl.ss s) n = false by rw [← HQ.out]; rfl)
    go_wp2_with (fail)
    go_ret
    rw [HQ2.out]
    exact ⟨rfl, HB2.out.alloc (by omega) _⟩
theorem busy_hit {ss : List (List O)} {i : Nat} {l : List O} (h : ss[i]? = some l) (hc : coming l = true) : busy ss = true := any_hit h hc
end Go.Proofs.Ytheanpcbjjogfaa.pm
