/-
  Taken in whatever order: what is still under way, and what has been seen.
-/
import Derived.Test.YtcebmlcdhapnkaaNetPend
import Derived.Maps.OwnSet
import Derived.Maps.OwnOps
namespace Go.Proofs.Ytcebmlcdhapnkaa.net
open Go.ChangeShapes Go.WideShapes Go.ChangeAt Go.RowKit plain words ord mem Go.Maps

abbrev Dt := DataW Unit
/-- what is under way of the list, each once and not yet seen; the seen ones are counted -/
structure Seen (n want : Nat) (ls : List (List UInt8)) (P : List Msg) (D : Dt) : Prop where
  from_ : ∀ m ∈ P, ∃ k : Nat, k < n ∧ m.1 = (k : Int) ∧ ls[k]? = some m.2.2
  once : (P.map fun m => m.1).Pairwise (· ≠ ·)
  unseen : ∀ m ∈ P, Maps.has D (.int .i64 m.1) = false
  count : Maps.size D + P.length = want
theorem once_ne {P : List Msg} (h : (P.map fun m => m.1).Pairwise (· ≠ ·)) {i j : Nat} {a b : Msg} (hi : P[i]? = some a) (hj : P[j]? = some b) (hne : i ≠ j) : a.1 ≠ b.1 := by
  rw [List.pairwise_iff_getElem] at h
  have hil : i < P.length := by
    rcases Nat.lt_or_ge i P.length with h | h
    · exact h
    · rw [List.getElem?_eq_none h] at hi; cases hi
  have hjl : j < P.length := by
    rcases Nat.lt_or_ge j P.length with h | h
    · exact h
    · rw [List.getElem?_eq_none h] at hj; cases hj
  rw [List.getElem?_eq_getElem hil] at hi
  rw [List.getElem?_eq_getElem hjl] at hj
  injection hi with hi
  injection hj with hj
  rcases Nat.lt_or_gt_of_ne hne with e | e
  · have := h i j (by simpa using hil) (by simpa using hjl) e
    simp only [List.getElem_map, hi, hj] at this
    exact this
  · have := h j i (by simpa using hjl) (by simpa using hil) e
    simp only [List.getElem_map, hi, hj] at this
    exact Ne.symm this
theorem Seen.step {n want : Nat} {ls : List (List UInt8)} {P : List Msg} {D : Dt} (h : Seen n want ls P D) (ht : Tidy D) {k : Nat} {m : Msg} (hk : P[k]? = some m) (d : Dt) : Seen n want ls (P.eraseIdx k) (D.put (.int .i64 m.1) d) := by
  have hkl : k < P.length := by
    rcases Nat.lt_or_ge k P.length with h | h
    · exact h
    · rw [List.getElem?_eq_none h] at hk; cases hk
  have hmem : m ∈ P := List.mem_of_getElem? hk
  refine ⟨fun x hx => h.from_ x ((List.eraseIdx_subset) hx), ?_, fun x hx => ?_, ?_⟩
  · exact List.Pairwise.sublist ((List.eraseIdx_sublist P k).map _) h.once
  · obtain ⟨j, hj, hxj⟩ := List.mem_eraseIdx_iff_getElem?.1 hx
    have hne : x.1 ≠ m.1 := once_ne h.once hxj hk hj
    rw [has_put_other (fun e => hne (by injection e))]
    exact h.unseen x (List.eraseIdx_subset hx)
  · rw [size_put ht, h.unseen m hmem, List.length_eraseIdx, if_pos hkl]
    have := h.count
    simp only [Bool.false_eq_true, if_false]
    omega
theorem pendz_from (i : Nat) (ls : List (List UInt8)) : ∀ m ∈ pendz i ls, ∃ k : Nat, k < ls.length ∧ m.1 = ((i + k : Nat) : Int) ∧ ls[k]? = some m.2.2 := by
  induction ls generalizing i with
  | nil => intro m hm; simp [pendz] at hm
  | cons b ls ih =>
    intro m hm
    simp only [pendz] at hm
    have tail : m ∈ pendz (i + 1) ls → ∃ k : Nat, k < (b :: ls).length ∧ m.1 = ((i + k : Nat) : Int) ∧ (b :: ls)[k]? = some m.2.2 := fun hm => by
      obtain ⟨k, h1, h2, h3⟩ := ih (i + 1) m hm
      exact ⟨k + 1, by simp; omega, by rw [h2]; congr 1; omega, by simpa using h3⟩
    split at hm
    · exact tail hm
    · rcases List.mem_cons.1 hm with rfl | hm
      · exact ⟨0, by simp, by simp, by simp⟩
      · exact tail hm
theorem pendz_once (i : Nat) (ls : List (List UInt8)) : ((pendz i ls).map fun m => m.1).Pairwise (· ≠ ·) := by
  induction ls generalizing i with
  | nil => simp [pendz]
  | cons b ls ih =>
    simp only [pendz]
    split
    · exact ih _
    · rw [List.map_cons, List.pairwise_cons]
      refine ⟨fun y hy => ?_, ih _⟩
      obtain ⟨m, hm, rfl⟩ := List.mem_map.1 hy
      obtain ⟨k, _, e, _⟩ := pendz_from _ _ m hm
      simp only
      omega
theorem Seen.init (n : Nat) (ls : List (List UInt8)) (hl : ls.length = n) : Seen n (pendz 0 ls).length ls (pendz 0 ls) (.map []) :=
  ⟨fun m hm => by
    obtain ⟨k, h1, h2, h3⟩ := pendz_from 0 ls m hm
    exact ⟨k, by omega, by rw [h2]; simp, h3⟩, pendz_once 0 ls, fun _ _ => rfl, by simp [size_eq]⟩

theorem law_int : Keyed Try.prog 3 := int_keyed Try.underlying3
theorem zero_int (w : World) : (zeroValue 3).run Try.prog w = .ok (.int .i64 0) w := by kernel_rfl
abbrev OwnMap (w : World) (b n : Nat) (D : Dt) : Prop := w.ownsMap Try.prog 3 (plainElem Try.prog 3) b n D
theorem OwnMap.chg {S : Nat → Prop} {w w' : World} {b n : Nat} {D : Dt} (h : OwnMap w b n D) (hc : Chg S w w') (hb : ¬ S b) : OwnMap w' b n D := by
  obtain ⟨es, clock, h1, F, h2, h3⟩ := h
  exact ⟨es, clock, hc.blk h1 hb, F, h2, h3⟩
theorem OwnMap.below {B : Nat} {w w' : World} {b n : Nat} {D : Dt} (h : OwnMap w b n D) (hc : Below B w w') (hb : b < B) : OwnMap w' b n D := by
  obtain ⟨es, clock, h1, F, h2, h3⟩ := h
  exact ⟨es, clock, blk_below hc h1 hb, F, h2, h3⟩
theorem OwnMap.not_row {w : World} {b n : Nat} {D : Dt} (h : OwnMap w b n D) (cur : Array Value) (t : TypeId) (f : Nat × Nat) : w.heap[b]? ≠ some (.cells cur t f) := by
  obtain ⟨es, clock, h1, _⟩ := h
  rw [h1]
  intro e
  injection e with e
  cases e
set_option maxRecDepth 100000 in
/-- what a look-up of a seen one tells -/
theorem OwnMap.look {w : World} {b n : Nat} {D : Dt} (h : OwnMap w b n D) {x z : Int} (hw : (Lit.int .i64 x).wf = true) (hz : D.atKey (.int .i64 x) (.lit (.int .i64 0)) = .lit (.int .i64 z)) :
    (Instr.lookup 29 (.map (some b)) (.int .i64 x) false).run Try.prog w = .ok (.int .i64 z) w := by
  obtain ⟨c, hrun, hat, _⟩ := World.ownsMap.lookup_int h law_int Try.underlying29 Try.underlying3 (zero_int w) (keyOf_int_mk Try.underlying3 hw)
  rw [hz] at hat
  injection hat with hat
  injection hat with _ hat
  rw [hrun, ← hat]
theorem seen_zero {D : Dt} {k : Lit} {c : Int} (h : Maps.has D k = false) (hat : D.atKey k (.lit (.int .i64 0)) = .lit (.int .i64 c)) : c = 0 := by
  rw [atKey_of_not_has h] at hat
  injection hat with hat
  injection hat with _ hat
  exact hat.symm
theorem chg_cell {S : Nat → Prop} {w w' : World} (hc : Chg S w w') {p : Addr} {v : Value} (h : w.cell? p = some v) (hn : ¬ S p.block) : w'.cell? p = some v := by
  have hlt : p.block < w.heap.size := World.block_lt_of_cell? w _ h
  rw [← h]
  simp only [World.cell?, hc.block p.block hlt hn]
theorem stored3 {w ws : World} {pk : Nat} {a b c : Value} {t : TypeId} (hg : w.heap[pk]? = some (.cells #[a, b, c] t (0, 0))) (x y z : Value) (hws : ((w.setCell ⟨pk, 0, none⟩ x).setCell ⟨pk, 1, none⟩ y).setCell ⟨pk, 2, none⟩ z = ws) :
    Chg (fun b => b = pk) w ws ∧ ws.cell? ⟨pk, 0, none⟩ = some x ∧ ws.cell? ⟨pk, 1, none⟩ = some y ∧ ws.cell? ⟨pk, 2, none⟩ = some z := by
  have c0 : w.cell? ⟨pk, 0, none⟩ = some a := by rw [cell_of_row _ _ _ _ _ _ hg]; rfl
  have c1 : w.cell? ⟨pk, 1, none⟩ = some b := by rw [cell_of_row _ _ _ _ _ _ hg]; rfl
  have c2 : w.cell? ⟨pk, 2, none⟩ = some c := by rw [cell_of_row _ _ _ _ _ _ hg]; rfl
  have n01 : (⟨pk, 0, none⟩ : Addr) ≠ ⟨pk, 1, none⟩ := by intro e; injection e with _ e; cases e
  have n02 : (⟨pk, 0, none⟩ : Addr) ≠ ⟨pk, 2, none⟩ := by intro e; injection e with _ e; cases e
  have n12 : (⟨pk, 1, none⟩ : Addr) ≠ ⟨pk, 2, none⟩ := by intro e; injection e with _ e; cases e
  subst hws
  refine ⟨(((Chg.refl (fun b => b = pk) w).setCell (p := ⟨pk, 0, none⟩) (fun _ => rfl) _).setCell (p := ⟨pk, 1, none⟩) (fun _ => rfl) _).setCell (p := ⟨pk, 2, none⟩) (fun _ => rfl) _, ?_, ?_, ?_⟩
  · rw [World.cell?_setCell_other _ _ _ _ n02.symm, World.cell?_setCell_other _ _ _ _ n01.symm, World.cell?_setCell_same _ _ _ c0]
  · rw [World.cell?_setCell_other _ _ _ _ n12.symm]
    exact World.cell?_setCell_same _ _ _ ((World.cell?_setCell_other _ _ _ _ n01).trans c1)
  · exact World.cell?_setCell_same _ _ _ ((World.cell?_setCell_other _ _ _ _ n12).trans ((World.cell?_setCell_other _ _ _ _ n02).trans c2))
/-- a row of numbers that came in -/
theorem row_at {w : World} {a : Option Addr} {len cap : Nat} {zs : List Int} (h : IsRow .i64 w a len cap zs) {j : Nat} (hj : j < len) :
    ∃ b off z, a = some ⟨b, off, none⟩ ∧ b < w.heap.size ∧ w.cell? ⟨b, off + j, none⟩ = some (.int .i64 z) ∧ -9223372036854775808 ≤ z ∧ z ≤ 9223372036854775807 := by
  rcases h with ⟨rfl, rfl, rfl, rfl⟩ | ⟨x, rfl, hl, hm, hz, hcell, hwz⟩
  · omega
  · have hc := hcell j (by omega)
    obtain ⟨b, off, spot⟩ := x
    have hspot : spot = none := by simpa [Addr.add] using World.cell?_spot (hcell 0 (by omega))
    subst hspot
    rw [words.add_plain] at hc
    have hjz : j < zs.length := by omega
    have hg : zs.getD j 0 = zs[j] := by simp [List.getD, List.getElem?_eq_getElem hjz]
    have hw := wf_i64 (hwz zs[j] (List.getElem_mem hjz))
    rw [← hg] at hw
    exact ⟨b, off, zs.getD j 0, rfl, World.block_lt_of_cell? w _ hc, hc, hw.1, hw.2⟩
end Go.Proofs.Ytcebmlcdhapnkaa.net
