/-
  Placements: a new one is right, and both make the same.
-/
import Derived.Test.YtnjdondkggkfoaaGreatPmG
import Derived.Test.YtnjdondkggkfoaaGreatPmRemM
import Derived.Test.YtnjdondkggkfoaaGreatPmInitY
namespace Go.Proofs.YtnjdondkggkfoaaGreat.pm
open Go.ChangeShapes Go.WideShapes Go.ChangeAt Go.RowKit Go.Shelf plain words ord mem

/-- numbers that came in, as a list -/
theorem row_ls {w : World} {a : Option Addr} {len cap : Nat} {zs : List Int} (h : IsRow .i64 w a len cap zs) : Ls NE w w.heap.size a len (zs.take len) ∧ len ≤ cap ∧ cap ≤ 9223372036854775807 := by
  rcases h with ⟨rfl, rfl, rfl, rfl⟩ | ⟨x, rfl, hl, hm, hz, hcell, _⟩
  · exact ⟨Ls.nil _ _ _, Nat.le_refl _, by omega⟩
  · refine ⟨⟨by rw [List.length_take]; omega, ?_, fun j hj => ?_⟩, hl, by unfold maxLen at hm; exact hm⟩
    · rw [cs_len NE.len, List.length_take]; show _ * 1 = _ * 1; omega
    · have hj' : j < len := by rw [show len * NE.k = len from Nat.mul_one len] at hj; exact hj
      have hc := hcell j (by omega)
      obtain ⟨b, off, spot⟩ := x
      have hspot : spot = none := by simpa [Addr.add] using World.cell?_spot (hcell 0 (by omega))
      subst hspot
      have e : (⟨b, off, none⟩ : Addr).add j = ⟨b, off + j, none⟩ := words.add_plain _ _ _
      rw [e] at hc
      have h1 := cs_at (k := 1) (enc := NE.enc) NE.len (zs.take len) j (zs.getD j 0) (by rw [List.getElem?_take, if_pos hj', List.getD_eq_getElem?_getD, List.getElem?_eq_getElem (by omega)]; rfl) 0 (by decide)
      rw [Nat.mul_one, Nat.add_zero] at h1
      exact ⟨b, off, _, rfl, World.block_lt_of_cell? w _ hc, h1, hc⟩

structure Fresh (nodes : List Int) (l : List O) : Prop where
  rise : RiseO l
  each : ∀ o ∈ l, o.2 = (2, -1) ∧ o.1 ∈ nodes
theorem Fresh.not {nodes : List Int} {l : List O} (h : Fresh nodes l) {n : Int} (hn : holds l n = false) : ∀ o ∈ l, o.1 ≠ n := fun o ho e => by
  rw [(holds_iff l n).2 ⟨o, ho, e, by rw [(h.each o ho).1]; simp⟩] at hn; cases hn
theorem Fresh.own {nodes : List Int} {l : List O} (h : Fresh nodes l) {n : Int} (hn : holds l n = false) (hm : n ∈ nodes) : Fresh nodes (own l (n, 2, -1)) :=
  ⟨own_rise h.rise (h.not hn), fun o ho => by
    rcases (own_mem _ _ _).1 ho with rfl | ho
    · exact ⟨rfl, hm⟩
    · exact h.each o ho⟩
theorem Fresh.calm {nodes : List Int} {l : List O} (h : Fresh nodes l) (hn : NodesOk nodes) (h3 : l.length = 3) : Calm l := ⟨h.rise, fun o ho => ⟨hn.each _ (h.each o ho).2, (h.each o ho).1⟩, h3⟩
theorem fresh_steps {nodes : List Int} {X : List (List O)} {i : Nat} (hn : NodesOk nodes) (hi : i < X.length) (h0 : at_ X i = []) (j : Nat) (hj : j ≤ 3) : Fresh nodes (at_ (steps nodes i j X) i) ∧ (at_ (steps nodes i j X) i).length = j := by
  induction j with
  | zero =>
    have e : at_ (steps nodes i 0 X) i = [] := h0
    rw [e]
    exact ⟨⟨Rise.nil _, fun o ho => by simp at ho⟩, rfl⟩
  | succ j ih =>
    obtain ⟨h1, h2⟩ := ih (by omega)
    have hl : i < (steps nodes i j X).length := by rw [steps_len]; exact hi
    obtain ⟨a, b, _⟩ := least_spec (X := steps nodes i j X) (q := at_ (steps nodes i j X) i) hn (by omega)
    rw [steps, stepO, at_set hl]
    exact ⟨h1.own b a, by rw [own_len, h2]⟩
theorem fresh_init {nodes : List Int} (hn : NodesOk nodes) (S i : Nat) (hi : i ≤ S) : ∀ k, k < i → Fresh nodes (at_ (initAt nodes S i) k) ∧ (at_ (initAt nodes S i) k).length = 3 := by
  induction i with
  | zero => intro k hk; omega
  | succ i ih =>
    intro k hk
    by_cases e : i = k
    · subst e
      exact fresh_steps hn (by rw [initAt_len]; omega) (initAt_rest nodes S i i (Nat.le_refl _)) 3 (Nat.le_refl _)
    · rw [initAt, at_steps_ne nodes e]
      exact ih (by omega) k (by omega)
theorem init_err {l : List Int} {s : Int} (h : initErr l s = 0) : NodesOk (srt l) ∧ 1 ≤ s ∧ s ≤ 8 := by
  unfold initErr at h
  by_cases hno : NodesOk (srt l)
  · rw [tb_true hno, if_pos rfl] at h
    by_cases hs : s < 1 ∨ 8 < s
    · rw [if_pos hs] at h; cases h
    · exact ⟨hno, by omega, by omega⟩
  · rw [tb_false hno] at h
    cases h
theorem init_pl {l : List Int} {s : Int} (h : initErr l s = 0) : initPl l s = ⟨1, srt l, initAt (srt l) s.toNat s.toNat⟩ := if_pos h
theorem init_calm {l : List Int} {s : Int} (h : initErr l s = 0) : ∀ q ∈ (initPl l s).ss, Calm q ∧ ∀ o ∈ q, has (srt l) o.1 = true := fun q hq => by
  obtain ⟨hn, h1, h8⟩ := init_err h
  rw [init_pl h] at hq
  simp only at hq
  obtain ⟨k, hk, rfl⟩ := List.getElem_of_mem hq
  have hk2 : k < s.toNat := by rw [initAt_len] at hk; exact hk
  have := fresh_init hn s.toNat s.toNat (Nat.le_refl _) k hk2
  have hat : at_ (initAt (srt l) s.toNat s.toNat) k = (initAt (srt l) s.toNat s.toNat)[k] := by unfold at_; rw [List.getElem?_eq_getElem hk]; rfl
  rw [hat] at this
  exact ⟨this.1.calm hn this.2, fun o ho => (has_iff' _ _).2 (this.1.each o ho).2⟩
theorem init_ok {l : List Int} {s : Int} (h : initErr l s = 0) : PlOk (initPl l s) ∧ busy (initPl l s).ss = false ∧ (initPl l s).ver = 1 ∧ (initPl l s).nodes = srt l ∧ ((initPl l s).ss.length : Int) = s := by
  obtain ⟨hn, h1, h8⟩ := init_err h
  have hc := init_calm h
  have hl : (initPl l s).ss.length = s.toNat := by rw [init_pl h]; exact initAt_len _ _ _
  have hN : (initPl l s).nodes = srt l := by rw [init_pl h]
  have hV : (initPl l s).ver = 1 := by rw [init_pl h]
  refine ⟨⟨by omega, by omega, by rw [hN]; exact hn, by omega, by omega, fun q hq => ?_⟩, ?_, hV, hN, by omega⟩
  · rw [hN]; exact (hc q hq).1.ok (hc q hq).2
  · refine List.any_eq_false.2 fun q hq hco => ?_
    obtain ⟨o, ho, h1⟩ := List.any_eq_true.1 hco
    rw [((hc q hq).1.each o ho).2] at h1
    simp at h1
theorem load_nils (X : List (List O)) (m : Nat) (n : Int) : load (X ++ List.replicate m []) n = load X n := by
  unfold load
  rw [List.countP_append]
  have : (List.replicate m ([] : List O)).countP (fun l => holds l n) = 0 := List.countP_eq_zero.2 fun l hl => by
    rw [List.mem_replicate] at hl
    rw [hl.2]; simp [holds]
  omega
theorem least_nils (nodes : List Int) (X : List (List O)) (m : Nat) (q : List O) : least nodes (X ++ List.replicate m []) q = least nodes X q := by
  unfold least
  have : leastStep (X ++ List.replicate m []) q = leastStep X q := by
    funext b n
    unfold leastStep
    rw [load_nils, load_nils]
  rw [this]
theorem steps_rsteps {nodes : List Int} (hn : NodesOk nodes) {X : List (List O)} {i : Nat} (hi : i < X.length) (h0 : at_ X i = []) (j : Nat) (hj : j ≤ 3) : rsteps nodes i j X = steps nodes i j X := by
  induction j with
  | zero => rfl
  | succ j ih =>
    obtain ⟨f1, f2⟩ := fresh_steps hn hi h0 j (by omega)
    obtain ⟨a, b, _⟩ := least_spec (X := steps nodes i j X) (q := at_ (steps nodes i j X) i) hn (by omega)
    rw [rsteps, ih (by omega), rstepO, disown_id (f1.not b), steps, stepO]
theorem steps_app {nodes : List Int} {X : List (List O)} {i : Nat} (hi : i < X.length) (m j : Nat) : steps nodes i j (X ++ List.replicate m []) = steps nodes i j X ++ List.replicate m [] := by
  induction j with
  | zero => rfl
  | succ j ih =>
    have hl : i < (steps nodes i j X).length := by rw [steps_len]; exact hi
    have hat : at_ (steps nodes i j X ++ List.replicate m []) i = at_ (steps nodes i j X) i := by
      unfold at_; rw [List.getElem?_append_left hl]
    rw [steps, ih, stepO, hat, least_nils, List.set_append_left _ _ hl, steps, stepO]
theorem init_same {nodes : List Int} (hn : NodesOk nodes) (S i : Nat) (hi : i ≤ S) : initAt nodes S i = rinitAt nodes i ++ List.replicate (S - i) [] := by
  induction i with
  | zero => rfl
  | succ i ih =>
    have hl : i < (rinitAt nodes i ++ [[]]).length := by rw [List.length_append, rinitAt_len]; simp
    have h0 : at_ (rinitAt nodes i ++ [[]]) i = [] := by
      unfold at_
      rw [List.getElem?_append_right (by rw [rinitAt_len]; exact Nat.le_refl _), rinitAt_len, Nat.sub_self]
      rfl
    have e : rinitAt nodes i ++ List.replicate (S - i) [] = (rinitAt nodes i ++ [[]]) ++ List.replicate (S - (i + 1)) [] := by
      rw [List.append_assoc, show S - i = (S - (i + 1)) + 1 by omega, List.replicate_succ]; rfl
    rw [initAt, ih (by omega), e, steps_app hl, rinitAt, steps_rsteps hn hl h0 3 (Nat.le_refl _)]
theorem rinit_pl (l : List Int) (s : Int) : rinitPl l s = initPl l s := by
  unfold rinitPl
  rw [rinitErr_eq]
  by_cases h : initErr l s = 0
  · obtain ⟨hn, _, _⟩ := init_err h
    rw [if_pos h, init_pl h, ← srt_setOf ((rnodes_iff l).1 hn), init_same hn _ _ (Nat.le_refl _), Nat.sub_self]
    simp
  · rw [if_neg h]; unfold initPl; rw [if_neg h]
end Go.Proofs.YtnjdondkggkfoaaGreat.pm
