/-
  Slices of structs of one-cell fields that came in, opened at whatever struct.
-/
import Derived.Test.YtheanpcbjjogfaaStructs
import Derived.Test.YtheanpcbjjogfaaLst
namespace Go.Proofs.Ytheanpcbjjogfaa.mem
open Go.ChangeShapes Go.WideShapes Go.ChangeAt Go.RowKit Go.Deep plain words ord

theorem list_for {β : Type} {n : Nat} {Q : Nat → β → Prop} (h : ∀ i, i < n → ∃ s, Q i s) : ∃ l : List β, l.length = n ∧ ∀ i s, l[i]? = some s → Q i s := by
  induction n with
  | zero => exact ⟨[], rfl, fun i s h => by cases h⟩
  | succ n ih =>
    obtain ⟨l, hl, hq⟩ := ih (fun i hi => h i (by omega))
    obtain ⟨s, hs⟩ := h n (by omega)
    refine ⟨l ++ [s], by simp [hl], fun i t ht => ?_⟩
    rcases Nat.lt_trichotomy i n with h | h | h
    · rw [List.getElem?_append_left (by omega)] at ht
      exact hq i t ht
    · subst h
      rw [List.getElem?_append_right (by omega), hl] at ht
      simp at ht
      subst ht
      exact hs
    · rw [List.getElem?_eq_none (by simp; omega)] at ht
      cases ht
/-- a list that came in: read, and each of its elements fits -/
def IsLs {α : Type} (E : El α) (Fit : α → Prop) (w : World) (a : Option Addr) (len cap : Nat) : Prop :=
  ∃ l, Ls E w w.heap.size a len l ∧ (∀ x ∈ l, Fit x) ∧ len ≤ cap ∧ cap ≤ maxLen ∧ (a = none → cap = 0)
theorem ls_of {α : Type} (E : El α) (Fit : α → Prop) {t e : TypeId} {H : Type} {enc : TypeId × Value → H} {P : Program} {W : World} {a : Option Addr} {len cap : Nat} {d : DataW H} {p : List MemPlace} {fs : Array Field}
    (ht : P.underlying t = some (.slice e)) (he : P.underlying e = some (.struct fs)) (ce : P.cellsOf e = fs.size) (hf : ((List.range fs.size).all fun j => match fs[j]? with | some f => f.offset == j && P.cellsOf f.type == 1 | none => false) = true) (hk : fs.size = E.k)
    (hone : ∀ vs : Nat → Value, (∀ (j : Nat) (f : Field), fs[j]? = some f → Reads enc P W f.type (vs j)) → ∃ x, (∀ j, j < E.k → (E.enc x)[j]? = some (vs j)) ∧ Fit x)
    (h0 : DataW.Trod enc P W 0 (fun _ => true) true t (.slice a len cap) d p) : IsLs E Fit W a len cap := by
  rcases structs_of ht he ce hf h0 with ⟨rfl, rfl, rfl⟩ | ⟨x, rfl, hl, hm, hx⟩
  · exact ⟨[], Ls.nil _ _ _, fun x hx => by simp at hx, Nat.le_refl _, by simp, fun _ => rfl⟩
  · have each : ∀ i, i < len → ∃ q : α, (∀ j, j < E.k → W.cell? (x.add (i * E.k + j)) = (E.enc q)[j]?) ∧ Fit q := fun i hi => by
      have hv : ∀ j, ∃ v, ∀ f, fs[j]? = some f → W.cell? (x.add (i * fs.size + j)) = some v ∧ Reads enc P W f.type v := fun j => by
        cases hj : fs[j]? with
        | none => exact ⟨.nilFunc, fun f e => by cases e⟩
        | some f =>
          obtain ⟨v, h1, h2⟩ := hx i hi j f hj
          exact ⟨v, fun g e => by cases e; exact ⟨h1, h2⟩⟩
      obtain ⟨q, hq, hfit⟩ := hone (fun j => Classical.choose (hv j)) (fun j f e => (Classical.choose_spec (hv j) f e).2)
      refine ⟨q, fun j hj => ?_, hfit⟩
      have hj' : j < fs.size := by omega
      rw [hq j hj, ← hk]
      exact (Classical.choose_spec (hv j) fs[j] (Array.getElem?_eq_getElem hj')).1
    obtain ⟨l, hll, hq⟩ := list_for each
    refine ⟨l, ⟨hll, by rw [cs_len E.len, hll], fun j hj => ?_⟩, fun y hy => ?_, hl, hm, fun e => by cases e⟩
    · have hpos := E.pos
      have hjk : j / E.k < len := (Nat.div_lt_iff_lt_mul hpos).2 hj
      have hmod : j % E.k < E.k := Nat.mod_lt _ hpos
      have hjj : j / E.k * E.k + j % E.k = j := Nat.div_add_mod' j E.k
      have hjl : j / E.k < l.length := by omega
      obtain ⟨hc, _⟩ := hq (j / E.k) l[j / E.k] (List.getElem?_eq_getElem hjl)
      have hc := hc (j % E.k) hmod
      rw [hjj] at hc
      have he2 := cs_at (k := E.k) E.len l (j / E.k) l[j / E.k] (List.getElem?_eq_getElem hjl) (j % E.k) hmod
      rw [hjj] at he2
      have hlen := E.len l[j / E.k]
      obtain ⟨b, off, spot⟩ := x
      rw [List.getElem?_eq_getElem (show j % E.k < (E.enc l[j / E.k]).length by rw [E.len]; exact hmod)] at hc he2
      have hspot : spot = none := by
        have hl0 : 0 < l.length := Nat.lt_of_le_of_lt (Nat.zero_le _) hjl
        obtain ⟨h8, _⟩ := hq 0 l[0] (List.getElem?_eq_getElem hl0)
        have h8 := h8 0 hpos
        rw [List.getElem?_eq_getElem (show 0 < (E.enc l[0]).length by rw [E.len]; exact hpos)] at h8
        have h9 := World.cell?_spot h8
        unfold Addr.add at h9
        rw [if_pos (by rw [Nat.zero_mul])] at h9
        exact h9
      subst hspot
      rw [words.add_plain] at hc
      exact ⟨b, off, _, rfl, World.block_lt_of_cell? W _ hc, he2, hc⟩
    · obtain ⟨i, hi, rfl⟩ := List.getElem_of_mem hy
      exact (hq i _ (List.getElem?_eq_getElem hi)).2
end Go.Proofs.Ytheanpcbjjogfaa.mem
