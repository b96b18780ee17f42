/-
  Slices of structs of one-cell fields that came in, opened: each field by its own law.
-/
import Derived.Test.YtheanpcbjjogfaaFrame
import Derived.Test.YtheanpcbjjogfaaSlices
import Derived.Deep.Slices
import Derived.Deep.SlicePairs
namespace Go.Proofs.Ytheanpcbjjogfaa.words
open Go.ChangeShapes Go.WideShapes Go.ChangeAt Go.RowKit Go.Deep words
open Go.ChangeMaps (open_string)

/-- what is read of one cell by a type -/
abbrev Reads {H : Type} (enc : TypeId × Value → H) (P : Program) (W : World) (t : TypeId) (v : Value) : Prop := ∃ n y, DataW.trod enc P W 0 (fun _ => true) true n t [v] = some y
/-- a slice of structs whose fields fs are one cell each *-/
theorem structs_of {t e : TypeId} {H : Type} {enc : TypeId × Value → H} {P : Program} {W : World} {a : Option Addr} {len cap : Nat} {d : DataW H} {p : List MemPlace} {fs : Array Field}
    (ht : P.underlying t = some (.slice e)) (he : P.underlying e = some (.struct fs)) (ce : P.cellsOf e = fs.size) (hf : ((List.range fs.size).all fun j => match fs[j]? with | some f => f.offset == j && P.cellsOf f.type == 1 | none => false) = true)
    (h0 : DataW.Trod enc P W 0 (fun _ => true) true t (.slice a len cap) d p) :
    (a = none ∧ len = 0 ∧ cap = 0) ∨
    ∃ x, a = some x ∧ len ≤ cap ∧ cap ≤ maxLen ∧ ∀ i, i < len → ∀ (j : Nat) (f : Field), fs[j]? = some f → ∃ v, W.cell? (x.add (i * fs.size + j)) = some v ∧ Reads enc P W f.type v := by
  obtain ⟨fuel, hfu⟩ := h0
  rcases open_slice ht hfu with ⟨hcs, _⟩ | ⟨x, l, c, m, n, D, Pl, hcs, _, hl, hm, hmm, _, hx⟩
  · simp [Value.cells] at hcs
    obtain ⟨rfl, rfl, rfl⟩ := hcs
    exact .inl ⟨rfl, rfl, rfl⟩
  · simp [Value.cells] at hcs
    obtain ⟨rfl, rfl, rfl⟩ := hcs
    rw [if_pos rfl] at hmm
    subst hmm
    refine .inr ⟨x, rfl, hl, hm, fun i hi j f hj => ?_⟩
    obtain ⟨cs', h1, h2⟩ := hx i (by omega)
    rw [ce] at h1
    obtain ⟨_, hlen, hcell⟩ := World.cells?_some h1
    obtain ⟨xs, k, _, _, _, hxl, hg⟩ := DataW.trod_struct he h2
    have hjl : j < fs.size := by
      rcases Nat.lt_or_ge j fs.size with h | h
      · exact h
      · rw [Array.getElem?_eq_none h] at hj; cases hj
    have hfj := List.all_eq_true.1 hf j (by simpa using hjl)
    rw [hj] at hfj
    obtain ⟨ho, hc⟩ : f.offset = j ∧ P.cellsOf f.type = 1 := by simpa using hfj
    have hjc : j < cs'.length := by omega
    have g := hg j f hj
    rw [ho, hc, List.drop_eq_getElem_cons hjc, List.take_succ_cons, List.take_zero, List.getElem?_eq_getElem (by omega)] at g
    have e := hcell j (by omega)
    rw [add_add, List.getElem?_eq_getElem hjc] at e
    exact ⟨cs'[j], e, k, _, g⟩
theorem reads_int {H : Type} {enc : TypeId × Value → H} {P : Program} {W : World} {t : TypeId} {v : Value} {k : IntKind} (ht : P.underlying t = some (.int k)) (h : Reads enc P W t v) : ∃ n, v = .int k n ∧ (Lit.int k n).wf = true := by
  obtain ⟨m, y, h⟩ := h
  obtain ⟨z, e, _, w⟩ := DataW.trod_int ht h
  injection e with e
  exact ⟨z, e, w⟩
theorem reads_bytes {H : Type} {enc : TypeId × Value → H} {P : Program} {W : World} {t e : TypeId} {v : Value} (ht : P.underlying t = some (.slice e)) (he : P.underlying e = some (.int .u8)) (hc : P.cellsOf e = 1) (h : Reads enc P W t v) :
    ∃ A L C bs, v = .slice A L C ∧ Bs W W.heap.size A L bs ∧ (A = none → C = 0) ∧ L ≤ C ∧ C ≤ maxLen := by
  obtain ⟨m, y, h⟩ := h
  rcases open_ints ht he hc h with ⟨hcs, _⟩ | ⟨x, l, c, zs, hcs, _, hl, hm, hz, _, hcell, hwz⟩
  · injection hcs with hcs
    exact ⟨none, 0, 0, [], hcs, Rd.nil _ _ _, fun _ => rfl, Nat.le_refl _, by simp⟩
  · injection hcs with hcs
    have hr : IsRow .u8 W (some x) l c zs := .inr ⟨x, rfl, hl, hm, by simpa using hz, hcell, hwz⟩
    obtain ⟨bs, hbs, _, ⟨h1, h2⟩, h3⟩ := hr.bytes
    exact ⟨some x, l, c, bs, hcs, hbs, (fun e => by cases e), h1, h2⟩
theorem reads_string {H : Type} {enc : TypeId × Value → H} {P : Program} {W : World} {t : TypeId} {v : Value} (ht : P.underlying t = some .string) (h : Reads enc P W t v) : ∃ s : ByteArray, v = .string s ∧ s.size ≤ maxLen := by
  obtain ⟨m, y, h⟩ := h
  obtain ⟨s, e, _, w⟩ := DataW.trod_string ht h
  injection e with e
  exact ⟨s, e, w⟩
end Go.Proofs.Ytheanpcbjjogfaa.words
