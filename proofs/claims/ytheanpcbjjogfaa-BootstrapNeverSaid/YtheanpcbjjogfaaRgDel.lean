/-
  slices.DeleteFunc on a row of the call's own: the empty ranges go.
-/
import Derived.Test.YtheanpcbjjogfaaRgSort
import Derived.Laws.IdiomCopy
namespace Go.Proofs.Ytheanpcbjjogfaa.rg
open Go.ChangeShapes Go.WideShapes Go.ChangeAt Go.RowKit plain words ord mem

theorem ixF_spec (p : R → Bool) (l : List R) (i : Nat) : (ixF p l i = -1 ∧ ∀ j (hj : j < l.length), p l[j] = false) ∨ ∃ k, ∃ hk : k < l.length, ixF p l i = ((i + k : Nat) : Int) ∧ p l[k] = true ∧ ∀ j (hj : j < k), p l[j] = false := by
  induction l generalizing i with
  | nil => exact .inl ⟨rfl, fun j hj => by simp at hj⟩
  | cons x l ih =>
    cases hx : p x with
    | true => exact .inr ⟨0, by simp, by simp [ixF, hx], by simpa using hx, fun j hj => by omega⟩
    | false =>
      have e : ixF p (x :: l) i = ixF p l (i + 1) := by simp [ixF, hx]
      rcases ih (i + 1) with ⟨h1, h2⟩ | ⟨k, hk, h1, h2, h3⟩
      · refine .inl ⟨e.trans h1, fun j hj => ?_⟩
        cases j with
        | zero => simpa using hx
        | succ j => simpa using h2 j (by simpa using hj)
      · refine .inr ⟨k + 1, by simpa using hk, by rw [e, h1]; congr 1; omega, by simpa using h2, fun j hj => ?_⟩
        cases j with
        | zero => simpa using hx
        | succ j => simpa using h3 j (by omega)
/-- where DeleteFunc stands: the first i of the row are what is kept of the first j *-/
structure Del (p : R → Bool) (l d : List R) (i j : Nat) : Prop where
  len : d.length = l.length
  lt : i < j
  le : j ≤ l.length
  low : d.take i = (l.take j).filter fun r => !p r
  high : d.drop j = l.drop j
theorem Del.start {p : R → Bool} {l : List R} {k : Nat} (hk : k < l.length) (h1 : p l[k] = true) (h : ∀ j (hj : j < k), p l[j] = false) : Del p l l k (k + 1) where
  len := rfl
  lt := by omega
  le := by omega
  low := by
    have e : (l.take k).filter (fun r => !p r) = l.take k := by
      refine List.filter_eq_self.2 fun r hr => ?_
      obtain ⟨j, hj, rfl⟩ := List.mem_iff_getElem.1 hr
      simp only [List.length_take] at hj
      rw [List.getElem_take, h j (by omega)]; rfl
    rw [List.take_succ_eq_append_getElem hk, List.filter_append, e]
    simp [h1]
  high := rfl
theorem Del.at_ {p : R → Bool} {l d : List R} {i j : Nat} (h : Del p l d i j) (hj : j < l.length) : d[j]'(by rw [h.len]; exact hj) = l[j] := by
  have := congrArg (fun x => x[0]?) h.high
  simp only [List.getElem?_drop, Nat.add_zero] at this
  rw [List.getElem?_eq_getElem hj, List.getElem?_eq_getElem (by rw [h.len]; exact hj)] at this
  injection this
theorem Del.keep {p : R → Bool} {l d : List R} {i j : Nat} (h : Del p l d i j) (hj : j < l.length) {x : R} (hx : l[j] = x) (hp : p x = false) : Del p l (d.set i x) (i + 1) (j + 1) where
  len := by rw [List.length_set]; exact h.len
  lt := by have := h.lt; omega
  le := by omega
  low := by
    have hi : i < d.length := by have := h.lt; rw [h.len]; omega
    have hi' : i < (d.set i x).length := by rw [List.length_set]; exact hi
    rw [List.take_succ_eq_append_getElem hi', List.take_set_of_le (Nat.le_refl _), h.low, List.take_succ_eq_append_getElem hj, List.filter_append, hx]
    simp [hp]
  high := by
    have := h.lt
    rw [List.drop_set_of_lt (by omega)]
    have e := congrArg (List.drop 1) h.high
    rw [List.drop_drop, List.drop_drop] at e
    exact e
theorem Del.skip {p : R → Bool} {l d : List R} {i j : Nat} (h : Del p l d i j) (hj : j < l.length) {x : R} (hx : l[j] = x) (hp : p x = true) : Del p l d i (j + 1) where
  len := h.len
  lt := by have := h.lt; omega
  le := by omega
  low := by
    rw [h.low, List.take_succ_eq_append_getElem hj, List.filter_append, hx]
    simp [hp]
  high := by
    have e := congrArg (List.drop 1) h.high
    rw [List.drop_drop, List.drop_drop] at e
    exact e
theorem Del.done {p : R → Bool} {l d : List R} {i : Nat} (h : Del p l d i l.length) : d.take i = l.filter fun r => !p r := by
  rw [h.low, List.take_of_length_le (Nat.le_refl _)]
theorem cs_set (l : List R) (i : Nat) (x : R) : cs rgE (l.set i x) = ((cs rgE l).set (i * 2) (.int .i64 x.1)).set (i * 2 + 1) (.int .i64 x.2) := by
  induction l generalizing i with
  | nil => simp [cs]
  | cons y l ih =>
    cases i with
    | zero => simp [cs, rgE]
    | succ i =>
      rw [List.set_cons_succ, cs_cons, cs_cons, ih, show (i + 1) * 2 = i * 2 + 2 from by omega]
      simp [rgE]
theorem own_setr {w : World} {B g n cap i : Nat} {l : List R} (h : Own w B (.slice (some ⟨g, 0, none⟩) n cap) n l) (x : R) :
    Own ((w.setCell ⟨g, i * 2, none⟩ (.int .i64 x.1)).setCell ⟨g, i * 2 + 1, none⟩ (.int .i64 x.2)) B (.slice (some ⟨g, 0, none⟩) n cap) n (l.set i x) :=
  ⟨by rw [List.length_set]; exact h.1, by rw [cs_set]; exact own_set (own_set h.2 _) _⟩
theorem below_set {w : World} {B g j : Nat} (hB : B ≤ g) (v : Value) : Below B w (w.setCell ⟨g, j, none⟩ v) := by rw [Sort.setCell_eq]; exact below_map w B g _ hB
theorem own_cut {w : World} {B g n cap i : Nat} {l : List R} (h : Own w B (.slice (some ⟨g, 0, none⟩) n cap) n l) (hi : i ≤ n) : Own w B (.slice (some ⟨g, 0, none⟩) i cap) i (l.take i) := by
  refine ⟨by rw [List.length_take, h.1]; omega, ?_⟩
  rcases h.2.2 with ⟨h0, _⟩ | ⟨g', cap', cur, h0, hb, hg, h1, h2, h3, h4⟩
  · cases h0
  · cases h0
    refine ⟨by rw [cs_len rgE_len, List.length_take, h.1]; omega, .inr ⟨g, cap, cur, rfl, hb, hg, by omega, h2, h3, ?_⟩⟩
    rw [← cs_take rgE_len, ← h4, List.take_take, Nat.min_eq_left (Nat.mul_le_mul_right _ hi)]
theorem own_cells {B g cap i : Nat} {l : List R} (vs : List Value) (w : World) (o : Nat) (ho : i * 2 ≤ o) (hB : B ≤ g) (h : Own w B (.slice (some ⟨g, 0, none⟩) i cap) i l) :
    Own (w.setCells g o vs) B (.slice (some ⟨g, 0, none⟩) i cap) i l ∧ Below B w (w.setCells g o vs) := by
  induction vs generalizing w o with
  | nil => exact ⟨h, Below.refl _ _⟩
  | cons v vs ih =>
    have h1 : Own (w.setCell ⟨g, o, none⟩ v) B (.slice (some ⟨g, 0, none⟩) i cap) i l := by
      have := own_set (j := o) h.2 v
      rw [List.set_eq_of_length_le (by rw [h.2.1]; exact ho)] at this
      exact ⟨h.1, this⟩
    have h2 : Below B w (w.setCell ⟨g, o, none⟩ v) := below_set hB v
    obtain ⟨h3, h4⟩ := ih (w.setCell ⟨g, o, none⟩ v) (o + 1) (by omega) h1
    exact ⟨h3, h2.trans h4⟩
theorem clear_x (w : World) (B g n i cap : Nat) (l : List R) (h : Own w B (.slice (some ⟨g, 0, none⟩) n cap) n l) (hi : i < n) :
    ∃ zs : List Value, ∀ ty, (Builtin.clear_ #[55] ty #[.slice (some ⟨g, i * 2, none⟩) (n - i) (cap - i)]).run Try.prog w = .ok (.tuple #[]) (w.setCells g (i * 2) zs) := by
  obtain ⟨m, hm⟩ : ∃ m, n - i = m + 1 := ⟨n - i - 1, by omega⟩
  refine ⟨(Builtin.zeroCells (Value.agg #[.int .i64 0, .int .i64 0]).cells (m + 1)).toList, fun ty => ?_⟩
  obtain ⟨cur, hc⟩ := own_blk h.2
  have hsz : (Builtin.zeroCells (Value.agg #[.int .i64 0, .int .i64 0]).cells (m + 1)).toList.length = (n - i) * 2 := by
    simp [Builtin.zeroCells, hm, Value.cells]
  have hst := run_storeCells_cells (P := Try.prog) g (i * 2) (Builtin.zeroCells (Value.agg #[.int .i64 0, .int .i64 0]).cells (m + 1)).toList 0 w
    (fun j hj => by
      rw [hsz] at hj
      have hlt : i * 2 + 0 + j < n * 2 := by omega
      rw [h.2.cellAt _ hlt, List.getElem?_eq_getElem (by rw [h.2.1]; exact hlt)]; rfl)
    (fun j _ => frozen_of_row _ _ _ _ _ hc)
    (fun v hv => by
      simp only [Builtin.zeroCells, Array.toList_map, List.mem_map] at hv
      obtain ⟨q, _, rfl⟩ := hv
      have hq : q % 2 = 0 ∨ q % 2 = 1 := by omega
      simp only [Value.cells, List.size_toArray, List.length_cons, List.length_nil, Nat.zero_add, Nat.reduceAdd]
      rcases hq with e | e <;> rw [e] <;> rfl)
  simp only [Nat.add_zero] at hst
  rw [hm]
  have hz := Try.zeroValue27
  simp [Builtin.clear_, run_underlying Try.underlying55, hz, hst]
end Go.Proofs.Ytheanpcbjjogfaa.rg
