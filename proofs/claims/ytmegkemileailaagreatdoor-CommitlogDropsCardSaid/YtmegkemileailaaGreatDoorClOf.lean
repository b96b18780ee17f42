/-
  Records that came in: one, and slices of them.
-/
import Derived.Test.YtmegkemileailaaGreatDoorLsOf
import Derived.Test.YtmegkemileailaaGreatDoorClD
import Derived.Lib.SmallJoins
namespace Go.Proofs.YtmegkemileailaaGreatDoor.cl
open Go.ChangeShapes Go.WideShapes Go.ChangeAt Go.RowKit Go.Deep plain words ord mem uvs

/-- a slice of structs, whatever their fields -/
theorem cells_of {t e : TypeId} {H : Type} {enc : TypeId × Value → H} {P : Program} {W : World} {a : Option Addr} {len cap k : Nat} {d : DataW H} {p : List MemPlace}
    (ht : P.underlying t = some (.slice e)) (ce : P.cellsOf e = k) (h0 : DataW.Trod enc P W 0 (fun _ => true) true t (.slice a len cap) d p) :
    (a = none ∧ len = 0 ∧ cap = 0) ∨
    ∃ x, a = some x ∧ len ≤ cap ∧ cap ≤ maxLen ∧ ∀ i, i < len → ∃ cs, cs.length = k ∧ (∀ j, j < k → W.cell? (x.add (i * k + j)) = cs[j]?) ∧ ∃ n y, DataW.trod enc P W 0 (fun _ => true) true n e cs = some y := by
  obtain ⟨fuel, hfu⟩ := h0
  rcases open_slice ht hfu with ⟨hcs, _⟩ | ⟨x, l, c, m, n, D, Pl, hcs, _, hl, hm, hmm, _, hx⟩
  · simp [Value.cells] at hcs
    obtain ⟨rfl, rfl, rfl⟩ := hcs
    exact .inl ⟨rfl, rfl, rfl⟩
  · simp [Value.cells] at hcs
    obtain ⟨rfl, rfl, rfl⟩ := hcs
    rw [if_pos rfl] at hmm
    subst hmm
    refine .inr ⟨x, rfl, hl, hm, fun i hi => ?_⟩
    obtain ⟨cs', h1, h2⟩ := hx i (by omega)
    rw [ce] at h1
    obtain ⟨_, hlen, hcell⟩ := World.cells?_some h1
    refine ⟨cs', hlen, fun j hj => ?_, _, _, h2⟩
    have e := hcell j (by omega)
    rw [add_add] at e
    exact e
theorem lists_of {α : Type} (E : El α) (Fit : α → Prop) {t e : TypeId} {H : Type} {enc : TypeId × Value → H} {P : Program} {W : World} {a : Option Addr} {len cap : Nat} {d : DataW H} {p : List MemPlace}
    (ht : P.underlying t = some (.slice e)) (ce : P.cellsOf e = E.k)
    (hone : ∀ cs : List Value, (∃ n y, DataW.trod enc P W 0 (fun _ => true) true n e cs = some y) → ∃ x, E.enc x = cs ∧ Fit x)
    (h0 : DataW.Trod enc P W 0 (fun _ => true) true t (.slice a len cap) d p) : IsLs E Fit W a len cap := by
  rcases cells_of ht ce h0 with ⟨rfl, rfl, rfl⟩ | ⟨x, rfl, hl, hm, hx⟩
  · exact ⟨[], Ls.nil _ _ _, fun x hx => by simp at hx, Nat.le_refl _, by simp, fun _ => rfl⟩
  · have each : ∀ i, i < len → ∃ q : α, (∀ j, j < E.k → W.cell? (x.add (i * E.k + j)) = (E.enc q)[j]?) ∧ Fit q := fun i hi => by
      obtain ⟨cs, _, hc, ht⟩ := hx i hi
      obtain ⟨q, hq, hf⟩ := hone cs ht
      exact ⟨q, fun j hj => by rw [hq]; exact hc j hj, hf⟩
    obtain ⟨l, hll, hq⟩ := list_for each
    refine ⟨l, ⟨hll, by rw [cs_len E.len, hll], fun j hj => ?_⟩, fun y hy => ?_, hl, hm, fun e => by cases e⟩
    · have hpos := E.pos
      have hjk : j / E.k < len := (Nat.div_lt_iff_lt_mul hpos).2 hj
      have hmod : j % E.k < E.k := Nat.mod_lt _ hpos
      have hjj : j / E.k * E.k + j % E.k = j := Nat.div_add_mod' j E.k
      have hjl : j / E.k < l.length := by omega
      obtain ⟨hc, _⟩ := hq (j / E.k) l[j / E.k] (List.getElem?_eq_getElem hjl)
      have hc := hc (j % E.k) hmod
      rw [hjj] at hc
      have he2 := cs_at (k := E.k) E.len l (j / E.k) l[j / E.k] (List.getElem?_eq_getElem hjl) (j % E.k) hmod
      rw [hjj] at he2
      have hlen := E.len l[j / E.k]
      obtain ⟨b, off, spot⟩ := x
      rw [List.getElem?_eq_getElem (show j % E.k < (E.enc l[j / E.k]).length by rw [E.len]; exact hmod)] at hc he2
      have hspot : spot = none := by
        have hl0 : 0 < l.length := Nat.lt_of_le_of_lt (Nat.zero_le _) hjl
        obtain ⟨h8, _⟩ := hq 0 l[0] (List.getElem?_eq_getElem hl0)
        have h8 := h8 0 hpos
        rw [List.getElem?_eq_getElem (show 0 < (E.enc l[0]).length by rw [E.len]; exact hpos)] at h8
        have h9 := World.cell?_spot h8
        unfold Addr.add at h9
        rw [if_pos (by rw [Nat.zero_mul])] at h9
        exact h9
      subst hspot
      rw [words.add_plain] at hc
      exact ⟨b, off, _, rfl, World.block_lt_of_cell? W _ hc, he2, hc⟩
    · obtain ⟨i, hi, rfl⟩ := List.getElem_of_mem hy
      exact (hq i _ (List.getElem?_eq_getElem hi)).2
/-- what a record that came in fits -/
def FitR (r : Rec) : Prop := Num r ∧ r.id.length ≤ maxLen ∧ (Lit.int .i64 r.sp).wf = true ∧ (Lit.int .i64 r.t).wf = true
set_option maxRecDepth 100000 in
theorem rec_reads {H : Type} {enc : TypeId × Value → H} {W : World} {cs : List Value} (h : ∃ n y, DataW.trod enc Tryz.prog W 0 (fun _ => true) true n 36 cs = some y) : ∃ r, rc r = cs ∧ FitR r := by
  obtain ⟨n, y, h⟩ := h
  obtain ⟨y0, y1, y2, k, _, hl, h0, h1, h2⟩ := trod_struct3 Tryz.underlying36 h
  rw [show Tryz.prog.cellsOf 36 = 5 by kernel_rfl] at hl
  obtain ⟨c0, c1, c2, c3, c4, rfl⟩ : ∃ c0 c1 c2 c3 c4, cs = [c0, c1, c2, c3, c4] := by
    match cs, hl with
    | [c0, c1, c2, c3, c4], _ => exact ⟨c0, c1, c2, c3, c4, rfl⟩
  obtain ⟨z0, z1, z2, k2, _, _, p0, p1, p2⟩ := trod_struct3 Tryz.underlying34 h2
  obtain ⟨sp, rfl, w0⟩ := words.reads_int (k := .i64) Tryz.underlying3 ⟨_, _, h0⟩
  obtain ⟨s, rfl, ws⟩ := words.reads_string Tryz.underlying9 ⟨_, _, h1⟩
  obtain ⟨t, rfl, w2⟩ := words.reads_int (k := .i64) Tryz.underlying3 ⟨_, _, p0⟩
  obtain ⟨v, rfl, w3⟩ := words.reads_int (k := .u64) Tryz.underlying32 ⟨_, _, p1⟩
  obtain ⟨u, rfl, w4⟩ := words.reads_int (k := .u64) Tryz.underlying32 ⟨_, _, p2⟩
  obtain ⟨a, rfl⟩ := ba_tx s
  rw [tx_size] at ws
  have b3 := wf_u64 w3
  have b4 := wf_u64 w4
  exact ⟨⟨sp, a, t, v, u⟩, rfl, ⟨b3.1, by show v < _; omega, b4.1, by show u < _; omega⟩, ws, w0, w2⟩
set_option maxRecDepth 100000 in
theorem recs_of {H : Type} {enc : TypeId × Value → H} {W : World} {a : Option Addr} {len cap : Nat} {d : DataW H} {p : List MemPlace} (h0 : DataW.Trod enc Tryz.prog W 0 (fun _ => true) true 22 (.slice a len cap) d p) : IsLs RE FitR W a len cap :=
  lists_of RE FitR Tryz.underlying22 (by kernel_rfl) (fun _ h => rec_reads h) h0
set_option maxRecDepth 100000 in
/-- a record that came in by value -/
theorem open_rec {H : Type} {enc : TypeId × Value → H} {W : World} {r : Reach} {b0 : Nat} {v : Value} {d : DataW H} {p : List MemPlace} (hv : Value.okWide Tryz.prog W r b0 36 v) (h : DataW.Trod enc Tryz.prog W 0 (fun _ => true) true 36 v d p) : ∃ r, v = rv r ∧ FitR r := by
  obtain ⟨cs, rfl, hsz⟩ := okWide_struct Tryz.underlying36 hv
  obtain ⟨n, hn⟩ := h
  obtain ⟨r, hr, hf⟩ := rec_reads ⟨n, _, hn⟩
  refine ⟨r, ?_, hf⟩
  unfold rv
  rw [hr]
  simp [Value.cells]
end Go.Proofs.YtmegkemileailaaGreatDoor.cl
