/-
  Placements: steps and placements that came in.
-/
import Derived.Test.YtheanpcbjjogfaaLsOf
import Derived.Test.YtheanpcbjjogfaaPmA
import Derived.Lib.SmallJoins
import Derived.Test.YtheanpcbjjogfaaPmDE
namespace Go.Proofs.Ytheanpcbjjogfaa.pm
open Go.ChangeShapes Go.WideShapes Go.ChangeAt Go.RowKit Go.Deep plain words ord mem

end Go.Proofs.Ytheanpcbjjogfaa.pm
/-
  Placements: one that came in by value.
-/
namespace Go.Proofs.Ytheanpcbjjogfaa.pm
open Go.ChangeShapes Go.WideShapes Go.ChangeAt Go.RowKit Go.Deep plain words ord mem

/-- a slice of structs, whatever their fields -/
theorem cells_of {t e : TypeId} {H : Type} {enc : TypeId × Value → H} {P : Program} {W : World} {a : Option Addr} {len cap k : Nat} {d : DataW H} {p : List MemPlace}
    (ht : P.underlying t = some (.slice e)) (ce : P.cellsOf e = k) (h0 : DataW.Trod enc P W 0 (fun _ => true) true t (.slice a len cap) d p) :
    (a = none ∧ len = 0 ∧ cap = 0) ∨
    ∃ x, a = some x ∧ len ≤ cap ∧ cap ≤ maxLen ∧ ∀ i, i < len → ∃ cs, cs.length = k ∧ (∀ j, j < k → W.cell? (x.add (i * k + j)) = cs[j]?) ∧ ∃ n y, DataW.trod enc P W 0 (fun _ => true) true n e cs = some y := by
  obtain ⟨fuel, hfu⟩ := h0
  rcases open_slice ht hfu with ⟨hcs, _⟩ | ⟨x, l, c, m, n, D, Pl, hcs, _, hl, hm, hmm, _, hx⟩
  · simp [Value.cells] at hcs
    obtain ⟨rfl, rfl, rfl⟩ := hcs
    exact .inl ⟨rfl, rfl, rfl⟩
  · simp [Value.cells] at hcs
    obtain ⟨rfl, rfl, rfl⟩ := hcs
    rw [if_pos rfl] at hmm
    subst hmm
    refine .inr ⟨x, rfl, hl, hm, fun i hi => ?_⟩
    obtain ⟨cs', h1, h2⟩ := hx i (by omega)
    rw [ce] at h1
    obtain ⟨_, hlen, hcell⟩ := World.cells?_some h1
    refine ⟨cs', hlen, fun j hj => ?_, _, _, h2⟩
    have e := hcell j (by omega)
    rw [add_add] at e
    exact e
theorem lists_of {α : Type} (E : El α) (Fit : α → Prop) {t e : TypeId} {H : Type} {enc : TypeId × Value → H} {P : Program} {W : World} {a : Option Addr} {len cap : Nat} {d : DataW H} {p : List MemPlace}
    (ht : P.underlying t = some (.slice e)) (ce : P.cellsOf e = E.k)
    (hone : ∀ cs : List Value, cs.length = E.k → (∃ n y, DataW.trod enc P W 0 (fun _ => true) true n e cs = some y) → ∃ x, E.enc x = cs ∧ Fit x)
    (h0 : DataW.Trod enc P W 0 (fun _ => true) true t (.slice a len cap) d p) : IsLs E Fit W a len cap := by
  rcases cells_of ht ce h0 with ⟨rfl, rfl, rfl⟩ | ⟨x, rfl, hl, hm, hx⟩
  · exact ⟨[], Ls.nil _ _ _, fun x hx => by simp at hx, Nat.le_refl _, by simp, fun _ => rfl⟩
  · have each : ∀ i, i < len → ∃ q : α, (∀ j, j < E.k → W.cell? (x.add (i * E.k + j)) = (E.enc q)[j]?) ∧ Fit q := fun i hi => by
      obtain ⟨cs, hcl, hc, ht⟩ := hx i hi
      obtain ⟨q, hq, hf⟩ := hone cs hcl ht
      exact ⟨q, fun j hj => by rw [hq]; exact hc j hj, hf⟩
    obtain ⟨l, hll, hq⟩ := list_for each
    refine ⟨l, ⟨hll, by rw [cs_len E.len, hll], fun j hj => ?_⟩, fun y hy => ?_, hl, hm, fun e => by cases e⟩
    · have hpos := E.pos
      have hjk : j / E.k < len := (Nat.div_lt_iff_lt_mul hpos).2 hj
      have hmod : j % E.k < E.k := Nat.mod_lt _ hpos
      have hjj : j / E.k * E.k + j % E.k = j := Nat.div_add_mod' j E.k
      have hjl : j / E.k < l.length := by omega
      obtain ⟨hc, _⟩ := hq (j / E.k) l[j / E.k] (List.getElem?_eq_getElem hjl)
      have hc := hc (j % E.k) hmod
      rw [hjj] at hc
      have he2 := cs_at (k := E.k) E.len l (j / E.k) l[j / E.k] (List.getElem?_eq_getElem hjl) (j % E.k) hmod
      rw [hjj] at he2
      have hlen := E.len l[j / E.k]
      obtain ⟨b, off, spot⟩ := x
      rw [List.getElem?_eq_getElem (show j % E.k < (E.enc l[j / E.k]).length by rw [E.len]; exact hmod)] at hc he2
      have hspot : spot = none := by
        have hl0 : 0 < l.length := Nat.lt_of_le_of_lt (Nat.zero_le _) hjl
        obtain ⟨h8, _⟩ := hq 0 l[0] (List.getElem?_eq_getElem hl0)
        have h8 := h8 0 hpos
        rw [List.getElem?_eq_getElem (show 0 < (E.enc l[0]).length by rw [E.len]; exact hpos)] at h8
        have h9 := World.cell?_spot h8
        unfold Addr.add at h9
        rw [if_pos (by rw [Nat.zero_mul])] at h9
        exact h9
      subst hspot
      rw [words.add_plain] at hc
      exact ⟨b, off, _, rfl, World.block_lt_of_cell? W _ hc, he2, hc⟩
    · obtain ⟨i, hi, rfl⟩ := List.getElem_of_mem hy
      exact (hq i _ (List.getElem?_eq_getElem hi)).2
theorem reads_slice {H : Type} {enc : TypeId × Value → H} {P : Program} {W : World} {t e : TypeId} {v : Value} (ht : P.underlying t = some (.slice e)) (h : Reads enc P W t v) : ∃ A L C d p, v = .slice A L C ∧ DataW.Trod enc P W 0 (fun _ => true) true t (.slice A L C) d p := by
  obtain ⟨n, y, h⟩ := h
  rcases open_slice ht h with ⟨hcs, _⟩ | ⟨a, l, c, _, _, _, _, hcs, _⟩
  · injection hcs with hcs
    subst hcs
    exact ⟨none, 0, 0, y.1, y.2, rfl, n, h⟩
  · injection hcs with hcs
    subst hcs
    exact ⟨some a, l, c, y.1, y.2, rfl, n, h⟩
theorem nums_of {H : Type} {enc : TypeId × Value → H} {W : World} {a : Option Addr} {len cap : Nat} {d : DataW H} {p : List MemPlace}
    (h0 : DataW.Trod enc Try.prog W 0 (fun _ => true) true 22 (.slice a len cap) d p) : IsLs NE (fun _ => True) W a len cap :=
  lists_of NE (fun _ => True) Try.underlying22 (by kernel_rfl) (fun cs hl h => by
    obtain ⟨n, y, h⟩ := h
    have hl : cs.length = 1 := hl
    obtain ⟨v, rfl⟩ : ∃ v, cs = [v] := List.length_eq_one_iff.1 hl
    obtain ⟨n0, rfl, _⟩ := reads_int (k := .i64) Try.underlying3 ⟨n, y, h⟩
    exact ⟨n0, rfl, trivial⟩) h0
theorem owners_of {H : Type} {enc : TypeId × Value → H} {W : World} {a : Option Addr} {len cap : Nat} {d : DataW H} {p : List MemPlace}
    (h0 : DataW.Trod enc Try.prog W 0 (fun _ => true) true 50 (.slice a len cap) d p) : IsLs OE (fun _ => True) W a len cap :=
  ls_of OE (fun _ => True) Try.underlying50 Try.underlying42 (by kernel_rfl) (by kernel_rfl) (by kernel_rfl) (fun vs hv => by
    obtain ⟨n0, e0, _⟩ := reads_int Try.underlying3 (hv 0 _ rfl)
    obtain ⟨n1, e1, _⟩ := reads_int Try.underlying3 (hv 1 _ rfl)
    obtain ⟨n2, e2, _⟩ := reads_int Try.underlying3 (hv 2 _ rfl)
    refine ⟨(n0, n1, n2), fun j hj => ?_, trivial⟩
    have h4 : j = 0 ∨ j = 1 ∨ j = 2 := by have : j < 3 := hj; omega
    rcases h4 with rfl | rfl | rfl
    · rw [e0]; rfl
    · rw [e1]; rfl
    · rw [e2]; rfl) h0
theorem row_reads {H : Type} {enc : TypeId × Value → H} {W : World} {cs : List Value} (h : ∃ n y, DataW.trod enc Try.prog W 0 (fun _ => true) true n 50 cs = some y) : ∃ r : Rw3, SE.enc r = cs ∧ RwOk W W.heap.size r := by
  obtain ⟨n, y, h⟩ := h
  have key : ∀ A L C, cs = [Value.slice A L C] → ∃ r : Rw3, SE.enc r = cs ∧ RwOk W W.heap.size r := fun A L C e => by
    subst e
    obtain ⟨l, h1, _, h2, h3, h4⟩ := owners_of (a := A) (len := L) (cap := C) ⟨n, h⟩
    have hl : l.length = L := h1.1
    subst hl
    exact ⟨⟨A, C, l⟩, rfl, h1, h2, h3, h4⟩
  rcases open_slice Try.underlying50 h with ⟨hcs, _⟩ | ⟨a, l, c, _, _, _, _, hcs, _⟩
  · exact key none 0 0 hcs
  · exact key (some a) l c hcs
theorem rows_of {H : Type} {enc : TypeId × Value → H} {W : World} {a : Option Addr} {len cap : Nat} {d : DataW H} {p : List MemPlace}
    (h0 : DataW.Trod enc Try.prog W 0 (fun _ => true) true 23 (.slice a len cap) d p) : IsLs SE (RwOk W W.heap.size) W a len cap :=
  lists_of SE (RwOk W W.heap.size) Try.underlying23 (by kernel_rfl) (fun _ _ h => row_reads h) h0
def plE (a : PV) : List Value := [.int .i64 a.ver, .slice a.nA a.nodes.length a.nc, .slice a.sA a.rs.length a.sc]
set_option maxRecDepth 100000 in
theorem pl_reads {H : Type} {enc : TypeId × Value → H} {W : World} {cs : List Value} (h : ∃ n y, DataW.trod enc Try.prog W 0 (fun _ => true) true n 25 cs = some y) : ∃ a : PV, plE a = cs ∧ PVok W W.heap.size a := by
  obtain ⟨n, y, h⟩ := h
  obtain ⟨y0, y1, y2, k, _, hl, h0, h1, h2⟩ := trod_struct3 Try.underlying25 h
  rw [show Try.prog.cellsOf 25 = 3 by kernel_rfl] at hl
  obtain ⟨c0, c1, c2, rfl⟩ : ∃ c0 c1 c2, cs = [c0, c1, c2] := by
    match cs, hl with
    | [c0, c1, c2], _ => exact ⟨c0, c1, c2, rfl⟩
  obtain ⟨ver, rfl, _⟩ := words.reads_int (k := .i64) Try.underlying3 ⟨_, _, h0⟩
  obtain ⟨A, L, C, d1, p1, rfl, t1⟩ := reads_slice Try.underlying22 ⟨_, _, h1⟩
  obtain ⟨A2, L2, C2, d2, p2, rfl, t2⟩ := reads_slice Try.underlying23 ⟨_, _, h2⟩
  obtain ⟨l, a1, _, a2, a3, a4⟩ := nums_of t1
  obtain ⟨rs, b1, b5, b2, b3, b4⟩ := rows_of t2
  have hl1 : l.length = L := a1.1
  have hl2 : rs.length = L2 := b1.1
  subst hl1 hl2
  exact ⟨⟨ver, A, C, l, A2, C2, rs⟩, rfl, a1, a2, a3, a4, ⟨b1, b5⟩, b2, b3, b4⟩
set_option maxRecDepth 100000 in
/-- a placement that came in by value -/
theorem open_pl {H : Type} {enc : TypeId × Value → H} {W : World} {r : Reach} {b0 : Nat} {v : Value} {d : DataW H} {p : List MemPlace} (hv : Value.okWide Try.prog W r b0 25 v) (h : DataW.Trod enc Try.prog W 0 (fun _ => true) true 25 v d p) : ∃ a : PV, v = a.val ∧ PVok W W.heap.size a := by
  obtain ⟨cs, rfl, hsz⟩ := okWide_struct Try.underlying25 hv
  obtain ⟨n, hn⟩ := h
  obtain ⟨a, ha, hf⟩ := pl_reads ⟨n, _, hn⟩
  refine ⟨a, ?_, hf⟩
  have e : cs.toList = plE a := by
    rw [ha]
    simp [Value.cells]
  have e2 : cs = (plE a).toArray := by rw [← e]
  rw [e2]
  rfl
end Go.Proofs.Ytheanpcbjjogfaa.pm
/-
  Placements: the law's bound of sizes comes to an end, one way or the other.
-/
namespace Go.Proofs.Ytheanpcbjjogfaa.pm
open Go.ChangeShapes Go.WideShapes Go.ChangeAt Go.RowKit Go.Shelf plain words ord mem

def stepH (z : Int) (m : Nat) : Int := if z ≤ 4096 then IntKind.i64.wrap (z + min (m : Int) 1048576) else z
theorem stepH_stop (ms : List Nat) {z : Int} (h : ¬ z ≤ 4096) : ms.foldl stepH z = z := by
  induction ms with
  | nil => rfl
  | cons m ms ih =>
    rw [List.foldl_cons, show stepH z m = z from if_neg h]
    exact ih
/-- whether a placement is too large -/
def heavyB (v : PV) : Bool := decide (4096 < (v.rs.map fun r => r.l.length).foldl stepH (IntKind.i64.wrap ((v.nodes.length : Int) + (v.rs.length : Int))))
theorem wrapEq (x : Int) : IntKind.i64.wrap x = wrap64 x := by rw [IntKind.wrap_i64]; unfold wrap64; rfl
end Go.Proofs.Ytheanpcbjjogfaa.pm
