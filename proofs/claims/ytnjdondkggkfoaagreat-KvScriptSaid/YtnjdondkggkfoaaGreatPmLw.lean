/-
  Placements: how the document's changes stand in memory while they are made.
-/
import Derived.Test.YtnjdondkggkfoaaGreatPmRemM
import Derived.Test.YtnjdondkggkfoaaGreatPmGiverY
import Derived.Test.YtnjdondkggkfoaaGreatPmCopy
import Derived.Test.YtnjdondkggkfoaaGreatPmNextY
import Derived.Test.YtnjdondkggkfoaaGreatPmLM
import Derived.Test.YtnjdondkggkfoaaGreatPmInitY
import Derived.Test.YtnjdondkggkfoaaGreatPmCheckY
namespace Go.Proofs.YtnjdondkggkfoaaGreat.pm
open Go.ChangeShapes Go.WideShapes Go.ChangeAt Go.RowKit Go.Shelf plain words ord mem

structure LW (w7 wr : World) (B pb : Nat) (ver : Int) (nodes : List Int) (X : List (List O)) (v : PV) : Prop where
  wp : WP wr B pb v
  ver : v.ver = ver
  nds : v.nodes = nodes
  ss : v.pl.ss = X
  chg : Chg (fun k => B ≤ k) w7 wr
theorem LW.below {w7 wr w8 : World} {B pb : Nat} {ver : Int} {nodes : List Int} {X : List (List O)} {v : PV} (h : LW w7 wr B pb ver nodes X v) (hb : Below wr.heap.size wr w8) : LW w7 w8 B pb ver nodes X v :=
  ⟨h.wp.below hb (Nat.le_refl _), h.ver, h.nds, h.ss, chg_trans h.chg ((Chg.of_below hb).mono (fun _ _ e => e.elim))⟩
theorem LW.row {w7 wr : World} {B pb : Nat} {ver : Int} {nodes : List Int} {X : List (List O)} {v : PV} (h : LW w7 wr B pb ver nodes X v) {k : Nat} {l : List O} (hX : X[k]? = some l) : ∃ r, v.rs[k]? = some r ∧ r.l = l := by
  rw [← h.ss] at hX
  unfold PV.pl at hX
  simp only [List.getElem?_map] at hX
  cases hr : v.rs[k]? with
  | none => rw [hr] at hX; cases hX
  | some r => rw [hr] at hX; cases hX; exact ⟨r, rfl, rfl⟩
theorem LW.put {w7 wr w9 : World} {B pb sb k : Nat} {ver : Int} {nodes : List Int} {X : List (List O)} {v : PV} {l : List O} {e : Ending} (h : LW w7 wr B pb ver nodes X v) (hsb : B ≤ sb) (hret : RetOwn wr B pb k v sb l e w9) :
    e = .returned (.tuple #[]) ∧ ∃ v', LW w7 w9 B pb ver nodes (X.set k l) v' ∧ v'.sA = v.sA := by
  obtain ⟨he, r', hl, hwp, hc⟩ := hret
  refine ⟨he, { v with rs := v.rs.set k r' }, ⟨hwp, h.ver, h.nds, ?_, chg_trans h.chg (hc.mono fun i _ e => by subst e; exact hsb)⟩, rfl⟩
  show (v.rs.set k r').map (·.l) = X.set k l
  rw [List.map_set, hl, ← h.ss]; rfl
theorem LW.len {w7 wr : World} {B pb : Nat} {ver : Int} {nodes : List Int} {X : List (List O)} {v : PV} (h : LW w7 wr B pb ver nodes X v) : v.rs.length = X.length := by rw [← h.ss]; simp [PV.pl]
theorem LW.sA {w7 wr : World} {B pb : Nat} {ver : Int} {nodes : List Int} {X : List (List O)} {v : PV} (h : LW w7 wr B pb ver nodes X v) (h0 : 0 < X.length) : ∃ sb, v.sA = some ⟨sb, 0, none⟩ ∧ B ≤ sb := by
  obtain ⟨sb, _, e, hB, _⟩ := h.wp.srow (i := 0) (by rw [h.len]; exact h0)
  exact ⟨sb, e, hB⟩
theorem nextV_op {w : World} {B : Nat} {v : PV} (h : OP w B v) : OP w B (nextV v) := by
  unfold nextV
  split
  · exact noPV_op w B
  · exact ⟨h.n, h.s, h.each⟩
theorem isNodeB_false {n : Int} : isNodeB n = false ↔ n < 0 ∨ 8 ≤ n := by
  unfold isNodeB
  rw [Bool.and_eq_false_iff]
  simp
theorem PlOk.sizes {v : PV} (h : PlOk v.pl) : 0 < v.nodes.length ∧ v.nodes.length ≤ 1000000 ∧ 0 < v.rs.length ∧ v.rs.length ≤ 1000000 ∧ ∀ r ∈ v.rs, 0 < r.l.length ∧ r.l.length ≤ 1000000 := by
  have h1 := h.nl
  have h2 := h.some_
  have h3 := h.few
  simp only [PV.pl, List.length_map] at h1 h2 h3
  exact ⟨by omega, by omega, by omega, by omega, fun r hr => by have := (h.each r.l (List.mem_map_of_mem hr)).ll; omega⟩
end Go.Proofs.YtnjdondkggkfoaaGreat.pm
