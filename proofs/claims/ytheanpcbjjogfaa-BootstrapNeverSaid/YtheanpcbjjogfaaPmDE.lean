/-
  slices.Values at numbers, walked by slices.AppendSeq: the numbers, in a row of the call's own.
-/
import Derived.Test.YtheanpcbjjogfaaPmA
import Derived.Test.YtheanpcbjjogfaaRound
import Derived.Test.YtheanpcbjjogfaaLstIn
import Derived.RangeFuncBox
import Derived.RangeFuncLeaves
import Derived.Shelf.SlIterI.Sorted
import Derived.Shelf.SortM.Plain
import Derived.Shelf.SortM.SortNone
import Derived.Ground.GgzProg
import Derived.Ground.SlgmProg
import Derived.Test.YtheanpcbjjogfaaProg
import Derived.Test.YtheanpcbjjogfaaChecked
import Derived.Test.YtheanpcbjjogfaaPmB
import Derived.Test.YtheanpcbjjogfaaPmC
import Derived.Test.YtheanpcbjjogfaaPmGv
namespace Go.Proofs.Ytheanpcbjjogfaa.pm
open Go.ChangeShapes Go.WideShapes Go.ChangeAt Go.RowKit Go.Shelf plain words ord mem
attribute [local go_sem] Oper.semAt_some

theorem take_snoc {α : Type} {l : List α} {k : Nat} {x : α} (h : l[k]? = some x) : l.take (k + 1) = l.take k ++ [x] := by rw [List.take_add_one, h]; rfl
theorem grown_below {w w' : World} (h : Below w.heap.size w w') : w.grownBy w' none := ⟨h.os, h.tape, h.output, h.size, fun k hk _ => h.block k hk⟩
/-- how AppendSeq stands: what has come is in its row -/
structure AI (w : World) (pre : List Int) (W : World) : Prop where
  row : ∃ A c, W.heap[w.heap.size]? = some (.cells #[.slice A pre.length c] 22 (0, 0)) ∧ Ow NE W (w.heap.size + 1) (.slice A pre.length c) pre.length pre
  bel : Below w.heap.size w W
  big : w.heap.size + 1 ≤ W.heap.size
theorem AI.grown {w W W' : World} {pre : List Int} {row : Option Nat} (h : AI w pre W) (hg : W.grownBy W' row) (hr : ∀ r, row = some r → w.heap.size + 1 ≤ r ∧ ∃ o : Obj, W.heap[r]? = some o ∧ o.isCells = false) : AI w pre W' := by
  have hc : Chg (fun k => row = some k) W W' := (Chg.refl _ W).grown hg (fun k e _ => e)
  obtain ⟨A, c, h1, h2⟩ := h.row
  refine ⟨⟨A, c, hc.blk h1 (fun e => by have := (hr _ e).1; omega), h2.chg hc fun g hk e => ?_⟩, h.bel.trans (hc.below (B := w.heap.size) h.bel.size (fun k e => by have := (hr k e).1; omega)), Nat.le_trans h.big hc.size⟩
  obtain ⟨cu, hcu⟩ := h2.type hk
  obtain ⟨_, o, ho, hw⟩ := hr g e
  rw [hcu] at ho; cases ho; cases hw
theorem AI.from (w : World) : OwnFrom (w.heap.size + 1) (AI w) := fun s W W' row hs hg hr => hs.grown hg hr
theorem AI.step {w W W4 : World} {pre : List Int} {x : Int} {A A4 : Option Addr} {c c4 : Nat} (h : AI w pre W) (h1 : W.heap[w.heap.size]? = some (.cells #[.slice A pre.length c] 22 (0, 0))) (h2 : Ow NE W (w.heap.size + 1) (.slice A pre.length c) pre.length pre)
    (hg : (W.alloc (.cells #[.int .i64 x] 3)).grownBy W4 (Value.slice A pre.length c).ownBlock) (h4 : Ow NE W4 (w.heap.size + 1) (.slice A4 (pre.length + 1) c4) (pre.length + 1) (pre ++ [x])) :
    KeepsOthers W (W4.setCell ⟨w.heap.size, 0, none⟩ (.slice A4 (pre.length + 1) c4)) ∧ Below w.heap.size W (W4.setCell ⟨w.heap.size, 0, none⟩ (.slice A4 (pre.length + 1) c4)) ∧ AI w (pre ++ [x]) (W4.setCell ⟨w.heap.size, 0, none⟩ (.slice A4 (pre.length + 1) c4)) ∧ W4.heap[w.heap.size]? = some (.cells #[.slice A pre.length c] 22 (0, 0)) ∧ w.heap.size < W4.heap.size := by
  have hal := below_al W (.cells #[.int .i64 x] 3)
  have hs := h.bel.size
  have hca : Chg (fun k => (Value.slice A pre.length c).ownBlock = some k) W W4 := ((Chg.refl _ W).alloc _).grown hg (fun k e _ => e)
  have hne : ¬ (Value.slice A pre.length c).ownBlock = some w.heap.size := fun e => by have := (h2.lt _ e).1; omega
  have g4 := hca.blk h1 hne
  have hb4 : Below w.heap.size W W4 := hca.below hs (fun k e => by have := (h2.lt k e).1; omega)
  have hb5 : Below w.heap.size W (W4.setCell ⟨w.heap.size, 0, none⟩ (.slice A4 (pre.length + 1) c4)) := hb4.setCell (p := ⟨w.heap.size, 0, none⟩) (Nat.le_refl _) _
  have hl4 : pre.length + 1 = (pre ++ [x]).length := by simp
  refine ⟨?_, hb5, ⟨⟨A4, c4, ?_, ?_⟩, h.bel.trans hb5, by have := hb5.size; have := h.big; omega⟩, g4, blk_lt g4⟩
  · refine ((KeepsOthers.alloc W _).trans (KeepsOthers.of_grownBy hg fun j o e ho => ?_)).trans (KeepsOthers.setCell _ _ _)
    obtain ⟨cu, hcu⟩ := (h2.below hal (Nat.le_refl _)).type e
    rw [hcu] at ho; cases ho; rfl
  · rw [← hl4]
    simpa using heap_setCell_same W4 w.heap.size 0 _ _ (.slice A4 (pre.length + 1) c4) g4
  · rw [← hl4]
    have hc5 : Chg (fun k => k = w.heap.size) W4 (W4.setCell ⟨w.heap.size, 0, none⟩ (.slice A4 (pre.length + 1) c4)) := (Chg.refl (fun k => k = w.heap.size) W4).setCell (p := ⟨w.heap.size, 0, none⟩) (fun _ => rfl) _
    exact h4.chg hc5 fun g hk e => by have := (h4.lt g hk).1; omega
/-- a new list of numbers, nil perhaps -/
def RetNn (w : World) (l : List Int) (e : Ending) (w' : World) : Prop := ∃ A c, e = .returned (.slice A l.length c) ∧ Ow NE w' w.heap.size (.slice A l.length c) l.length l ∧ Below w.heap.size w w'
theorem AI.putObj {w W : World} {pre : List Int} {D : Nat} (h : AI w pre W) (o' : Obj) (hD : w.heap.size + 1 ≤ D) (hK : W.heap[D]? = some (.deferred (some []))) : AI w pre (W.putObj D o') := by
  have hc : Chg (fun k => k = D) W (W.putObj D o') := ⟨rfl, rfl, rfl, by simp, fun k _ hk => World.putObj_heap_other hk⟩
  obtain ⟨A, c, h1, h2⟩ := h.row
  refine ⟨⟨A, c, hc.blk h1 (by omega), h2.chg hc fun g hk e => ?_⟩, h.bel.trans (hc.below h.bel.size (fun k e => by omega)), Nat.le_trans h.big hc.size⟩
  obtain ⟨cu, hcu⟩ := h2.type hk
  rw [e, hK] at hcu; cases hcu
end Go.Proofs.Ytheanpcbjjogfaa.pm
/-
  The library's contracts laid at this program (printed by the kit's tool, by names).
-/
namespace Go.Proofs.Ytheanpcbjjogfaa.pm
open Go.Shelf
end Go.Proofs.Ytheanpcbjjogfaa.pm
/-
  slices.Sort and slices.Sorted at numbers.
-/
namespace Go.Proofs.Ytheanpcbjjogfaa.pm
open Go.ChangeShapes Go.WideShapes Go.ChangeAt Go.RowKit Go.Shelf Go.Sort plain words ord mem

theorem holds_i {w : World} {g : Nat} {cur : Array Value} {e : TypeId} {zs : List Int} (hb : w.heap[g]? = some (.cells cur e (0, 0))) (ht : cur.toList.take zs.length = zs.map (Value.int .i64)) : Holds (Value.int .i64) w g 0 zs.toArray := by
  intro j hj
  have hj' : j < zs.length := by simpa using hj
  refine ⟨?_, by simp [World.frozen?, hb]⟩
  have h1 : (cur.toList.take zs.length)[j]? = (zs.map (Value.int .i64))[j]? := by rw [ht]
  rw [List.getElem?_take_of_lt hj'] at h1
  simp only [World.cell?, hb, Nat.zero_add]
  simp only [Option.isSome_none, Bool.false_eq_true, if_false]
  rw [← Array.getElem?_toList, h1]
  simp [hj']
theorem heap_i {w : World} {g n : Nat} {os : Array Obj} {cur : Array Value} {e : TypeId} {fr : Nat × Nat} (d : Array Int) (hb : w.heap[g]? = some (.cells cur e fr)) :
    (grow (putRow (Value.int .i64) (Sort.ahead w n) g 0 d) os).heap[g]? = some (.cells (putCells (Value.int .i64) 0 d cur) e fr) := by
  have hg : g < w.heap.size := (Array.getElem?_eq_some_iff.1 hb).1
  rw [heap_grow_old _ _ (by simpa using hg)]
  simp [putRow, mapBlock, Sort.ahead, Array.getElem?_modify, hb, onCells]
theorem grown_i {w : World} {g n : Nat} {os : Array Obj} (d : Array Int) : w.grownBy (grow (putRow (Value.int .i64) (Sort.ahead w n) g 0 d) os) (some g) := by
  refine ⟨rfl, rfl, rfl, by simp, fun k hk hne => ?_⟩
  rw [heap_grow_old _ _ (by simpa using hk)]
  have : g ≠ k := fun e => hne (by rw [e])
  simp [putRow, mapBlock, Sort.ahead, Array.getElem?_modify, this]
theorem take_i (cur : Array Value) (ts : List Int) (h : ts.length ≤ cur.size) : (putCells (Value.int .i64) 0 ts.toArray cur).toList.take ts.length = ts.map (Value.int .i64) := by
  apply List.ext_getElem?
  intro j
  by_cases hj : j < ts.length
  · rw [List.getElem?_take_of_lt hj, Array.getElem?_toList]
    simp [putCells, hj, show j < cur.size by omega]
  · rw [List.getElem?_take_eq_none (by omega), List.getElem?_eq_none (by simp; omega)]
def srt (l : List Int) : List Int := l.mergeSort fun x y => decide (x ≤ y)
theorem srt_len (l : List Int) : (srt l).length = l.length := by unfold srt; rw [List.length_mergeSort]
theorem srt_perm (l : List Int) : (srt l).Perm l := List.mergeSort_perm _ _
theorem srt_le (l : List Int) : (srt l).Pairwise fun a b => a ≤ b := by
  have := List.pairwise_mergeSort (le := fun x y : Int => decide (x ≤ y)) (fun a b c h1 h2 => by simp at *; omega) (fun a b => by simp; omega) l
  exact this.imp (fun h => by simpa using h)
theorem NE_cs (l : List Int) : cs NE.enc l = l.map (Value.int .i64) := by
  induction l with
  | nil => rfl
  | cons x l ih => rw [cs_cons, ih]; rfl
end Go.Proofs.Ytheanpcbjjogfaa.pm
/-
  Placements: the program's Init.
-/
namespace Go.Proofs.Ytheanpcbjjogfaa.pm
open Go.ChangeShapes Go.WideShapes Go.ChangeAt Go.RowKit Go.Shelf plain words ord mem

def at_ (ss : List (List O)) (i : Nat) : List O := (ss[i]?).getD []
def stepO (nodes : List Int) (ss : List (List O)) (i : Nat) : List (List O) := ss.set i (own (at_ ss i) (least nodes ss (at_ ss i), 2, -1))
def steps (nodes : List Int) (i : Nat) : Nat → List (List O) → List (List O)
  | 0, ss => ss
  | j + 1, ss => stepO nodes (steps nodes i j ss) i
def initAt (nodes : List Int) (S : Nat) : Nat → List (List O)
  | 0 => List.replicate S []
  | i + 1 => steps nodes i 3 (initAt nodes S i)
theorem stepO_len (nodes : List Int) (ss : List (List O)) (i : Nat) : (stepO nodes ss i).length = ss.length := by simp [stepO]
theorem steps_len (nodes : List Int) (i j : Nat) (ss : List (List O)) : (steps nodes i j ss).length = ss.length := by
  induction j with
  | zero => rfl
  | succ j ih => rw [steps, stepO_len, ih]
theorem initAt_len (nodes : List Int) (S i : Nat) : (initAt nodes S i).length = S := by
  induction i with
  | zero => simp [initAt]
  | succ i ih => rw [initAt, steps_len, ih]
noncomputable def initErr (l : List Int) (s : Int) : Int := if tb (NodesOk (srt l)) = true then (if s < 1 ∨ 8 < s then 1 else 0) else 140
noncomputable def initPl (l : List Int) (s : Int) : Pl := if initErr l s = 0 then ⟨1, srt l, initAt (srt l) s.toNat s.toNat⟩ else ⟨0, [], []⟩
/-- a placement and an error behind a call -/
def RetPl (w : World) (p : Pl) (er : Int) (e : Ending) (w' : World) : Prop := ∃ v : PV, e = .returned (.tuple #[v.val, .int .i64 er]) ∧ v.pl = p ∧ PVok w' w'.heap.size v ∧ Below w.heap.size w w'
def noPV : PV := ⟨0, none, 0, [], none, 0, []⟩
theorem noPV_ok (w : World) : PVok w w.heap.size noPV := ⟨Ls.nil _ _ _, Nat.le_refl _, by simp [noPV], fun _ => rfl, ⟨Ls.nil _ _ _, fun r hr => by simp [noPV] at hr⟩, Nat.le_refl _, by simp [noPV], fun _ => rfl⟩
theorem sizeP : (Try.prog.info? 25).map (·.size) = some 3 := by kernel_rfl
theorem RetPl.none {w w' : World} {er : Int} (hb : Below w.heap.size w w') : RetPl w ⟨0, [], []⟩ er (.returned (.tuple #[.agg #[.int .i64 0, .slice none 0 0, .slice none 0 0], .int .i64 er])) w' := ⟨noPV, rfl, rfl, noPV_ok _, hb⟩
/-- a placement that only blocks from B on bear -/
structure OP (w : World) (B : Nat) (v : PV) : Prop where
  n : Ow NE w B (.slice v.nA v.nodes.length v.nc) v.nodes.length v.nodes
  s : Ow SE w B (.slice v.sA v.rs.length v.sc) v.rs.length v.rs
  each : ∀ r ∈ v.rs, Ow OE w B r.val r.l.length r.l
theorem WP.op {w : World} {B C pb : Nat} {v : PV} (h : WP w B pb v) (hC : C ≤ B) : OP w C v := ⟨h.n.base hC, h.s.base hC, fun r hr => (h.each r hr).base hC⟩
theorem OP.ok {w : World} {B : Nat} {v : PV} (h : OP w B v) : PVok w w.heap.size v := by
  obtain ⟨_, _, he, h1, h2, h3⟩ := h.n.form
  cases he
  obtain ⟨_, _, he, k1, k2, k3⟩ := h.s.form
  cases he
  exact ⟨h.n.ls, h2, h3, h1, ⟨h.s.ls, fun r hr => Ow.rwok (h.each r hr) rfl rfl⟩, k2, k3, k1⟩
theorem OP.chg {S : Nat → Prop} {w w' : World} {B : Nat} {v : PV} (h : OP w B v) (hc : Chg S w w') (hS : ∀ k, S k → k < B) : OP w' B v :=
  ⟨h.n.chg hc fun g hg e => by have := (h.n.lt g hg).1; have := hS g e; omega, h.s.chg hc fun g hg e => by have := (h.s.lt g hg).1; have := hS g e; omega,
   fun r hr => (h.each r hr).chg hc fun g hg e => by have := ((h.each r hr).lt g hg).1; have := hS g e; omega⟩
theorem OP.below {w w' : World} {B C : Nat} {v : PV} (h : OP w B v) (hb : Below C w w') (hC : w.heap.size ≤ C) : OP w' B v :=
  ⟨h.n.below hb hC, h.s.below hb hC, fun r hr => (h.each r hr).below hb hC⟩
theorem OP.base {w : World} {B C : Nat} {v : PV} (h : OP w B v) (hC : C ≤ B) : OP w C v := ⟨h.n.base hC, h.s.base hC, fun r hr => (h.each r hr).base hC⟩
theorem noPV_op (w : World) (B : Nat) : OP w B noPV := ⟨Ow.nil _ _, Ow.nil _ _, fun r hr => by simp [noPV] at hr⟩
/-- a placement of the call's own and an error behind it -/
def RetPl2 (w : World) (p : Pl) (er : Int) (e : Ending) (w' : World) : Prop := ∃ v : PV, e = .returned (.tuple #[v.val, .int .i64 er]) ∧ v.pl = p ∧ OP w' w.heap.size v ∧ Below w.heap.size w w'
theorem RetPl2.weak {w : World} {p : Pl} {er : Int} {e : Ending} {w' : World} (h : RetPl2 w p er e w') : RetPl w p er e w' := by
  obtain ⟨v, h1, h2, h3, h4⟩ := h
  exact ⟨v, h1, h2, h3.ok, h4⟩
theorem RetPl2.none {w w' : World} {er : Int} (hb : Below w.heap.size w w') : RetPl2 w ⟨0, [], []⟩ er (.returned (.tuple #[.agg #[.int .i64 0, .slice none 0 0, .slice none 0 0], .int .i64 er])) w' := ⟨noPV, rfl, rfl, noPV_op _ _, hb⟩
theorem stepO_small {nodes : List Int} {X : List (List O)} {i K : Nat} (h : ∀ l ∈ X, l.length ≤ K) : ∀ l ∈ stepO nodes X i, l.length ≤ K + 1 := fun l hl => by
  unfold stepO at hl
  rcases List.mem_or_eq_of_mem_set hl with hl | rfl
  · have := h l hl; omega
  · rw [own_len]
    unfold at_
    cases hx : X[i]? with
    | none => simp
    | some q => have := h q (List.mem_of_getElem? hx); simp; omega
theorem steps_small {nodes : List Int} {X : List (List O)} {i K : Nat} (h : ∀ l ∈ X, l.length ≤ K) (j : Nat) : ∀ l ∈ steps nodes i j X, l.length ≤ K + j := by
  induction j with
  | zero => exact h
  | succ j ih => exact stepO_small ih
theorem initAt_small (nodes : List Int) (S i : Nat) : ∀ l ∈ initAt nodes S i, l.length ≤ 3 * i := by
  induction i with
  | zero => intro l hl; simp [initAt] at hl; simp [hl.2]
  | succ i ih => intro l hl; have := steps_small (nodes := nodes) (i := i) ih 3 l hl; omega
theorem chg_set3 {w : World} {g : Nat} (v0 v1 v2 : Value) : Chg (fun k => k = g) w (((w.setCell ⟨g, 0, none⟩ v0).setCell ⟨g, 1, none⟩ v1).setCell ⟨g, 2, none⟩ v2) :=
  (((Chg.refl (fun k => k = g) w).setCell (p := ⟨g, 0, none⟩) (fun _ => rfl) v0).setCell (p := ⟨g, 1, none⟩) (fun _ => rfl) v1).setCell (p := ⟨g, 2, none⟩) (fun _ => rfl) v2
/-- a variable of another placement may change -/
theorem WP.apart {w w' : World} {B pb g : Nat} {v : PV} {cur : Array Value} (h : WP w B pb v) (hc : Chg (fun k => k = g) w w') (hg : w.heap[g]? = some (.cells cur 25 (0, 0))) (hne : g ≠ pb) : WP w' B pb v :=
  ⟨h.le, hc.blk h.var (fun e => hne e.symm), ow_other h.n hc hg (by decide), ow_other h.s hc hg (by decide), fun r hr => ow_other (h.each r hr) hc hg (by decide)⟩
theorem nils_cs (S : Nat) : cs SE.enc (List.replicate S (⟨none, 0, []⟩ : Rw3)) = List.replicate S (Value.slice none 0 0) := by
  induction S with
  | zero => rfl
  | succ k ih => rw [List.replicate_succ, cs_cons, ih]; rfl
/-- how Init stands: what is laid so far -/
structure PI (w wr : World) (pb sb : Nat) (nodes : List Int) (X : List (List O)) (v : PV) : Prop where
  wp : WP wr w.heap.size pb v
  ver : v.ver = 1
  nodes : v.nodes = nodes
  sA : v.sA = some ⟨sb, 0, none⟩
  ss : v.pl.ss = X
  bel : Below w.heap.size w wr
  res : IsV3 25 wr w.heap.size (.int .i64 0) (.slice none 0 0) (.slice none 0 0)
theorem PI.len {w wr : World} {pb sb : Nat} {nodes : List Int} {X : List (List O)} {v : PV} (h : PI w wr pb sb nodes X v) : v.rs.length = X.length := by rw [← h.ss]; simp [PV.pl]
theorem PI.step {w wr w7 w8 : World} {pb sb : Nat} {nodes : List Int} {X : List (List O)} {v : PV} {i : Nat} {e : Ending} {q : List O} {x : Int} (h : PI w wr pb sb nodes X v) (hsb : w.heap.size < sb) (hb7 : Below wr.heap.size wr w7) (hq : at_ X i = q) (hx : least nodes X q = x) (hr : RetOwn w7 w.heap.size pb i v sb (own q (x, 2, -1)) e w8) :
    e = .returned (.tuple #[]) ∧ ∃ v', PI w w8 pb sb nodes (stepO nodes X i) v' := by
  obtain ⟨he, r', hl, hwp, hch⟩ := hr
  refine ⟨he, { v with rs := v.rs.set i r' }, hwp, h.ver, h.nodes, h.sA, ?_, ?_, ?_⟩
  · unfold stepO
    rw [hq, hx, ← h.ss, ← hl]
    simp [PV.pl, List.map_set]
  · exact (h.bel.trans (hb7.mono h.bel.size)).trans (hch.below (Nat.le_trans h.bel.size hb7.size) (fun k e => by omega))
  · exact hch.blk (blk_below hb7 h.res (blk_lt h.res)) (by omega)
end Go.Proofs.Ytheanpcbjjogfaa.pm
/-
  A copy of a placement with the next version.
-/
namespace Go.Proofs.Ytheanpcbjjogfaa.pm
open Go.ChangeShapes Go.WideShapes Go.ChangeAt Go.RowKit Go.Shelf plain words ord mem

/-- a placement all of whose memory is the call's own, no two rows in one block -/
structure OD (w : World) (B : Nat) (v : PV) : Prop where
  n : Ow NE w B (.slice v.nA v.nodes.length v.nc) v.nodes.length v.nodes
  s : Ow SE w B (.slice v.sA v.rs.length v.sc) v.rs.length v.rs
  each : ∀ r ∈ v.rs, Ow OE w B r.val r.l.length r.l
  apart : ∀ (i j : Nat) (r s : Rw3), i ≠ j → v.rs[i]? = some r → v.rs[j]? = some s → r.A = s.A → r.A = none
theorem OD.below {w w' : World} {B C : Nat} {v : PV} (h : OD w B v) (hb : Below C w w') (hC : w.heap.size ≤ C) : OD w' B v :=
  ⟨h.n.below hb hC, h.s.below hb hC, fun r hr => (h.each r hr).below hb hC, h.apart⟩
theorem OD.base {w : World} {B C : Nat} {v : PV} (h : OD w B v) (hC : C ≤ B) : OD w C v := ⟨h.n.base hC, h.s.base hC, fun r hr => (h.each r hr).base hC, h.apart⟩
theorem OD.wd {w : World} {B pb : Nat} {v : PV} (h : OD w B v) (hB : B ≤ pb) (hv : Boxed w pb v) : WD w B pb v := ⟨⟨hB, hv, h.n, h.s, h.each⟩, h.apart⟩
theorem WD.od {w : World} {B pb : Nat} {v : PV} (h : WD w B pb v) : OD w B v := ⟨h.wp.n, h.wp.s, h.wp.each, h.apart⟩
def bump (p : Pl) : Pl := if p.ver = 1099511627776 then ⟨0, [], []⟩ else ⟨p.ver + 1, p.nodes, p.ss⟩
def bumpErr (p : Pl) : Int := if p.ver = 1099511627776 then 1 else 0
def RetNext (w : World) (p : Pl) (er : Int) (e : Ending) (w' : World) : Prop := ∃ v : PV, e = .returned (.tuple #[v.val, .int .i64 er]) ∧ v.pl = p ∧ OD w' w.heap.size v ∧ Below w.heap.size w w'
theorem app_new_n {w : World} {ops : Array Oper} {rest : List Oper} {o : Oper} {a : Act} {Q : Exit → Act → World → Prop} (hgd : o.guard = none) (s x : Operand) (ho : o.op = .call { callee := .builtin .append, args := #[s, x], argTypes := #[22, 22] })
    (B0 : Nat) (A0 : Option Addr) (n c0 : Nat) (hA0 : A0 = none → c0 = 0) (l : List Int) (hs : a.eval s = .slice A0 n c0) (hr0 : Ls NE w B0 A0 n l)
    (B : Nat) (A : Option Addr) (m c : Nat) (news : List Int) (hx : a.eval x = .slice A m c) (hr : Ls NE w B A m news) (hm : 0 < m) (hcap : c0 < n + m)
    (hn : n + m ≤ 1099511627776)
    (h : ∀ c' w', Ow NE w' w.heap.size (.slice (some ⟨w.heap.size, 0, none⟩) (n + m) c') (n + m) (l ++ news) → Below w.heap.size w w' → w.heap.size < w'.heap.size → wpList Try.prog ops Q rest (a.put o.dst (.slice (some ⟨w.heap.size, 0, none⟩) (n + m) c')) w') : wpList Try.prog ops Q (o :: rest) a w := by
  obtain ⟨i0, hi, hz0, hz1, hz2⟩ := info_of infoN
  exact wpList_append_new NE (P := Try.prog) Try.underlying22 hi hz0 hz1 hz2 rfl (by decide) hgd s x ho B0 A0 n c0 hA0 l hs hr0 B A m c news hx hr hm hcap hn h
theorem noPV_od (w : World) (B : Nat) : OD w B noPV := ⟨Ow.nil _ _, Ow.nil _ _, fun r hr => by simp [noPV] at hr, fun i j r s _ hr => by simp [noPV] at hr⟩
theorem ow_grown {α : Type} {E : El α} {w w' : World} {B C n m : Nat} {v vs : Value} {l : List α} {rs : List Rw3} (h : Ow E w B v n l) (hs : Ow SE w C vs m rs) (hg : w.grownBy w' vs.ownBlock) (hne : E.e ≠ 50) : Ow E w' B v n l := by
  have hc : Chg (fun k => vs.ownBlock = some k) w w' := (Chg.refl _ w).grown hg (fun k hk _ => hk)
  refine h.chg hc fun k hk he => ?_
  obtain ⟨c1, h1⟩ := h.type hk
  obtain ⟨c2, h2⟩ := hs.type he
  exact blk_type h1 h2 hne rfl
theorem addr_of {w : World} {B : Nat} {r : Rw3} (h : Ow OE w B r.val r.l.length r.l) : r.A = none ∨ ∃ g, r.A = some ⟨g, 0, none⟩ ∧ B ≤ g ∧ g < w.heap.size := by
  rcases own_form h.2 with ⟨e, _⟩ | ⟨g, cap, e, h1, h2, _⟩
  · unfold Rw3.val at e; exact .inl (Value.slice.inj e).1
  · unfold Rw3.val at e; exact .inr ⟨g, (Value.slice.inj e).1, h1, h2⟩
theorem var_grown {wx w7 : World} {B pb : Nat} {v : PV} (hx : WD wx B pb v) (hg : wx.grownBy w7 (Value.slice v.sA v.rs.length v.sc).ownBlock) : Boxed w7 pb v := by
  have hc : Chg (fun k => (Value.slice v.sA v.rs.length v.sc).ownBlock = some k) wx w7 := (Chg.refl _ wx).grown hg (fun k hk _ => hk)
  exact hc.blk hx.wp.var fun e => by
    obtain ⟨c, hcur⟩ := hx.wp.s.type e
    exact blk_type hcur hx.wp.var (by decide) rfl
theorem OD.other {w w' : World} {B g : Nat} {v : PV} {cur : Array Value} (h : OD w B v) (hc : Chg (fun k => k = g) w w') (hg : w.heap[g]? = some (.cells cur 25 (0, 0))) : OD w' B v :=
  ⟨ow_other h.n hc hg (by decide), ow_other h.s hc hg (by decide), fun r hr => ow_other (h.each r hr) hc hg (by decide), h.apart⟩
/-- a new row laid behind the others -/
theorem WD.push {wr wx w7 : World} {B pb c2 : Nat} {v : PV} {r' : Rw3} {A' : Option Addr} (h : WD wr B pb v) (hb : Below wr.heap.size wr wx) (hr : Ow OE wx wr.heap.size r'.val r'.l.length r'.l)
    (hs : Ow SE w7 B (.slice A' (v.rs.length + 1) c2) (v.rs.length + 1) (v.rs ++ [r'])) (hg : wx.grownBy w7 (Value.slice v.sA v.rs.length v.sc).ownBlock) :
    WD (w7.setCell ⟨pb, 2, none⟩ (.slice A' (v.rs.length + 1) c2)) B pb { v with sA := A', sc := c2, rs := v.rs ++ [r'] } := by
  have hx := h.below hb (Nat.le_refl _)
  have hc : Chg (fun k => (Value.slice v.sA v.rs.length v.sc).ownBlock = some k) wx w7 := (Chg.refl _ wx).grown hg (fun k hk _ => hk)
  have hvar : Boxed w7 pb v := hc.blk hx.wp.var fun e => by
    obtain ⟨c, hcur⟩ := hx.wp.s.type e
    exact blk_type hcur hx.wp.var (by decide) rfl
  have hc2 : Chg (fun b => b = pb) w7 (w7.setCell ⟨pb, 2, none⟩ (.slice A' (v.rs.length + 1) c2)) := chg_set1 _
  refine ⟨⟨h.wp.le, ?_, ow_other (ow_grown hx.wp.n hx.wp.s hg (by decide)) hc2 hvar (by decide), ?_, fun q hq => ?_⟩, ?_⟩
  · have := heap_setCell_same w7 pb 2 _ _ (.slice A' (v.rs.length + 1) c2) hvar
    simpa [Boxed, IsV3] using this
  · have := ow_other hs hc2 hvar (by decide)
    simpa using this
  · rcases List.mem_append.1 hq with hq | hq
    · exact ow_other (ow_grown (hx.wp.each q hq) hx.wp.s hg (by decide)) hc2 hvar (by decide)
    · rw [List.mem_singleton] at hq
      subst hq
      exact ow_other (ow_grown (hr.base (by have := h.wp.le; have := h.wp.lt; omega)) hx.wp.s hg (by decide)) hc2 hvar (by decide)
  · have old : ∀ r ∈ v.rs, r.A = r'.A → r.A = none := fun r hq e => by
      rcases addr_of (h.wp.each r hq) with h0 | ⟨g, h1, _, h2⟩
      · exact h0
      · rcases addr_of hr with k0 | ⟨g', k1, k2, _⟩
        · rw [e, k0]
        · rw [h1, k1] at e; cases e; omega
    intro i j x y hij hxx hyy he
    simp only at hxx hyy
    rcases Nat.lt_or_ge i v.rs.length with h1 | h1
    · rw [List.getElem?_append_left h1] at hxx
      rcases Nat.lt_or_ge j v.rs.length with h2 | h2
      · rw [List.getElem?_append_left h2] at hyy
        exact h.apart i j x y hij hxx hyy he
      · rw [List.getElem?_append_right h2] at hyy
        have : y = r' := by
          rcases hj : j - v.rs.length with _ | k
          · rw [hj] at hyy; simpa using hyy.symm
          · rw [hj] at hyy; simp at hyy
        subst this
        exact old x (List.mem_of_getElem? hxx) he
    · rw [List.getElem?_append_right h1] at hxx
      have hxr : x = r' ∧ i = v.rs.length := by
        rcases hj : i - v.rs.length with _ | k
        · rw [hj] at hxx; exact ⟨by simpa using hxx.symm, by omega⟩
        · rw [hj] at hxx; simp at hxx
      obtain ⟨rfl, hi⟩ := hxr
      rcases Nat.lt_or_ge j v.rs.length with h2 | h2
      · rw [List.getElem?_append_left h2] at hyy
        have := old y (List.mem_of_getElem? hyy) he.symm
        rw [he, this]
      · rw [List.getElem?_append_right h2] at hyy
        rcases hj : j - v.rs.length with _ | k
        · omega
        · rw [hj] at hyy; simp at hyy
end Go.Proofs.Ytheanpcbjjogfaa.pm
/-
  One node leaves a shard, another one comes: the program's transfer.
-/
namespace Go.Proofs.Ytheanpcbjjogfaa.pm
open Go.ChangeShapes Go.WideShapes Go.ChangeAt Go.RowKit Go.Shelf plain words ord mem

def give (l : List O) (f t : Int) : List O := own (own (disown l f) (f, 3, -1)) (t, 1, f)
end Go.Proofs.Ytheanpcbjjogfaa.pm
