/-
  A list of numbers of the call's own without one of them.
-/
import Derived.Test.YtnjdondkggkfoaaGreatPmB
import Derived.Test.YtnjdondkggkfoaaGreatPmA
import Derived.Test.YtnjdondkggkfoaaGreatPmDone
import Derived.Test.YtnjdondkggkfoaaGreatPmC
import Derived.Test.YtnjdondkggkfoaaGreatPmDE
namespace Go.Proofs.YtnjdondkggkfoaaGreat.pm
open Go.ChangeShapes Go.WideShapes Go.ChangeAt Go.RowKit Go.Shelf plain words ord mem

def PredN (g : Nat) (lb : Array Value) (p : Int → Bool) (w : World) : Prop :=
  ∀ (W : World) (x : Int), Below w.heap.size w W → Calls Tryz.prog g (#[.int .i64 x] ++ lb) W fun e w' => e = .returned (.bool (p x)) ∧ Below W.heap.size W w'
def IxN (p : Int → Bool) (l : List Int) (z : Int) : Prop := (z = -1 ∧ ∀ (j : Nat) (x : Int), l[j]? = some x → p x = false) ∨ ∃ k : Nat, z = k ∧ ∃ x, l[k]? = some x ∧ p x = true ∧ ∀ (j : Nat) (y : Int), j < k → l[j]? = some y → p y = false
def RetDelN (w : World) (B g cap : Nat) (l : List Int) (e : Ending) (w' : World) : Prop :=
  ∃ m, e = .returned (.slice (some ⟨g, 0, none⟩) m cap) ∧ Ow NE w' B (.slice (some ⟨g, 0, none⟩) m cap) m l ∧ Chg (fun k => k = g) w w'
end Go.Proofs.YtnjdondkggkfoaaGreat.pm
/-
  Placements: the program's Remove.
-/
namespace Go.Proofs.YtnjdondkggkfoaaGreat.pm
open Go.ChangeShapes Go.WideShapes Go.ChangeAt Go.RowKit Go.Shelf plain words ord mem

noncomputable def remStep (nodes : List Int) (node : Int) (X : List (List O)) (i : Nat) : List (List O) := if holds (at_ X i) node = true then X.set i (give (at_ X i) node (least nodes X (at_ X i))) else X
noncomputable def remAt (nodes : List Int) (node : Int) (ss : List (List O)) : Nat → List (List O)
  | 0 => ss
  | i + 1 => remStep nodes node (remAt nodes node ss i) i
theorem remAt_high (nodes : List Int) (node : Int) (ss : List (List O)) : ∀ (i j : Nat), i ≤ j → (remAt nodes node ss i)[j]? = ss[j]?
  | 0, _, _ => rfl
  | i + 1, j, h => by
    unfold remAt remStep
    split
    · rw [List.getElem?_set_ne (by omega)]; exact remAt_high nodes node ss i j (by omega)
    · exact remAt_high nodes node ss i j (by omega)
noncomputable def removeErr (p : Pl) (n : Int) : Int :=
  if chk p = 0 then (if has p.nodes n = false ∨ p.nodes.length ≤ 3 then 140 else if busy p.ss = true then 141 else bumpErr p) else 50
noncomputable def removePl (p : Pl) (n : Int) : Pl :=
  if removeErr p n = 0 then ⟨p.ver + 1, without p.nodes n, remAt (without p.nodes n) n p.ss p.ss.length⟩ else ⟨0, [], []⟩
/-- what the loop keeps -/
structure RL (w7 wr : World) (B pb sb N : Nat) (ver : Int) (nodes : List Int) (node : Int) (ss : List (List O)) (i : Nat) (v : PV) : Prop where
  wd : WD wr B pb v
  ver : v.ver = ver
  nds : v.nodes = nodes
  sA : v.sA = some ⟨sb, 0, none⟩
  len : v.rs.length = N
  ss : v.pl.ss = remAt nodes node ss i
  chg : Chg (fun k => B ≤ k) w7 wr
theorem RL.row {w7 wr : World} {B pb sb N : Nat} {ver : Int} {nodes : List Int} {node : Int} {ss : List (List O)} {i : Nat} {v : PV} (h : RL w7 wr B pb sb N ver nodes node ss i v) (hi : i < N) :
    ∃ r, v.rs[i]? = some r ∧ ss[i]? = some r.l ∧ at_ (remAt nodes node ss i) i = r.l ∧ wr.cell? ⟨sb, i, none⟩ = some r.val ∧ RwOk wr wr.heap.size r := by
  obtain ⟨r, hr⟩ : ∃ r, v.rs[i]? = some r := ⟨_, List.getElem?_eq_getElem (by rw [h.len]; exact hi)⟩
  have h1 := pl_at hr
  rw [h.ss] at h1
  have h2 := h1
  rw [remAt_high nodes node ss i i (Nat.le_refl _)] at h2
  obtain ⟨b, off, e1, _, e2, hok⟩ := h.wd.wp.ok.s.at_ hr
  rw [h.sA] at e1; cases e1
  exact ⟨r, hr, h2, by unfold at_; rw [h1]; rfl, by simpa using e2, hok⟩
theorem RL.step {w7 wr w8 w9 : World} {B pb sb N : Nat} {ver : Int} {nodes : List Int} {node : Int} {ss : List (List O)} {i : Nat} {v : PV} {r : Rw3} {e : Ending} (h : RL w7 wr B pb sb N ver nodes node ss i v) (hr : v.rs[i]? = some r)
    (hat : at_ (remAt nodes node ss i) i = r.l) (hh : holds r.l node = true) (hb : Below wr.heap.size wr w8) (hret : RetSet w8 B pb i v (give r.l node (least v.nodes v.pl.ss r.l)) e w9) (hBw : B ≤ wr.heap.size) :
    e = .returned (.tuple #[]) ∧ ∃ v', RL w7 w9 B pb sb N ver nodes node ss (i + 1) v' := by
  obtain ⟨he, r', hl, hwd, hc⟩ := hret
  refine ⟨he, { v with rs := v.rs.set i r' }, hwd, h.ver, h.nds, h.sA, by simpa using h.len, ?_, chg_trans (chg_trans h.chg ((Chg.of_below hb).mono (fun _ _ e => e.elim))) hc⟩
  have hs : v.pl.ss = remAt nodes node ss i := h.ss
  show (v.rs.set i r').map (·.l) = remStep nodes node (remAt nodes node ss i) i
  unfold remStep
  rw [hat, if_pos hh, ← hs, List.map_set, hl, h.nds]
  rfl
theorem RL.skip {w7 wr w8 : World} {B pb sb N : Nat} {ver : Int} {nodes : List Int} {node : Int} {ss : List (List O)} {i : Nat} {v : PV} {l : List O} (h : RL w7 wr B pb sb N ver nodes node ss i v)
    (hat : at_ (remAt nodes node ss i) i = l) (hh : holds l node = false) (hb : Below wr.heap.size wr w8) : RL w7 w8 B pb sb N ver nodes node ss (i + 1) v :=
  ⟨h.wd.below hb (Nat.le_refl _), h.ver, h.nds, h.sA, h.len, by rw [h.ss]; show _ = remStep nodes node (remAt nodes node ss i) i; unfold remStep; rw [hat, if_neg (by rw [hh]; simp)], chg_trans h.chg ((Chg.of_below hb).mono (fun _ _ e => e.elim))⟩
end Go.Proofs.YtnjdondkggkfoaaGreat.pm
/-
  Placements: the program's Replace.
-/
namespace Go.Proofs.YtnjdondkggkfoaaGreat.pm
open Go.ChangeShapes Go.WideShapes Go.ChangeAt Go.RowKit Go.Shelf plain words ord mem

def repStep (f t : Int) (X : List (List O)) (i : Nat) : List (List O) := if holds (at_ X i) f = true then X.set i (give (at_ X i) f t) else X
def repAt (f t : Int) (ss : List (List O)) : Nat → List (List O)
  | 0 => ss
  | i + 1 => repStep f t (repAt f t ss i) i
theorem repAt_high (f t : Int) (ss : List (List O)) : ∀ (i j : Nat), i ≤ j → (repAt f t ss i)[j]? = ss[j]?
  | 0, _, _ => rfl
  | i + 1, j, h => by
    unfold repAt repStep
    split
    · rw [List.getElem?_set_ne (by omega)]; exact repAt_high f t ss i j (by omega)
    · exact repAt_high f t ss i j (by omega)
noncomputable def replaceErr (p : Pl) (old n : Int) : Int :=
  if chk p = 0 then (if has p.nodes old = false ∨ n < 0 ∨ 8 ≤ n ∨ has p.nodes n = true then 140 else if busy p.ss = true then 141 else bumpErr p) else 50
noncomputable def replacePl (p : Pl) (old n : Int) : Pl :=
  if replaceErr p old n = 0 then ⟨p.ver + 1, srt (without p.nodes old ++ [n]), repAt old n p.ss p.ss.length⟩ else ⟨0, [], []⟩
/-- what the loop keeps -/
structure RP (w7 wr : World) (B pb sb N : Nat) (ver : Int) (nodes : List Int) (f t : Int) (ss : List (List O)) (i : Nat) (v : PV) : Prop where
  wd : WD wr B pb v
  ver : v.ver = ver
  nds : v.nodes = nodes
  sA : v.sA = some ⟨sb, 0, none⟩
  len : v.rs.length = N
  ss : v.pl.ss = repAt f t ss i
  chg : Chg (fun k => B ≤ k) w7 wr
theorem RP.row {w7 wr : World} {B pb sb N : Nat} {ver : Int} {nodes : List Int} {f t : Int} {ss : List (List O)} {i : Nat} {v : PV} (h : RP w7 wr B pb sb N ver nodes f t ss i v) (hi : i < N) :
    ∃ r, v.rs[i]? = some r ∧ ss[i]? = some r.l ∧ at_ (repAt f t ss i) i = r.l ∧ wr.cell? ⟨sb, i, none⟩ = some r.val ∧ RwOk wr wr.heap.size r := by
  obtain ⟨r, hr⟩ : ∃ r, v.rs[i]? = some r := ⟨_, List.getElem?_eq_getElem (by rw [h.len]; exact hi)⟩
  have h1 := pl_at hr
  rw [h.ss] at h1
  have h2 := h1
  rw [repAt_high f t ss i i (Nat.le_refl _)] at h2
  obtain ⟨b, off, e1, _, e2, hok⟩ := h.wd.wp.ok.s.at_ hr
  rw [h.sA] at e1; cases e1
  exact ⟨r, hr, h2, by unfold at_; rw [h1]; rfl, by simpa using e2, hok⟩
theorem RP.step {w7 wr w8 w9 : World} {B pb sb N : Nat} {ver : Int} {nodes : List Int} {f t : Int} {ss : List (List O)} {i : Nat} {v : PV} {r : Rw3} {e : Ending} (h : RP w7 wr B pb sb N ver nodes f t ss i v) (hr : v.rs[i]? = some r)
    (hat : at_ (repAt f t ss i) i = r.l) (hh : holds r.l f = true) (hb : Below wr.heap.size wr w8) (hret : RetSet w8 B pb i v (give r.l f t) e w9) (hBw : B ≤ wr.heap.size) :
    e = .returned (.tuple #[]) ∧ ∃ v', RP w7 w9 B pb sb N ver nodes f t ss (i + 1) v' := by
  obtain ⟨he, r', hl, hwd, hc⟩ := hret
  refine ⟨he, { v with rs := v.rs.set i r' }, hwd, h.ver, h.nds, h.sA, by simpa using h.len, ?_, chg_trans (chg_trans h.chg ((Chg.of_below hb).mono (fun _ _ e => e.elim))) hc⟩
  have hs : v.pl.ss = repAt f t ss i := h.ss
  show (v.rs.set i r').map (·.l) = repStep f t (repAt f t ss i) i
  unfold repStep
  rw [hat, if_pos hh, ← hs, List.map_set, hl]
  rfl
theorem RP.skip {w7 wr w8 : World} {B pb sb N : Nat} {ver : Int} {nodes : List Int} {f t : Int} {ss : List (List O)} {i : Nat} {v : PV} {l : List O} (h : RP w7 wr B pb sb N ver nodes f t ss i v)
    (hat : at_ (repAt f t ss i) i = l) (hh : holds l f = false) (hb : Below wr.heap.size wr w8) : RP w7 w8 B pb sb N ver nodes f t ss (i + 1) v :=
  ⟨h.wd.below hb (Nat.le_refl _), h.ver, h.nds, h.sA, h.len, by rw [h.ss]; show _ = repStep f t (repAt f t ss i) i; unfold repStep; rw [hat, if_neg (by rw [hh]; simp)], chg_trans h.chg ((Chg.of_below hb).mono (fun _ _ e => e.elim))⟩
theorem WD.srt {w w' : World} {B pb : Nat} {v : PV} {l : List Int} {o : Option Nat} (h : WD w B pb v) (hl : l.length = v.nodes.length) (hr : Ow NE w' B (.slice v.nA v.nodes.length v.nc) v.nodes.length l)
    (ho : ∀ g, o = some g → B ≤ g ∧ ∃ cu, w.heap[g]? = some (.cells cu 3 (0, 0))) (hg : w.grownBy w' o) : WD w' B pb { v with nodes := l } ∧ Chg (fun k => B ≤ k) w w' := by
  have hc : Chg (fun k => o = some k) w w' := (Chg.refl _ w).grown hg (fun k hk _ => hk)
  have hvar : Boxed w' pb v := hc.blk h.wp.var fun e => by
    obtain ⟨_, cu, hcu⟩ := ho _ e
    exact blk_type hcu h.wp.var (by decide) rfl
  have other : ∀ {α : Type} {E : El α} {x : Value} {n : Nat} {xs : List α}, E.e ≠ 3 → Ow E w B x n xs → Ow E w' B x n xs := fun hne hx => hx.chg hc fun k hk e => by
    obtain ⟨_, cu, hcu⟩ := ho _ e
    obtain ⟨c, hcur⟩ := hx.type hk
    exact blk_type hcur hcu hne rfl
  refine ⟨⟨⟨h.wp.le, ?_, ?_, other (by decide) h.wp.s, fun r hr => other (by decide) (h.wp.each r hr)⟩, h.apart⟩, hc.mono fun k _ e => (ho _ e).1⟩
  · simpa [Boxed, IsV3, hl] using hvar
  · simpa only [hl] using hr
end Go.Proofs.YtnjdondkggkfoaaGreat.pm
