/-
  A copy of a placement with the next version.
-/
import Derived.Test.YtkajdfflolilhaaPmDis
import Derived.Test.YtkajdfflolilhaaPmD
namespace Go.Proofs.Ytkajdfflolilhaa.pm
open Go.ChangeShapes Go.WideShapes Go.ChangeAt Go.RowKit Go.Shelf plain words ord mem

/-- a placement all of whose memory is the call's own, no two rows in one block -/
structure OD (w : World) (B : Nat) (v : PV) : Prop where
  n : Ow NE w B (.slice v.nA v.nodes.length v.nc) v.nodes.length v.nodes
  s : Ow SE w B (.slice v.sA v.rs.length v.sc) v.rs.length v.rs
  each : ∀ r ∈ v.rs, Ow OE w B r.val r.l.length r.l
  apart : ∀ (i j : Nat) (r s : Rw3), i ≠ j → v.rs[i]? = some r → v.rs[j]? = some s → r.A = s.A → r.A = none
theorem OD.below {w w' : World} {B C : Nat} {v : PV} (h : OD w B v) (hb : Below C w w') (hC : w.heap.size ≤ C) : OD w' B v :=
  ⟨h.n.below hb hC, h.s.below hb hC, fun r hr => (h.each r hr).below hb hC, h.apart⟩
theorem OD.base {w : World} {B C : Nat} {v : PV} (h : OD w B v) (hC : C ≤ B) : OD w C v := ⟨h.n.base hC, h.s.base hC, fun r hr => (h.each r hr).base hC, h.apart⟩
theorem OD.wd {w : World} {B pb : Nat} {v : PV} (h : OD w B v) (hB : B ≤ pb) (hv : Boxed w pb v) : WD w B pb v := ⟨⟨hB, hv, h.n, h.s, h.each⟩, h.apart⟩
theorem WD.od {w : World} {B pb : Nat} {v : PV} (h : WD w B pb v) : OD w B v := ⟨h.wp.n, h.wp.s, h.wp.each, h.apart⟩
def bump (p : Pl) : Pl := if p.ver = 1099511627776 then ⟨0, [], []⟩ else ⟨p.ver + 1, p.nodes, p.ss⟩
def bumpErr (p : Pl) : Int := if p.ver = 1099511627776 then 1 else 0
def RetNext (w : World) (p : Pl) (er : Int) (e : Ending) (w' : World) : Prop := ∃ v : PV, e = .returned (.tuple #[v.val, .int .i64 er]) ∧ v.pl = p ∧ OD w' w.heap.size v ∧ Below w.heap.size w w'
theorem app_new_n {w : World} {ops : Array Oper} {rest : List Oper} {o : Oper} {a : Act} {Q : Exit → Act → World → Prop} (hgd : o.guard = none) (s x : Operand) (ho : o.op = .call { callee := .builtin .append, args := #[s, x], argTypes := #[22, 22] })
    (B0 : Nat) (A0 : Option Addr) (n c0 : Nat) (hA0 : A0 = none → c0 = 0) (l : List Int) (hs : a.eval s = .slice A0 n c0) (hr0 : Ls NE w B0 A0 n l)
    (B : Nat) (A : Option Addr) (m c : Nat) (news : List Int) (hx : a.eval x = .slice A m c) (hr : Ls NE w B A m news) (hm : 0 < m) (hcap : c0 < n + m)
    (hn : n + m ≤ 1099511627776)
    (h : ∀ c' w', Ow NE w' w.heap.size (.slice (some ⟨w.heap.size, 0, none⟩) (n + m) c') (n + m) (l ++ news) → Below w.heap.size w w' → w.heap.size < w'.heap.size → wpList Try.prog ops Q rest (a.put o.dst (.slice (some ⟨w.heap.size, 0, none⟩) (n + m) c')) w') : wpList Try.prog ops Q (o :: rest) a w := by
  obtain ⟨i0, hi, hz0, hz1, hz2⟩ := info_of infoN
  exact wpList_append_new NE (P := Try.prog) Try.underlying22 hi hz0 hz1 hz2 rfl (by decide) hgd s x ho B0 A0 n c0 hA0 l hs hr0 B A m c news hx hr hm hcap hn h
theorem noPV_od (w : World) (B : Nat) : OD w B noPV := ⟨Ow.nil _ _, Ow.nil _ _, fun r hr => by simp [noPV] at hr, fun i j r s _ hr => by simp [noPV] at hr⟩
theorem ow_grown {α : Type} {E : El α} {w w' : World} {B C n m : Nat} {v vs : Value} {l : List α} {rs : List Rw3} (h : Ow E w B v n l) (hs : Ow SE w C vs m rs) (hg : w.grownBy w' vs.ownBlock) (hne : E.e ≠ 44) : Ow E w' B v n l := by
  have hc : Chg (fun k => vs.ownBlock = some k) w w' := (Chg.refl _ w).grown hg (fun k hk _ => hk)
  refine h.chg hc fun k hk he => ?_
  obtain ⟨c1, h1⟩ := h.type hk
  obtain ⟨c2, h2⟩ := hs.type he
  exact blk_type h1 h2 hne rfl
theorem addr_of {w : World} {B : Nat} {r : Rw3} (h : Ow OE w B r.val r.l.length r.l) : r.A = none ∨ ∃ g, r.A = some ⟨g, 0, none⟩ ∧ B ≤ g ∧ g < w.heap.size := by
  rcases own_form h.2 with ⟨e, _⟩ | ⟨g, cap, e, h1, h2, _⟩
  · unfold Rw3.val at e; exact .inl (Value.slice.inj e).1
  · unfold Rw3.val at e; exact .inr ⟨g, (Value.slice.inj e).1, h1, h2⟩
theorem var_grown {wx w7 : World} {B pb : Nat} {v : PV} (hx : WD wx B pb v) (hg : wx.grownBy w7 (Value.slice v.sA v.rs.length v.sc).ownBlock) : Boxed w7 pb v := by
  have hc : Chg (fun k => (Value.slice v.sA v.rs.length v.sc).ownBlock = some k) wx w7 := (Chg.refl _ wx).grown hg (fun k hk _ => hk)
  exact hc.blk hx.wp.var fun e => by
    obtain ⟨c, hcur⟩ := hx.wp.s.type e
    exact blk_type hcur hx.wp.var (by decide) rfl
theorem OD.other {w w' : World} {B g : Nat} {v : PV} {cur : Array Value} (h : OD w B v) (hc : Chg (fun k => k = g) w w') (hg : w.heap[g]? = some (.cells cur 25 (0, 0))) : OD w' B v :=
  ⟨ow_other h.n hc hg (by decide), ow_other h.s hc hg (by decide), fun r hr => ow_other (h.each r hr) hc hg (by decide), h.apart⟩
/-- a new row laid behind the others -/
theorem WD.push {wr wx w7 : World} {B pb c2 : Nat} {v : PV} {r' : Rw3} {A' : Option Addr} (h : WD wr B pb v) (hb : Below wr.heap.size wr wx) (hr : Ow OE wx wr.heap.size r'.val r'.l.length r'.l)
    (hs : Ow SE w7 B (.slice A' (v.rs.length + 1) c2) (v.rs.length + 1) (v.rs ++ [r'])) (hg : wx.grownBy w7 (Value.slice v.sA v.rs.length v.sc).ownBlock) :
    WD (w7.setCell ⟨pb, 2, none⟩ (.slice A' (v.rs.length + 1) c2)) B pb { v with sA := A', sc := c2, rs := v.rs ++ [r'] } := by
  have hx := h.below hb (Nat.le_refl _)
  have hc : Chg (fun k => (Value.slice v.sA v.rs.length v.sc).ownBlock = some k) wx w7 := (Chg.refl _ wx).grown hg (fun k hk _ => hk)
  have hvar : Boxed w7 pb v := hc.blk hx.wp.var fun e => by
    obtain ⟨c, hcur⟩ := hx.wp.s.type e
    exact blk_type hcur hx.wp.var (by decide) rfl
  have hc2 : Chg (fun b => b = pb) w7 (w7.setCell ⟨pb, 2, none⟩ (.slice A' (v.rs.length + 1) c2)) := chg_set1 _
  refine ⟨⟨h.wp.le, ?_, ow_other (ow_grown hx.wp.n hx.wp.s hg (by decide)) hc2 hvar (by decide), ?_, fun q hq => ?_⟩, ?_⟩
  · have := heap_setCell_same w7 pb 2 _ _ (.slice A' (v.rs.length + 1) c2) hvar
    simpa [Boxed, IsV3] using this
  · have := ow_other hs hc2 hvar (by decide)
    simpa using this
  · rcases List.mem_append.1 hq with hq | hq
    · exact ow_other (ow_grown (hx.wp.each q hq) hx.wp.s hg (by decide)) hc2 hvar (by decide)
    · rw [List.mem_singleton] at hq
      subst hq
      exact ow_other (ow_grown (hr.base (by have := h.wp.le; have := h.wp.lt; omega)) hx.wp.s hg (by decide)) hc2 hvar (by decide)
  · have old : ∀ r ∈ v.rs, r.A = r'.A → r.A = none := fun r hq e => by
      rcases addr_of (h.wp.each r hq) with h0 | ⟨g, h1, _, h2⟩
      · exact h0
      · rcases addr_of hr with k0 | ⟨g', k1, k2, _⟩
        · rw [e, k0]
        · rw [h1, k1] at e; cases e; omega
    intro i j x y hij hxx hyy he
    simp only at hxx hyy
    rcases Nat.lt_or_ge i v.rs.length with h1 | h1
    · rw [List.getElem?_append_left h1] at hxx
      rcases Nat.lt_or_ge j v.rs.length with h2 | h2
      · rw [List.getElem?_append_left h2] at hyy
        exact h.apart i j x y hij hxx hyy he
      · rw [List.getElem?_append_right h2] at hyy
        have : y = r' := by
          rcases hj : j - v.rs.length with _ | k
          · rw [hj] at hyy; simpa using hyy.symm
          · rw [hj] at hyy; simp at hyy
        subst this
        exact old x (List.mem_of_getElem? hxx) he
    · rw [List.getElem?_append_right h1] at hxx
      have hxr : x = r' ∧ i = v.rs.length := by
        rcases hj : i - v.rs.length with _ | k
        · rw [hj] at hxx; exact ⟨by simpa using hxx.symm, by omega⟩
        · rw [hj] at hxx; simp at hxx
      obtain ⟨rfl, hi⟩ := hxr
      rcases Nat.lt_or_ge j v.rs.length with h2 | h2
      · rw [List.getElem?_append_left h2] at hyy
        have := old y (List.mem_of_getElem? hyy) he.symm
        rw [he, this]
      · rw [List.getElem?_append_right h2] at hyy
        rcases hj : j - v.rs.length with _ | k
        · omega
        · rw [hj] at hyy; simp at hyy
end Go.Proofs.Ytkajdfflolilhaa.pm
/-
  One node leaves a shard, another one comes: the program's transfer.
-/
namespace Go.Proofs.Ytkajdfflolilhaa.pm
open Go.ChangeShapes Go.WideShapes Go.ChangeAt Go.RowKit Go.Shelf plain words ord mem

def give (l : List O) (f t : Int) : List O := own (own (disown l f) (f, 3, -1)) (t, 1, f)
end Go.Proofs.Ytkajdfflolilhaa.pm
