/-
  Bytes as a placement: the program's Decode, its loops.
-/
import Derived.Test.YtdbhoglbmphjjaaKvD
import Derived.Test.YtdbhoglbmphjjaaPmE
import Derived.Test.YtdbhoglbmphjjaaFree
namespace Go.Proofs.Ytdbhoglbmphjjaa.kv
open Go.ChangeShapes Go.WideShapes Go.ChangeAt Go.RowKit Go.Shelf plain words ord mem uvs uvc pm

/-- a new row laid behind the others -/
theorem _root_.Go.Proofs.Ytdbhoglbmphjjaa.pm.WD.push2 {wr wx w7 : World} {B pb c2 : Nat} {v : PV} {r' : Rw3} {A' : Option Addr} (h : WD wr B pb v) (hx : WD wx B pb v) (hr : Ow OE wx wr.heap.size r'.val r'.l.length r'.l)
    (hs : Ow SE w7 B (.slice A' (v.rs.length + 1) c2) (v.rs.length + 1) (v.rs ++ [r'])) (hg : wx.grownBy w7 (Value.slice v.sA v.rs.length v.sc).ownBlock) :
    WD (w7.setCell ⟨pb, 2, none⟩ (.slice A' (v.rs.length + 1) c2)) B pb { v with sA := A', sc := c2, rs := v.rs ++ [r'] } := by
  have hc : Chg (fun k => (Value.slice v.sA v.rs.length v.sc).ownBlock = some k) wx w7 := (Chg.refl _ wx).grown hg (fun k hk _ => hk)
  have hvar : pm.Boxed w7 pb v := hc.blk hx.wp.var fun e => by
    obtain ⟨c, hcur⟩ := hx.wp.s.type e
    exact blk_type hcur hx.wp.var (by decide) rfl
  have hc2 : Chg (fun b => b = pb) w7 (w7.setCell ⟨pb, 2, none⟩ (.slice A' (v.rs.length + 1) c2)) := chg_set1 _
  refine ⟨⟨h.wp.le, ?_, ow_other (ow_grown hx.wp.n hx.wp.s hg (by decide)) hc2 hvar (by decide), ?_, fun q hq => ?_⟩, ?_⟩
  · have := heap_setCell_same w7 pb 2 _ _ (.slice A' (v.rs.length + 1) c2) hvar
    simpa [pm.Boxed, IsV3] using this
  · have := ow_other hs hc2 hvar (by decide)
    simpa using this
  · rcases List.mem_append.1 hq with hq | hq
    · exact ow_other (ow_grown (hx.wp.each q hq) hx.wp.s hg (by decide)) hc2 hvar (by decide)
    · rw [List.mem_singleton] at hq
      subst hq
      exact ow_other (ow_grown (hr.base (by have := h.wp.le; have := h.wp.lt; omega)) hx.wp.s hg (by decide)) hc2 hvar (by decide)
  · have old : ∀ r ∈ v.rs, r.A = r'.A → r.A = none := fun r hq e => by
      rcases addr_of (h.wp.each r hq) with h0 | ⟨g, h1, _, h2⟩
      · exact h0
      · rcases addr_of hr with k0 | ⟨g', k1, k2, _⟩
        · rw [e, k0]
        · rw [h1, k1] at e; cases e; omega
    intro i j x y hij hxx hyy he
    simp only at hxx hyy
    rcases Nat.lt_or_ge i v.rs.length with h1 | h1
    · rw [List.getElem?_append_left h1] at hxx
      rcases Nat.lt_or_ge j v.rs.length with h2 | h2
      · rw [List.getElem?_append_left h2] at hyy
        exact h.apart i j x y hij hxx hyy he
      · rw [List.getElem?_append_right h2] at hyy
        have : y = r' := by
          rcases hj : j - v.rs.length with _ | k
          · rw [hj] at hyy; simpa using hyy.symm
          · rw [hj] at hyy; simp at hyy
        subst this
        exact old x (List.mem_of_getElem? hxx) he
    · rw [List.getElem?_append_right h1] at hxx
      have hxr : x = r' ∧ i = v.rs.length := by
        rcases hj : i - v.rs.length with _ | k
        · rw [hj] at hxx; exact ⟨by simpa using hxx.symm, by omega⟩
        · rw [hj] at hxx; simp at hxx
      obtain ⟨rfl, hi⟩ := hxr
      rcases Nat.lt_or_ge j v.rs.length with h2 | h2
      · rw [List.getElem?_append_left h2] at hyy
        have := old y (List.mem_of_getElem? hyy) he.symm
        rw [he, this]
      · rw [List.getElem?_append_right h2] at hyy
        rcases hj : j - v.rs.length with _ | k
        · omega
        · rw [hj] at hyy; simp at hyy

theorem wd_chg {S : Nat → Prop} {w w' : World} {B pb : Nat} {v : PV} (h : WD w B pb v) (hc : Chg S w w') (hS : ∀ k, S k → k < B) : WD w' B pb v := by
  have no : ∀ k, B ≤ k → ¬ S k := fun k hk hs => by have := hS k hs; omega
  exact ⟨⟨h.wp.le, hc.blk h.wp.var (no _ h.wp.le), h.wp.n.chg hc (fun g hg => no g (h.wp.n.lt g hg).1), h.wp.s.chg hc (fun g hg => no g (h.wp.s.lt g hg).1), fun r hr => (h.wp.each r hr).chg hc (fun g hg => no g ((h.wp.each r hr).lt g hg).1)⟩, h.apart⟩
theorem ow_grownN {α : Type} {E : El α} {w w' : World} {B C n m : Nat} {v vs : Value} {l : List α} {rs : List Int} (h : Ow E w B v n l) (hs : Ow NE w C vs m rs) (hg : w.grownBy w' vs.ownBlock) (hne : E.e ≠ 3) : Ow E w' B v n l := by
  have hc : Chg (fun k => vs.ownBlock = some k) w w' := (Chg.refl _ w).grown hg (fun k hk _ => hk)
  refine h.chg hc fun k hk he => ?_
  obtain ⟨c1, h1⟩ := h.type hk
  obtain ⟨c2, h2⟩ := hs.type he
  exact blk_type h1 h2 hne rfl
/-- a node laid behind the others -/
theorem wd_appN {w w' : World} {B pb m c : Nat} {A : Option Addr} {v : PV} {l : List Int} (h : WD w B pb v) (hg : w.grownBy w' (Value.slice v.nA v.nodes.length v.nc).ownBlock)
    (hr : Ow NE w' B (.slice A m c) m l) : WD (w'.setCell ⟨pb, 1, none⟩ (.slice A m c)) B pb { v with nA := A, nc := c, nodes := l } ∧ pm.Boxed w' pb v ∧ Chg (fun k => B ≤ k) w (w'.setCell ⟨pb, 1, none⟩ (.slice A m c)) := by
  have hc : Chg (fun k => (Value.slice v.nA v.nodes.length v.nc).ownBlock = some k) w w' := (Chg.refl _ w).grown hg (fun k hk _ => hk)
  have hvar : pm.Boxed w' pb v := hc.blk h.wp.var fun e => by
    obtain ⟨c, hcur⟩ := h.wp.n.type e
    exact blk_type hcur h.wp.var (by decide) rfl
  have hc2 : Chg (fun b => b = pb) w' (w'.setCell ⟨pb, 1, none⟩ (.slice A m c)) := chg_set1 _
  have hm := hr.1
  refine ⟨⟨⟨h.wp.le, ?_, ?_, ow_other (ow_grownN h.wp.s h.wp.n hg (by decide)) hc2 hvar (by decide), fun q hq => ow_other (ow_grownN (h.wp.each q hq) h.wp.n hg (by decide)) hc2 hvar (by decide)⟩, h.apart⟩, hvar, ?_⟩
  · have := heap_setCell_same w' pb 1 _ _ (.slice A m c) hvar
    simpa [pm.Boxed, IsV3, hm] using this
  · simp only [hm]
    exact ow_other hr hc2 hvar (by decide)
  · exact (hc.mono (S' := fun k => B ≤ k) (fun k _ e => (h.wp.n.lt k e).1)).trans (hc2.mono (S' := fun k => B ≤ k) (fun k _ e => by rw [e]; exact h.wp.le)) (fun _ _ e => e)
theorem DS.chg {S : Nat → Prop} {w w' : World} {gb gk B : Nat} {s : St} (h : DS w gb gk B s) (hc : Chg S w w') (hB : B ≤ w.heap.size) (h1 : ¬ S gb) (h2 : ¬ S gk) (h3 : ∀ k, S k → B ≤ k) : DS w' gb gk B s := by
  obtain ⟨⟨A, n, c, hg, hb, k1, k2, k3, k4⟩, hk, k5⟩ := h
  exact ⟨⟨A, n, c, hc.blk hg h1, hb.below (hc.below hB h3) (Nat.le_refl _), k1, k2, k3, k4⟩, hc.blk hk h2, k5⟩
/-- the reader's variables, and the placement that is made in the variable pb -/
structure DI (w4 w : World) (gb gk B0 D pb : Nat) (s : St) (v : PV) : Prop where
  ds : DS w gb gk B0 s
  wd : WD w D pb v
  ch : Chg (fun k => k = gb ∨ k = gk ∨ D ≤ k) w4 w
  lb : gb < D
  lk : gk < D
  b0 : B0 ≤ w4.heap.size
  ll : B0 ≤ gb ∧ B0 ≤ gk
section
variable {w4 w w' : World} {gb gk B0 D pb : Nat} {s : St} {v : PV}
theorem DI.b1 (h : DI w4 w gb gk B0 D pb s v) : B0 ≤ w.heap.size := Nat.le_trans h.b0 h.ch.size
theorem DI.step {v' : PV} (h : DI w4 w gb gk B0 D pb s v) (hc : Chg (fun k => D ≤ k) w w') (hw : WD w' D pb v') : DI w4 w' gb gk B0 D pb s v' := by
  have h1 := h.lb; have h2 := h.lk; have h3 := h.ll
  exact ⟨h.ds.chg hc h.b1 (by omega) (by omega) (fun k hk => by omega), hw, h.ch.trans hc (fun _ _ e => .inr (.inr e)), h.lb, h.lk, h.b0, h.ll⟩
theorem DI.below (h : DI w4 w gb gk B0 D pb s v) (hb : Below w.heap.size w w') : DI w4 w' gb gk B0 D pb s v :=
  h.step ((Chg.of_below hb).mono (fun _ _ e => e.elim)) (h.wd.below hb (Nat.le_refl _))
theorem DI.drew (h : DI w4 w gb gk B0 D pb s v) : DI w4 w.drew gb gk B0 D pb s v := h.below (Below.refl _ _).drew
theorem DI.next (h : DI w4 w gb gk B0 D pb s v) : Calls Try.prog 15 #[.pointer (some ⟨gb, 0, none⟩), .pointer (some ⟨gk, 0, none⟩)] w fun e w' => e = .returned (.int .i64 (rd s).1) ∧ DI w4 w' gb gk B0 D pb (rd s).2 v ∧ Chg (fun k => k = gb ∨ k = gk) w w' := by
  refine (next_x w gb gk B0 s h.ds h.b1).mono fun e w' hr => ?_
  obtain ⟨h1, h2, h3⟩ := hr
  have hb := h.lb; have hk := h.lk
  exact ⟨h1, ⟨h2, wd_chg h.wd h3 (fun k e => by rcases e with e | e <;> omega), h.ch.trans h3 (fun k _ e => e.elim .inl (fun e => .inr (.inl e))), h.lb, h.lk, h.b0, h.ll⟩, h3⟩
theorem DI.flag (h : DI w4 w gb gk B0 D pb s v) : w.cell? ⟨gk, 0, none⟩ = some (.bool s.2) := by rw [cell_of_row _ _ _ _ _ _ h.ds.ok]; rfl
end
theorem rd_nat (s : St) : (rd s).1 = (((rd s).1.toNat : Nat) : Int) := by have := rd_range s; omega
end Go.Proofs.Ytdbhoglbmphjjaa.kv
