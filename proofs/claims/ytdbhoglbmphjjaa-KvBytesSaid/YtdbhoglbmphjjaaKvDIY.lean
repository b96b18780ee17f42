/-
  Bytes as a placement: the document's Decode: what its loops keep.
-/
import Derived.Test.YtdbhoglbmphjjaaKvDY
namespace Go.Proofs.Ytdbhoglbmphjjaa.kv
open Go.ChangeShapes Go.WideShapes Go.ChangeAt Go.RowKit Go.Shelf plain words ord mem uvs uvc pm

/-- the reader, and the placement that is made in the variable pb -/
structure DIy (w4 w : World) (gi B0 D pb : Nat) (s : St) (v : PV) : Prop where
  ds : DSy w gi B0 s
  wd : WD w D pb v
  ch : Chg (fun k => k = gi ∨ D ≤ k) w4 w
  lb : gi < D
  b0 : B0 ≤ w4.heap.size
  ll : B0 ≤ gi
/-- within a round: the reader; what lay when the round began stays, but for it -/
structure DJy (wx w : World) (gi B0 : Nat) (s : St) : Prop where
  ds : DSy w gi B0 s
  ch : Chg (fun k => k = gi ∨ wx.heap.size ≤ k) wx w
  lb : gi < wx.heap.size
  b0 : B0 ≤ wx.heap.size
  ll : B0 ≤ gi
section
variable {w4 wx w w' : World} {gi B0 D pb : Nat} {s : St} {v : PV}
theorem DSy.cells (h : DSy w gi B0 s) : ∃ A n c, w.cell? ⟨gi, 0, none⟩ = some (.slice A n c) ∧ w.cell? ⟨gi, 1, none⟩ = some (.bool (!s.2)) ∧ Bs w B0 A n s.1 ∧ gi < w.heap.size := by
  obtain ⟨A, n, c, hg, hb, _⟩ := h
  exact ⟨A, n, c, by rw [cell_of_row _ _ _ _ _ _ hg]; rfl, by rw [cell_of_row _ _ _ _ _ _ hg]; rfl, hb, blk_lt hg⟩
theorem DIy.b1 (h : DIy w4 w gi B0 D pb s v) : B0 ≤ w.heap.size := Nat.le_trans h.b0 h.ch.size
theorem DIy.step {v' : PV} (h : DIy w4 w gi B0 D pb s v) (hc : Chg (fun k => D ≤ k) w w') (hw : WD w' D pb v') : DIy w4 w' gi B0 D pb s v' := by
  have h1 := h.lb; have h3 := h.ll
  exact ⟨h.ds.chg hc h.b1 (by omega) (fun k hk => by omega), hw, h.ch.trans hc (fun _ _ e => .inr e), h.lb, h.b0, h.ll⟩
theorem DIy.below (h : DIy w4 w gi B0 D pb s v) (hb : Below w.heap.size w w') : DIy w4 w' gi B0 D pb s v :=
  h.step ((Chg.of_below hb).mono (fun _ _ e => e.elim)) (h.wd.below hb (Nat.le_refl _))
theorem DIy.drew (h : DIy w4 w gi B0 D pb s v) : DIy w4 w.drew gi B0 D pb s v := h.below (Below.refl _ _).drew
theorem DIy.next (h : DIy w4 w gi B0 D pb s v) : Calls Try.prog 17 #[.pointer (some ⟨gi, 0, none⟩)] w fun e w' => e = .returned (.int .i64 (rd s).1) ∧ DIy w4 w' gi B0 D pb (rd s).2 v ∧ Chg (fun k => k = gi) w w' := by
  refine (number_y w gi B0 s h.ds h.b1).mono fun e w' hr => ?_
  obtain ⟨h1, h2, h3⟩ := hr
  have hb := h.lb
  exact ⟨h1, ⟨h2, wd_chg h.wd h3 (fun k e => by omega), h.ch.trans h3 (fun k _ e => .inl e), h.lb, h.b0, h.ll⟩, h3⟩
theorem DJy.b1 (h : DJy wx w gi B0 s) : B0 ≤ w.heap.size := Nat.le_trans h.b0 h.ch.size
theorem DIy.dj (h : DIy w4 w gi B0 D pb s v) : DJy w w gi B0 s := by
  have h1 := h.lb; have h3 := h.wd.wp.le; have h4 := h.wd.wp.lt
  exact ⟨h.ds, Chg.refl _ _, by omega, h.b1, h.ll⟩
theorem DJy.step (h : DJy wx w gi B0 s) (hc : Chg (fun k => wx.heap.size ≤ k) w w') : DJy wx w' gi B0 s := by
  have h1 := h.lb; have h3 := h.b0
  exact ⟨h.ds.chg hc h.b1 (by omega) (fun k hk => by omega), h.ch.trans hc (fun _ _ e => .inr e), h.lb, h.b0, h.ll⟩
theorem DJy.below (h : DJy wx w gi B0 s) (hb : Below w.heap.size w w') : DJy wx w' gi B0 s := h.step ((Chg.of_below hb).mono (fun _ _ e => e.elim))
theorem DJy.next (h : DJy wx w gi B0 s) : Calls Try.prog 17 #[.pointer (some ⟨gi, 0, none⟩)] w fun e w' => e = .returned (.int .i64 (rd s).1) ∧ DJy wx w' gi B0 (rd s).2 ∧ Chg (fun k => k = gi) w w' := by
  refine (number_y w gi B0 s h.ds h.b1).mono fun e w' hr => ?_
  obtain ⟨h1, h2, h3⟩ := hr
  exact ⟨h1, ⟨h2, h.ch.trans h3 (fun k _ e => .inl e), h.lb, h.b0, h.ll⟩, h3⟩
theorem DJy.wd (h : DJy wx w gi B0 s) (hw : WD wx D pb v) (h1 : gi < D) : WD w D pb v := by
  have no : ∀ k, D ≤ k → k < wx.heap.size → ¬ (k = gi ∨ wx.heap.size ≤ k) := fun k hk hs e => by omega
  have hc := h.ch
  exact ⟨⟨hw.wp.le, hc.blk hw.wp.var (no _ hw.wp.le hw.wp.lt), hw.wp.n.chg hc (fun g hg => no g (hw.wp.n.lt g hg).1 (hw.wp.n.lt g hg).2), hw.wp.s.chg hc (fun g hg => no g (hw.wp.s.lt g hg).1 (hw.wp.s.lt g hg).2), fun r hr => (hw.wp.each r hr).chg hc (fun g hg => no g ((hw.wp.each r hr).lt g hg).1 ((hw.wp.each r hr).lt g hg).2)⟩, hw.apart⟩
theorem DJy.di {s0 : St} (h : DJy wx w gi B0 s) (hi : DIy w4 wx gi B0 D pb s0 v) : DIy w4 w gi B0 D pb s v := by
  have h1 := hi.lb; have h3 := hi.wd.wp.le; have h4 := hi.wd.wp.lt
  exact ⟨h.ds, h.wd hi.wd hi.lb, hi.ch.trans h.ch (fun k _ e => by omega), hi.lb, hi.b0, hi.ll⟩
/-- a row laid behind the others -/
theorem DJy.push {s0 : St} {r' : Rw3} {A' : Option Addr} {c2 : Nat} (h : DJy wx w gi B0 s) (hi : DIy w4 wx gi B0 D pb s0 v) (hr : Ow OE w wx.heap.size r'.val r'.l.length r'.l)
    (hs : Ow SE w' D (.slice A' (v.rs.length + 1) c2) (v.rs.length + 1) (v.rs ++ [r'])) (hg : w.grownBy w' (Value.slice v.sA v.rs.length v.sc).ownBlock) :
    DIy w4 (w'.setCell ⟨pb, 2, none⟩ (.slice A' (v.rs.length + 1) c2)) gi B0 D pb s { v with sA := A', sc := c2, rs := v.rs ++ [r'] } := by
  have hd := h.di hi
  have hw := WD.push2 hi.wd hd.wd hr hs hg
  have hc : Chg (fun k => D ≤ k) w w' := (Chg.refl _ w).grown hg (fun k hk _ => (hd.wd.wp.s.lt k hk).1)
  have hc2 : Chg (fun k => D ≤ k) w (w'.setCell ⟨pb, 2, none⟩ (.slice A' (v.rs.length + 1) c2)) := hc.setCell (p := ⟨pb, 2, none⟩) (fun _ => hd.wd.wp.le) _
  exact hd.step hc2 hw
end
end Go.Proofs.Ytdbhoglbmphjjaa.kv
