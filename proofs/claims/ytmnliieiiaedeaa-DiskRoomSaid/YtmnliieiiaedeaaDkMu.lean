/-
  The disk's power, its order, its count of calls.
-/
import Derived.Test.YtmnliieiiaedeaaDkCr
namespace Go.Proofs.Ytmnliieiiaedeaa.dk
open Go.ChangeShapes Go.WideShapes Go.ChangeAt Go.RowKit Go.Maps Go.Sort Go.Shelf plain words ord mem al

def dec (x : Int × Int × Int) : Int × Int × Int := (x.1 - 1, x.2)
def cnt (st : St) : St := { st with ops := st.ops + 1, due := st.due.map dec }
/-- the order's block is written -/
theorem Parts.setdue {w w' : World} {p fs fh b : Nat} {Fs Fh Fo : Nat → Prop} {ls sh : AL Nm} {v : Value} {ps : List Pd} {due due' : Due} (h : Parts w p fs fh Fs Fh Fo ls sh v ps due (some b)) (hc : Chg (fun k => k = b) w w') (hd : IsDue w' Fo due' (some b)) : Parts w' p fs fh Fs Fh Fo ls sh v ps due' (some b) := by
  obtain ⟨hb, x, hx⟩ := h.dueo rfl
  refine ⟨h.hs.chg hc (fun k hk e => h.ap2 k hk (e ▸ hb)), h.hh.chg hc (fun k hk e => h.ap3 k hk (e ▸ hb)), h.row.chg hc (fun g hg e => ?_), fun q hq => Pd.boxes_chg (h.box q hq) hc (fun k hk e => ?_), hd, h.po, h.ro, h.bo, h.ap1, h.ap2, h.ap3, fun k hk => Nat.lt_of_lt_of_le (h.lto k hk) hc.size⟩
  · obtain ⟨c2, hc2⟩ := h.row.type hg
    exact blk_type hx hc2 (by decide) e.symm
  · obtain ⟨c2, hc2⟩ := box_type (h.box q hq) hk
    exact blk_type hx hc2 (by decide) e.symm
/-- a state whose own cells alone have turned -/
theorem Dk.retp {w w' : World} {p fs fh : Nat} {Fs Fh Fo F : Nat → Prop} {v v' : Value} {ps ps' : List Pd} {due due' : Due} {dv dv' : Option Nat} {room : Int} {ls sh : AL Nm} {dead dead' : Bool} {ops ops' : Int} {pd : List Chn} {r : Value} {S : Nat → Prop}
    (hP : Parts w' p fs fh Fs Fh Fo ls (fold ls pd) v' ps' due' dv') (hb : w'.heap[p]? = some (diskO room fs fh v' dv' dead' ops')) (h3 : ps'.map (·.c) = pd) (h4 : legal ls pd) (h5 : ∀ k, Fs k ∨ Fh k ∨ Fo k → F k ∨ (w.heap.size ≤ k ∧ k < w'.heap.size)) (h6 : ∀ k, F k → k < w.heap.size) (hc : Chg S w w') (hS : ∀ k, k < w.heap.size → S k → F k) :
    RetDk w p F ⟨room, ls, pd, due', dead', ops'⟩ r (.returned r) w' :=
  ⟨rfl, ⟨fs, fh, Fs, Fh, Fo, v', ps', dv', hb, hP, h3, h4, h5, ext_lt h6 hc.size⟩, hc.mono hS⟩
set_option maxRecDepth 100000 in
set_option maxHeartbeats 1000000 in
theorem count_d (w : World) (p : Nat) (F : Nat → Prop) (st : St) (h : Dk w p F st) (h0 : 0 ≤ st.ops) (h1 : st.ops < 4611686018427387904) (hd : ∀ x, st.due = some x → 0 < x.1 ∧ x.1 ≤ 9223372036854775807) :
    Calls Try.prog 48 #[ptr p] w (RetDk w p F (cnt st) (.tuple #[])) := by
  obtain ⟨fs, fh, Fs, Fh, Fo, v, ps, dv, hb, hP, h3, h4, h5, h6⟩ := h
  obtain ⟨room, ls, pd, due, dead, ops⟩ := st
  simp only [St.shown] at hb hP h3 h4 h0 h1 hd
  obtain ⟨c0, c1, c2, c3, c4, c5, c6⟩ := disk_cell hb
  have fz := disk_froz hb 6
  have hp := blk_lt hb
  have hw : IntKind.i64.wrap (ops + 1) = ops + 1 := by rw [IntWalk.i64_in _ (by omega)]
  have hs := setp_obj (o := 6) (u := .int .i64 (ops + 1)) hb
  have hb2 : (w.setCell ⟨p, 6, none⟩ (.int .i64 (ops + 1))).heap[p]? = some (diskO room fs fh v dv dead (ops + 1)) := hs
  have hP2 := hP.setp hb (chg_set w p 6 (.int .i64 (ops + 1)))
  have hpF : F p := h5 p (.inr (.inr hP.po))
  cases dv with
  | none =>
    have hdue : due = none := by
      have := hP.due_
      cases due with
      | none => rfl
      | some x => exact this.elim
    subst hdue
    have e4 := (disk_cell hb2).2.2.2.2.1
    simp only [dptr, Option.map_none] at e4
    have HP2 := Lib.hid hP2
    have HB2 := Lib.hid hb2
    have H3 := Lib.hid h3
    have H4 := Lib.hid h4
    have H5 := Lib.hid h5
    have H6 := Lib.hid h6
    clear hb hP h3 h4 h5 h6 c0 c1 c2 c3 c4 c5 hs hb2 hP2
    go_enter Try.func48, Try.ntmps48
    go_wp2_with fail
    go_end0
    exact Dk.retp (due := none) (dv := none) (sh := []) (v := v) (ps := ps) (dead := dead) (ops := ops) HP2.out HB2.out H3.out H4.out (fun k hk => .inl (H5.out k hk)) H6.out (chg_set _ _ _ _) (fun k _ e => by subst e; exact hpF)
  | some b =>
    obtain ⟨hbo, _⟩ := hP.dueo rfl
    cases due with
    | none => exact hP.due_.elim
    | some x =>
      obtain ⟨hx, _⟩ := hP2.due_
      obtain ⟨hx1, hx2⟩ := hd x rfl
      have e4 := (disk_cell hb2).2.2.2.2.1
      simp only [dptr, Option.map_some] at e4
      have l0 : (w.setCell ⟨p, 6, none⟩ (.int .i64 (ops + 1))).cell? ⟨b, 0, none⟩ = some (.int .i64 x.1) := by rw [cell_of_row _ _ _ _ _ _ hx]; rfl
      have f0 : (w.setCell ⟨p, 6, none⟩ (.int .i64 (ops + 1))).frozen? ⟨b, 0, none⟩ = false := by simp [World.frozen?, hx, lossO]
      have hw2 : IntKind.i64.wrap (x.1 - 1) = x.1 - 1 := by rw [IntWalk.i64_in _ (by omega)]
      have hbl : b < (w.setCell ⟨p, 6, none⟩ (.int .i64 (ops + 1))).heap.size := blk_lt hx
      have hpb : p ≠ b := blk_type hb2 hx (by decide)
      have hx3 : ((w.setCell ⟨p, 6, none⟩ (.int .i64 (ops + 1))).setCell ⟨b, 0, none⟩ (.int .i64 (x.1 - 1))).heap[b]? = some (lossO (dec x)) := setp_obj (o := 0) (u := .int .i64 (x.1 - 1)) hx
      have hP3 := hP2.setdue (due' := some (dec x)) (chg_set _ b 0 (.int .i64 (x.1 - 1))) ⟨hx3, hbo⟩
      have hb3 := (chg_set (w.setCell ⟨p, 6, none⟩ (.int .i64 (ops + 1))) b 0 (.int .i64 (x.1 - 1))).blk hb2 hpb
      have hbF : F b := h5 b (.inr (.inr hbo))
      have HP3 := Lib.hid hP3
      have HB3 := Lib.hid hb3
      have H3 := Lib.hid h3
      have H4 := Lib.hid h4
      have H5 := Lib.hid h5
      have H6 := Lib.hid h6
      clear hb hP h3 h4 h5 h6 c0 c1 c2 c3 c4 c5 hs hb2 hP2 hP3 hb3 hx hx3 hd
      go_enter Try.func48, Try.ntmps48
      go_wp2_with fail
      go_end0
      exact Dk.retp (due := none) (dv := none) (sh := []) (v := v) (ps := ps) (dead := dead) (ops := ops) HP3.out HB3.out H3.out H4.out (fun k hk => .inl (H5.out k hk)) H6.out ((chg_set w p 6 (.int .i64 (ops + 1))).mono (S' := fun k => k = p ∨ k = b) (fun _ _ e => .inl e) |>.trans (chg_set _ b 0 (.int .i64 (x.1 - 1))) (fun _ _ e => .inr e)) (fun k _ e => by
        rcases e with e | e
        · subst e; exact hpF
        · subst e; exact hbF)
/-- what the power is, behind what was ordered -/
def pw (st : St) : St := match st.due with
  | some (l, k, q) => if st.dead = false ∧ l = 0 then crashSt st k q else st
  | none => st
theorem RetDk.refl {w : World} {p : Nat} {F : Nat → Prop} {st : St} (h : Dk w p F st) (r : Value) : RetDk w p F st r (.returned r) w :=
  ⟨rfl, h.mono (fun k hk => .inl hk) (ext_lt h.lt (Nat.le_refl _)), Chg.refl _ _⟩
theorem crash_dead (st : St) (k q : Int) : (crashSt st k q).dead = true := by
  unfold crashSt
  split
  · assumption
  · rfl
theorem ext_trans {F : Nat → Prop} {w w1 w2 : World} (h1 : w.heap.size ≤ w1.heap.size) (h2 : w1.heap.size ≤ w2.heap.size) (k : Nat) (hk : Ext (Ext F w w1) w1 w2 k) : Ext F w w2 k := by
  rcases hk with (e | e) | e
  · exact .inl e
  · exact .inr ⟨e.1, by omega⟩
  · exact .inr ⟨by omega, e.2⟩
set_option maxRecDepth 100000 in
set_option maxHeartbeats 1000000 in
theorem powered_d (w : World) (p : Nat) (F : Nat → Prop) (st : St) (h : Dk w p F st) (hpot : fsum st.last + sumc st.pend ≤ 1073741824) (hpl : st.last.length + st.pend.length ≤ 1073741824) :
    Calls Try.prog 46 #[ptr p] w (RetDk w p F (pw st) (.bool (!(pw st).dead))) := by
  have HD := Lib.hid h
  obtain ⟨fs, fh, Fs, Fh, Fo, v, ps, dv, hb, hP, h3, h4, h5, h6⟩ := h
  obtain ⟨room, ls, pd, due, dead, ops⟩ := st
  simp only [St.shown] at hb hP h3 h4 hpot hpl
  obtain ⟨c0, c1, c2, c3, c4, c5, c6⟩ := disk_cell hb
  have hp := blk_lt hb
  cases dead with
  | true =>
    have hpw : pw ⟨room, ls, pd, due, true, ops⟩ = ⟨room, ls, pd, due, true, ops⟩ := by
      unfold pw
      cases due with
      | none => rfl
      | some x => obtain ⟨l, k, q⟩ := x; simp
    rw [hpw]
    clear hb hP h3 h4 h5 h6 c0 c1 c2 c3 c6 hpw
    go_enter Try.func46, Try.ntmps46
    go_wp2_with fail
    go_ret
    exact RetDk.refl HD.out _
  | false =>
    cases dv with
    | none =>
      have hdue : due = none := by
        have := hP.due_
        cases due with
        | none => rfl
        | some x => exact this.elim
      subst hdue
      have hpw : pw ⟨room, ls, pd, none, false, ops⟩ = ⟨room, ls, pd, none, false, ops⟩ := rfl
      rw [hpw]
      simp only [dptr, Option.map_none] at c4
      clear hb hP h3 h4 h5 h6 c0 c1 c2 c3 c6 hpw
      go_enter Try.func46, Try.ntmps46
      go_wp2_with fail
      go_ret
      exact RetDk.refl HD.out _
    | some b =>
      cases due with
      | none => exact hP.due_.elim
      | some x =>
        obtain ⟨l, k, q⟩ := x
        obtain ⟨hx, _⟩ := hP.due_
        have l0 : w.cell? ⟨b, 0, none⟩ = some (.int .i64 l) := by rw [cell_of_row _ _ _ _ _ _ hx]; rfl
        have l1 : w.cell? ⟨b, 1, none⟩ = some (.int .i64 k) := by rw [cell_of_row _ _ _ _ _ _ hx]; rfl
        have l2 : w.cell? ⟨b, 2, none⟩ = some (.int .i64 q) := by rw [cell_of_row _ _ _ _ _ _ hx]; rfl
        have hbl : b < w.heap.size := blk_lt hx
        simp only [dptr, Option.map_some] at c4
        by_cases hl : l = 0
        · subst hl
          have hpw : pw ⟨room, ls, pd, some (0, k, q), false, ops⟩ = crashSt ⟨room, ls, pd, some (0, k, q), false, ops⟩ k q := by simp [pw]
          rw [hpw]
          have HCR := Lib.hid (crash_d w.drew p F ⟨room, ls, pd, some (0, k, q), false, ops⟩ k q (HD.out.chg (Chg.refl (fun _ => False) _).drew (fun _ _ e => e)) hpot hpl)
          have z4 := Wb.at_ c4
          have z1 := Wb.at_ l1
          have z2 := Wb.at_ l2
          clear hb hP h3 h4 h5 h6 c0 c1 c2 c3 c6 hpw hx
          go_enter Try.func46, Try.ntmps46
          go_wp2_with fail
          refine wp_region_plan [([0, 1, 2, 3, 4, 5, 6, 7, 8, 9, 10, 11, 12, 13, 14], some (15, true)), ([], none)] (by kernel_rfl) (by kernel_rfl) ?_
          refine seg_write _ (by dsimp only [pick, at_]) _ (by dsimp only [pick, at_]) ?_
          repeat (go_big_quiet_step (fail))
          refine wpQuiet_nil ?_
          intro K2 g1
          clear z4 z1 z2
          go_wp2_with (fail)
          refine HCR.out.mono ?_
          rintro e w2 ⟨rfl, hd2, hc2⟩
          have D2 := Lib.hid hd2
          have C2 := Lib.hid hc2
          obtain ⟨fs2, fh2, Fs2, Fh2, Fo2, v2, ps2, dv2, hb2, _⟩ := hd2
          have d5 := (disk_cell hb2).2.2.2.2.2.1
          rw [crash_dead] at d5
          have hp2 : p < w2.heap.size := blk_lt hb2
          clear hb2 hc2 HCR l0 l1 l2 c4 c5
          go_wp2_with (fail)
          refine seg_end _ (by dsimp only [pick, at_]) ?_
          repeat (go_big_quiet_step (fail))
          refine wpQuiet_nil (NoPanic.normal ?_)
          go_wp2_with fail
          go_ret
          exact ⟨by rw [crash_dead]; rfl, D2.out, ((Chg.refl F w).drew).trans C2.out (fun _ _ e => e)⟩
        · have hpw : pw ⟨room, ls, pd, some (l, k, q), false, ops⟩ = ⟨room, ls, pd, some (l, k, q), false, ops⟩ := by simp [pw, hl]
          rw [hpw]
          have hl' : (l == 0) = false := by simpa using hl
          clear hb hP h3 h4 h5 h6 c0 c1 c2 c3 c6 hpw hx l1 l2
          go_enter Try.func46, Try.ntmps46
          go_wp2_with fail
          go_ret
          exact RetDk.refl HD.out _
end Go.Proofs.Ytmnliieiiaedeaa.dk
