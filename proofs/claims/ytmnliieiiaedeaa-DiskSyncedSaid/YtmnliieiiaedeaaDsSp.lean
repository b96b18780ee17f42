/-
  A step of the disk's laws on both disks, the power on and no cut ordered.
-/
import Derived.Test.YtmnliieiiaedeaaRdB
import Derived.Test.YtmnliieiiaedeaaDkSp
import Derived.Test.YtmnliieiiaedeaaFree
import Derived.Test.YtmnliieiiaedeaaFree
namespace Go.Proofs.Ytmnliieiiaedeaa.dk
open Go.ChangeShapes Go.WideShapes Go.ChangeAt Go.RowKit Go.Maps Go.Sort Go.Shelf plain words ord mem al

/-- both disks behind a step -/
def stepSt (st : St) (x : Sp) : St :=
  if x.kind = 0 then (appSt st x.a x.b).1 else if x.kind = 1 then (renSt st x.a x.b).1 else if x.kind = 2 then (remSt st x.a).1 else if x.kind = 3 then syncSt st else st
section
variable {X Y : Nat → Prop} {w0 w w' : World} {p r : Nat} {st st' : St}
theorem One.ref (h : One X w0 w p st) (hc : Chg (fun k => k = r) w w') (hr : X r) (h0 : w0.heap.size ≤ r) : One (Ext X w w') w0 w' p st := by
  obtain ⟨F, h1, h2, h3, h4⟩ := h
  refine ⟨F, h1.chg hc (fun k hk e => (h2 k hk).2 (e ▸ hr)), fun k hk => ⟨(h2 k hk).1, fun e => ?_⟩, h3.trans (hc.below h3.size (fun k e => by omega)), ext_lt h4 hc.size⟩
  rcases e with e | e
  · exact (h2 k hk).2 e
  · have := h1.lt k hk; omega
theorem One.lt (h : One X w0 w p st) : ∀ k, X k → k < w.heap.size := by
  obtain ⟨F, h1, h2, h3, h4⟩ := h
  exact h4
/-- both disks at hand, in the same state -/
structure SS (X : Nat → Prop) (w0 w : World) (p r : Nat) (st : St) : Prop where
  one : One X w0 w p st
  rm : RM w r X st
  lo : w0.heap.size ≤ r
theorem RM.own (h : RM w r X st) : X r := by
  obtain ⟨_, _, _, _, _, _, _, h4⟩ := h
  exact h4
theorem SS.mark (h : SS X w0 w p r st) (hb : Below w.heap.size w w') (hY : ∀ k, Y k → X k ∨ w.heap.size ≤ k) (hYl : ∀ k, Y k → k < w'.heap.size) (hXY : ∀ k, X k → Y k) : SS Y w0 w' p r st :=
  ⟨h.one.mark hb hY hYl, (h.rm.below hb).mono hXY, h.lo⟩
theorem SS.quiet (h : SS X w0 w p r st) (hb : Below w.heap.size w w') : SS X w0 w' p r st := ⟨h.one.quiet hb, h.rm.below hb, h.lo⟩
/-- behind the program's call -/
structure SH (X : Nat → Prop) (w0 w : World) (p r : Nat) (st st' : St) : Prop where
  one : One X w0 w p st'
  rm : RM w r X st
  lo : w0.heap.size ≤ r
def RetSH (X : Nat → Prop) (w0 w : World) (p r : Nat) (st st' : St) (v : Value) (e : Ending) (w' : World) : Prop := e = .returned v ∧ SH X w0 w' p r st st' ∧ Chg (fun k => ¬ X k) w w'
theorem SS.onD (h : SS X w0 w p r st) {f : FuncId} {args : Array Value} {v : Value} (hc : ∀ F, Dk w p F st → Calls Try.prog f args w (RetDk w p F st' v)) : Calls Try.prog f args w (RetSH X w0 w p r st st' v) := by
  refine (h.one.on hc).mono ?_
  rintro e w' ⟨rfl, ho, hch⟩
  exact ⟨rfl, ⟨ho, h.rm.chg hch (fun k hk e => e hk), h.lo⟩, hch⟩
def RetSS (X : Nat → Prop) (w0 w : World) (p r : Nat) (st' : St) (v : Value) (e : Ending) (w' : World) : Prop := e = .returned v ∧ (∃ Z, SS Z w0 w' p r st' ∧ ∀ k, X k → Z k) ∧ Chg (fun k => k = r) w w'
theorem SH.onR (h : SH X w0 w p r st st') {f : FuncId} {args : Array Value} {v : Int} (hc : RM w r X st → Calls Try.prog f args w (RetRM w r X st' v)) : Calls Try.prog f args w (RetSS X w0 w p r st' (.int .i64 v)) := by
  refine (hc h.rm).mono ?_
  rintro e w' ⟨rfl, hm, hch⟩
  exact ⟨rfl, ⟨Ext X w w', ⟨h.one.ref hch h.rm.own h.lo, hm, h.lo⟩, fun k hk => .inl hk⟩, hch⟩
end
theorem sm_small {st : St} (h : Sm st) (hl : Live st) : Small st := ⟨h.sum, h.len, h.ops0, h.ops1, fun x hx => by rw [hl.due] at hx; cases hx⟩
def RetStep (X : Nat → Prop) (w0 w : World) (p r : Nat) (st' : St) (e : Ending) (w' : World) : Prop := e = .returned (.bool true) ∧ (∃ Z, SS Z w0 w' p r st' ∧ ∀ k, X k → Z k) ∧ Chg (fun k => ¬ X k ∨ k = r) w w'
set_option maxHeartbeats 4000000 in
set_option maxRecDepth 100000 in
theorem step_app (w0 w : World) (p r : Nat) (X : Nat → Prop) (st : St) (x : Sp) (h : SS X w0 w p r st) (hl : Live st) (hs : Sm st) (hr0 : 0 ≤ st.room) (hr1 : st.room ≤ 1073741824) (hbl : x.b.length ≤ 1125899906842624) (hk : x.kind = 0) :
    Calls Try.prog 23 #[ptr p, ptr r, .agg #[.int .i64 x.kind, .int .i64 x.n, .int .i64 x.keep, .int .i64 x.part, .string (bs x.a), .string (bs x.b)]] w (RetStep X w0 w p r (appSt st x.a x.b).1) := by
  rw [hk]
  obtain ⟨w1, hw1⟩ : ∃ w1, w.alloc (.cells #[.int .i64 0, .int .i64 x.n, .int .i64 x.keep, .int .i64 x.part, .string (bs x.a), .string (bs x.b)] 40) = w1 := ⟨_, rfl⟩
  have hb1 : Below w.heap.size w w1 := by rw [← hw1]; exact (Below.refl _ _).alloc (Nat.le_refl _) _
  have hs1 : w1.heap.size = w.heap.size + 1 := by rw [← hw1]; simp
  have g1 : w1.heap[w.heap.size]? = some (.cells #[.int .i64 0, .int .i64 x.n, .int .i64 x.keep, .int .i64 x.part, .string (bs x.a), .string (bs x.b)] 40 (0, 0)) := by rw [← hw1]; exact alloc_new _ _
  have hlt := h.one.lt
  obtain ⟨S0, hS0⟩ : ∃ S0, w.heap.size = S0 := ⟨_, rfl⟩
  have h1 : SS (fun k => X k ∨ k = w.heap.size) w0 w1 p r st := h.mark hb1 (fun k hk => hk.imp id (fun e => by omega)) (fun k hk => by
    rcases hk with e | e
    · exact Nat.lt_of_lt_of_le (hlt k e) hb1.size
    · omega) (fun k hk => .inl hk)
  have e0 : w1.cell? ⟨w.heap.size, 0, none⟩ = some (.int .i64 0) := by rw [cell_of_row _ _ _ _ _ _ g1]; rfl
  have e4 : w1.cell? ⟨w.heap.size, 4, none⟩ = some (.string (bs x.a)) := by rw [cell_of_row _ _ _ _ _ _ g1]; rfl
  have e5 : w1.cell? ⟨w.heap.size, 5, none⟩ = some (.string (bs x.b)) := by rw [cell_of_row _ _ _ _ _ _ g1]; rfl
  have l1 : w.heap.size < w1.heap.size := blk_lt g1
  have hrS : r ≠ w.heap.size := fun e => by have := hlt r h.rm.own; omega
  rw [hS0] at e0 e4 e5 l1 h1 hrS
  obtain ⟨st2, hst2⟩ : ∃ s, (appSt st x.a x.b).1 = s := ⟨_, rfl⟩
  obtain ⟨e2, he2⟩ : ∃ s, (appSt st x.a x.b).2 = s := ⟨_, rfl⟩
  have HAP := Lib.hid (And.intro hst2 he2)
  rw [hst2]
  have H1 := Lib.hid (h1.quiet (Below.refl _ w1).drew)
  have HDA := Lib.hid (H1.out.onD (st' := st2) (v := .int .i64 e2) (f := 14) (args := #[ptr p, .string (bs x.a), .string (bs x.b)]) (fun F hF => by
    have := append_d w1.drew p F st x.a x.b hF (sm_small hs hl) hr0 hr1 hbl
    rw [HAP.out.1, HAP.out.2] at this
    exact this))
  have HLS := Lib.hid (And.intro hl (And.intro hs (And.intro hr0 (And.intro hr1 hbl))))
  have W1 := Lib.hid hw1
  have B1 := Lib.hid hb1
  have HSZ := Lib.hid (And.intro hS0 hs1)
  have z4 := Wf.at_ (F := fun b => b ≠ S0) e4 (fun e => e rfl)
  have z5 := Wf.at_ (F := fun b => b ≠ S0) e5 (fun e => e rfl)
  have XS := Lib.hid (fun k (hk : X k) => (show k ≠ S0 from fun e => by have := hlt k hk; omega))
  clear h hw1 hb1 h1 g1 hst2 he2 hlt hl hs hr0 hr1 hbl hs1 hS0
  go_enter Try.func23, Try.ntmps23
  go_wp2_with fail
  rw [HSZ.out.1, W1.out]
  go_wp2_with fail
  refine fr.wp_region_tree (F := fun b => b ≠ S0) (.reads [0, 1, 2, 3, 4, 6, 7, 8, 9, 10] (.one 5 false (.one 11 false (.reads [12, 13] .stop)))) (by kernel_rfl) (by kernel_rfl) ?_
  refine fr.tr_reads _ (by dsimp only [pick, at_]) ?_
  repeat (go_big_quiet_step (fail))
  refine wpQuiet_nil ?_
  clear z4 z5
  refine fr.tr_one _ (by dsimp only [pick, at_]) ?_
  intro K1 g1 g2
  clear g2
  go_wp2_with (fail)
  refine HDA.out.mono ?_
  rintro e w2 ⟨rfl, hh2, hc2⟩
  have hF2 : Chg (fun b => b ≠ S0) w1 w2 := chg_trans (Chg.refl _ _).drew (hc2.mono (fun b _ e e9 => e (.inr e9)))
  have hX2 : Chg (fun k => ¬ X k ∨ k = r) w1 w2 := chg_trans (Chg.refl _ _).drew (hc2.mono (fun b _ e => .inl (fun e9 => e (.inl e9))))
  have HRA := Lib.hid (hh2.onR (v := e2) (f := 52) (args := #[ptr r, .string (bs x.a), .string (bs x.b)]) (fun hm => by
    have := append_r w2 r _ st x.a x.b hm HLS.out.1 HLS.out.2.1 (fun k hk => hh2.one.lt k hk) HLS.out.2.2.1 HLS.out.2.2.2.1 HLS.out.2.2.2.2
    rw [HAP.out.1, HAP.out.2] at this
    exact this))
  have HF2 := Lib.hid hF2
  have HX2 := Lib.hid hX2
  clear hh2 hc2 hF2 hX2 HDA
  go_wp2_with (fail)
  refine g1 _ _ HF2.out ?_
  clear g1
  refine fr.tr_one _ (by dsimp only [pick, at_]) ?_
  intro K2 g1 g2
  clear g2
  go_wp2_with (fail)
  refine HRA.out.mono ?_
  rintro e w3 ⟨rfl, ⟨Z, hz, hXZ⟩, hc3⟩
  have HF3 := Lib.hid (chg_trans HF2.out (hc3.mono (fun b _ e e9 => hrS (e ▸ e9))))
  have HX3 := Lib.hid (chg_trans HX2.out (hc3.mono (fun b _ e => .inr e)))
  have HZ := Lib.hid (And.intro hz hXZ)
  clear hz hXZ hc3 HRA
  go_wp2_with (fail)
  refine g1 _ _ HF3.out ?_
  clear g1
  refine fr.tr_reads _ (by dsimp only [pick, at_]) ?_
  repeat (go_big_quiet_step (fail))
  refine wpQuiet_nil ?_
  refine fr.tr_stop ?_
  refine NoPanic.normal ?_
  go_wp2_with (fail)
  go_ret
  exact ⟨ret_bool (by simp), ⟨Z, HZ.out.1, fun k hk => HZ.out.2 k (.inl hk)⟩, chg_below B1.out HX3.out⟩
set_option maxHeartbeats 4000000 in
set_option maxRecDepth 100000 in
theorem step_ren (w0 w : World) (p r : Nat) (X : Nat → Prop) (st : St) (x : Sp) (h : SS X w0 w p r st) (hl : Live st) (hs : Sm st) (hk : x.kind = 1) :
    Calls Try.prog 23 #[ptr p, ptr r, .agg #[.int .i64 x.kind, .int .i64 x.n, .int .i64 x.keep, .int .i64 x.part, .string (bs x.a), .string (bs x.b)]] w (RetStep X w0 w p r (renSt st x.a x.b).1) := by
  rw [hk]
  obtain ⟨w1, hw1⟩ : ∃ w1, w.alloc (.cells #[.int .i64 1, .int .i64 x.n, .int .i64 x.keep, .int .i64 x.part, .string (bs x.a), .string (bs x.b)] 40) = w1 := ⟨_, rfl⟩
  have hb1 : Below w.heap.size w w1 := by rw [← hw1]; exact (Below.refl _ _).alloc (Nat.le_refl _) _
  have hs1 : w1.heap.size = w.heap.size + 1 := by rw [← hw1]; simp
  have g1 : w1.heap[w.heap.size]? = some (.cells #[.int .i64 1, .int .i64 x.n, .int .i64 x.keep, .int .i64 x.part, .string (bs x.a), .string (bs x.b)] 40 (0, 0)) := by rw [← hw1]; exact alloc_new _ _
  have hlt := h.one.lt
  obtain ⟨S0, hS0⟩ : ∃ S0, w.heap.size = S0 := ⟨_, rfl⟩
  have h1 : SS (fun k => X k ∨ k = w.heap.size) w0 w1 p r st := h.mark hb1 (fun k hk => hk.imp id (fun e => by omega)) (fun k hk => by
    rcases hk with e | e
    · exact Nat.lt_of_lt_of_le (hlt k e) hb1.size
    · omega) (fun k hk => .inl hk)
  have e0 : w1.cell? ⟨w.heap.size, 0, none⟩ = some (.int .i64 1) := by rw [cell_of_row _ _ _ _ _ _ g1]; rfl
  have e4 : w1.cell? ⟨w.heap.size, 4, none⟩ = some (.string (bs x.a)) := by rw [cell_of_row _ _ _ _ _ _ g1]; rfl
  have e5 : w1.cell? ⟨w.heap.size, 5, none⟩ = some (.string (bs x.b)) := by rw [cell_of_row _ _ _ _ _ _ g1]; rfl
  have l1 : w.heap.size < w1.heap.size := blk_lt g1
  have hrS : r ≠ w.heap.size := fun e => by have := hlt r h.rm.own; omega
  rw [hS0] at e0 e4 e5 l1 h1 hrS
  obtain ⟨st2, hst2⟩ : ∃ s, (renSt st x.a x.b).1 = s := ⟨_, rfl⟩
  obtain ⟨e2, he2⟩ : ∃ s, (renSt st x.a x.b).2 = s := ⟨_, rfl⟩
  have HAP := Lib.hid (And.intro hst2 he2)
  rw [hst2]
  have H1 := Lib.hid (h1.quiet (Below.refl _ w1).drew)
  have HDA := Lib.hid (H1.out.onD (st' := st2) (v := .int .i64 e2) (f := 32) (args := #[ptr p, .string (bs x.a), .string (bs x.b)]) (fun F hF => by
    have := rename_d w1.drew p F st x.a x.b hF (sm_small hs hl)
    rw [HAP.out.1, HAP.out.2] at this
    exact this))
  have HLS := Lib.hid (And.intro hl hs)
  have W1 := Lib.hid hw1
  have B1 := Lib.hid hb1
  have HSZ := Lib.hid (And.intro hS0 hs1)
  have z4 := Wf.at_ (F := fun b => b ≠ S0) e4 (fun e => e rfl)
  have z5 := Wf.at_ (F := fun b => b ≠ S0) e5 (fun e => e rfl)
  have XS := Lib.hid (fun k (hk : X k) => (show k ≠ S0 from fun e => by have := hlt k hk; omega))
  clear h hw1 hb1 h1 g1 hst2 he2 hlt hl hs hs1 hS0
  go_enter Try.func23, Try.ntmps23
  go_wp2_with fail
  rw [HSZ.out.1, W1.out]
  go_wp2_with fail
  refine fr.wp_region_tree (F := fun b => b ≠ S0) (.reads [0, 1, 2, 3, 4, 6, 7, 8, 9, 10] (.one 5 false (.one 11 false (.reads [12, 13] .stop)))) (by kernel_rfl) (by kernel_rfl) ?_
  refine fr.tr_reads _ (by dsimp only [pick, at_]) ?_
  repeat (go_big_quiet_step (fail))
  refine wpQuiet_nil ?_
  clear z4 z5
  refine fr.tr_one _ (by dsimp only [pick, at_]) ?_
  intro K1 g1 g2
  clear g2
  go_wp2_with (fail)
  refine HDA.out.mono ?_
  rintro e w2 ⟨rfl, hh2, hc2⟩
  have hF2 : Chg (fun b => b ≠ S0) w1 w2 := chg_trans (Chg.refl _ _).drew (hc2.mono (fun b _ e e9 => e (.inr e9)))
  have hX2 : Chg (fun k => ¬ X k ∨ k = r) w1 w2 := chg_trans (Chg.refl _ _).drew (hc2.mono (fun b _ e => .inl (fun e9 => e (.inl e9))))
  have HRA := Lib.hid (hh2.onR (v := e2) (f := 53) (args := #[ptr r, .string (bs x.a), .string (bs x.b)]) (fun hm => by
    have := rename_r w2 r _ st x.a x.b hm HLS.out.1 HLS.out.2 (fun k hk => hh2.one.lt k hk)
    rw [HAP.out.1, HAP.out.2] at this
    exact this))
  have HF2 := Lib.hid hF2
  have HX2 := Lib.hid hX2
  clear hh2 hc2 hF2 hX2 HDA
  go_wp2_with (fail)
  refine g1 _ _ HF2.out ?_
  clear g1
  refine fr.tr_one _ (by dsimp only [pick, at_]) ?_
  intro K2 g1 g2
  clear g2
  go_wp2_with (fail)
  refine HRA.out.mono ?_
  rintro e w3 ⟨rfl, ⟨Z, hz, hXZ⟩, hc3⟩
  have HF3 := Lib.hid (chg_trans HF2.out (hc3.mono (fun b _ e e9 => hrS (e ▸ e9))))
  have HX3 := Lib.hid (chg_trans HX2.out (hc3.mono (fun b _ e => .inr e)))
  have HZ := Lib.hid (And.intro hz hXZ)
  clear hz hXZ hc3 HRA
  go_wp2_with (fail)
  refine g1 _ _ HF3.out ?_
  clear g1
  refine fr.tr_reads _ (by dsimp only [pick, at_]) ?_
  repeat (go_big_quiet_step (fail))
  refine wpQuiet_nil ?_
  refine fr.tr_stop ?_
  refine NoPanic.normal ?_
  go_wp2_with (fail)
  go_ret
  exact ⟨ret_bool (by simp), ⟨Z, HZ.out.1, fun k hk => HZ.out.2 k (.inl hk)⟩, chg_below B1.out HX3.out⟩
set_option maxHeartbeats 4000000 in
set_option maxRecDepth 100000 in
theorem step_rem (w0 w : World) (p r : Nat) (X : Nat → Prop) (st : St) (x : Sp) (h : SS X w0 w p r st) (hl : Live st) (hs : Sm st) (hk : x.kind = 2) :
    Calls Try.prog 23 #[ptr p, ptr r, .agg #[.int .i64 x.kind, .int .i64 x.n, .int .i64 x.keep, .int .i64 x.part, .string (bs x.a), .string (bs x.b)]] w (RetStep X w0 w p r (remSt st x.a).1) := by
  rw [hk]
  obtain ⟨w1, hw1⟩ : ∃ w1, w.alloc (.cells #[.int .i64 2, .int .i64 x.n, .int .i64 x.keep, .int .i64 x.part, .string (bs x.a), .string (bs x.b)] 40) = w1 := ⟨_, rfl⟩
  have hb1 : Below w.heap.size w w1 := by rw [← hw1]; exact (Below.refl _ _).alloc (Nat.le_refl _) _
  have hs1 : w1.heap.size = w.heap.size + 1 := by rw [← hw1]; simp
  have g1 : w1.heap[w.heap.size]? = some (.cells #[.int .i64 2, .int .i64 x.n, .int .i64 x.keep, .int .i64 x.part, .string (bs x.a), .string (bs x.b)] 40 (0, 0)) := by rw [← hw1]; exact alloc_new _ _
  have hlt := h.one.lt
  obtain ⟨S0, hS0⟩ : ∃ S0, w.heap.size = S0 := ⟨_, rfl⟩
  have h1 : SS (fun k => X k ∨ k = w.heap.size) w0 w1 p r st := h.mark hb1 (fun k hk => hk.imp id (fun e => by omega)) (fun k hk => by
    rcases hk with e | e
    · exact Nat.lt_of_lt_of_le (hlt k e) hb1.size
    · omega) (fun k hk => .inl hk)
  have e0 : w1.cell? ⟨w.heap.size, 0, none⟩ = some (.int .i64 2) := by rw [cell_of_row _ _ _ _ _ _ g1]; rfl
  have e4 : w1.cell? ⟨w.heap.size, 4, none⟩ = some (.string (bs x.a)) := by rw [cell_of_row _ _ _ _ _ _ g1]; rfl
  have e5 : w1.cell? ⟨w.heap.size, 5, none⟩ = some (.string (bs x.b)) := by rw [cell_of_row _ _ _ _ _ _ g1]; rfl
  have l1 : w.heap.size < w1.heap.size := blk_lt g1
  have hrS : r ≠ w.heap.size := fun e => by have := hlt r h.rm.own; omega
  rw [hS0] at e0 e4 e5 l1 h1 hrS
  obtain ⟨st2, hst2⟩ : ∃ s, (remSt st x.a).1 = s := ⟨_, rfl⟩
  obtain ⟨e2, he2⟩ : ∃ s, (remSt st x.a).2 = s := ⟨_, rfl⟩
  have HAP := Lib.hid (And.intro hst2 he2)
  rw [hst2]
  have H1 := Lib.hid (h1.quiet (Below.refl _ w1).drew)
  have HDA := Lib.hid (H1.out.onD (st' := st2) (v := .int .i64 e2) (f := 31) (args := #[ptr p, .string (bs x.a)]) (fun F hF => by
    have := remove_d w1.drew p F st x.a hF (sm_small hs hl)
    rw [HAP.out.1, HAP.out.2] at this
    exact this))
  have HLS := Lib.hid (And.intro hl hs)
  have W1 := Lib.hid hw1
  have B1 := Lib.hid hb1
  have HSZ := Lib.hid (And.intro hS0 hs1)
  have z4 := Wf.at_ (F := fun b => b ≠ S0) e4 (fun e => e rfl)
  have z5 := Wf.at_ (F := fun b => b ≠ S0) e5 (fun e => e rfl)
  have XS := Lib.hid (fun k (hk : X k) => (show k ≠ S0 from fun e => by have := hlt k hk; omega))
  clear h hw1 hb1 h1 g1 hst2 he2 hlt hl hs hs1 hS0
  go_enter Try.func23, Try.ntmps23
  go_wp2_with fail
  rw [HSZ.out.1, W1.out]
  go_wp2_with fail
  refine fr.wp_region_tree (F := fun b => b ≠ S0) (.reads [0, 1, 2, 4, 5, 6] (.one 3 false (.one 7 false (.reads [8, 9] .stop)))) (by kernel_rfl) (by kernel_rfl) ?_
  refine fr.tr_reads _ (by dsimp only [pick, at_]) ?_
  repeat (go_big_quiet_step (fail))
  refine wpQuiet_nil ?_
  clear z4 z5
  refine fr.tr_one _ (by dsimp only [pick, at_]) ?_
  intro K1 g1 g2
  clear g2
  go_wp2_with (fail)
  refine HDA.out.mono ?_
  rintro e w2 ⟨rfl, hh2, hc2⟩
  have hF2 : Chg (fun b => b ≠ S0) w1 w2 := chg_trans (Chg.refl _ _).drew (hc2.mono (fun b _ e e9 => e (.inr e9)))
  have hX2 : Chg (fun k => ¬ X k ∨ k = r) w1 w2 := chg_trans (Chg.refl _ _).drew (hc2.mono (fun b _ e => .inl (fun e9 => e (.inl e9))))
  have HRA := Lib.hid (hh2.onR (v := e2) (f := 54) (args := #[ptr r, .string (bs x.a)]) (fun hm => by
    have := remove_r w2 r _ st x.a hm HLS.out.1 HLS.out.2 (fun k hk => hh2.one.lt k hk)
    rw [HAP.out.1, HAP.out.2] at this
    exact this))
  have HF2 := Lib.hid hF2
  have HX2 := Lib.hid hX2
  clear hh2 hc2 hF2 hX2 HDA
  go_wp2_with (fail)
  refine g1 _ _ HF2.out ?_
  clear g1
  refine fr.tr_one _ (by dsimp only [pick, at_]) ?_
  intro K2 g1 g2
  clear g2
  go_wp2_with (fail)
  refine HRA.out.mono ?_
  rintro e w3 ⟨rfl, ⟨Z, hz, hXZ⟩, hc3⟩
  have HF3 := Lib.hid (chg_trans HF2.out (hc3.mono (fun b _ e e9 => hrS (e ▸ e9))))
  have HX3 := Lib.hid (chg_trans HX2.out (hc3.mono (fun b _ e => .inr e)))
  have HZ := Lib.hid (And.intro hz hXZ)
  clear hz hXZ hc3 HRA
  go_wp2_with (fail)
  refine g1 _ _ HF3.out ?_
  clear g1
  refine fr.tr_reads _ (by dsimp only [pick, at_]) ?_
  repeat (go_big_quiet_step (fail))
  refine wpQuiet_nil ?_
  refine fr.tr_stop ?_
  refine NoPanic.normal ?_
  go_wp2_with (fail)
  go_ret
  exact ⟨ret_bool (by simp), ⟨Z, HZ.out.1, fun k hk => HZ.out.2 k (.inl hk)⟩, chg_below B1.out HX3.out⟩
set_option maxHeartbeats 4000000 in
set_option maxRecDepth 100000 in
theorem step_syn (w0 w : World) (p r : Nat) (X : Nat → Prop) (st : St) (x : Sp) (h : SS X w0 w p r st) (hl : Live st) (hs : Sm st) (hk : x.kind = 3) :
    Calls Try.prog 23 #[ptr p, ptr r, .agg #[.int .i64 x.kind, .int .i64 x.n, .int .i64 x.keep, .int .i64 x.part, .string (bs x.a), .string (bs x.b)]] w (RetStep X w0 w p r (syncSt st)) := by
  rw [hk]
  obtain ⟨w1, hw1⟩ : ∃ w1, w.alloc (.cells #[.int .i64 3, .int .i64 x.n, .int .i64 x.keep, .int .i64 x.part, .string (bs x.a), .string (bs x.b)] 40) = w1 := ⟨_, rfl⟩
  have hb1 : Below w.heap.size w w1 := by rw [← hw1]; exact (Below.refl _ _).alloc (Nat.le_refl _) _
  have g1 : w1.heap[w.heap.size]? = some (.cells #[.int .i64 3, .int .i64 x.n, .int .i64 x.keep, .int .i64 x.part, .string (bs x.a), .string (bs x.b)] 40 (0, 0)) := by rw [← hw1]; exact alloc_new _ _
  have e0 : w1.cell? ⟨w.heap.size, 0, none⟩ = some (.int .i64 3) := by rw [cell_of_row _ _ _ _ _ _ g1]; rfl
  have l1 : w.heap.size < w1.heap.size := blk_lt g1
  have H1 := Lib.hid (h.quiet hb1)
  have HDA := Lib.hid (H1.out.onD (st' := syncSt st) (v := .int .i64 0) (f := 15) (args := #[ptr p]) (fun F hF => by
    have := sync_d w1 p F st hF (sm_small hs hl)
    rw [hl.doE] at this
    exact this))
  have HLS := Lib.hid (And.intro hl hs)
  have W1 := Lib.hid hw1
  have B1 := Lib.hid hb1
  clear h hw1 hb1 g1 hl hs
  go_enter Try.func23, Try.ntmps23
  go_wp2_with fail
  rw [W1.out]
  go_wp2_with fail
  refine HDA.out.mono ?_
  rintro e w2 ⟨rfl, hh2, hc2⟩
  have HRA := Lib.hid (hh2.onR (v := 0) (f := 24) (args := #[ptr r]) (fun hm => sync_r w2 r _ st hm HLS.out.1 HLS.out.2 (fun k hk => hh2.one.lt k hk)))
  have HX2 := Lib.hid (hc2.mono (S' := fun k => ¬ X k ∨ k = r) (fun b _ e => .inl e))
  clear hh2 hc2 HDA
  go_wp2_with fail
  refine HRA.out.mono ?_
  rintro e w3 ⟨rfl, ⟨Z, hz, hXZ⟩, hc3⟩
  have HX3 := Lib.hid (chg_trans HX2.out (hc3.mono (fun b _ e => .inr e)))
  have HZ := Lib.hid (And.intro hz hXZ)
  clear hz hXZ hc3 HRA
  go_wp2_with fail
  go_ret
  exact ⟨ret_bool (by simp), ⟨Z, HZ.out.1, HZ.out.2⟩, chg_below B1.out HX3.out⟩
set_option maxHeartbeats 4000000 in
set_option maxRecDepth 100000 in
theorem step_neg (w0 w : World) (p r : Nat) (X : Nat → Prop) (st : St) (x : Sp) (h : SS X w0 w p r st) (hk : x.kind < 0) :
    Calls Try.prog 23 #[ptr p, ptr r, .agg #[.int .i64 x.kind, .int .i64 x.n, .int .i64 x.keep, .int .i64 x.part, .string (bs x.a), .string (bs x.b)]] w (RetStep X w0 w p r st) := by
  obtain ⟨K, hK⟩ : ∃ K, x.kind = K := ⟨_, rfl⟩
  rw [hK] at hk ⊢
  have k0 : (K == 0) = false := by simp; omega
  have k1 : (K == 1) = false := by simp; omega
  have k2 : (K == 2) = false := by simp; omega
  have k3 : (K == 3) = false := by simp; omega
  have k4 : (K == 4) = false := by simp; omega
  have k5 : (K == 5) = false := by simp; omega
  have k6 : (K == 6) = false := by simp; omega
  obtain ⟨w1, hw1⟩ : ∃ w1, w.alloc (.cells #[.int .i64 K, .int .i64 x.n, .int .i64 x.keep, .int .i64 x.part, .string (bs x.a), .string (bs x.b)] 40) = w1 := ⟨_, rfl⟩
  have hb1 : Below w.heap.size w w1 := by rw [← hw1]; exact (Below.refl _ _).alloc (Nat.le_refl _) _
  have g1 : w1.heap[w.heap.size]? = some (.cells #[.int .i64 K, .int .i64 x.n, .int .i64 x.keep, .int .i64 x.part, .string (bs x.a), .string (bs x.b)] 40 (0, 0)) := by rw [← hw1]; exact alloc_new _ _
  have e0 : w1.cell? ⟨w.heap.size, 0, none⟩ = some (.int .i64 K) := by rw [cell_of_row _ _ _ _ _ _ g1]; rfl
  have l1 : w.heap.size < w1.heap.size := blk_lt g1
  have H1 := Lib.hid (h.quiet hb1)
  have W1 := Lib.hid hw1
  have B1 := Lib.hid hb1
  clear h hw1 hb1 g1 hK
  go_enter Try.func23, Try.ntmps23
  go_wp2_with fail
  rw [W1.out]
  go_wp2_with fail
  go_ret
  exact ⟨rfl, ⟨X, H1.out, fun _ hk => hk⟩, (Chg.of_below B1.out).mono (fun _ _ e => e.elim)⟩
/-- a step of kind 0 to 3, or none -/
theorem step_s (w0 w : World) (p r : Nat) (X : Nat → Prop) (st : St) (x : Sp) (h : SS X w0 w p r st) (hl : Live st) (hs : Sm st) (hr0 : 0 ≤ st.room) (hr1 : st.room ≤ 1073741824) (hbl : x.b.length ≤ 1125899906842624) (hk : x.kind < 4) :
    Calls Try.prog 23 #[ptr p, ptr r, .agg #[.int .i64 x.kind, .int .i64 x.n, .int .i64 x.keep, .int .i64 x.part, .string (bs x.a), .string (bs x.b)]] w (RetStep X w0 w p r (stepSt st x)) := by
  unfold stepSt
  split
  · exact step_app w0 w p r X st x h hl hs hr0 hr1 hbl ‹_›
  · split
    · exact step_ren w0 w p r X st x h hl hs ‹_›
    · split
      · exact step_rem w0 w p r X st x h hl hs ‹_›
      · split
        · exact step_syn w0 w p r X st x h hl hs ‹_›
        · exact step_neg w0 w p r X st x h (by omega)
end Go.Proofs.Ytmnliieiiaedeaa.dk
