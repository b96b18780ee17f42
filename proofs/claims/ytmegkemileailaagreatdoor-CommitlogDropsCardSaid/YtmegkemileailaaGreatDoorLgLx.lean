/-
  The log and its disk apart from X: whatever lists lie in X stay.
-/
import Derived.Test.YtmegkemileailaaGreatDoorLgC
namespace Go.Proofs.YtmegkemileailaaGreatDoor.lg
open Go.ChangeShapes Go.WideShapes Go.ChangeAt Go.RowKit Go.Shelf Go.Maps Go.Sort plain words ord mem al cl uvs dk

structure LX (X : Nat → Prop) (w0 w : World) (p bl N : Nat) (st : St) : Prop where
  disk : ∃ F, Dk w p F st ∧ (∀ k, F k → w0.heap.size ≤ k ∧ k ≠ bl ∧ ¬ X k)
  lg : Lg w bl p N
  bel : Below w0.heap.size w0 w
  hi : w0.heap.size ≤ bl
  lt : ∀ k, X k → k < w.heap.size ∧ k ≠ bl
def RetX (X : Nat → Prop) (w0 w : World) (p bl N : Nat) (st : St) (r : Value) (e : Ending) (w' : World) : Prop := e = .returned r ∧ LX X w0 w' p bl N st ∧ Chg (fun k => ¬ X k) w w'
section
variable {X Y : Nat → Prop} {w0 w w' : World} {p bl N : Nat} {st st' : St}
theorem LW.lx {v : Value} {m : Nat} {want : List Rec} (h : LW w0 w p bl N st v m want) : LX (fun k => v.ownBlock = some k) w0 w p bl N st := by
  obtain ⟨F, h1, h2⟩ := h.disk
  exact ⟨⟨F, h1, h2⟩, h.lg, h.bel, h.hi, fun k e => ⟨h.ow.lt e, fun e9 => h.ne (e9 ▸ e)⟩⟩
theorem LX.quiet (h : LX X w0 w p bl N st) (hb : Below w.heap.size w w') : LX X w0 w' p bl N st := by
  obtain ⟨F, h1, h2⟩ := h.disk
  exact ⟨⟨F, h1.chg (Chg.of_below hb) (fun _ _ e => e), h2⟩, blk_below hb h.lg (blk_lt h.lg), h.bel.trans (hb.mono h.bel.size), h.hi, fun k e => ⟨Nat.lt_of_lt_of_le (h.lt k e).1 hb.size, (h.lt k e).2⟩⟩
/-- new blocks are marked, too -/
theorem LX.mark (h : LX X w0 w p bl N st) (hb : Below w.heap.size w w') (hY : ∀ k, Y k → X k ∨ w.heap.size ≤ k) (hl : ∀ k, Y k → k < w'.heap.size) : LX Y w0 w' p bl N st := by
  obtain ⟨F, h1, h2⟩ := h.disk
  have hbl := blk_lt h.lg
  refine ⟨⟨F, h1.chg (Chg.of_below hb) (fun _ _ e => e), fun k hk => ⟨(h2 k hk).1, (h2 k hk).2.1, fun e => ?_⟩⟩, blk_below hb h.lg hbl, h.bel.trans (hb.mono h.bel.size), h.hi, fun k e => ⟨hl k e, fun e9 => ?_⟩⟩
  · rcases hY k e with e | e
    · exact (h2 k hk).2.2 e
    · have := h1.lt k hk; omega
  · rcases hY k e with e | e
    · exact (h.lt k e).2 e9
    · omega
/-- a row of X grows -/
theorem LX.app {o : Option Nat} (h : LX X w0 w p bl N st) (hg : w.grownBy w' o) (ho : ∀ k, o = some k → X k) (h0 : ∀ k, X k → w0.heap.size ≤ k) (hY : ∀ k, Y k → X k ∨ k = w.heap.size) (hl : ∀ k, Y k → k < w'.heap.size) : LX Y w0 w' p bl N st := by
  obtain ⟨F, h1, h2⟩ := h.disk
  have hbl := blk_lt h.lg
  have hc : Chg (fun k => o = some k) w w' := (Chg.refl _ _).grown hg (fun k hk _ => hk)
  refine ⟨⟨F, h1.chg hc (fun k hk e => (h2 k hk).2.2 (ho k e)), fun k hk => ⟨(h2 k hk).1, (h2 k hk).2.1, fun e => ?_⟩⟩, h.lg.chg hc (fun e => (h.lt bl (ho bl e)).2 rfl), h.bel.grown hg h.bel.size (fun k e => h0 k (ho k e)), h.hi, fun k e => ⟨hl k e, fun e9 => ?_⟩⟩
  · rcases hY k e with e | e
    · exact (h2 k hk).2.2 e
    · have := h1.lt k hk; omega
  · rcases hY k e with e | e
    · exact (h.lt k e).2 e9
    · omega
theorem LX.on (h : LX X w0 w p bl N st) {f : FuncId} {args : Array Value} {r : Value} (hc : ∀ F, Dk w p F st → Calls Tryz.prog f args w (RetDk w p F st' r)) : Calls Tryz.prog f args w (RetX X w0 w p bl N st' r) := by
  obtain ⟨F, h1, h2⟩ := h.disk
  refine (hc F h1).mono ?_
  rintro e w' ⟨rfl, hd, hch⟩
  have hs := hch.size
  have hs0 := h.bel.size
  have hbl := blk_lt h.lg
  refine ⟨rfl, ⟨⟨_, hd, fun k hk => ?_⟩, h.lg.chg hch (fun e => (h2 bl e).2.1 rfl), h.bel.trans (hch.below hs0 (fun k e => (h2 k e).1)), h.hi, fun k e => ⟨Nat.lt_of_lt_of_le (h.lt k e).1 hs, (h.lt k e).2⟩⟩, hch.mono fun k _ e => (h2 k e).2.2⟩
  rcases hk with e | e
  · exact h2 k e
  · exact ⟨by omega, by omega, fun e9 => by have := (h.lt k e9).1; omega⟩
theorem LX.write (h : LX X w0 w p bl N st) (hl : LayS w0) (r : Rec) (hnum : cl.Num r) (hid : r.id.length ≤ 9223372036854775807) (hN : N < 1000000000) (hs : Small st) (hs2 : err r = 0 → Small (appSt st (lname N) (enc r)).1) (hr0 : 0 ≤ st.room) (hr1 : st.room ≤ 1073741824) :
    Calls Tryz.prog 12 #[ptr bl, .agg #[.int .i64 r.sp, .string (tx r.id), .int .i64 r.t, .int .u64 r.v, .int .u64 r.s]] w (RetX X w0 w p bl (wr st N r).2.1 (wr st N r).1 (.int .i64 (wr st N r).2.2)) := by
  obtain ⟨F, h1, h2⟩ := h.disk
  refine (write_x w0 w bl p N F st r h1 h.lg (fun e => (h2 bl e).2.1 rfl) hl h.bel (fun k hk => (h2 k hk).1) hnum hid hN hs hs2 hr0 hr1).mono ?_
  rintro e w' ⟨rfl, hd, hg, hc⟩
  have hsz := hc.size
  have hb0 := h.bel.size
  have hbl := blk_lt h.lg
  refine ⟨rfl, ⟨⟨_, hd, fun k hk => ?_⟩, hg, h.bel.trans (hc.below hb0 (fun k e => ?_)), h.hi, fun k e => ⟨Nat.lt_of_lt_of_le (h.lt k e).1 hsz, (h.lt k e).2⟩⟩, hc.mono fun k _ e => ?_⟩
  · rcases hk with e | e
    · exact h2 k e
    · exact ⟨by omega, by omega, fun e9 => by have := (h.lt k e9).1; omega⟩
  · rcases e with e | e
    · exact (h2 k e).1
    · rw [e]; exact h.hi
  · rcases e with e | e
    · exact (h2 k e).2.2
    · exact fun e9 => (h.lt k e9).2 e
theorem LX.open_ (h : LX X w0 w p bl N st) (hl : LayS w0) (hf : fsum st.shown ≤ 4194304) (hfew : st.shown.length ≤ 65536) :
    Calls Tryz.prog 9 #[ptr p] w fun e w' => ∃ bl' A n c, e = .returned (.tuple #[ptr bl', .slice A n c]) ∧ LX (fun k => X k ∨ (Value.slice A n c).ownBlock = some k) w0 w' p bl N st ∧ Ow RE w' w.heap.size (.slice A n c) n (told st.shown) ∧ Chg (fun k => ¬ X k) w w' := by
  obtain ⟨F, h1, h2⟩ := h.disk
  refine (open_x w0 w p F st h1 hl h.bel (fun k hk => (h2 k hk).1) hf hfew).mono ?_
  rintro e w' ⟨bl', A, n, c, rfl, hbl, hg, ho, hd, hc⟩
  have hb0 := h.bel.size
  have hs := hc.size
  have hbl := blk_lt h.lg
  refine ⟨bl', A, n, c, rfl, ⟨⟨F, hd, fun k hk => ⟨(h2 k hk).1, (h2 k hk).2.1, fun e => ?_⟩⟩, h.lg.chg hc (fun e => (h2 bl e).2.1 rfl), h.bel.trans (hc.below hb0 (fun k e => (h2 k e).1)), h.hi, fun k e => ?_⟩, ho, hc.mono fun k _ e => (h2 k e).2.2⟩
  · rcases e with e | e
    · exact (h2 k hk).2.2 e
    · have := (ho.lt k e).1; have := h1.lt k hk; omega
  · rcases e with e | e
    · exact ⟨Nat.lt_of_lt_of_le (h.lt k e).1 hs, (h.lt k e).2⟩
    · exact ⟨(ho.lt k e).2, by have := (ho.lt k e).1; omega⟩
end
end Go.Proofs.YtmegkemileailaaGreatDoor.lg
