/-
  The document's disk, in a state, among marked blocks: Append, Rename, Remove, Sync, New.
-/
import Derived.Test.YtmnliieiiaedeaaRd8
namespace Go.Proofs.Ytmnliieiiaedeaa.dk
open Go.ChangeShapes Go.WideShapes Go.ChangeAt Go.RowKit Go.Maps Go.Sort Go.Shelf plain words ord mem al

/-- the document's disk at block r is in state st; its blocks are among X -/
def RM (w : World) (r : Nat) (X : Nat → Prop) (st : St) : Prop :=
  ∃ A c A2 c2, Rk w r st.room A c st.last A2 c2 st.pend st.ops ∧ (∀ a, A = some a → X a.block ∧ a.block ≠ r) ∧ (∀ a, A2 = some a → X a.block ∧ a.block ≠ r) ∧ X r
def RetRM (w : World) (r : Nat) (X : Nat → Prop) (st : St) (v : Int) (e : Ending) (w' : World) : Prop :=
  e = .returned (.int .i64 v) ∧ RM w' r (Ext X w w') st ∧ Chg (fun k => k = r) w w'
section
variable {w w' : World} {r : Nat} {X Y : Nat → Prop} {st : St}
theorem RM.chg {S : Nat → Prop} (h : RM w r X st) (hc : Chg S w w') (hS : ∀ k, X k → ¬ S k) : RM w' r X st := by
  obtain ⟨A, c, A2, c2, h1, h2, h3, h4⟩ := h
  exact ⟨A, c, A2, c2, h1.chg hc (hS _ h4) (fun a e => hS _ (h2 a e).1) (fun a e => hS _ (h3 a e).1), h2, h3, h4⟩
theorem RM.mono (h : RM w r X st) (hs : ∀ k, X k → Y k) : RM w r Y st := by
  obtain ⟨A, c, A2, c2, h1, h2, h3, h4⟩ := h
  exact ⟨A, c, A2, c2, h1, fun a e => ⟨hs _ (h2 a e).1, (h2 a e).2⟩, fun a e => ⟨hs _ (h3 a e).1, (h3 a e).2⟩, hs _ h4⟩
theorem RM.below (h : RM w r X st) (hb : Below w.heap.size w w') : RM w' r X st := h.chg (Chg.of_below hb) (fun _ _ e => e)
theorem RetRM.same (h : RM w r X st) (hb : Below w.heap.size w w') (v : Int) : RetRM w r X st v (.returned (.int .i64 v)) w' :=
  ⟨rfl, (h.below hb).mono (fun _ hk => .inl hk), (Chg.of_below hb).mono (fun _ _ e => e.elim)⟩
end
/-- small enough for the machine's numbers -/
structure Sm (st : St) : Prop where
  sum : fsum st.last + sumc st.pend ≤ 536870912
  len : st.last.length + st.pend.length ≤ 536870912
  ops0 : 0 ≤ st.ops
  ops1 : st.ops < 4611686018427387904
theorem chg_below {S : Nat → Prop} {w w1 w2 : World} (hb : Below w.heap.size w w1) (hc : Chg S w1 w2) : Chg S w w2 :=
  ((Chg.of_below hb).mono (S' := S) (fun _ _ e => e.elim)).trans hc (fun _ _ e => e)
/-- a change that is made -/
theorem change_r (w : World) (r : Nat) (X : Nat → Prop) (st : St) (x : Chn) (h : RM w r X st) (hs : Sm st) (hX : ∀ k, X k → k < w.heap.size) :
    Calls Try.prog 74 #[ptr r, .agg #[.int .i64 (chK x), .string (bs (chA x)), .string (bs (chB x))]] w (RetRM w r X (more st x) 0) := by
  obtain ⟨A, c, A2, c2, h1, h2, h3, h4⟩ := h
  refine (change_y w r st.room A c st.last A2 c2 st.pend st.ops x h1 (fun a e => (h2 a e).2) (fun a e => (h3 a e).2) hs.ops0 hs.ops1 (by have := hs.len; omega)).mono ?_
  rintro e w' ⟨A3, c3, rfl, hk, hc, hat⟩
  have hr := hX r h4
  refine ⟨rfl, ⟨A, c, A3, c3, hk, fun a e => ⟨.inl (h2 a e).1, (h2 a e).2⟩, fun a e => ?_, .inl h4⟩, hc⟩
  have h9 := hat a e
  subst e
  have hl : a.block < w'.heap.size := by
    obtain ⟨b, off, eq, hb, _⟩ := che_at hk.ch (i := 0) (x := (st.pend ++ [x])[0]'(by simp)) (List.getElem?_eq_getElem _)
    injection eq with eq
    rw [eq]
    exact hb
  exact ⟨.inr ⟨h9, hl⟩, by omega⟩
theorem RetRM.after {w w1 w' : World} {r : Nat} {X : Nat → Prop} {st : St} {v : Int} {e : Ending} (h : RetRM w1 r X st v e w') (hb : Below w.heap.size w w1) : RetRM w r X st v e w' := by
  obtain ⟨h1, h2, h3⟩ := h
  have := hb.size
  exact ⟨h1, h2.mono fun k hk => hk.imp id (fun e => ⟨by omega, e.2⟩), chg_below hb h3⟩
set_option maxHeartbeats 2000000 in
set_option maxRecDepth 100000 in
theorem append_r (w : World) (r : Nat) (X : Nat → Prop) (st : St) (a b : Nm) (h : RM w r X st) (hl : Live st) (hs : Sm st) (hX : ∀ k, X k → k < w.heap.size) (hr0 : 0 ≤ st.room) (hr1 : st.room ≤ 1073741824) (hbl : b.length ≤ 1125899906842624) :
    Calls Try.prog 52 #[ptr r, .string (bs a), .string (bs b)] w (RetRM w r X (appSt st a b).1 (appSt st a b).2) := by
  have HM := Lib.hid (may_y w a)
  have H := Lib.hid h
  have HS := Lib.hid hs
  have HX := Lib.hid hX
  cases hok : okn a with
  | false =>
    rw [app_name hok]
    rw [hok] at HM
    clear hok h hs hX hl
    go_enter Try.func52, Try.ntmps52
    go_wp2_with fail
    refine HM.out.mono ?_
    rintro e w1 ⟨rfl, hb1⟩
    have B1 := Lib.hid hb1
    clear hb1 HM
    go_wp2_with fail
    go_ret
    exact RetRM.same H.out B1.out _
  | true =>
    rw [hok] at HM
    have HU := Lib.hid (fun u (hu : Below w.heap.size w u) => show ∃ room, u.cell? ⟨r, 0, none⟩ = some (.int .i64 room) ∧ room = st.room ∧ r < u.heap.size ∧ Calls Try.prog 73 #[ptr r] u.drew fun e w' => e = .returned (.int .i64 (fsum st.shown : Nat)) ∧ Below u.drew.heap.size u.drew w' from by
      obtain ⟨A, c, A2, c2, k1, _⟩ := H.out.below hu
      exact ⟨st.room, (rk_cells k1).1, rfl, blk_lt k1.blk, used_y u.drew r st.room A c st.last A2 c2 st.pend st.ops (k1.below (Below.refl _ _).drew) (by have := HS.out.sum; omega) (by have := HS.out.len; omega)⟩)
    have hsum := fold_sum (ls := st.last) (by obtain ⟨A, c, A2, c2, k1, _⟩ := H.out; exact k1.srt) st.pend
    have hU : fsum st.shown ≤ 536870912 := by have := HS.out.sum; unfold St.shown; omega
    obtain ⟨U, hUe⟩ : ∃ U, fsum st.shown = U := ⟨_, rfl⟩
    have hbz := bs_size b
    have hwr : IntKind.i64.wrap (st.room - (U : Int)) = st.room - (U : Int) := IntWalk.i64_in _ (by omega)
    obtain ⟨L, hL⟩ : ∃ L, b.length = L := ⟨_, rfl⟩
    rw [hL] at hbz hbl
    rw [hUe] at hU HU
    by_cases hf : st.room < (U : Int) + (L : Int)
    · rw [app_full hok (by rw [hUe, hL]; exact hf)]
      have hf2 : st.room - (U : Int) < (L : Int) := by omega
      obtain ⟨sb, hsb⟩ : ∃ sb, bs b = sb := ⟨_, rfl⟩
      rw [hsb] at hbz ⊢
      clear hok h hs hX hl hsum hUe hL hf hsb
      go_enter Try.func52, Try.ntmps52
      go_wp2_with fail
      refine HM.out.mono ?_
      rintro e w1 ⟨rfl, hb1⟩
      obtain ⟨room, q0, hroom, lr, hus⟩ := HU.out w1 hb1
      have B1 := Lib.hid hb1
      have HUS := Lib.hid hus
      have z0 := Wb.at_ q0
      subst hroom
      clear hb1 HM hus
      go_wp2_with fail
      refine wp_region_plan [([0, 1, 2, 3, 4, 5, 6], some (7, false)), ([8, 9], none)] (by kernel_rfl) (by kernel_rfl) ?_
      refine seg_act _ (by dsimp only [pick, at_]) _ (by dsimp only [pick, at_]) ?_
      repeat (go_big_quiet_step (fail))
      refine wpQuiet_nil ?_
      intro K1 g1 g2
      clear g1 z0
      go_wp2_with (fail)
      refine HUS.out.mono ?_
      rintro e w2 ⟨rfl, hb2⟩
      have b2 : Below w1.heap.size w1 w2 := ((Below.refl _ w1).drew).trans hb2
      have B2 := Lib.hid (B1.out.trans (b2.mono B1.out.size))
      clear hb2 HUS
      go_wp2_with (fail)
      refine g2 _ _ b2 ?_
      clear g2 b2
      refine seg_end _ (by dsimp only [pick, at_]) ?_
      repeat (go_big_quiet_step (fail))
      refine wpQuiet_nil (NoPanic.normal ?_)
      go_wp2_with fail
      go_ret
      exact RetRM.same H.out B2.out _
    · rw [app_do hl hok (by rw [hUe, hL]; exact hf)]
      have hf2 : ¬ st.room - (U : Int) < (L : Int) := by omega
      have HCH := Lib.hid (fun u (hu : Below w.heap.size w u) => (change_r u r X st (.app a b) (H.out.below hu) HS.out (fun k hk => Nat.lt_of_lt_of_le (HX.out k hk) hu.size)))
      simp only [chK, chA, chB] at HCH
      obtain ⟨sb, hsb⟩ : ∃ sb, bs b = sb := ⟨_, rfl⟩
      rw [hsb] at hbz HCH ⊢
      clear hok h hs hX hl hsum hUe hL hf hsb
      go_enter Try.func52, Try.ntmps52
      go_wp2_with fail
      refine HM.out.mono ?_
      rintro e w1 ⟨rfl, hb1⟩
      obtain ⟨room, q0, hroom, lr, hus⟩ := HU.out w1 hb1
      have B1 := Lib.hid hb1
      have HUS := Lib.hid hus
      have z0 := Wb.at_ q0
      subst hroom
      clear hb1 HM hus
      go_wp2_with fail
      refine wp_region_plan [([0, 1, 2, 3, 4, 5, 6], some (7, false)), ([8, 9], none)] (by kernel_rfl) (by kernel_rfl) ?_
      refine seg_act _ (by dsimp only [pick, at_]) _ (by dsimp only [pick, at_]) ?_
      repeat (go_big_quiet_step (fail))
      refine wpQuiet_nil ?_
      intro K1 g1 g2
      clear g1 z0
      go_wp2_with (fail)
      refine HUS.out.mono ?_
      rintro e w2 ⟨rfl, hb2⟩
      have b2 : Below w1.heap.size w1 w2 := ((Below.refl _ w1).drew).trans hb2
      have B2 := Lib.hid (B1.out.trans (b2.mono B1.out.size))
      clear hb2 HUS
      go_wp2_with (fail)
      refine g2 _ _ b2 ?_
      clear g2 b2
      refine seg_end _ (by dsimp only [pick, at_]) ?_
      repeat (go_big_quiet_step (fail))
      refine wpQuiet_nil (NoPanic.normal ?_)
      have HC2 := Lib.hid (HCH.out w2 B2.out)
      go_wp2_with fail
      refine HC2.out.mono ?_
      rintro e w3 hr3
      have R3 := Lib.hid (hr3.after B2.out)
      obtain ⟨rfl, _⟩ := hr3
      clear HC2
      go_wp2_with fail
      go_ret
      exact R3.out
end Go.Proofs.Ytmnliieiiaedeaa.dk
