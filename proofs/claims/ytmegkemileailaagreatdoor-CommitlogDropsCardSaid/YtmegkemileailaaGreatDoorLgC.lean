/-
  The program's Write, Rotate, Number.
-/
import Derived.Test.YtmegkemileailaaGreatDoorLgOp
import Derived.Test.YtmegkemileailaaGreatDoorClE
import Derived.Test.YtmegkemileailaaGreatDoorClOf
import Derived.Test.YtmegkemileailaaGreatDoorDkB
import Derived.Test.YtmegkemileailaaGreatDoorClTorn
import Derived.Test.YtmegkemileailaaGreatDoorClSm
import Derived.Test.YtmegkemileailaaGreatDoorClEY
namespace Go.Proofs.YtmegkemileailaaGreatDoor.lg
open Go.ChangeShapes Go.WideShapes Go.ChangeAt Go.RowKit Go.Shelf Go.Maps Go.Sort plain words ord mem al cl uvs dk

/-- the log as memory: its disk, its number -/
def Lg (w : World) (bl p N : Nat) : Prop := w.heap[bl]? = some (.cells #[ptr p, .int .i64 (N : Nat)] 68 (0, 0))
theorem Lg.chg {S : Nat → Prop} {w w' : World} {bl p N : Nat} (h : Lg w bl p N) (hc : Chg S w w') (hn : ¬ S bl) : Lg w' bl p N := hc.blk h hn
/-- behind an Append that answered e -/
def wr2 (st : St) (N : Nat) (e : Int) : St × Nat × Int := if e = 0 then (syncSt st, if doE st = 0 then N else N + 1, doE st) else (st, N + 1, e)
/-- a Write -/
def wr (st : St) (N : Nat) (r : Rec) : St × Nat × Int := if err r = 0 then wr2 (appSt st (lname N) (enc r)).1 N (appSt st (lname N) (enc r)).2 else (st, N, err r)
theorem number_x (w : World) (bl p N : Nat) (h : Lg w bl p N) : Calls Tryz.prog 15 #[ptr bl] w fun e w' => e = .returned (.int .i64 (N : Nat)) ∧ w' = w := by
  have c1 : w.cell? ⟨bl, 1, none⟩ = some (.int .i64 (N : Nat)) := by rw [cell_of_row _ _ _ _ _ _ h]; rfl
  have l1 := blk_lt h
  clear h
  go_enter Tryz.func15, Tryz.ntmps15
  go_wp2_with (fail)
  go_ret
  exact ⟨rfl, rfl⟩
def RetLg (w : World) (bl p N : Nat) (r : Value) (e : Ending) (w' : World) : Prop := e = .returned r ∧ Lg w' bl p N ∧ Chg (fun k => k = bl) w w'
theorem rotate_x (w : World) (bl p N : Nat) (h : Lg w bl p N) (hN : N < 1000000000) : Calls Tryz.prog 14 #[ptr bl] w (RetLg w bl p (N + 1) (.int .i64 ((N : Int) + 1))) := by
  have c1 : w.cell? ⟨bl, 1, none⟩ = some (.int .i64 (N : Nat)) := by rw [cell_of_row _ _ _ _ _ _ h]; rfl
  have f1 := frozen_of_row _ _ 1 _ _ h
  have l1 := blk_lt h
  have HH := Lib.hid h
  have hw : IntKind.i64.wrap ((N : Int) + 1) = (N : Int) + 1 := IntWalk.i64_in _ (by omega)
  clear h
  go_enter Tryz.func14, Tryz.ntmps14
  go_wp2_with (fail)
  go_ret
  refine ⟨rfl, ?_, (Chg.refl (fun k => k = bl) _).setCell (p := ⟨bl, 1, none⟩) (fun _ => rfl) _⟩
  have h1 := setp_obj (o := 1) (u := .int .i64 ((N : Int) + 1)) HH.out
  unfold Lg
  rw [h1]
  simp
/-- what a call on the log's disk leaves -/
def RetW (w : World) (bl p : Nat) (F : Nat → Prop) (st : St) (N : Nat) (r : Value) (e : Ending) (w' : World) : Prop := e = .returned r ∧ Dk w' p (Ext F w w') st ∧ Lg w' bl p N ∧ Chg (fun k => F k ∨ k = bl) w w'
theorem enc_le {r : Rec} (g : cl.Good r) : (enc r).length ≤ 200 := by
  obtain ⟨h1, h2⟩ := body_len g
  unfold enc
  have := uv_len (body r).length
  simp only [List.length_append, be_len]
  omega
set_option maxHeartbeats 4000000 in
set_option maxRecDepth 100000 in
theorem write_x (w0 w : World) (bl p N : Nat) (F : Nat → Prop) (st : St) (r : Rec) (hd : Dk w p F st) (hlg : Lg w bl p N) (hbl : ¬ F bl) (hl : LayS w0) (hb0 : Below w0.heap.size w0 w) (hF0 : ∀ k, F k → w0.heap.size ≤ k)
    (hnum : cl.Num r) (hid : r.id.length ≤ 9223372036854775807) (hN : N < 1000000000) (hs : Small st) (hs2 : err r = 0 → Small (appSt st (lname N) (enc r)).1) (hr0 : 0 ≤ st.room) (hr1 : st.room ≤ 1073741824) :
    Calls Tryz.prog 12 #[ptr bl, .agg #[.int .i64 r.sp, .string (tx r.id), .int .i64 r.t, .int .u64 r.v, .int .u64 r.s]] w (RetW w bl p F (wr st N r).1 (wr st N r).2.1 (.int .i64 (wr st N r).2.2)) := by
  obtain ⟨w1, hw1⟩ : ∃ w1, w.alloc (.cells #[.int .i64 r.sp, .string (tx r.id), .int .i64 r.t, .int .u64 r.v, .int .u64 r.s] 36) = w1 := ⟨_, rfl⟩
  have hb1 : Below w.heap.size w w1 := by rw [← hw1]; exact (Below.refl _ _).alloc (Nat.le_refl _) _
  have g1 : w1.heap[w.heap.size]? = some (.cells #[.int .i64 r.sp, .string (tx r.id), .int .i64 r.t, .int .u64 r.v, .int .u64 r.s] 36 (0, 0)) := by rw [← hw1]; exact alloc_new _ _
  obtain ⟨c0, c1, c2, c3, c4⟩ : w1.cell? ⟨w.heap.size, 0, none⟩ = some (.int .i64 r.sp) ∧ w1.cell? ⟨w.heap.size, 1, none⟩ = some (.string (tx r.id)) ∧ w1.cell? ⟨w.heap.size, 2, none⟩ = some (.int .i64 r.t) ∧ w1.cell? ⟨w.heap.size, 3, none⟩ = some (.int .u64 r.v) ∧ w1.cell? ⟨w.heap.size, 4, none⟩ = some (.int .u64 r.s) := by
    refine ⟨?_, ?_, ?_, ?_, ?_⟩ <;> (rw [cell_of_row _ _ _ _ _ _ g1]; rfl)
  have ls := blk_lt g1
  have HENC := Lib.hid (encode_x w1 r hnum hid)
  obtain ⟨E, hE⟩ : ∃ E, err r = E := ⟨_, rfl⟩
  obtain ⟨X, hX⟩ : ∃ X, encB r = X := ⟨_, rfl⟩
  obtain ⟨lx, hlx⟩ : ∃ k, X.length = k := ⟨_, rfl⟩
  unfold RetEnc at HENC
  rw [hE, hX, hlx] at HENC
  have HLT := Lib.hid hd.lt
  have HD := Lib.hid hd
  have HG := Lib.hid hlg
  have HB := Lib.hid hbl
  have HL := Lib.hid hl
  have HB0 := Lib.hid hb0
  have HF0 := Lib.hid hF0
  have HS := Lib.hid hs
  have HS2 := Lib.hid hs2
  have HW1 := Lib.hid hw1
  have HB1 := Lib.hid hb1
  have HX := Lib.hid (And.intro hE (And.intro hX hlx))
  clear hd hlg hbl hl hb0 hF0 hs hs2 hw1 hb1 g1 hE hX hlx hnum hid
  by_cases hE0 : E = 0
  · subst hE0
    have hwr : wr st N r = wr2 (appSt st (lname N) (enc r)).1 N (appSt st (lname N) (enc r)).2 := by unfold wr; rw [if_pos HX.out.1]
    have hXe : X = enc r := by rw [← HX.out.2.1]; exact encB_ok HX.out.1
    have HXE := Lib.hid hXe
    have hlx2 : lx ≤ 200 := by rw [← HX.out.2.2, hXe]; exact enc_le (good_of HX.out.1)
    rw [hwr]
    obtain ⟨st2, hst2⟩ : ∃ s, (appSt st (lname N) (enc r)).1 = s := ⟨_, rfl⟩
    obtain ⟨e2, he2⟩ : ∃ s, (appSt st (lname N) (enc r)).2 = s := ⟨_, rfl⟩
    rw [hst2, he2]
    have HS2' := Lib.hid (HS2.out HX.out.1)
    rw [hst2] at HS2'
    have HAP := Lib.hid (And.intro hst2 he2)
    clear hwr hXe hst2 he2 HS2
    go_enter Tryz.func12, Tryz.ntmps12
    go_wp2_with (fail)
    rw [HW1.out]
    refine HENC.out.mono ?_
    rintro e w2 ⟨A, c, rfl, hown, hb2, hnil⟩
    have B2 := Lib.hid (HB1.out.trans (hb2.mono HB1.out.size))
    have hs2 := B2.out.size
    have gl := blk_below B2.out HG.out (blk_lt HG.out)
    have q0 : w2.cell? ⟨bl, 0, none⟩ = some (ptr p) := by rw [cell_of_row _ _ _ _ _ _ gl]; rfl
    have q1 : w2.cell? ⟨bl, 1, none⟩ = some (.int .i64 (N : Nat)) := by rw [cell_of_row _ _ _ _ _ _ gl]; rfl
    have lb := blk_lt gl
    have hd2 := Lib.hid (HD.out.chg (Chg.of_below B2.out) (fun _ _ e => e))
    have GL := Lib.hid gl
    have hbx := Lib.hid (own_bs hown)
    have k1 : ∀ u : Wb w2, (convert 28 9 (.slice A lx c)).run Tryz.prog u.w = .ok (.string (tx X)) u.w := fun u => conv_string (P := Tryz.prog) (c := c) (hbx.out.below u.2 (Nat.le_refl _)) 28 9 5 Tryz.underlying28 Tryz.underlying9 Tryz.underlying5
    have z0 := Wb.at_ q0
    have z1 := Wb.at_ q1
    clear hown hb2 hnil gl c0 c1 c2 c3 c4 q0 q1
    have HNM := Lib.hid (named_x w2.drew ((HL.out.below (HB0.out.trans (B2.out.mono HB0.out.size))).drew) N (by omega))
    go_wp2_with (fail)
    refine wp_region_plan [([0, 1, 2, 3, 4, 5, 6, 7, 9, 10], some (8, false)), ([], some (11, true)), ([12], none)] (by kernel_rfl) (by kernel_rfl) ?_
    refine seg_act _ (by dsimp only [pick, at_]) _ (by dsimp only [pick, at_]) ?_
    repeat (go_big_quiet_step (fail))
    refine wpQuiet_nil ?_
    intro K1 h1 h2
    clear h1 z0 z1 k1
    go_wp2_with (fail)
    refine HNM.out.mono ?_
    rintro e w3 ⟨rfl, hb3⟩
    have b23 : Below w2.heap.size w2 w3 := ((Below.refl _ w2).drew).trans hb3
    have B3 := Lib.hid (B2.out.trans (b23.mono hs2))
    have HAPP := Lib.hid (append_d w3 p F st (lname N) (enc r) (hd2.out.chg (Chg.of_below b23) (fun _ _ e => e)) HS.out hr0 hr1 (by rw [← HXE.out, HX.out.2.2]; omega))
    rw [HAP.out.1, HAP.out.2, ← HXE.out] at HAPP
    go_wp2_with (fail)
    refine h2 _ _ b23 ?_
    clear h2 hb3 b23 HNM
    refine seg_write _ (by dsimp only [pick, at_]) _ (by dsimp only [pick, at_]) ?_
    refine wpQuiet_nil ?_
    intro K2 g1
    go_wp2_with (fail)
    refine HAPP.out.mono ?_
    rintro e w4 ⟨rfl, hd4, hc4⟩
    go_wp2_with (fail)
    refine seg_end _ (by dsimp only [pick, at_]) ?_
    repeat (go_big_quiet_step (fail))
    refine wpQuiet_nil (NoPanic.normal ?_)
    have hs3 := B3.out.size
    have hs4 := hc4.size
    have gl4 : w4.heap[bl]? = some (.cells #[ptr p, .int .i64 (N : Nat)] 68 (0, 0)) := hc4.blk (blk_below B3.out HG.out (blk_lt HG.out)) HB.out
    have q0 : w4.cell? ⟨bl, 0, none⟩ = some (ptr p) := by rw [cell_of_row _ _ _ _ _ _ gl4]; rfl
    have q1 : w4.cell? ⟨bl, 1, none⟩ = some (.int .i64 (N : Nat)) := by rw [cell_of_row _ _ _ _ _ _ gl4]; rfl
    have f1 := frozen_of_row _ _ 1 _ _ gl4
    have lb4 := blk_lt gl4
    have hch4 : Chg F w w4 := ((Chg.of_below B3.out).mono (S' := F) (fun _ _ e => e.elim)).trans hc4 (fun k _ e => e)
    have hbl4 : ∀ k, Ext F w3 w4 k → ¬ k = bl := fun k hk e => by
      rcases hk with h | h
      · exact HB.out (e ▸ h)
      · have := blk_lt HG.out; omega
    have D4 := Lib.hid hd4
    have C4 := Lib.hid hch4
    have GL4 := Lib.hid gl4
    have BL4 := Lib.hid hbl4
    have hwN : IntKind.i64.wrap ((N : Int) + 1) = (N : Int) + 1 := IntWalk.i64_in _ (by omega)
    clear hd4 hc4 gl4 hch4 hbl4
    by_cases he : e2 = 0
    · subst he
      have hw2 : wr2 st2 N 0 = (syncSt st2, if doE st2 = 0 then N else N + 1, doE st2) := by unfold wr2; rw [if_pos rfl]
      have HSY := Lib.hid (sync_d w4 p (Ext F w3 w4) st2 D4.out HS2'.out)
      obtain ⟨e5, he5⟩ : ∃ e, doE st2 = e := ⟨_, rfl⟩
      rw [he5] at HSY hw2
      have HW2 := Lib.hid hw2
      clear hw2 he5
      go_wp2_with (fail)
      refine HSY.out.mono ?_
      rintro e w5 ⟨rfl, hd5, hc5⟩
      have hs5 : w4.heap.size ≤ w5.heap.size := hc5.size
      have gl5 : w5.heap[bl]? = some (.cells #[ptr p, .int .i64 (N : Nat)] 68 (0, 0)) := hc5.blk GL4.out (fun e => BL4.out bl e rfl)
      have hd5' : Dk w5 p (Ext F w w5) (syncSt st2) := hd5.mono (fun k hk => by
        rcases hk with (h | h) | h
        · exact .inl h
        · exact .inr ⟨by omega, by omega⟩
        · have h1 : w4.heap.size ≤ k := h.1
          exact .inr ⟨by omega, h.2⟩) (ext_lt HLT.out (by omega))
      have hch5 : Chg F w w5 := C4.out.trans hc5 (fun k hk e => by
        rcases e with h | h
        · exact h
        · omega)
      have r0 : w5.cell? ⟨bl, 0, none⟩ = some (ptr p) := by rw [cell_of_row _ _ _ _ _ _ gl5]; rfl
      have r1 : w5.cell? ⟨bl, 1, none⟩ = some (.int .i64 (N : Nat)) := by rw [cell_of_row _ _ _ _ _ _ gl5]; rfl
      have f5 := frozen_of_row _ _ 1 _ _ gl5
      have lb5 := blk_lt gl5
      have D5 := Lib.hid hd5'
      have C5 := Lib.hid hch5
      have G5 := Lib.hid gl5
      clear hd5 hc5 gl5 hd5' hch5 q0 q1 f1 HSY
      by_cases h5 : e5 = 0
      · subst h5
        go_wp2_with (fail)
        go_ret
        rw [HW2.out]
        exact ⟨rfl, D5.out, G5.out, C5.out.mono (fun k _ e => .inl e)⟩
      · have n5 : (e5 != 0) = true := by simpa using h5
        go_wp2_with (fail)
        go_ret
        rw [HW2.out, if_neg h5]
        refine ⟨rfl, (D5.out.chg ((Chg.refl (fun k => k = bl) _).setCell (p := ⟨bl, 1, none⟩) (fun _ => rfl) _) (fun k hk e => ?_)).mono (fun k hk => by simpa [Ext] using hk) (ext_lt HLT.out (by have := C5.out.size; simpa using this)), ?_, (C5.out.mono (S' := fun k => F k ∨ k = bl) (fun k _ e => .inl e)).setCell (p := ⟨bl, 1, none⟩) (fun _ => .inr rfl) _⟩
        · rcases hk with h | h
          · exact HB.out (e ▸ h)
          · have := blk_lt HG.out; omega
        · have h1 := setp_obj (o := 1) (u := .int .i64 ((N : Int) + 1)) G5.out
          unfold Lg
          rw [h1]
          simp
    · have hw2 : wr2 st2 N e2 = (st2, N + 1, e2) := by unfold wr2; rw [if_neg he]
      have n2 : (e2 == 0) = false := by simpa using he
      have n3 : (e2 != 0) = true := by simpa using he
      have HW2 := Lib.hid hw2
      clear hw2
      go_wp2_with (fail)
      go_ret
      rw [HW2.out]
      refine ⟨rfl, (D4.out.chg ((Chg.refl (fun k => k = bl) _).setCell (p := ⟨bl, 1, none⟩) (fun _ => rfl) _) (fun k hk e => BL4.out k hk e)).mono (fun k hk => ?_) (ext_lt HLT.out (by have := C4.out.size; simpa using this)), ?_, ((C4.out.mono (S' := fun k => F k ∨ k = bl) (fun k _ e => .inl e)).setCell (p := ⟨bl, 1, none⟩) (fun _ => .inr rfl) _)⟩
      · rcases hk with h | h
        · exact .inl h
        · exact .inr ⟨by omega, by simpa using h.2⟩
      · have h1 := setp_obj (o := 1) (u := .int .i64 ((N : Int) + 1)) GL4.out
        unfold Lg
        rw [h1]
        simp
  · have hwr : wr st N r = (st, N, E) := by unfold wr; rw [HX.out.1, if_neg hE0]
    have hE1 : (E != 0) = true := by simpa using hE0
    rw [hwr]
    clear hwr
    go_enter Tryz.func12, Tryz.ntmps12
    go_wp2_with (fail)
    rw [HW1.out]
    refine HENC.out.mono ?_
    rintro e w2 ⟨A, c, rfl, _, hb2, _⟩
    have B2 := Lib.hid (HB1.out.trans (hb2.mono HB1.out.size))
    clear hb2
    go_wp2_with (fail)
    go_ret
    exact ⟨rfl, ((HD.out.chg (Chg.of_below B2.out) (fun _ _ e => e)).mono (fun k hk => .inl hk) (ext_lt HLT.out B2.out.size)), blk_below B2.out HG.out (blk_lt HG.out), (Chg.of_below B2.out).mono (fun _ _ e => e.elim)⟩
end Go.Proofs.YtmegkemileailaaGreatDoor.lg
/-
  A log over a disk with its power on: what a Write makes of it: mathematics.
-/
namespace Go.Proofs.YtmegkemileailaaGreatDoor.lg
open al cl uvs dk

/-- the files of a log, by numbers: all of them whole records; N is the number that is written to -/
structure LI (st : St) (hs : List (Nat × List Rec)) (N : Nat) (want : List Rec) : Prop where
  live : Live st
  pend : st.pend = []
  files : Files st.last (hs.map fun h => (h.1, encs h.2))
  low : ∀ h ∈ hs, h.1 ≤ N
  good : ∀ h ∈ hs, ∀ r ∈ h.2, cl.Good r ∧ cl.Num r
  want : hs.flatMap (·.2) = want
  one : 1 ≤ N
theorem LI.shown {st : St} {hs : List (Nat × List Rec)} {N : Nat} {want : List Rec} (h : LI st hs N want) : st.shown = st.last := by unfold St.shown; rw [h.pend]; rfl
theorem LI.new (room : Int) : LI (newSt room) [] 1 [] := ⟨⟨rfl, rfl⟩, rfl, Files.nil, fun h e => (by cases e), fun h e => (by cases e), rfl, Nat.le_refl _⟩
theorem dec_whole {l : List Rec} (h : ∀ r ∈ l, cl.Good r ∧ cl.Num r) : (cl.dec (encs l)).1 = l := by
  have := dec_encs l h []
  rw [List.append_nil, dec_none dec1_nil] at this
  rw [this]; simp
theorem LI.told {st : St} {hs : List (Nat × List Rec)} {N : Nat} {want : List Rec} (h : LI st hs N want) : told st.shown = want := by
  rw [h.shown, h.files.told, ← h.want, List.flatMap_map]
  have key : ∀ l : List (Nat × List Rec), (∀ x ∈ l, x ∈ hs) → l.flatMap (fun a => (cl.dec (encs a.2)).1) = l.flatMap (·.2) := by
    intro l
    induction l with
    | nil => intro _; rfl
    | cons x l ih =>
      intro hl
      rw [List.flatMap_cons, List.flatMap_cons, ih (fun y hy => hl y (by simp [hy])), dec_whole (h.good x (hl x (by simp)))]
  exact key hs fun x hx => hx
theorem nil_or_snoc {α : Type} (l : List α) : l = [] ∨ ∃ m x, l = m ++ [x] := by
  rcases List.eq_nil_or_concat l with h | ⟨m, x, h⟩
  · exact .inl h
  · exact .inr ⟨m, x, by rw [h, List.concat_eq_append]⟩
theorem LI.nextN {st : St} {hs : List (Nat × List Rec)} {N : Nat} {want : List Rec} (h : LI st hs N want) : nextN st.shown = match hs.getLast? with | none => 1 | some x => x.1 + 1 := by
  unfold lg.nextN
  rw [h.shown, h.files.nums, List.map_map, List.getLast?_map]
  cases hs.getLast? <;> rfl
theorem LI.next_le {st : St} {hs : List (Nat × List Rec)} {N : Nat} {want : List Rec} (h : LI st hs N want) : lg.nextN st.shown ≤ N + 1 ∧ 1 ≤ lg.nextN st.shown := by
  rw [h.nextN]
  cases hl : hs.getLast? with
  | none => exact ⟨by have := h.one; show 1 ≤ N + 1; omega, Nat.le_refl _⟩
  | some x => exact ⟨by have := h.low x (List.mem_of_getLast? hl); show x.1 + 1 ≤ N + 1; omega, by show 1 ≤ x.1 + 1; omega⟩
/-- opened again -/
theorem LI.again {st : St} {hs : List (Nat × List Rec)} {N : Nat} {want : List Rec} (h : LI st hs N want) : LI st hs (lg.nextN st.shown) want := by
  refine ⟨h.live, h.pend, h.files, fun x hx => ?_, h.good, h.want, h.next_le.2⟩
  rw [h.nextN]
  rcases nil_or_snoc hs with rfl | ⟨l, y, rfl⟩
  · cases hx
  · rw [List.getLast?_concat]
    simp only
    rcases List.mem_append.1 hx with e | e
    · have hu := h.files.up
      rw [List.map_append, List.pairwise_append] at hu
      have := hu.2.2 (x.1, encs x.2) (List.mem_map.2 ⟨x, e, rfl⟩) (y.1, encs y.2) (by simp)
      simp only at this; omega
    · simp at e; subst e; omega
theorem LI.rotate {st : St} {hs : List (Nat × List Rec)} {N : Nat} {want : List Rec} (h : LI st hs N want) : LI st hs (N + 1) want :=
  ⟨h.live, h.pend, h.files, fun x hx => by have := h.low x hx; omega, h.good, h.want, by omega⟩
theorem okn_name {N : Nat} (hN : N < 1000000000) : okn (lname N) = true := by
  unfold okn
  rw [lname_len]
  have := ndig_le (n := N) (k := 9) (by omega) (by decide)
  simp; omega
theorem encs_snoc (l : List Rec) (r : Rec) : encs (l ++ [r]) = encs l ++ enc r := by rw [encs_append]; simp [encs]
/-- a synced append at a disk that is on -/
theorem wr_live {st : St} {N : Nat} {r : Rec} (hl : Live st) (hp : st.pend = []) (he : err r = 0) (hN : N < 1000000000) (hf : ¬ st.room < (fsum st.last : Int) + ((enc r).length : Int)) :
    wr st N r = ({ st with last := al.put st.last (lname N) ((al.get st.last (lname N)).getD [] ++ enc r), pend := [], ops := st.ops + 1 + 1 }, N, 0) := by
  have hsh : st.shown = st.last := by unfold St.shown; rw [hp]; rfl
  unfold wr
  rw [if_pos he, app_do hl (okn_name hN) (by rw [hsh]; exact hf)]
  unfold wr2
  rw [if_pos rfl]
  have hl2 := hl.more (.app (lname N) (enc r))
  have h2 : syncSt (more st (.app (lname N) (enc r))) = { st with last := al.put st.last (lname N) ((al.get st.last (lname N)).getD [] ++ enc r), pend := [], ops := st.ops + 1 + 1 } := by
    unfold syncSt
    rw [hl2.pw, if_neg (by rw [hl2.dead]; simp), more_shown, hsh]
    unfold cnt
    obtain ⟨room, last, pend, due, dead, ops⟩ := st
    have hd := hl.due
    simp only at hd
    simp [more, hd, dk.done]
  rw [h2, hl2.doE]
  simp
theorem wr_full {st : St} {N : Nat} {r : Rec} (hp : st.pend = []) (he : err r = 0) (hN : N < 1000000000) (hf : st.room < (fsum st.last : Int) + ((enc r).length : Int)) : wr st N r = (st, N + 1, 12) := by
  have hsh : st.shown = st.last := by unfold St.shown; rw [hp]; rfl
  unfold wr
  rw [if_pos he, app_full (okn_name hN) (by rw [hsh]; exact hf)]
  rfl
theorem wr_no {st : St} {N : Nat} {r : Rec} (he : err r ≠ 0) : wr st N r = (st, N, err r) := by unfold wr; rw [if_neg he]
theorem LI.write {st : St} {hs : List (Nat × List Rec)} {N : Nat} {want : List Rec} {r : Rec} (h : LI st hs N want) (he : err r = 0) (hn : cl.Num r) (hN : N < 1000000000) {o : Int} :
    ∃ hs', LI { st with last := al.put st.last (lname N) ((al.get st.last (lname N)).getD [] ++ enc r), pend := [], ops := o } hs' N (want ++ [r]) ∧ hs'.length ≤ hs.length + 1 ∧ (∀ h ∈ hs', h.1 ≤ N) := by
  rcases nil_or_snoc hs with e | ⟨l, y, e⟩
  · subst e
    refine ⟨[(N, [r])], ⟨⟨h.live.due, h.live.dead⟩, rfl, ?_, fun x hx => by simp at hx; subst hx; exact Nat.le_refl _, fun x hx => ?_, ?_, h.one⟩, Nat.le_refl _, fun x hx => by simp at hx; subst hx; exact Nat.le_refl _⟩
    · have hf := h.files
      have hg : al.get st.last (lname N) = none := hf.none (fun p hp => by simp at hp)
      have := hf.app h.one hN (fun p hp => by simp at hp) (enc r)
      rw [hg]
      simpa [encs] using this
    · simp at hx; subst hx
      intro r' hr'
      simp at hr'; subst hr'
      exact ⟨good_of he, hn⟩
    · have := h.want; simp at this; subst this; simp
  · subst e
    obtain ⟨n, rs⟩ := y
    have hnN := h.low (n, rs) (by simp)
    have hf := h.files
    have hu := hf.up
    rw [List.map_append, List.pairwise_append] at hu
    by_cases hnn : n = N
    · subst hnn
      refine ⟨l ++ [(n, rs ++ [r])], ⟨⟨h.live.due, h.live.dead⟩, rfl, ?_, ?_, ?_, ?_, h.one⟩, by simp, ?_⟩
      · rw [List.map_append] at hf ⊢
        have hg : al.get st.last (lname n) = some (encs rs) := hf.at (by simp)
        have := hf.less (encs rs ++ enc r)
        rw [hg]
        simpa [encs_snoc] using this
      · intro x hx
        rcases List.mem_append.1 hx with e | e
        · exact h.low x (by simp [e])
        · simp at e; subst e; exact Nat.le_refl _
      · intro x hx
        rcases List.mem_append.1 hx with e | e
        · exact h.good x (by simp [e])
        · simp at e; subst e
          intro r' hr'
          rcases List.mem_append.1 hr' with e | e
          · exact h.good (n, rs) (by simp) r' e
          · simp at e; subst e; exact ⟨good_of he, hn⟩
      · have := h.want
        rw [← this]; simp
      · intro x hx
        rcases List.mem_append.1 hx with e | e
        · exact h.low x (by simp [e])
        · simp at e; subst e; exact Nat.le_refl _
    · have hlt : ∀ x ∈ l ++ [(n, rs)], x.1 < N := fun x hx => by
        rcases List.mem_append.1 hx with e | e
        · have := hu.2.2 (x.1, encs x.2) (List.mem_map.2 ⟨x, e, rfl⟩) (n, encs rs) (by simp)
          simp only at this; omega
        · simp at e; subst e; simp only; omega
      refine ⟨l ++ [(n, rs)] ++ [(N, [r])], ⟨⟨h.live.due, h.live.dead⟩, rfl, ?_, ?_, ?_, ?_, h.one⟩, by simp, ?_⟩
      · have hb : ∀ p ∈ (l ++ [(n, rs)]).map (fun h => (h.1, encs h.2)), p.1 < N := fun p hp => by
          obtain ⟨x, hx, rfl⟩ := List.mem_map.1 hp
          exact hlt x hx
        have hg : al.get st.last (lname N) = none := hf.none (fun p hp => by have := hb p hp; omega)
        have := hf.app h.one hN hb (enc r)
        rw [hg]
        rw [List.map_append]
        simpa [encs] using this
      · intro x hx
        rcases List.mem_append.1 hx with e | e
        · exact h.low x e
        · simp at e; subst e; exact Nat.le_refl _
      · intro x hx
        rcases List.mem_append.1 hx with e | e
        · exact h.good x e
        · simp at e; subst e
          intro r' hr'
          simp at hr'; subst hr'; exact ⟨good_of he, hn⟩
      · rw [List.flatMap_append, h.want]; simp
      · intro x hx
        rcases List.mem_append.1 hx with e | e
        · exact h.low x e
        · simp at e; subst e; exact Nat.le_refl _
end Go.Proofs.YtmegkemileailaaGreatDoor.lg
/-
  What the log's laws hold: the disk, the log, the list of what was written.
-/
namespace Go.Proofs.YtmegkemileailaaGreatDoor.lg
open Go.ChangeShapes Go.WideShapes Go.ChangeAt Go.RowKit Go.Shelf Go.Maps Go.Sort plain words ord mem al cl uvs dk

theorem append_w {w : World} {ops : Array Oper} {rest : List Oper} {o : Oper} {a : Act} {Q : Exit → Act → World → Prop} (hgd : o.guard = none) (s x : Operand)
    (ho : o.op = .call { callee := .builtin .append, args := #[s, x], argTypes := #[22, 22] })
    (v : Value) (n : Nat) (l : List Rec) (hs : a.eval s = v) (hown : Rw RE w v n l)
    (B : Nat) (A : Option Addr) (m c : Nat) (hA : A = none → c = 0) (news : List Rec) (hx : a.eval x = .slice A m c) (hr : Ls RE w B A m news)
    (hn : n + m ≤ 1099511627776)
    (h : ∀ A' c' w', Rw RE w' (.slice A' (n + m) c') (n + m) (l ++ news) → w.grownBy w' v.ownBlock → ((Value.slice A' (n + m) c').ownBlock = v.ownBlock ∨ (Value.slice A' (n + m) c').ownBlock = some w.heap.size) → wpList Tryz.prog ops Q rest (a.put o.dst (.slice A' (n + m) c')) w') : wpList Tryz.prog ops Q (o :: rest) a w := by
  obtain ⟨i0, hi, hz0, hz1, hz2⟩ := info_parts infoR
  refine wpList_append_row (P := Tryz.prog) _ hgd s x 22 ho RE.e i0 _ 5 48 Tryz.underlying22 hi hz0 hz1 hz2 rfl (by decide) v n (cs RE.enc l) hs hown.2 B A m c hA (cs RE.enc news) hx hr.2 (cs_oneCell RE.one _) (by unfold maxLen; omega) (by omega) ?_
  intro v' w' h1 h2 h3 _
  have h4 : Rw RE w' v' (n + m) (l ++ news) := ⟨by rw [List.length_append, hown.1, hr.1], by rw [cs_append]; exact h1⟩
  obtain ⟨A', c', rfl, _⟩ := h4.form
  exact h A' c' w' h4 h2 h3
structure LW (w0 w : World) (p bl N : Nat) (st : St) (v : Value) (m : Nat) (want : List Rec) : Prop where
  disk : ∃ F, Dk w p F st ∧ (∀ k, F k → w0.heap.size ≤ k ∧ k ≠ bl ∧ ¬ v.ownBlock = some k)
  lg : Lg w bl p N
  ow : Rw RE w v m want
  own0 : ∀ k, v.ownBlock = some k → w0.heap.size ≤ k
  bel : Below w0.heap.size w0 w
  hi : w0.heap.size ≤ bl
section
variable {w0 w w' : World} {p bl N : Nat} {st : St} {v : Value} {m : Nat} {want : List Rec}
theorem LW.quiet (h : LW w0 w p bl N st v m want) (hb : Below w.heap.size w w') : LW w0 w' p bl N st v m want := by
  obtain ⟨F, h1, h2⟩ := h.disk
  exact ⟨⟨F, h1.chg (Chg.of_below hb) (fun _ _ e => e), h2⟩, blk_below hb h.lg (blk_lt h.lg), h.ow.chg (Chg.of_below hb) (fun _ _ e => e), h.own0, h.bel.trans (hb.mono h.bel.size), h.hi⟩
theorem LW.ne (h : LW w0 w p bl N st v m want) : ¬ v.ownBlock = some bl := fun e => by
  obtain ⟨cu, hcu⟩ := h.ow.type e
  exact blk_type h.lg hcu (by decide) rfl
/-- another row in the list's place -/
theorem LW.row (h : LW w0 w p bl N st v m want) (hb : Below w.heap.size w w') {v' : Value} {m' : Nat} {want' : List Rec} (ho : Ow RE w' w.heap.size v' m' want') : LW w0 w' p bl N st v' m' want' := by
  have h' := h.quiet hb
  obtain ⟨F, h1, h2⟩ := h.disk
  refine ⟨⟨F, h1.chg (Chg.of_below hb) (fun _ _ e => e), fun k hk => ⟨(h2 k hk).1, (h2 k hk).2.1, fun e => ?_⟩⟩, h'.lg, ⟨ho.1, Row.of_own ho.2⟩, fun k e => by have := (ho.lt k e).1; have := h.bel.size; omega, h'.bel, h.hi⟩
  have := (ho.lt k e).1
  have := h1.lt k hk
  omega
/-- the list grows -/
theorem LW.app (h : LW w0 w p bl N st v m want) (hg : w.grownBy w' v.ownBlock) {v' : Value} {m' : Nat} {want' : List Rec} (ho : Rw RE w' v' m' want') (hat : v'.ownBlock = v.ownBlock ∨ v'.ownBlock = some w.heap.size) : LW w0 w' p bl N st v' m' want' := by
  obtain ⟨F, h1, h2⟩ := h.disk
  have hc : Chg (fun k => v.ownBlock = some k) w w' := (Chg.refl _ _).grown hg (fun k hk _ => hk)
  refine ⟨⟨F, h1.chg hc (fun k hk e => (h2 k hk).2.2 e), fun k hk => ⟨(h2 k hk).1, (h2 k hk).2.1, fun e => ?_⟩⟩, h.lg.chg hc h.ne, ho, fun k e => ?_, h.bel.grown hg h.bel.size h.own0, h.hi⟩
  · rcases hat with e9 | e9
    · exact (h2 k hk).2.2 (e9 ▸ e)
    · rw [e9] at e; injection e with e; have := h1.lt k hk; omega
  · rcases hat with e9 | e9
    · exact h.own0 k (e9 ▸ e)
    · rw [e9] at e; injection e with e; have := h.bel.size; omega
theorem LW.write (h : LW w0 w p bl N st v m want) (hl : LayS w0) (r : Rec) (hnum : cl.Num r) (hid : r.id.length ≤ 9223372036854775807) (hN : N < 1000000000) (hs : Small st) (hs2 : err r = 0 → Small (appSt st (lname N) (enc r)).1) (hr0 : 0 ≤ st.room) (hr1 : st.room ≤ 1073741824) :
    Calls Tryz.prog 12 #[ptr bl, .agg #[.int .i64 r.sp, .string (tx r.id), .int .i64 r.t, .int .u64 r.v, .int .u64 r.s]] w fun e w' => e = .returned (.int .i64 (wr st N r).2.2) ∧ LW w0 w' p bl (wr st N r).2.1 (wr st N r).1 v m want := by
  obtain ⟨F, h1, h2⟩ := h.disk
  refine (write_x w0 w bl p N F st r h1 h.lg (fun e => (h2 bl e).2.1 rfl) hl h.bel (fun k hk => (h2 k hk).1) hnum hid hN hs hs2 hr0 hr1).mono ?_
  rintro e w' ⟨rfl, hd, hg, hc⟩
  have hsz := hc.size
  have hb0 := h.bel.size
  have hbl := blk_lt h.lg
  refine ⟨rfl, ⟨⟨_, hd, fun k hk => ?_⟩, hg, h.ow.chg hc (fun g hg e => ?_), h.own0, h.bel.trans (hc.below hb0 (fun k e => ?_)), h.hi⟩⟩
  · rcases hk with e | e
    · exact h2 k e
    · exact ⟨by omega, by omega, fun e9 => by have := h.ow.lt e9; omega⟩
  · rcases e with e | e
    · exact (h2 g e).2.2 hg
    · exact h.ne (e ▸ hg)
  · rcases e with e | e
    · exact (h2 k e).1
    · rw [e]; exact h.hi
theorem LW.used (h : LW w0 w p bl N st v m want) : Calls Tryz.prog 11 #[ptr p] w fun e w' => e = .returned (.int .i64 (fsum st.shown : Nat)) ∧ w = w' := by
  obtain ⟨F, h1, _⟩ := h.disk
  exact used_d w p F st h1
/-- opened: another log, and what is told -/
theorem LW.open_ (h : LW w0 w p bl N st v m want) (hl : LayS w0) (hf : fsum st.shown ≤ 4194304) (hfew : st.shown.length ≤ 65536) :
    Calls Tryz.prog 9 #[ptr p] w fun e w' => ∃ bl' A n c, e = .returned (.tuple #[ptr bl', .slice A n c]) ∧ LW w0 w' p bl' (nextN st.shown) st v m want ∧ LW w0 w' p bl N st v m want ∧ Ow RE w' w.heap.size (.slice A n c) n (told st.shown) ∧ w.heap.size ≤ w'.heap.size := by
  obtain ⟨F, h1, h2⟩ := h.disk
  refine (open_x w0 w p F st h1 hl h.bel (fun k hk => (h2 k hk).1) hf hfew).mono ?_
  rintro e w' ⟨bl', A, n, c, rfl, hbl, hg, ho, hd, hc⟩
  have hb0 := h.bel.size
  refine ⟨bl', A, n, c, rfl, ⟨⟨F, hd, fun k hk => ⟨(h2 k hk).1, fun e => ?_, (h2 k hk).2.2⟩⟩, hg, h.ow.chg hc (fun g hg e => (h2 g e).2.2 hg), h.own0, h.bel.trans (hc.below hb0 (fun k e => (h2 k e).1)), by omega⟩, ⟨⟨F, hd, h2⟩, hc.blk h.lg (fun e => (h2 bl e).2.1 rfl), h.ow.chg hc (fun g hg e => (h2 g e).2.2 hg), h.own0, h.bel.trans (hc.below hb0 (fun k e => (h2 k e).1)), h.hi⟩, ho, hc.size⟩
  have := h1.lt k hk; omega
end
/-- a new disk, opened -/
theorem LW.first {w0 w : World} {p : Nat} {st : St} (hd : Dk w p (fun k => w0.heap.size ≤ k ∧ k < w.heap.size) st) (hb : Below w0.heap.size w0 w) (hl : LayS w0) (hf : fsum st.shown ≤ 4194304) (hfew : st.shown.length ≤ 65536) :
    Calls Tryz.prog 9 #[ptr p] w fun e w' => ∃ bl A n c, e = .returned (.tuple #[ptr bl, .slice A n c]) ∧ LW w0 w' p bl (nextN st.shown) st (.slice none 0 0) 0 [] ∧ Ow RE w' w.heap.size (.slice A n c) n (told st.shown) := by
  refine (open_x w0 w p _ st hd hl hb (fun k hk => hk.1) hf hfew).mono ?_
  rintro e w' ⟨bl, A, n, c, rfl, hbl, hg, ho, hd', hc⟩
  have hb0 := hb.size
  exact ⟨bl, A, n, c, rfl, ⟨⟨_, hd', fun k hk => ⟨hk.1, by omega, fun e => by cases e⟩⟩, hg, ⟨rfl, Row.nil _ _ _⟩, fun k e => (by cases e), hb.trans (hc.below hb0 (fun k e => e.1)), by omega⟩, ho⟩
end Go.Proofs.YtmegkemileailaaGreatDoor.lg
/-
  The log's laws: bounds; what a Write answers.
-/
namespace Go.Proofs.YtmegkemileailaaGreatDoor.lg
open al cl uvs dk

/-- bounds of the loop -/
structure Bd (st : St) (hs : List (Nat × List Rec)) (N : Nat) (rm : Int) (i : Nat) : Prop where
  room : st.room = rm
  o0 : 0 ≤ st.ops
  o1 : st.ops ≤ 2 * i
  sum : (fsum st.last : Int) ≤ rm
  len : st.last.length ≤ i
  num : N ≤ 1 + i
theorem Bd.small {st : St} {hs : List (Nat × List Rec)} {N : Nat} {room : Int} {i : Nat} (h : Bd st hs N room i) (hp : st.pend = []) (hl : Live st) (hr : room ≤ 2000000) (hi : i ≤ 100000) : Small st := by
  refine ⟨?_, ?_, h.o0, by have := h.o1; omega, fun x hx => by rw [hl.due] at hx; cases hx⟩
  · rw [hp]; have := h.sum; show fsum st.last + 0 ≤ _; omega
  · rw [hp]; have := h.len; show st.last.length + 0 ≤ _; omega
theorem Bd.small2 {st : St} {hs : List (Nat × List Rec)} {N : Nat} {room : Int} {i : Nat} {r : Rec} (h : Bd st hs N room i) (hp : st.pend = []) (hl : Live st) (hr : room ≤ 2000000) (hi : i ≤ 100000) (hN : N < 1000000000) (he : err r = 0) : Small (appSt st (lname N) (enc r)).1 := by
  have h1 := h.small hp hl hr hi
  by_cases hf : st.room < (fsum st.shown : Int) + ((enc r).length : Int)
  · rw [app_full (okn_name hN) hf]; exact h1
  · rw [app_do hl (okn_name hN) hf]
    have hsh : st.shown = st.last := by unfold St.shown; rw [hp]; rfl
    rw [hsh] at hf
    refine ⟨?_, ?_, by have := h.o0; show 0 ≤ st.ops + 1; omega, by have := h.o1; show st.ops + 1 < _; omega, fun x hx => by have := (hl.more (Chn.app (lname N) (enc r))).due; rw [this] at hx; cases hx⟩
    · show fsum st.last + sumc (st.pend ++ [Chn.app (lname N) (enc r)]) ≤ _
      rw [hp]
      have := h.sum
      have := h.room
      have := enc_le (good_of he)
      show fsum st.last + ((enc r).length + 0) ≤ _
      omega
    · show st.last.length + (st.pend ++ [Chn.app (lname N) (enc r)]).length ≤ _
      rw [hp]
      have := h.len
      show st.last.length + 1 ≤ _
      omega
/-- what a Write answers, and leaves -/
theorem LI.step {st : St} {hs : List (Nat × List Rec)} {N : Nat} {want : List Rec} {room : Int} {i : Nat} (h : LI st hs N want) (b : Bd st hs N room i) (hi : i ≤ 100000) (r : Rec) (hn : cl.Num r) :
    (err r ≠ 0 ∧ wr st N r = (st, N, err r)) ∨
    (err r = 0 ∧ room < (fsum st.shown : Int) + ((enc r).length : Int) ∧ wr st N r = (st, N + 1, 12) ∧ LI st hs (N + 1) want ∧ Bd st hs (N + 1) room (i + 1)) ∨
    (err r = 0 ∧ ¬ room < (fsum st.shown : Int) + ((enc r).length : Int) ∧ ∃ st' hs', wr st N r = (st', N, 0) ∧ LI st' hs' N (want ++ [r]) ∧ Bd st' hs' N room (i + 1) ∧ fsum st'.last = fsum st.last + (enc r).length) := by
  have hN : N < 1000000000 := by have := b.num; omega
  by_cases he : err r = 0
  · by_cases hf : room < (fsum st.shown : Int) + ((enc r).length : Int)
    · refine .inr (.inl ⟨he, hf, wr_full h.pend he hN (by rw [← h.shown, b.room]; exact hf), h.rotate, ⟨b.room, b.o0, by have := b.o1; omega, b.sum, by have := b.len; omega, by have := b.num; omega⟩⟩)
    · have hf' : ¬ st.room < (fsum st.last : Int) + ((enc r).length : Int) := by rw [← h.shown, b.room]; exact hf
      obtain ⟨hs', hli, _, _⟩ := h.write (o := st.ops + 1 + 1) he hn hN
      refine .inr (.inr ⟨he, hf, _, hs', wr_live h.live h.pend he hN hf', hli, ⟨b.room, by have := b.o0; show 0 ≤ st.ops + 1 + 1; omega, by have := b.o1; show st.ops + 1 + 1 ≤ _; omega, ?_, ?_, by have := b.num; omega⟩, app_sum h.files.srt (lname N) (enc r)⟩)
      · show (fsum (al.put st.last (lname N) ((al.get st.last (lname N)).getD [] ++ enc r)) : Int) ≤ room
        have h1 := app_sum h.files.srt (lname N) (enc r)
        have h2 : dk.done st.last (.app (lname N) (enc r)) = al.put st.last (lname N) ((al.get st.last (lname N)).getD [] ++ enc r) := rfl
        rw [h2] at h1
        rw [h1]
        rw [b.room] at hf'
        omega
      · show (al.put st.last (lname N) ((al.get st.last (lname N)).getD [] ++ enc r)).length ≤ i + 1
        have h1 : (al.put st.last (lname N) ((al.get st.last (lname N)).getD [] ++ enc r)).length ≤ st.last.length + 1 := len_put
        have := b.len
        omega
  · exact .inl ⟨he, wr_no he⟩
theorem Bd.mono {st : St} {hs : List (Nat × List Rec)} {N : Nat} {rm : Int} {i j : Nat} (h : Bd st hs N rm i) (hij : i ≤ j) : Bd st hs N rm j :=
  ⟨h.room, h.o0, by have := h.o1; omega, h.sum, by have := h.len; omega, by have := h.num; omega⟩
theorem Bd.rotate {st : St} {hs : List (Nat × List Rec)} {N : Nat} {rm : Int} {i : Nat} (h : Bd st hs N rm i) : Bd st hs (N + 1) rm (i + 1) :=
  ⟨h.room, h.o0, by have := h.o1; omega, h.sum, by have := h.len; omega, by have := h.num; omega⟩
theorem Bd.again {st : St} {hs : List (Nat × List Rec)} {N : Nat} {rm : Int} {i : Nat} {want : List Rec} (h : Bd st hs N rm i) (hl : LI st hs N want) : Bd st hs (nextN st.shown) rm (i + 1) :=
  ⟨h.room, h.o0, by have := h.o1; omega, h.sum, by have := h.len; omega, by have := h.num; have := hl.next_le.1; omega⟩
theorem LW.rotate {w0 w : World} {p bl N : Nat} {st : St} {v : Value} {m : Nat} {want : List Rec} (h : LW w0 w p bl N st v m want) (hN : N < 1000000000) :
    Calls Tryz.prog 14 #[ptr bl] w fun e w' => e = .returned (.int .i64 ((N : Int) + 1)) ∧ LW w0 w' p bl (N + 1) st v m want := by
  refine (rotate_x w bl p N h.lg hN).mono ?_
  rintro e w' ⟨rfl, hg, hc⟩
  obtain ⟨F, h1, h2⟩ := h.disk
  exact ⟨rfl, ⟨⟨F, h1.chg hc (fun k hk => (h2 k hk).2.1), h2⟩, hg, h.ow.chg hc (fun g hg e => h.ne (e ▸ hg)), h.own0, h.bel.trans (hc.below h.bel.size (fun k e => by rw [e]; exact h.hi)), h.hi⟩⟩
end Go.Proofs.YtmegkemileailaaGreatDoor.lg
