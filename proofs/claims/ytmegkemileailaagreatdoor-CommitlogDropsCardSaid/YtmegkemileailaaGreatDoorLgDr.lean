/-
  The disk's Remove with the power on and no cut ordered, sharper: it turns the disk's own cells and the one map of what is shown.
-/
import Derived.Test.YtmegkemileailaaGreatDoorDkB
import Derived.Test.YtmegkemileailaaGreatDoorLgIt
import Derived.Test.YtmegkemileailaaGreatDoorLgC
import Derived.RangeFuncWrites
import Derived.Test.YtmegkemileailaaGreatDoorLgLx
namespace Go.Proofs.YtmegkemileailaaGreatDoor.dk
open Go.ChangeShapes Go.WideShapes Go.ChangeAt Go.RowKit Go.Maps Go.Sort Go.Shelf plain words ord mem al
open Go.WideMaps (keyOf_string_mk)

/-- the shown files' map lies at block m, the lasting ones' at ml -/
def Mp (w : World) (p m ml : Nat) : Prop := ∃ room fs fh v dv dead ops u ul, w.heap[p]? = some (diskO room fs fh v dv dead ops) ∧ w.heap[fh]? = some (.cells #[.map (some m), u] 83 (0, 0)) ∧ w.heap[fs]? = some (.cells #[.map (some ml), ul] 83 (0, 0))
theorem Mp.at {w : World} {p m ml fs fh : Nat} {room : Int} {v : Value} {dv : Option Nat} {dead : Bool} {ops : Int} (h : Mp w p m ml) (hb : w.heap[p]? = some (diskO room fs fh v dv dead ops)) : ∃ u ul, w.heap[fh]? = some (.cells #[.map (some m), u] 83 (0, 0)) ∧ w.heap[fs]? = some (.cells #[.map (some ml), ul] 83 (0, 0)) := by
  obtain ⟨_, _, _, _, _, _, _, u, ul, h1, h2, h4⟩ := h
  have h3 := h1.symm.trans hb
  simp [diskO, ptr] at h3
  obtain ⟨_, e0, e, _⟩ := h3
  subst e e0
  exact ⟨u, ul, h2, h4⟩
theorem Mp.below {w w' : World} {p m ml : Nat} (h : Mp w p m ml) (hb : Below w.heap.size w w') : Mp w' p m ml := by
  obtain ⟨a1, a2, a3, a4, a5, a6, a7, u, ul, h1, h2, h3⟩ := h
  exact ⟨a1, a2, a3, a4, a5, a6, a7, u, ul, blk_below hb h1 (blk_lt h1), blk_below hb h2 (blk_lt h2), blk_below hb h3 (blk_lt h3)⟩
theorem Fil.mp {w : World} {f : Nat} {F : Nat → Prop} {fs : AL Nm} (h : Fil w f F fs) : F f ∧ ∃ m u, w.heap[f]? = some (.cells #[.map (some m), u] 83 (0, 0)) ∧ F m := by
  obtain ⟨mb, D, es, h1, h2, h3, h4⟩ := h
  exact ⟨h3 _ (.inl rfl), mb, _, h1.blk, h3 _ (.inr (.inl rfl))⟩
/-- files within their own blocks: cells all but the map -/
theorem Fil.tight {w : World} {f : Nat} {F : Nat → Prop} {fs : AL Nm} (h : Fil w f F fs) {m : Nat} {u : Value} (hm : w.heap[f]? = some (.cells #[.map (some m), u] 83 (0, 0))) :
    ∃ G : Nat → Prop, Fil w f G fs ∧ (∀ k, G k → F k) ∧ ∀ k, G k → k = m ∨ ∃ c t fr, w.heap[k]? = some (.cells c t fr) := by
  obtain ⟨mb, D, es, h1, h2, h3, h4⟩ := h
  have e : mb = m := by
    have := h1.blk
    rw [hm] at this
    simp at this
    exact this.1.symm
  subst e
  refine ⟨Foot f mb es, ⟨mb, D, es, h1, h2, fun _ h => h, fun k hk => h1.lt hk⟩, h3, fun k hk => ?_⟩
  rcases hk with e | e | ⟨q, hq, e⟩
  · subst e; exact .inr ⟨_, _, _, h1.blk⟩
  · exact .inl e
  · rcases e with e | e
    · subst e; exact .inr ⟨_, _, _, (h1.tx q hq).blk⟩
    · obtain ⟨c, fr, hh⟩ := (h1.tx q hq).row e
      exact .inr ⟨_, _, _, hh⟩
/-- a disk within its own blocks: cells all but the two maps -/
theorem Dk.tight {w : World} {p m ml : Nat} {F : Nat → Prop} {st : St} (h : Dk w p F st) (hm : Mp w p m ml) :
    ∃ G : Nat → Prop, Dk w p G st ∧ (∀ k, G k → F k) ∧ ∀ k, G k → k = m ∨ k = ml ∨ ∃ c t fr, w.heap[k]? = some (.cells c t fr) := by
  obtain ⟨fs, fh, Fs, Fh, Fo, v, ps, dv, hb, hP, h3, h4, h5, h6⟩ := h
  obtain ⟨u, ul, h7, h8⟩ := hm.at hb
  obtain ⟨Gh, a1, a2, a3⟩ := hP.hh.tight h7
  obtain ⟨Gs, b1, b2, b3⟩ := hP.hs.tight h8
  have hsub : ∀ k, (Fo k ∧ (k = p ∨ v.ownBlock = some k ∨ (∃ q ∈ ps, q.foot k) ∨ dv = some k)) → Fo k := fun k h => h.1
  refine ⟨fun k => Gs k ∨ Gh k ∨ (Fo k ∧ (k = p ∨ v.ownBlock = some k ∨ (∃ q ∈ ps, q.foot k) ∨ dv = some k)), ⟨fs, fh, Gs, Gh, fun k => Fo k ∧ (k = p ∨ v.ownBlock = some k ∨ (∃ q ∈ ps, q.foot k) ∨ dv = some k), v, ps, dv, hb,
    ⟨b1, a1, hP.row, hP.box, ?_, ⟨hP.po, .inl rfl⟩, fun g hg => ⟨hP.ro g hg, .inr (.inl hg)⟩, fun q hq k hk => ⟨hP.bo q hq k hk, .inr (.inr (.inl ⟨q, hq, hk⟩))⟩, fun k e1 e2 => hP.ap1 k (b2 k e1) (a2 k e2), fun k e1 e2 => hP.ap2 k (b2 k e1) e2.1, fun k e1 e2 => hP.ap3 k (a2 k e1) e2.1, fun k hk => hP.lto k hk.1⟩,
    h3, h4, fun k hk => hk, fun k hk => ?_⟩, fun k hk => ?_, fun k hk => ?_⟩
  · have hd := hP.due_
    have hdo := @Parts.dueo _ _ _ _ _ _ _ _ _ _ _ _ _ hP
    cases hdu : st.due with
    | none => rw [hdu] at hd; cases dv with
      | none => trivial
      | some b => exact hd.elim
    | some x => rw [hdu] at hd; cases dv with
      | none => exact hd.elim
      | some b => exact ⟨hd.1, hd.2, .inr (.inr (.inr rfl))⟩
  · rcases hk with e | e | e
    · exact h6 k (h5 k (.inl (b2 k e)))
    · exact h6 k (h5 k (.inr (.inl (a2 k e))))
    · exact h6 k (h5 k (.inr (.inr e.1)))
  · rcases hk with e | e | e
    · exact h5 k (.inl (b2 k e))
    · exact h5 k (.inr (.inl (a2 k e)))
    · exact h5 k (.inr (.inr e.1))
  · rcases hk with e | e | ⟨_, e⟩
    · rcases b3 k e with e | e
      · exact .inr (.inl e)
      · exact .inr (.inr e)
    · rcases a3 k e with e | e
      · exact .inl e
      · exact .inr (.inr e)
    · refine .inr (.inr ?_)
      rcases e with e | e | ⟨q, hq, e⟩ | e
      · subst e; exact ⟨_, _, _, hb⟩
      · obtain ⟨c, hc⟩ := hP.row.type e; exact ⟨_, _, _, hc⟩
      · obtain ⟨c, hc⟩ := box_type (hP.box q hq) e; exact ⟨_, _, _, hc⟩
      · obtain ⟨_, x, hx⟩ := hP.dueo e; exact ⟨_, _, _, hx⟩
theorem Dk.mp {w : World} {p : Nat} {F : Nat → Prop} {st : St} (h : Dk w p F st) : ∃ m ml, Mp w p m ml ∧ m < w.heap.size ∧ ml < w.heap.size := by
  obtain ⟨fs, fh, Fs, Fh, Fo, v, ps, dv, hb, hP, h3, h4, h5, h6⟩ := h
  obtain ⟨_, m, u, h7, h8⟩ := hP.hh.mp
  obtain ⟨_, ml, ul, h9, h10⟩ := hP.hs.mp
  exact ⟨m, ml, ⟨_, _, _, _, _, _, _, u, ul, hb, h7, h9⟩, h6 m (h5 m (.inr (.inl h8))), h6 ml (h5 ml (.inl h10))⟩
/-- nothing turns but the map at m, and cells that are no integers -/
def Mild (m : Nat) (w w' : World) : Prop := ∃ S, Chg S w w' ∧ ∀ k, S k → k = m ∨ ∃ c t fr, w.heap[k]? = some (.cells c t fr) ∧ t ≠ 3
theorem Mild.of_below {m : Nat} {w w' : World} (hb : Below w.heap.size w w') : Mild m w w' := ⟨fun _ => False, Chg.of_below hb, fun _ e => e.elim⟩
theorem Mild.trans {m : Nat} {A B C : World} (h1 : Mild m A B) (h2 : Mild m B C) : Mild m A C := by
  obtain ⟨S1, c1, t1⟩ := h1
  obtain ⟨S2, c2, t2⟩ := h2
  refine ⟨fun k => S1 k ∨ (¬ S1 k ∧ S2 k ∧ k < A.heap.size), (c1.mono (fun k _ e => .inl e)).trans c2 (fun k hk e => ?_), fun k e => ?_⟩
  · by_cases h : S1 k
    · exact .inl h
    · exact .inr ⟨h, e, hk⟩
  · rcases e with e | ⟨n, e, hk⟩
    · exact t1 k e
    · rcases t2 k e with e | ⟨c, t, fr, hh, ht⟩
      · exact .inl e
      · refine .inr ⟨c, t, fr, ?_, ht⟩
        obtain ⟨o, ho⟩ : ∃ o, A.heap[k]? = some o := ⟨_, Array.getElem?_eq_getElem hk⟩
        have := c1.blk ho n
        rw [hh] at this
        rw [ho, this]
theorem Mild.keep {m : Nat} {w w' : World} (h : Mild m w w') {k : Nat} {o : Obj} (hk : w.heap[k]? = some o) (hm : k ≠ m) (ho : ∀ c t fr, t ≠ 3 → o ≠ .cells c t fr) : w'.heap[k]? = some o := by
  obtain ⟨S, h1, h2⟩ := h
  refine h1.blk hk fun e => ?_
  rcases h2 k e with e | ⟨c, t, fr, hh, ht⟩
  · exact hm e
  · rw [hk] at hh
    cases hh
    exact ho _ _ _ ht rfl
theorem Mild.size {m : Nat} {w w' : World} (h : Mild m w w') : w.heap.size ≤ w'.heap.size := by
  obtain ⟨S, h1, _⟩ := h
  exact h1.size
set_option maxRecDepth 100000 in
set_option maxHeartbeats 1000000 in
theorem remove_fk (w : World) (f m : Nat) (u : Value) (F : Nat → Prop) (fs : AL Nm) (s : ByteArray) (h : Fil w f F fs) (hm : w.heap[f]? = some (.cells #[.map (some m), u] 83 (0, 0))) (hl : s.size ≤ maxLen) (hbig : fsum fs ≤ 2199023255552) (hth : get fs s.data.toList ≠ none) :
    Calls Tryz.prog 83 #[.pointer (some ⟨f, 0, none⟩), .string s] w fun e w' => RetFil w f F (al.del fs s.data.toList) e w' ∧ (∃ u', w'.heap[f]? = some (.cells #[.map (some m), u'] 83 (0, 0))) ∧ Chg (fun k => k = f ∨ k = m) w w' := by
  have HH := Lib.hid (has_f w f F fs s h hl)
  obtain ⟨t, hq⟩ := Option.ne_none_iff_exists'.1 hth
  clear hth
  obtain ⟨mb, D, es, h1, rfl, h3, h4⟩ := h
  obtain rfl : mb = m := by
    have := h1.blk
    rw [hm] at this
    injection this with this; injection this with this; injection this with this; injection this with this _; injection this with this; injection this with this; exact this.symm
  clear hm
  have hq0 := hq
  rw [mapv_get] at hq
  obtain ⟨x, hx, rfl⟩ := Option.map_eq_some_iff.1 hq
  rw [hq0] at HH
  rw [fsum_mapv] at hbig
  have hsd := sum_del (f := txlen) h1.srt hx
  obtain ⟨L, hL⟩ : ∃ L, x.s.length = L := ⟨_, rfl⟩
  obtain ⟨T, hT⟩ : ∃ T, sum txlen es = T := ⟨_, rfl⟩
  have hLT : L ≤ T := by rw [← hL, ← hT]; have : txlen x = x.s.length := rfl; omega
  have hsum : sum txlen (al.del es s.data.toList) = T - L := by rw [← hL, ← hT]; have : txlen x = x.s.length := rfl; omega
  have hb0 := h1.blk
  rw [hT] at hb0 hbig
  have c0 : w.cell? ⟨f, 0, none⟩ = some (.map (some mb)) := by rw [cell_of_row _ _ _ _ _ _ hb0]; rfl
  have c1 : w.cell? ⟨f, 1, none⟩ = some (.int .i64 (T : Nat)) := by rw [cell_of_row _ _ _ _ _ _ hb0]; rfl
  have f1 : w.drew.frozen? ⟨f, 1, none⟩ = false := by
    have : w.drew.heap[f]? = _ := hb0
    simp [World.frozen?, this]
  have f1' : w.frozen? ⟨f, 1, none⟩ = false := by simp [World.frozen?, hb0]
  have q0 := Wb.at_ c0
  have q1 := Wb.at_ c1
  have hk : ∀ u : Wb w, (Instr.lookup 81 (.map (some mb)) (.string s) false).run Tryz.prog u.w = .ok (.pointer (some ⟨x.g, 0, none⟩)) u.w := fun u => (h1.chg (Chg.of_below u.h) (fun _ _ e => e)).look s hl hx
  have HLEN := Lib.hid (len_t w.drew x ((h1.tx _ (mem_get hx)).chg (Chg.refl (fun _ => False) _).drew (fun _ _ e => e)))
  rw [hL] at HLEN
  have hw1 : IntKind.i64.wrap ((T : Int) - (L : Int)) = ((T - L : Nat) : Int) := by rw [IntWalk.i64_in _ (by omega)]; omega
  have hfl : f < w.heap.size := blk_lt hb0
  obtain ⟨w2, hw2⟩ : ∃ w2, (w.setCell ⟨f, 1, none⟩ (.int .i64 ((T - L : Nat) : Int))).drew = w2 := ⟨_, rfl⟩
  have hb2 : w2.heap[f]? = some (.cells #[.map (some mb), .int .i64 ((T - L : Nat) : Int)] 83 (0, 0)) := by
    rw [← hw2]
    show (w.setCell ⟨f, 1, none⟩ (.int .i64 ((T - L : Nat) : Int))).heap[f]? = _
    simp [World.setCell, Array.getElem?_modify, hb0]
  have hc2 : Chg (fun k => k = f) w w2 := by rw [← hw2]; exact (chg_set _ _ _ _).drew
  have hown2 := own_map_chg h1.map hc2 (fun e => h1.ne e.symm)
  have d0 : w2.cell? ⟨f, 0, none⟩ = some (.map (some mb)) := by rw [cell_of_row _ _ _ _ _ _ hb2]; rfl
  have hfl2 : f < w2.heap.size := blk_lt hb2
  have hkey := keyOf_string_mk (k := 9) Tryz.underlying9 hl
  have H1 := Lib.hid h1
  have H3 := Lib.hid h3
  have H4 := Lib.hid h4
  have HX := Lib.hid hx
  have SUM := Lib.hid hsum
  have B2 := Lib.hid hb2
  have C2 := Lib.hid hc2
  have W2 := Lib.hid hw2
  clear h1 h3 h4 hx hq hq0 hsd hsum hb0 hb2 hc2 hL hT hw2 c0
  go_enter Tryz.func83, Tryz.ntmps83
  go_wp2_with fail
  refine HH.out.mono ?_
  rintro e w1 ⟨rfl, rfl⟩
  clear HH
  simp only [Option.isSome_some]
  go_wp2_with fail
  refine wp_region_plan [([0, 1, 2, 3, 4, 5, 6, 7, 8, 9], some (10, false)), ([11, 12, 13], some (14, true)), ([], none)] (by kernel_rfl) (by kernel_rfl) ?_
  refine seg_act _ (by dsimp only [pick, at_]) _ (by dsimp only [pick, at_]) ?_
  repeat (go_big_quiet_step (fail))
  refine wpQuiet_nil ?_
  intro K1 g1 g2
  clear g1 q0 q1 hk
  go_wp2_with (fail)
  refine HLEN.out.mono ?_
  rintro e w3 ⟨rfl, rfl⟩
  clear HLEN
  go_wp2_with (fail)
  refine g2 _ _ (Below.refl _ _).drew ?_
  clear g2
  refine seg_write _ (by dsimp only [pick, at_]) _ (by dsimp only [pick, at_]) ?_
  repeat (go_big_quiet_step (fail))
  refine wpQuiet_nil ?_
  intro K2 g1
  go_wp2_with (fail)
  refine seg_end _ (by dsimp only [pick, at_]) ?_
  repeat (go_big_quiet_step (fail))
  refine wpQuiet_nil (NoPanic.normal ?_)
  rw [W2.out]
  go_wp2_with (at_delete; refine wpList_delete_own _ rfl _ _ 81 9 rfl 122 law Tryz.underlying81 pe mb es.length D rfl hown2 _ _ rfl hkey ?_; intro w3 hown3 hturn3)
  go_end0
  have hc3 : Chg (fun k => k = f ∨ k = mb) w w3 := (C2.out.mono (fun _ _ e => .inl e)).grown hturn3.grown (fun k e _ => by cases e; exact .inr rfl)
  have hb3 : w3.heap[f]? = some (.cells #[.map (some mb), .int .i64 ((T - L : Nat) : Int)] 83 (0, 0)) := (hturn3.grown.block f hfl2 (fun e => H1.out.ne (by injection e))).trans B2.out
  have hfi : Fi w3 f mb (D.del (.string s.data.toList)) (al.del es s.data.toList) := H1.out.less hc3 (by rw [SUM.out]; exact hb3) hown3 (H1.out.rep.del _) (srt_del H1.out.srt _) (fun p hp => ⟨p, del_in hp, rfl⟩) (fun p hp q hq => H1.out.apart p (del_in hp) q (del_in hq))
  refine ⟨⟨rfl, ?_, hc3.mono fun k _ e => ?_⟩, ⟨_, hb3⟩, hc3⟩
  · have := Fil.ext hfi H4.out hc3.size (F := F) fun k hk => .inl (by
      rcases hk with e | e | ⟨p, hp, hk⟩
      · exact H3.out k (.inl e)
      · exact H3.out k (.inr (.inl e))
      · exact H3.out k (.inr (.inr ⟨p, del_in hp, hk⟩)))
    rw [mapv_del] at this
    exact this
  · rcases e with e | e
    · exact H3.out k (.inl e)
    · exact H3.out k (.inr (.inl e))
set_option maxRecDepth 100000 in
theorem rem_k (w : World) (f m : Nat) (u : Value) (F : Nat → Prop) (fs : AL Nm) (a : Nm) (ba : Nat) (part : Int) (h : Fil w f F fs) (hm : w.heap[f]? = some (.cells #[.map (some m), u] 83 (0, 0))) (h1 : boxS w ba a) (hl : a.length ≤ 40) (hbig : fsum fs ≤ 1099511627776) (hth : al.get fs a ≠ none) :
    Calls Tryz.prog 82 #[ptr f, .int .i64 part, ptr ba] w fun e w' => RetFil w f F (done fs (.rem a)) e w' ∧ (∃ u', w'.heap[f]? = some (.cells #[.map (some m), u'] 83 (0, 0))) ∧ Chg (fun k => k = f ∨ k = m) w w' := by
  have c1 : w.cell? ⟨ba, 0, none⟩ = some (.string (bs a)) := by rw [cell_of_row _ _ _ _ _ _ h1]; rfl
  have l1 : ba < w.heap.size := blk_lt h1
  have HA := Lib.hid (remove_fk w f m u F fs (bs a) h hm (by rw [bs_size]; unfold maxLen; omega) (by omega) (by rw [bs_list]; exact hth))
  rw [bs_list] at HA
  clear h h1 hm hth
  go_enter Tryz.func82, Tryz.ntmps82
  go_wp2_with fail
  refine HA.out.mono ?_
  rintro e w1 ⟨⟨rfl, hr3, hr4⟩, hu, hk⟩
  have R3 := Lib.hid hr3
  have R4 := Lib.hid hr4
  have R5 := Lib.hid hu
  have R6 := Lib.hid hk
  clear hr3 hr4 hu hk
  go_wp2_with (fail)
  go_end0
  exact ⟨⟨rfl, R3.out, R4.out⟩, R5.out, R6.out⟩
theorem whole_k (w : World) (f m : Nat) (u : Value) (F : Nat → Prop) (fs : AL Nm) (q : Pd) (a : Nm) (ba bb : Nat) (hqq : q = ⟨.rem a, ba, bb⟩) (h : Fil w f F fs) (hm : w.heap[f]? = some (.cells #[.map (some m), u] 83 (0, 0))) (hq : q.boxes w) (ho : okc fs q.c) (hth : al.get fs a ≠ none) (hbig : fsum fs + chlen q.c ≤ 1099511627776) :
    Calls Tryz.prog q.fid (#[ptr f, .int .i64 whole] ++ q.caps) w fun e w' => RetFil w f F (done fs q.c) e w' ∧ (∃ u', w'.heap[f]? = some (.cells #[.map (some m), u'] 83 (0, 0))) ∧ Chg (fun k => k = f ∨ k = m) w w' := by
  subst hqq
  exact rem_k w f m u F fs a ba whole h hm hq ho (by simp only [chlen] at hbig; omega) hth
theorem live_dv {w : World} {p fs fh : Nat} {Fs Fh Fo : Nat → Prop} {ls sh : AL Nm} {v : Value} {ps : List Pd} {due : Due} {dv : Option Nat} (h : Parts w p fs fh Fs Fh Fo ls sh v ps due dv) (hd : due = none) : dv = none := by
  have := h.due_
  subst hd
  cases dv with
  | none => rfl
  | some x => exact this.elim
set_option maxRecDepth 100000 in
theorem powered_k (w : World) (p : Nat) (F : Nat → Prop) (st : St) (h : Dk w p F st) (hl : Live st) : Calls Tryz.prog 71 #[ptr p] w fun e w' => e = .returned (.bool true) ∧ w' = w := by
  obtain ⟨fs, fh, Fs, Fh, Fo, v, ps, dv, hb, hP, h3, h4, h5, h6⟩ := h
  obtain rfl := live_dv hP hl.due
  obtain ⟨c0, c1, c2, c3, c4, c5, c6⟩ := disk_cell hb
  rw [hl.dead] at c5
  have hp := blk_lt hb
  simp only [dptr, Option.map_none] at c4
  clear hb hP h3 h4 h5 h6 c0 c1 c2 c3 c6
  go_enter Tryz.func71, Tryz.ntmps71
  go_wp2_with fail
  go_ret
  exact ⟨rfl, rfl⟩
set_option maxRecDepth 100000 in
set_option maxHeartbeats 1000000 in
theorem count_k (w : World) (p m ml : Nat) (F : Nat → Prop) (st : St) (hm : Mp w p m ml) (h : Dk w p F st) (hl : Live st) (h0 : 0 ≤ st.ops) (h1 : st.ops < 4611686018427387904) :
    Calls Tryz.prog 72 #[ptr p] w fun e w' => RetDk w p F (cnt st) (.tuple #[]) e w' ∧ Mp w' p m ml ∧ Chg (fun k => k = p) w w' := by
  obtain ⟨fs, fh, Fs, Fh, Fo, v, ps, dv, hb, hP, h3, h4, h5, h6⟩ := h
  have hdv := live_dv hP hl.due
  obtain ⟨room, ls, pd, due, dead, ops⟩ := st
  obtain ⟨hdue, hdead⟩ := hl
  simp only [St.shown] at hb hP h3 h4 h0 h1 hdue hdead
  subst hdv hdue
  obtain ⟨u, ul, hu, hul⟩ := hm.at hb
  obtain ⟨c0, c1, c2, c3, c4, c5, c6⟩ := disk_cell hb
  have fz := disk_froz hb 6
  have hp := blk_lt hb
  have hw : IntKind.i64.wrap (ops + 1) = ops + 1 := by rw [IntWalk.i64_in _ (by omega)]
  have hs := setp_obj (o := 6) (u := .int .i64 (ops + 1)) hb
  have hb2 : (w.setCell ⟨p, 6, none⟩ (.int .i64 (ops + 1))).heap[p]? = some (diskO room fs fh v none dead (ops + 1)) := hs
  have hP2 := hP.setp hb (chg_set w p 6 (.int .i64 (ops + 1)))
  have hpF : F p := h5 p (.inr (.inr hP.po))
  have hu2 := (chg_set w p 6 (.int .i64 (ops + 1))).blk hu (fun e => by subst e; exact blk_type hb hu (by decide) rfl)
  have hul2 := (chg_set w p 6 (.int .i64 (ops + 1))).blk hul (fun e => by subst e; exact blk_type hb hul (by decide) rfl)
  have e4 := (disk_cell hb2).2.2.2.2.1
  simp only [dptr, Option.map_none] at e4
  have HP2 := Lib.hid hP2
  have HB2 := Lib.hid hb2
  have HU2 := Lib.hid (And.intro hu2 hul2)
  have H3 := Lib.hid h3
  have H4 := Lib.hid h4
  have H5 := Lib.hid h5
  have H6 := Lib.hid h6
  clear hb hP h3 h4 h5 h6 c0 c1 c2 c3 c4 c5 hs hb2 hP2 hu hu2 hul hul2 hm
  go_enter Tryz.func72, Tryz.ntmps72
  go_wp2_with fail
  go_end0
  exact ⟨Dk.retp (due := none) (dv := none) (sh := []) (v := v) (ps := ps) (dead := dead) (ops := ops) HP2.out HB2.out H3.out H4.out (fun k hk => .inl (H5.out k hk)) H6.out (chg_set _ _ _ _) (fun k _ e => by subst e; exact hpF), ⟨_, _, _, _, _, _, _, u, ul, HB2.out, HU2.out.1, HU2.out.2⟩, chg_set _ _ _ _⟩
set_option maxRecDepth 100000 in
set_option maxHeartbeats 2000000 in
theorem do_k (w : World) (p m ml : Nat) (F : Nat → Prop) (st : St) (q : Pd) (a : Nm) (ba bb : Nat) (hqq : q = ⟨.rem a, ba, bb⟩) (hm : Mp w p m ml) (hlive : Live st) (hth : al.get st.shown a ≠ none) (h : Dk w p F st) (hq : q.boxes w) (hqF : ∀ k, q.foot k → ¬ F k) (ho : okc st.shown q.c) (hs : Small st) :
    Calls Tryz.prog 67 #[ptr p, .agg #[.func (.func q.fid) #[] q.caps, .bool q.isApp]] w (fun e w' => RetDo w p F q.foot (doSt st q.c) (.int .i64 (doE st)) e w' ∧ Mp w' p m ml ∧ Mild m w w') := by
  obtain ⟨w1, hw1⟩ : ∃ w1, w.alloc (.cells #[.func (.func q.fid) #[] q.caps, .bool q.isApp] 99) = w1 := ⟨_, rfl⟩
  have hb1 : Below w.heap.size w w1 := by rw [← hw1]; exact (Below.refl _ _).alloc (Nat.le_refl _) _
  have hs1 : w1.heap.size = w.heap.size + 1 := by rw [← hw1]; simp
  have hbx : w1.heap[w.heap.size]? = some (.cells #[.func (.func q.fid) #[] q.caps, .bool q.isApp] 99 (0, 0)) := by rw [← hw1]; exact alloc_new _ _
  have hd1 := h.chg (Chg.of_below hb1) (fun _ _ e => e)
  have HPW := Lib.hid (powered_k w1 p F st hd1 hlive)
  have D1 := Lib.hid hd1
  have M1 := Lib.hid (hm.below hb1)
  have HLV := Lib.hid hlive
  have HTH := Lib.hid hth
  have HQQ := Lib.hid hqq
  clear hm hlive hth hqq
  have hlt := h.lt
  have hq1 := Pd.boxes_chg hq (Chg.of_below hb1) (fun _ _ e => e)
  have hent := enters_q q
  obtain ⟨fid, hfid⟩ : ∃ fid, q.fid = fid := ⟨_, rfl⟩
  obtain ⟨caps, hcaps⟩ : ∃ caps, q.caps = caps := ⟨_, rfl⟩
  obtain ⟨isA, hisA⟩ : ∃ isA, q.isApp = isA := ⟨_, rfl⟩
  rw [hfid] at hent
  rw [hfid, hcaps, hisA] at hw1 hbx
  rw [hfid, hcaps, hisA]
  have W1 := Lib.hid hw1
  have B1 := Lib.hid hb1
  have BX := Lib.hid hbx
  have LT := Lib.hid hlt
  have Q1 := Lib.hid hq1
  have HF := Lib.hid (And.intro hfid (And.intro hcaps hisA))
  have HS := Lib.hid hs
  have HQF := Lib.hid hqF
  have HO := Lib.hid ho
  have QLT := Lib.hid (show ∀ k, q.foot k → k < w.heap.size from fun k hk => Pd.boxes_lt hq hk)
  have S1 := Lib.hid hs1
  clear h hq hw1 hb1 hbx hd1 hlt hq1 hfid hcaps hisA hs hqF ho hs1
  go_enter Tryz.func67, Tryz.ntmps67
  go_wp2_with fail
  rw [W1.out]
  refine HPW.out.mono ?_
  rintro e w2 ⟨rfl, hw21⟩
  have hc2 : Chg F w1 w2 := by rw [hw21]; exact Chg.refl _ _
  have hd2 : Dk w2 p (Ext F w1 w2) st := by rw [hw21]; exact D1.out.mono (fun k hk => .inl hk) (ext_lt D1.out.lt (Nat.le_refl _))
  have hm2 : Mp w2 p m ml := by rw [hw21]; exact M1.out
  have hb02 : Below w.heap.size w w2 := by rw [hw21]; exact B1.out
  have hdead : (pw st).dead = false := by rw [HLV.out.pw]; exact HLV.out.dead
  clear hw21
  have hcw2 : Chg F w w2 := (((Chg.of_below B1.out).mono (S' := F) (fun _ _ e => e.elim)).trans hc2 (fun _ _ e => e))
  have hs12 : w1.heap.size ≤ w2.heap.size := hc2.size
  obtain ⟨hpw, hal, hdue⟩ := pw_alive hdead
  have hst : doSt st q.c = cnt { st with pend := st.pend ++ [q.c] } := by unfold doSt; rw [if_neg (by rw [hdead]; simp)]
  have he : doE st = 0 := by unfold doE; rw [if_neg (by rw [hdead]; simp)]
  have HST := Lib.hid hst
  have HE := Lib.hid he
  have HDUE := Lib.hid hdue
  have hbx2 := hc2.blk BX.out (fun e => by have := LT.out _ e; omega)
  have hq2 := Pd.boxes_chg Q1.out hc2 HQF.out
  obtain ⟨fs, fh, Fs, Fh, Fo, v, ps, dv, hb2, hP2, h3, h4, h5, h6⟩ := hd2
  obtain ⟨u2, ul2, hu2, hul2⟩ := hm2.at hb2
  have x0 : w2.cell? ⟨w.heap.size, 0, none⟩ = some (.func (.func fid) #[] caps) := by rw [cell_of_row _ _ _ _ _ _ hbx2]; rfl
  have d2 := (disk_cell hb2).2.2.1
  have z0 := Wb.at_ x0
  have z2 := Wb.at_ d2
  have lp : p < w2.heap.size := blk_lt hb2
  have lx : w.heap.size < w2.heap.size := blk_lt hbx2
  have hsum1 := fold_sum hP2.hs.srt st.pend
  have hlen1 := fold_len st.last st.pend
  have HW := Lib.hid (whole_k w2.drew fh m u2 Fh st.shown q a ba bb HQQ.out (hP2.quiet (w' := w2.drew) (Below.refl _ _).drew).hh hu2 (Pd.boxes_chg hq2 (Chg.refl (fun _ => False) _).drew (fun _ _ e => e)) HO.out HTH.out (by have := HS.out.sum; rw [HQQ.out]; unfold St.shown; simp only [chlen]; omega))
  rw [HF.out.1, HF.out.2.1, show whole = 9223372036854775807 from rfl] at HW
  have P2 := Lib.hid hP2
  have U2 := Lib.hid hu2
  have UL2 := Lib.hid hul2
  have B02 := Lib.hid hb02
  have HB2 := Lib.hid hb2
  have BX2 := Lib.hid hbx2
  have Q2 := Lib.hid hq2
  have C2 := Lib.hid hcw2
  have HH := Lib.hid (And.intro h3 (And.intro h4 (And.intro h5 h6)))
  clear hst he hdue hbx2 hq2 hb2 hP2 h3 h4 h5 h6 x0 d2 hsum1 hlen1 hc2 hcw2 hdead hpw hal HPW hm2 hu2 hul2 hb02
  go_wp2_with fail
  refine wp_region_plan [([0, 1, 2, 3, 4, 5], some (6, true)), ([], none)] (by kernel_rfl) (by kernel_rfl) ?_
  refine seg_write _ (by dsimp only [pick, at_]) _ (by dsimp only [pick, at_]) ?_
  repeat (go_big_quiet_step (fail))
  refine wpQuiet_nil ?_
  intro K2 g1
  clear z0 z2
  go_wp2_with (fail)
  refine HW.out.mono ?_
  rintro e w3 ⟨hr, ⟨u3, hu3⟩, hk3⟩
  have U3 := Lib.hid hu3
  have K3c := Lib.hid (((Chg.refl (fun k => k = fh ∨ k = m) w2).drew).trans hk3 (fun _ _ e => e))
  have UL3 := Lib.hid (K3c.out.blk UL2.out (fun e => by
    have hfs := P2.out.hs.mp.1
    obtain ⟨hfh, m', u', hh', hm'⟩ := P2.out.hh.mp
    have e9 : m' = m := by
      have := hh'.symm.trans U2.out
      simp at this
      exact this.1
    subst e9
    rcases e with e | e
    · rw [e] at hfs; exact P2.out.ap1 _ hfs hfh
    · rw [e] at hfs; exact P2.out.ap1 _ hfs hm'))
  clear hu3 hk3
  obtain ⟨rfl, hf3, hc3⟩ := RetFil.drew hr
  have hP3 := P2.out.filh hc3 hf3 (fun k hk => hk.new)
  have hb3 := hc3.blk HB2.out (fun e => P2.out.ap3 p e P2.out.po)
  have hFhF : ∀ k, Fh k → F k ∨ w.heap.size + 1 ≤ k := fun k hk => by
    rcases HH.out.2.2.1 k (.inr (.inl hk)) with e | e
    · exact .inl e
    · exact .inr (by have := S1.out; omega)
  have hbx3 := hc3.blk BX2.out (fun e => by
    rcases hFhF _ e with e | e
    · have := LT.out _ e; omega
    · omega)
  have hq3 := Pd.boxes_chg Q2.out hc3 (fun k hk e => by
    rcases hFhF _ e with e | e
    · exact HQF.out k hk e
    · have := QLT.out k hk; omega)
  have hcw3 : Chg F w w3 := C2.out.trans hc3 (fun k hk e => (hFhF k e).resolve_right (by omega))
  have P3 := Lib.hid hP3
  have HB3 := Lib.hid hb3
  have BX3 := Lib.hid hbx3
  have Q3 := Lib.hid hq3
  have C3 := Lib.hid hcw3
  have hs23 : w2.heap.size ≤ w3.heap.size := hc3.size
  clear hr hf3 hc3 hP3 hb3 hbx3 hq3 hcw3 HW hent
  go_wp2_with (fail)
  refine seg_end _ (by dsimp only [pick, at_]) ?_
  repeat (go_big_quiet_step (fail))
  refine wpQuiet_nil (NoPanic.normal ?_)
  have d3 := (disk_cell HB3.out).2.2.2.1
  have y0 : w3.cell? ⟨w.heap.size, 0, none⟩ = some (.func (.func fid) #[] caps) := by rw [cell_of_row _ _ _ _ _ _ BX3.out]; rfl
  have y1 : w3.cell? ⟨w.heap.size, 1, none⟩ = some (.bool isA) := by rw [cell_of_row _ _ _ _ _ _ BX3.out]; rfl
  have lp3 : p < w3.heap.size := blk_lt HB3.out
  have lx3 : w.heap.size < w3.heap.size := by omega
  have z3 := Wb.at_ d3
  have z0 := Wb.at_ y0
  have z1 := Wb.at_ y1
  go_wp2_with fail
  refine wp_region_plan [([0, 1, 2, 3, 4, 5], some (6, false)), ([], some (7, true)), ([8, 9], some (10, true)), ([], none)] (by kernel_rfl) (by kernel_rfl) ?_
  refine seg_act _ (by dsimp only [pick, at_]) _ (by dsimp only [pick, at_]) ?_
  repeat (go_big_quiet_step (fail))
  refine wpQuiet_nil ?_
  intro K3 g1 g2
  clear g1 z0 z1 z3
  go_wp2_with (fail)
  obtain ⟨w4, hw4⟩ : ∃ w4, (w3.alloc (.cells #[.func (.func fid) #[] caps, .bool isA] 99)).drew = w4 := ⟨_, rfl⟩
  have hb34 : Below w3.heap.size w3 w4 := by rw [← hw4]; exact ((Below.refl _ _).alloc (Nat.le_refl _) _).drew
  have hpd : pdE q = [.func (.func fid) #[] caps, .bool isA] := by unfold pdE; rw [HF.out.1, HF.out.2.1, HF.out.2.2]
  have hnews : Ls CE w4 (w3.heap.size + 1) (some ⟨w3.heap.size, 0, none⟩) 1 [q] := by
    rw [← hw4]
    have h9 := (ls_new (E := CE) (w := w3) 99 q).drew
    have h10 : (CE.enc q).toArray = #[.func (.func fid) #[] caps, .bool isA] := by show (pdE q).toArray = _; rw [hpd]
    rw [h10] at h9
    exact h9
  have hrow4 : Rw CE w4 v ps.length ps := P3.out.row.chg (Chg.of_below hb34) (fun _ _ e => e)
  have hlp : ps.length ≤ 536870912 := by have h9 := congrArg List.length HH.out.1; rw [List.length_map] at h9; have := HS.out.len; omega
  have B34 := Lib.hid hb34
  have W4 := Lib.hid hw4
  rw [hw4]
  refine g2 _ _ hb34 ?_
  clear g2 hw4 hb34 hpd y0 y1 d3
  refine seg_write _ (by dsimp only [pick, at_]) _ (by dsimp only [pick, at_]) ?_
  refine wpQuiet_nil ?_
  intro K4 g1
  go_wp2_with (at_builtin; refine append_c rfl (.tmp 19) (.tmp 21) rfl v ps.length ps (by rfl) hrow4 _ _ 1 1 (fun e => by cases e) [q] (by rfl) hnews (by omega) ?_; intro v5 w5 hown5 hgrow5 hat5)
  obtain ⟨A5, c5, e5, _⟩ := hown5.form
  subst e5
  have hb4 := (Chg.of_below B34.out).blk HB3.out (fun e => e)
  have hvp : v.ownBlock ≠ some p := fun e => by
    obtain ⟨c9, hc9⟩ := P3.out.row.type e
    exact blk_type HB3.out hc9 (by decide) rfl
  have hb5 : w5.heap[p]? = some (diskO st.room fs fh v dv st.dead st.ops) := (hgrow5.block p (blk_lt hb4) (fun e => hvp e.symm)).trans hb4
  have d5 := (disk_cell hb5).2.2.2.1
  have fz := disk_froz hb5 3
  have lp5 : p < w5.heap.size := blk_lt hb5
  have z5 := Wb.at_ d5
  have O5 := Lib.hid hown5
  have G5 := Lib.hid hgrow5
  have A5L := Lib.hid hat5
  have HB5 := Lib.hid hb5
  clear hown5 hgrow5 hat5 hb5 hb4 hrow4 hnews
  refine seg_write _ (by dsimp only [pick, at_]) _ (by dsimp only [pick, at_]) ?_
  repeat (go_big_quiet_step (fail))
  refine wpQuiet_nil ?_
  intro K5 g1
  clear z5
  go_wp2_with (fail)
  refine seg_end _ (by dsimp only [pick, at_]) ?_
  repeat (go_big_quiet_step (fail))
  refine wpQuiet_nil (NoPanic.normal ?_)
  obtain ⟨w6, hw6⟩ : ∃ w6, w5.setCell ⟨p, 3, none⟩ (.slice A5 (ps.length + 1) c5) = w6 := ⟨_, rfl⟩
  rw [hw6]
  have hc56 : Chg (fun k => k = p) w5 w6 := by rw [← hw6]; exact chg_set _ _ _ _
  have hc36 : Chg (fun k => k = p ∨ v.ownBlock = some k) w3 w6 := (((Chg.of_below B34.out).mono (S' := fun k => k = p ∨ v.ownBlock = some k) (fun _ _ e => e.elim)).grown G5.out (fun k e _ => .inr e)).trans hc56 (fun _ _ e => .inl e)
  have hb6 : w6.heap[p]? = some (diskO st.room fs fh (.slice A5 (ps.length + 1) c5) dv st.dead st.ops) := by rw [← hw6]; exact setp_obj (o := 3) HB5.out
  have hrow6 : Rw CE w6 (.slice A5 (ps.length + 1) c5) (ps ++ [q]).length (ps ++ [q]) := by
    rw [List.length_append, List.length_singleton]
    exact O5.out.chg hc56 (fun g hg e => by
      obtain ⟨c9, hc9⟩ := O5.out.type hg
      exact blk_type HB5.out hc9 (by decide) e.symm)
  have hs34 : w3.heap.size ≤ w4.heap.size := B34.out.size
  have hs36 : w3.heap.size ≤ w6.heap.size := hc36.size
  have hs1 := S1.out
  have hat6 : ∀ g, (Value.slice A5 (ps.length + 1) c5).ownBlock = some g → v.ownBlock = some g ∨ w3.heap.size ≤ g := fun g hg => by
    rcases A5L.out with e | e
    · exact .inl (e.symm.trans hg)
    · rw [hg] at e; injection e with e; exact .inr (by omega)
  have hqS : ∀ k, q.foot k → ¬ Fs k ∧ ¬ Ext Fh w2.drew w3 k := fun k hk => by
    have h8 := QLT.out k hk
    have h9 := HQF.out k hk
    refine ⟨fun e => ?_, fun e => ?_⟩
    · rcases HH.out.2.2.1 k (.inl e) with e | e
      · exact h9 e
      · omega
    · rcases e with e | e
      · rcases HH.out.2.2.1 k (.inr (.inl e)) with e | e
        · exact h9 e
        · omega
      · have : w2.heap.size ≤ k := e.1
        omega
  have hP6 := P3.out.push HB3.out hc36 hrow6 hat6 Q3.out hqS
  obtain ⟨F6, hF6⟩ : ∃ F6 : Nat → Prop, F6 = fun k => Ext F w w6 k ∨ q.foot k := ⟨_, rfl⟩
  have hF6l : ∀ k, F6 k → k < w6.heap.size := fun k hk => by
    rw [hF6] at hk
    rcases hk with e | e
    · exact ext_lt LT.out (by omega) k e
    · have := QLT.out k e; omega
  have hd6 : Dk w6 p F6 { st with pend := st.pend ++ [q.c] } := by
    refine ⟨fs, fh, Fs, Ext Fh w2.drew w3, (fun k => Fo k ∨ q.foot k ∨ (w3.heap.size ≤ k ∧ k < w6.heap.size)), .slice A5 (ps.length + 1) c5, ps ++ [q], dv, hb6, ?_, ?_, legal_snoc HH.out.2.1 HO.out, fun k hk => ?_, hF6l⟩
    · have : St.shown { st with pend := st.pend ++ [q.c] } = done st.shown q.c := fold_snoc _ _ _
      rw [this]
      exact hP6
    · rw [List.map_append, HH.out.1]; rfl
    · rw [hF6]
      have old : ∀ k, Ext F w1 w2 k → Ext F w w6 k := fun k hk => by
        rcases hk with e | e
        · exact .inl e
        · exact .inr ⟨by omega, by omega⟩
      rcases hk with e | e | e
      · exact .inl (old k (HH.out.2.2.1 k (.inl e)))
      · rcases e with e | e
        · exact .inl (old k (HH.out.2.2.1 k (.inr (.inl e))))
        · have h9 : w2.heap.size ≤ k := e.1
          exact .inl (.inr ⟨by omega, by omega⟩)
      · rcases e with e | e | e
        · exact .inl (old k (HH.out.2.2.1 k (.inr (.inr e))))
        · exact .inr e
        · exact .inl (.inr ⟨by omega, e.2⟩)
  have hkf : ∀ {k : Nat} {c : Array Value}, w3.heap[k]? = some (.cells c 83 (0, 0)) → w6.heap[k]? = some (.cells c 83 (0, 0)) := fun hh => hc36.blk hh (fun e => by
    rcases e with e | e
    · subst e; exact blk_type HB3.out hh (by decide) rfl
    · obtain ⟨c9, hc9⟩ := P3.out.row.type e
      exact blk_type hh hc9 (by decide) rfl)
  have hm6 : Mp w6 p m ml := ⟨_, _, _, _, _, _, _, u3, ul2, hb6, hkf U3.out, hkf UL3.out⟩
  have HCO := Lib.hid (count_k w6 p m ml F6 { st with pend := st.pend ++ [q.c] } hm6 hd6 ⟨HLV.out.due, HLV.out.dead⟩ HS.out.ops0 HS.out.ops1)
  have C36 := Lib.hid hc36
  have hcw6 : Chg F w w6 := C3.out.trans hc36 (fun k hk e => by
    rcases e with e | e
    · subst e
      rcases HH.out.2.2.1 _ (.inr (.inr P2.out.po)) with e | e
      · exact e
      · omega
    · rcases HH.out.2.2.1 _ (.inr (.inr (P2.out.ro k e))) with e | e
      · exact e
      · omega)
  have C6 := Lib.hid hcw6
  have HF6 := Lib.hid hF6
  have HF6L := Lib.hid hF6l
  have hs06 : w.heap.size ≤ w6.heap.size := hcw6.size
  clear hc56 hc36 hb6 hrow6 hat6 hqS hP6 hF6 hF6l hd6 hcw6 d5 fz hw6 hm6 hkf
  go_wp2_with fail
  refine HCO.out.mono ?_
  rintro e w7 ⟨⟨rfl, hd7, hc7⟩, hm7, hk7⟩
  have hs67 : w6.heap.size ≤ w7.heap.size := hc7.size
  have hfin : RetDo w p F q.foot (doSt st q.c) (.int .i64 (doE st)) (.returned (.int .i64 0)) w7 := by
    refine ⟨by rw [HE.out], ?_, ?_⟩
    · rw [HST.out]
      refine hd7.mono (fun k hk => ?_) (fun k hk => ?_)
      · rcases hk with e | e
        · rw [HF6.out] at e
          rcases e with e | e
          · rcases e with e | e
            · exact .inl (.inl e)
            · exact .inl (.inr ⟨e.1, by omega⟩)
          · exact .inr e
        · exact .inl (.inr ⟨by omega, e.2⟩)
      · rcases hk with e | e
        · exact ext_lt LT.out (by omega) k e
        · have := QLT.out k e; omega
    · refine (C6.out.mono (S' := fun k => F k ∨ q.foot k) (fun _ _ e => .inl e)).trans hc7 (fun k hk e => ?_)
      rw [HF6.out] at e
      rcases e with e | e
      · rcases e with e | e
        · exact .inl e
        · omega
      · exact .inr e
  have hmild : Mild m w w7 := by
    refine ⟨fun k => (k = fh ∨ k = m ∨ k = p ∨ v.ownBlock = some k) ∧ k < w.heap.size, ?_, fun k hk => ?_⟩
    · have e1 : Chg (fun k => k = fh ∨ k = m ∨ k = p ∨ v.ownBlock = some k) w w7 := ((((Chg.of_below B02.out).mono (S' := fun k => k = fh ∨ k = m ∨ k = p ∨ v.ownBlock = some k) (fun _ _ e => e.elim)).trans K3c.out (fun k _ e => e.imp id .inl)).trans C36.out (fun k _ e => .inr (.inr e))).trans hk7 (fun k _ e => .inr (.inr (.inl e)))
      exact e1.mono (fun k hk e => ⟨e, hk⟩)
    · obtain ⟨hk, hlt⟩ := hk
      have back : ∀ {o : Obj}, w2.heap[k]? = some o → w.heap[k]? = some o := fun ho => by rw [← ho]; exact (B02.out.block k hlt).symm
      rcases hk with e | e | e | e
      · subst e; exact .inr ⟨_, _, _, back U2.out, by decide⟩
      · exact .inl e
      · subst e; exact .inr ⟨_, _, _, back HB2.out, by decide⟩
      · obtain ⟨c9, hc9⟩ := P2.out.row.type e
        exact .inr ⟨_, _, _, back hc9, by decide⟩
  have MM := Lib.hid (And.intro hm7 hmild)
  have FIN := Lib.hid hfin
  clear hd7 hc7 hfin HCO hm7 hk7 hmild
  go_wp2_with fail
  go_ret
  exact ⟨FIN.out, MM.out⟩
set_option maxRecDepth 100000 in
set_option maxHeartbeats 1000000 in
theorem remove_k (w : World) (p m ml : Nat) (F : Nat → Prop) (st : St) (a : Nm) (hm : Mp w p m ml) (hlive : Live st) (hok : okn a = true) (hth : al.get st.shown a ≠ none) (h : Dk w p F st) (hs : Small st) :
    Calls Tryz.prog 49 #[ptr p, .string (bs a)] w fun e w' => RetDk w p F (remSt st a).1 (.int .i64 (remSt st a).2) e w' ∧ Mp w' p m ml ∧ Mild m w w' := by
  obtain ⟨w2, hw2⟩ : ∃ w2, w.alloc (.cells #[.string (bs a)] 9) = w2 := ⟨_, rfl⟩
  have ha1 : w2.heap[w.heap.size]? = some (.cells #[.string (bs a)] 9) := by rw [← hw2]; exact alloc_new _ _
  have hb2 : Below w.heap.size w w2 := by rw [← hw2]; exact (Below.refl _ _).alloc (Nat.le_refl _) _
  have hs2 : w2.heap.size = w.heap.size + 1 := by rw [← hw2]; simp
  have HV := Lib.hid (valid_d w2 a)
  have x0 : w2.cell? ⟨w.heap.size, 0, none⟩ = some (.string (bs a)) := by rw [cell_of_row _ _ _ _ _ _ ha1]; rfl
  have hd2 := h.chg (Chg.of_below hb2) (fun _ _ e => e)
  have W2 := Lib.hid hw2
  have B2 := Lib.hid hb2
  have S2 := Lib.hid hs2
  have HD := Lib.hid h
  have HD2 := Lib.hid hd2
  have LT := Lib.hid h.lt
  have HS := Lib.hid hs
  have A1 := Lib.hid ha1
  have l0 : w.heap.size < w2.heap.size := blk_lt ha1
  clear h hs hw2 hb2 hs2 hd2 ha1
  have X0 := Lib.hid x0
  clear x0
  have M2 := Lib.hid (hm.below B2.out)
  have HLV := Lib.hid hlive
  have HTH := Lib.hid hth
  have hoka : (decide (1 ≤ a.length) && decide (a.length ≤ 40)) = okn a := rfl
  rw [hoka] at HV
  clear hoka hm hlive hth
  rw [hok] at HV
  have hla : a.length ≤ 40 := by have := hok; unfold okn at this; simp at this; exact this.2
  have HH := Lib.hid (show ∃ fh, w2.cell? ⟨p, 2, none⟩ = some (ptr fh) ∧ p < w2.heap.size ∧ Calls Tryz.prog 81 #[ptr fh, .string (bs a)] w2.drew fun e w' => e = .returned (.bool (al.get st.shown a).isSome) ∧ w2.drew = w' from by
    obtain ⟨fs, fh, Fs, Fh, Fo, v, ps, dv, hb, hP, h3, h4, h5, h6⟩ := HD2.out
    have := has_f w2.drew fh Fh st.shown (bs a) (hP.quiet (Below.refl _ _).drew).hh (by rw [bs_size]; unfold maxLen; omega)
    rw [bs_list] at this
    exact ⟨fh, (disk_cell hb).2.2.1, blk_lt hb, this⟩)
  obtain ⟨fh, c2, lp, hhas⟩ := HH.out
  clear HH
  obtain ⟨y, hg⟩ := Option.ne_none_iff_exists'.1 HTH.out
  have hap : remSt st a = (doSt st (.rem a), doE st) := by unfold remSt; rw [if_neg (by rw [hok]; simp), if_neg (by rw [hg]; simp)]
  rw [hap]
  have HDO := Lib.hid (do_k w2.drew p m ml F st ⟨.rem a, w.heap.size, w.heap.size⟩ a _ _ rfl (M2.out.below (Below.refl _ _).drew) HLV.out HTH.out (HD2.out.chg (Chg.refl (fun _ => False) _).drew (fun _ _ e => e)) A1.out (fun k hk e => by
    have := LT.out k e
    have e2 : k = w.heap.size := hk
    omega) hla HS.out)
  rw [hg] at hhas
  have HHA := Lib.hid hhas
  clear hok hap hg hhas hla
  go_enter Tryz.func49, Tryz.ntmps49
  go_wp2_with fail
  rw [W2.out]
  have x0 := X0.out
  go_wp2_with fail
  refine HV.out.mono ?_
  rintro e w3 ⟨rfl, rfl⟩
  go_wp2_with fail
  have z2 := Wb.at_ c2
  have zx0 := Wb.at_ x0
  refine wp_region_plan [([0, 1, 2, 3, 4], some (5, false)), ([6], none)] (by kernel_rfl) (by kernel_rfl) ?_
  refine seg_act _ (by dsimp only [pick, at_]) _ (by dsimp only [pick, at_]) ?_
  repeat (go_big_quiet_step (fail))
  refine wpQuiet_nil ?_
  intro K1 h1 h2
  clear h1
  go_wp2_with (fail)
  refine HHA.out.mono ?_
  rintro e w3 ⟨rfl, rfl⟩
  go_wp2_with (fail)
  refine h2 _ _ (Below.refl _ _).drew ?_
  refine seg_end _ (by dsimp only [pick, at_]) ?_
  repeat (go_big_quiet_step (fail))
  refine wpQuiet_nil (NoPanic.normal ?_)
  clear z2 zx0
  clear x0 c2
  go_wp2_with fail
  refine HDO.out.mono ?_
  rintro e w4 ⟨hr, hm4, hk4⟩
  have hr2 := hr.ret B2.out.drew LT.out (fun k hk => by
    have h9 := S2.out
    have e2 : k = w.heap.size := hk
    show w.heap.size ≤ k ∧ k < w2.heap.size
    omega)
  have R2 := Lib.hid hr2
  obtain ⟨rfl, _, _⟩ := hr
  have MM := Lib.hid (And.intro hm4 ((Mild.of_below (m := m) (B2.out.drew)).trans hk4))
  clear hr2 HDO hm4 hk4
  go_wp2_with fail
  go_ret
  exact ⟨R2.out, MM.out⟩
set_option maxRecDepth 100000 in
set_option maxHeartbeats 1000000 in
theorem remove_k0 (w : World) (p : Nat) (F : Nat → Prop) (st : St) (a : Nm) (hok : okn a = true) (hg : al.get st.shown a = none) (h : Dk w p F st) :
    Calls Tryz.prog 49 #[ptr p, .string (bs a)] w fun e w' => e = .returned (.int .i64 11) ∧ Below w.heap.size w w' := by
  obtain ⟨w2, hw2⟩ : ∃ w2, w.alloc (.cells #[.string (bs a)] 9) = w2 := ⟨_, rfl⟩
  have ha1 : w2.heap[w.heap.size]? = some (.cells #[.string (bs a)] 9) := by rw [← hw2]; exact alloc_new _ _
  have hb2 : Below w.heap.size w w2 := by rw [← hw2]; exact (Below.refl _ _).alloc (Nat.le_refl _) _
  have hs2 : w2.heap.size = w.heap.size + 1 := by rw [← hw2]; simp
  have HV := Lib.hid (valid_d w2 a)
  have x0 : w2.cell? ⟨w.heap.size, 0, none⟩ = some (.string (bs a)) := by rw [cell_of_row _ _ _ _ _ _ ha1]; rfl
  have hd2 := h.chg (Chg.of_below hb2) (fun _ _ e => e)
  have W2 := Lib.hid hw2
  have B2 := Lib.hid hb2
  have S2 := Lib.hid hs2
  have HD := Lib.hid h
  have HD2 := Lib.hid hd2
  have LT := Lib.hid h.lt
  have A1 := Lib.hid ha1
  have l0 : w.heap.size < w2.heap.size := blk_lt ha1
  clear h hw2 hb2 hs2 hd2 ha1
  have X0 := Lib.hid x0
  clear x0
  have hoka : (decide (1 ≤ a.length) && decide (a.length ≤ 40)) = okn a := rfl
  rw [hoka] at HV
  clear hoka
  rw [hok] at HV
  have hla : a.length ≤ 40 := by have := hok; unfold okn at this; simp at this; exact this.2
  have HH := Lib.hid (show ∃ fh, w2.cell? ⟨p, 2, none⟩ = some (ptr fh) ∧ p < w2.heap.size ∧ Calls Tryz.prog 81 #[ptr fh, .string (bs a)] w2.drew fun e w' => e = .returned (.bool (al.get st.shown a).isSome) ∧ w2.drew = w' from by
    obtain ⟨fs, fh, Fs, Fh, Fo, v, ps, dv, hb, hP, h3, h4, h5, h6⟩ := HD2.out
    have := has_f w2.drew fh Fh st.shown (bs a) (hP.quiet (Below.refl _ _).drew).hh (by rw [bs_size]; unfold maxLen; omega)
    rw [bs_list] at this
    exact ⟨fh, (disk_cell hb).2.2.1, blk_lt hb, this⟩)
  obtain ⟨fh, c2, lp, hhas⟩ := HH.out
  clear HH
  rw [hg] at hhas
  have HHA := Lib.hid hhas
  clear hok hg hhas
  go_enter Tryz.func49, Tryz.ntmps49
  go_wp2_with fail
  rw [W2.out]
  have x0 := X0.out
  go_wp2_with fail
  refine HV.out.mono ?_
  rintro e w3 ⟨rfl, rfl⟩
  go_wp2_with fail
  have z2 := Wb.at_ c2
  have zx0 := Wb.at_ x0
  refine wp_region_plan [([0, 1, 2, 3, 4], some (5, false)), ([6], none)] (by kernel_rfl) (by kernel_rfl) ?_
  refine seg_act _ (by dsimp only [pick, at_]) _ (by dsimp only [pick, at_]) ?_
  repeat (go_big_quiet_step (fail))
  refine wpQuiet_nil ?_
  intro K1 h1 h2
  clear h1
  go_wp2_with (fail)
  refine HHA.out.mono ?_
  rintro e w3 ⟨rfl, rfl⟩
  go_wp2_with (fail)
  refine h2 _ _ (Below.refl _ _).drew ?_
  refine seg_end _ (by dsimp only [pick, at_]) ?_
  repeat (go_big_quiet_step (fail))
  refine wpQuiet_nil (NoPanic.normal ?_)
  clear z2 zx0
  go_wp2_with fail
  go_ret
  exact ⟨rfl, B2.out.drew⟩
end Go.Proofs.YtmegkemileailaaGreatDoor.dk
/-
  The iterator of the log's files, for a loop that turns integers of its own.
-/
namespace Go.Proofs.YtmegkemileailaaGreatDoor.lg
open Go.ChangeShapes Go.WideShapes Go.ChangeAt Go.RowKit Go.Shelf Go.Maps Go.Sort plain words ord mem al cl uvs dk
attribute [local go_sem] Oper.semAt_some

/-- what a round keeps for the iterator: integers from block B on -/
structure Kb (B0 : Nat) (A B : World) : Prop where
  size : A.heap.size ≤ B.heap.size
  ints : ∀ (k : Nat) (c : Array Value) (fr : Nat × Nat), B0 ≤ k → A.heap[k]? = some (.cells c 3 fr) → B.heap[k]? = some (.cells c 3 fr)
  lay : LayS A → LayS B
theorem Kb.refl (B0 : Nat) (A : World) : Kb B0 A A := ⟨Nat.le_refl _, fun _ _ _ _ h => h, fun h => h⟩
theorem Kb.tr {B0 : Nat} {A B C : World} (h : Kb B0 A B) (k : Kb B0 B C) : Kb B0 A C := ⟨Nat.le_trans h.size k.size, fun i c f hB hi => k.ints i c f hB (h.ints i c f hB hi), fun x => k.lay (h.lay x)⟩
theorem Kb.put {B0 : Nat} {w : World} (W : World) (l : Nat) (o o' : Obj) (h0 : w.heap.size ≤ l) (h : W.heap[l]? = some o) (hc : o.isCells = false) (hw : o.isWalk = false) : Kb B0 W (W.putObj l o') :=
  let k := Kf.put (w := w) W l o o' h0 h hc hw
  ⟨k.size, fun i c f _ hi => k.ints i c f hi, k.lay⟩
set_option maxHeartbeats 4000000 in
set_option maxRecDepth 100000 in
theorem seq_g (m p bd : Nat) (F : Nat → Prop) (st : St) (w : World) (hd : Dk w p F st) (hbd : w.heap[bd]? = some (.cells #[ptr p] 23 (0, 0))) (hl : LayS w) (hfew : st.shown.length ≤ 1000000000) :
    SeqStopsK Fence.wide m Tryz.prog 57 #[.pointer (some ⟨bd, 0, none⟩)] fnv (Kb w.heap.size) (fun ys => ys = ns st.shown) (fun pre => pre <+: ns st.shown) (nums st.shown).length w := by
  intro l J Jx W hW hJ hJx hY h0
  refine callsIn_wide.2 ?_
  show Calls Tryz.prog 57 #[.func (.yield l) #[] #[], .pointer (some ⟨bd, 0, none⟩)] W _
  have hdW : Dk W p F st := hd.chg (Chg.of_below hW) (fun _ _ e => e)
  have hbW := blk_below hW hbd (blk_lt hbd)
  have hlW := hl.below hW
  have hNle := names_le hdW
  have hshl : (st.shown.map (·.1)).length = st.shown.length := List.length_map _
  have hbase := hW.size
  have HJ := Lib.hid hJ
  have HY := Lib.hid hY
  have H0 := Lib.hid h0
  have HL := Lib.hid hlW
  have HN := Lib.hid (names_d W p F st hdW (by omega))
  have HNE := Lib.hid (nums_some st.shown)
  have c1 : W.cell? ⟨bd, 0, none⟩ = some (ptr p) := by rw [cell_of_row _ _ _ _ _ _ hbW]; rfl
  have l1 := blk_lt hbW
  obtain ⟨names, hnm⟩ : ∃ l, st.shown.map (·.1) = l := ⟨_, rfl⟩
  obtain ⟨N, hN⟩ : ∃ N, st.shown.length = N := ⟨_, rfl⟩
  unfold RetNames at HN
  rw [hnm] at HNE HN hNle hshl
  rw [hN] at HN hshl hfew
  have HNL := Lib.hid hNle
  have HSL := Lib.hid hshl
  have hsome := some_len names
  rw [hshl] at hsome
  obtain ⟨M, hM⟩ : ∃ M, (nums st.shown).length = M := ⟨_, rfl⟩
  have hMN : M ≤ N := by rw [← hM, HNE.out, List.length_mergeSort]; exact hsome
  rw [hM] at HY
  have HM := Lib.hid hM
  obtain ⟨i0, hi, hz0, hz1, hz2⟩ := info_parts infoI
  clear hd hbd hl hW hJ hJx hY h0 hdW hbW hlW hNle hnm hN hshl hM hsome
  go_enter Tryz.func57, Tryz.ntmps57
  go_wp2_with (fail)
  refine HN.out.mono ?_
  rintro e w1 ⟨vn, rfl, hrow, hb1⟩
  obtain ⟨An, cn, en⟩ : ∃ A c, vn = .slice A N c := by
    rcases own_form hrow with ⟨e, e0⟩ | ⟨g, c, e, _⟩
    · exact ⟨none, 0, by rw [e, e0]⟩
    · exact ⟨_, _, e⟩
  subst en
  have I1 := Lib.hid (show NI W w1 names (.slice An N cn) N 0 (.slice none 0 0) 0 from ⟨hrow, Ow.nil _ _, hb1⟩)
  clear hrow hb1 HN c1
  go_wp2_with (fail)
  go_loopg [3, 5, 6, 7, 13] N (fun gg s3 s5 s6 s7 s13 wr => ∃ (i k : Nat) (A3 : Option Addr) (c3 : Nat), s3 = .slice A3 k c3 ∧ s13 = .int .i64 i ∧ i ≤ N ∧ N - i ≤ gg ∧ k ≤ i ∧ Aside (NI W wr names (.slice An N cn) N i (.slice A3 k c3) k))
  case atStart => exact ⟨0, 0, none, 0, rfl, rfl, Nat.zero_le _, by omega, Nat.le_refl _, I1.out⟩
  case round =>
    obtain ⟨i, k, A3, c3, rfl, rfl, hiN, hgg, hki, II⟩ := hrel
    obtain ⟨wv, rfl⟩ : ∃ wv, wv = wr := ⟨wr, rfl⟩
    by_cases hlt : i < N
    · have j1 : (i : Int) < (N : Int) := by omega
      have j0 : (0 : Int) ≤ (i : Int) := by omega
      obtain ⟨b, off, c', a, ev, hcap, hbl, ha, hc⟩ := II.out.at hlt
      injection ev with e1 e2 e3
      subst e1 e3
      have hal := HNL.out a (List.mem_of_getElem? ha)
      have HA := Lib.hid ha
      have HX := Lib.hid (numbered_x wv (HL.out.below II.out.bel) a (by unfold maxLen at hal; omega))
      unfold numV at HX
      clear ha hal e2
      cases hn : numOf a with
      | none =>
        have HNN := Lib.hid hn
        rw [hn] at HX
        clear hn
        go_wp2_with (fail)
        refine HX.out.mono ?_
        rintro e w2 ⟨rfl, hb2⟩
        have I2 := Lib.hid ((II.out.quiet hb2).skip HA.out HNN.out)
        clear hb2 HX hc
        go_wp2_with (fail)
        go_roundg (N - (i + 1))
        case measure => omega
        case rel => exact ⟨i + 1, k, A3, c3, rfl, by go_num, by omega, by omega, by omega, I2.out⟩
      | some n =>
        have HNN := Lib.hid hn
        rw [hn] at HX
        clear hn
        go_wp2_with (fail)
        refine HX.out.mono ?_
        rintro e w2 ⟨rfl, hb2⟩
        have I2 := Lib.hid (II.out.quiet hb2)
        have hsz2 := I2.out.bel.size
        clear hb2 HX hc
        go_wp2_with (at_builtin; refine wpList_append_ow IE (P := Tryz.prog) Tryz.underlying91 hi hz0 hz1 hz2 rfl (by decide) rfl (.tmp 23) (.tmp 25) rfl W.heap.size _ k (some_ (names.take i)) rfl ((I2.out.quiet ((Below.refl _ _).alloc (Nat.le_refl _) _)).ow) (w2.heap.size + 1) (some ⟨w2.heap.size, 0, none⟩) 1 1 (fun e => by cases e) [n] (by rfl) (by have h9 := ls_new (E := IE) (w := w2) 3 n; simpa [IE] using h9) (by omega) (by simp; omega) ?_; intro A4 x4 w4 hown4 hg4 _ _ _ hs4; have I4 := Lib.hid ((I2.out.quiet ((Below.refl _ _).alloc (Nat.le_refl _) _)).app HA.out HNN.out hg4 hown4); clear hg4 hown4)
        go_roundg (N - (i + 1))
        case measure => omega
        case rel => exact ⟨i + 1, k + 1, A4, x4, rfl, by go_num, by omega, by omega, by omega, I4.out⟩
    · obtain rfl : i = N := by omega
      have j1 : ¬ (i : Int) < (i : Int) := by omega
      have ho : Ow IE wv W.heap.size (.slice A3 k c3) k (some_ names) := by
        have := II.out.ow
        rwa [List.take_of_length_le (by rw [HSL.out]; exact Nat.le_refl _)] at this
      have HS := Lib.hid (sort_c wv W.heap.size k c3 A3 _ ho (by omega))
      rw [← HNE.out] at HS
      have hkM : k = M := by have := ho.1; rw [← this, ← HM.out, HNE.out, List.length_mergeSort]
      subst hkM
      clear ho
      go_wp2_with (fail)
      refine HS.out.mono ?_
      rintro e w2 ⟨rfl, ho2, o2, hold, hg2⟩
      have hB2 : Below W.heap.size W w2 := II.out.bel.grown hg2 II.out.bel.size fun g e => (hold g e).1
      have J2 := Lib.hid (HJ.out _ _ _ none H0.out (grown_below hB2) (fun r e => by cases e))
      have L2 := Lib.hid (HL.out.below hB2)
      have O2 := Lib.hid ho2
      have hsz2 := hB2.size
      clear ho2 hold hg2 hB2 HS I1 II
      go_wp2_with (fail)
      go_loopw [9, 32] (fun _ s32 wr => ∃ (j : Nat), j ≤ k ∧ s32 = .int .i64 j ∧ Aside (W.heap.size ≤ wr.heap.size) ∧ J ((ns st.shown).take j) wr ∧ LayS wr ∧ Ow IE wr W.heap.size (.slice A3 k c3) k (nums st.shown)) (fun _ i _ => k - (intOf i).toNat)
      case atStart => exact ⟨0, by omega, rfl, hsz2, J2.out, L2.out, O2.out⟩
      case round =>
        clear J2 L2 O2
        obtain ⟨j, hjk, rfl, HSZ, hJj, hLj, hOj⟩ := hrel
        have JK := Lib.hid hJj
        have LK := Lib.hid hLj
        have OK_ := Lib.hid hOj
        by_cases hlt2 : j < k
        · have q1 : (j : Int) < (k : Int) := by omega
          have q0 : (0 : Int) ≤ (j : Int) := by omega
          obtain ⟨g3, c3', e3, hg3b, hg3, hc3, _⟩ := hOj.some_ (by omega)
          injection e3 with e31 e32 e33
          subst e31 e33
          obtain ⟨n, hn⟩ := hOj.ls.get hlt2
          obtain ⟨x, hx, hxn⟩ := ns_at st.shown hn
          obtain ⟨b', off', e', _, hc'⟩ := hOj.ls.at_ hn
          cases e'
          have d0 : wr.cell? ⟨g3, j, none⟩ = some (.int .i64 (n : Nat)) := by simpa [IE] using hc' 0 (by decide)
          have HX := Lib.hid hx
          have HXN := Lib.hid hxn
          have hx1 := x.2
          rw [hx] at hx1
          have HNM := Lib.hid (callsIn_wide (n := m - 1).2 (named_x wr hLj n (by omega)))
          clear hJj hLj hOj e32 hn hx hxn hc'
          refine (wpIn_wide (n := m)).1 ?_
          gi_wp2
          refine ⟨trivial, fun h => (by cases h), HNM.out.mono ?_⟩
          rintro e w4 ⟨rfl, hb4⟩
          have J4 := Lib.hid (HJ.out _ _ _ none JK.out (grown_below hb4) (fun r e => by cases e))
          have O4 := Lib.hid (OK_.out.below hb4 (Nat.le_refl _))
          have L4 := Lib.hid (LK.out.below hb4)
          have hsz4 := hb4.size
          have hlen : ((ns st.shown).take j).length < k := by rw [List.length_take, ns_len, HM.out]; omega
          obtain ⟨fn, tmps, assign, body, hy, hR⟩ := HY.out _ x w4 J4.out hlen
          have htk : (ns st.shown).take j ++ [x] = (ns st.shown).take (j + 1) := by rw [List.take_add_one, HXN.out]; rfl
          rw [htk] at hR
          unfold fnv at hy
          rw [HX.out] at hy
          have HR := Lib.hid hR
          clear hR hb4 d0 htk HNM
          gi_wp2
          refine ⟨fun e => (by cases e), HR.out.mono ?_⟩
          rintro e W5 (⟨rfl, hJ5, hk5⟩ | ⟨rfl, hJx5⟩)
          · obtain ⟨cu, hcu⟩ := O4.out.type (g := g3) rfl
            have O5 : Ow IE W5 W.heap.size (.slice (some ⟨g3, 0, none⟩) k c3) k (nums st.shown) := by
              obtain ⟨q1, q2⟩ := O4.out
              refine ⟨q1, q2.1, ?_⟩
              rcases q2.2 with ⟨q3, _⟩ | ⟨g, cap, cur, q3, q4, q5, q6⟩
              · cases q3
              · exact .inr ⟨g, cap, cur, q3, q4, hk5.ints _ _ _ (Nat.le_trans hbase q4) q5, q6⟩
            have O5 := Lib.hid O5
            have J5 := Lib.hid hJ5
            have L5 := Lib.hid (hk5.lay L4.out)
            have hsz5 := hk5.size
            clear hJ5 hk5 hy HR hcu
            gi_wp2
            go_wp2_with (fail)
            go_roundw
            case rel => exact ⟨j + 1, by omega, by go_num, Nat.le_trans HSZ.out (Nat.le_trans hsz4 hsz5), J5.out, L5.out, O5.out⟩
            case measure => simp [intOf]; omega
          · clear hy HR
            gi_wp2
            refine bodyPost_ret (results_none rfl _ _ _) rfl ?_
            exact ⟨⟨_, rfl⟩, .inr ⟨_, List.take_prefix _ _, hJx5⟩⟩
        · obtain rfl : j = k := by omega
          have q1 : ¬ (j : Int) < (j : Int) := by omega
          clear hJj hLj hOj
          go_wp2_with (fail)
          go_end0
          exact ⟨⟨_, rfl⟩, .inl (by have h := JK.out; rwa [List.take_of_length_le (by rw [ns_len, HM.out]; exact Nat.le_refl _)] at h)⟩
end Go.Proofs.YtmegkemileailaaGreatDoor.lg
/-
  The program's Drop.
-/
namespace Go.Proofs.YtmegkemileailaaGreatDoor.dk
open Go.ChangeShapes Go.WideShapes Go.ChangeAt Go.RowKit Go.Shelf Go.Maps Go.Sort plain words ord mem al
theorem Mp.chg {S : Nat → Prop} {w w' : World} {p m ml : Nat} (h : Mp w p m ml) (hc : Chg S w w') (hS : ∀ k c fr, (w.heap[k]? = some (.cells c 66 fr) ∨ w.heap[k]? = some (.cells c 83 fr)) → ¬ S k) : Mp w' p m ml := by
  obtain ⟨a1, a2, a3, a4, a5, a6, a7, u, ul, h1, h2, h3⟩ := h
  exact ⟨a1, a2, a3, a4, a5, a6, a7, u, ul, hc.blk h1 (hS _ _ _ (.inl h1)), hc.blk h2 (hS _ _ _ (.inr h2)), hc.blk h3 (hS _ _ _ (.inr h3))⟩
theorem Mp.own {S : Nat → Prop} {w w' : World} {p m ml : Nat} (h : Mp w p m ml) (hc : Chg S w w') (hS : ∀ k c t fr, w.heap[k]? = some (.cells c t fr) → ¬ S k) : Mp w' p m ml :=
  h.chg hc fun k c fr hh => hh.elim (hS k c _ fr) (hS k c _ fr)
end Go.Proofs.YtmegkemileailaaGreatDoor.dk
namespace Go.Proofs.YtmegkemileailaaGreatDoor.lg
open Go.ChangeShapes Go.WideShapes Go.ChangeAt Go.RowKit Go.Shelf Go.Maps Go.Sort plain words ord mem al cl uvs dk
attribute [local go_sem] Oper.semAt_some

/-- behind the removal of these numbers' files -/
def rems (st : St) (L : List Nat) : St := { st with pend := st.pend ++ L.map (fun n => Chn.rem (lname n)), ops := st.ops + (L.length : Int) }
theorem rems_nil (st : St) : rems st [] = st := by cases st; simp [rems]
theorem rems_snoc (st : St) (L : List Nat) (n : Nat) : more (rems st L) (.rem (lname n)) = rems st (L ++ [n]) := by
  cases st
  simp [rems, more, Int.add_assoc]
theorem rems_live {st : St} (h : Live st) (L : List Nat) : Live (rems st L) := ⟨h.due, h.dead⟩
theorem sumc_rems (L : List Nat) : sumc (L.map (fun n => Chn.rem (lname n))) = 0 := by
  induction L with
  | nil => rfl
  | cons n L ih => unfold sumc at ih ⊢; simp only [List.map_cons, List.sum_cons, chlen, ih]
theorem sumc_app (a b : List Chn) : sumc (a ++ b) = sumc a + sumc b := by unfold sumc; rw [List.map_append, List.sum_append]
theorem rems_small {st : St} (h : Live st) (L : List Nat) (h1 : fsum st.last + sumc st.pend ≤ 536870912) (h2 : st.last.length + st.pend.length + L.length ≤ 536870912) (h3 : 0 ≤ st.ops) (h4 : st.ops + L.length < 4611686018427387904) : Small (rems st L) := by
  refine ⟨?_, ?_, by show 0 ≤ st.ops + _; omega, by show st.ops + _ < _; omega, fun x hx => by rw [show (rems st L).due = st.due from rfl, h.due] at hx; cases hx⟩
  · show fsum st.last + sumc (st.pend ++ _) ≤ _
    rw [sumc_app, sumc_rems]; omega
  · show st.last.length + (st.pend ++ _).length ≤ _
    rw [List.length_append, List.length_map]; omega
/-- between two rounds of Drop -/
structure DI (w W : World) (p bl N m ml : Nat) (below : Int) (F : Nat → Prop) (st : St) (pre : List Fn) : Prop where
  dk : ∃ G, Dk W p G (rems st (pre.map (·.1))) ∧ (∀ k, G k → F k ∨ w.heap.size + 5 ≤ k) ∧ ∀ k, G k → k = m ∨ k = ml ∨ ∃ c t fr, W.heap[k]? = some (.cells c t fr)
  mp : Mp W p m ml
  lg : Lg W bl p N
  b0 : W.heap[w.heap.size]? = some (.cells #[ptr bl] 25 (0, 0))
  b1 : W.heap[w.heap.size + 1]? = some (.cells #[.int .i64 below] 3 (0, 0))
  b2 : W.heap[w.heap.size + 1 + 1]? = some (.cells #[.int .i64 0] 29 (0, 0))
  b3 : W.heap[w.heap.size + 1 + 1 + 1]? = some (.cells #[.int .i64 (pre.length : Nat)] 3 (0, 0))
  big : w.heap.size + 5 ≤ W.heap.size
  chg : Chg F w W
theorem DI.own {w : World} {p bl N m ml B : Nat} {below : Int} {F : Nat → Prop} {st : St} (hB : w.heap.size + 5 ≤ B) (hm : m < w.heap.size) (hml : ml < w.heap.size) : OwnFrom B (fun pre W => DI w W p bl N m ml below F st pre) := by
  intro pre A C row h hg hr
  have hc : Chg (fun k => row = some k) A C := (Chg.refl _ _).grown hg (fun k hk _ => hk)
  have ne : ∀ (k : Nat) (c : Array Value) (t : TypeId) (f : Nat × Nat), A.heap[k]? = some (.cells c t f) → ¬ row = some k := fun k c t f hk e => by
    obtain ⟨_, o, ho, hoc⟩ := hr _ e
    rw [hk] at ho; cases ho; cases hoc
  obtain ⟨G, g1, g2, g3⟩ := h.dk
  refine ⟨⟨G, g1.chg hc (fun k hk e => ?_), g2, fun k hk => ?_⟩, h.mp.own hc ne, hc.blk h.lg (ne _ _ _ _ h.lg), hc.blk h.b0 (ne _ _ _ _ h.b0), hc.blk h.b1 (ne _ _ _ _ h.b1), hc.blk h.b2 (ne _ _ _ _ h.b2), hc.blk h.b3 (ne _ _ _ _ h.b3), Nat.le_trans h.big hg.size, h.chg.grown hg (fun k e hk => ?_)⟩
  · have := (hr k e).1
    rcases g3 k hk with e9 | e9 | ⟨c, t, f, e9⟩
    · omega
    · omega
    · exact ne _ _ _ _ e9 e
  · rcases g3 k hk with e9 | e9 | ⟨c, t, f, e9⟩
    · exact .inl e9
    · exact .inr (.inl e9)
    · exact .inr (.inr ⟨c, t, f, hc.blk e9 (ne _ _ _ _ e9)⟩)
  · have := (hr k e).1; omega
theorem DI.quiet {w W W' : World} {p bl N m ml : Nat} {below : Int} {F : Nat → Prop} {st : St} {pre : List Fn} (h : DI w W p bl N m ml below F st pre) (hm : m < w.heap.size) (hml : ml < w.heap.size) (hb : Below W.heap.size W W') : DI w W' p bl N m ml below F st pre :=
  DI.own (B := w.heap.size + 5) (Nat.le_refl _) hm hml pre W W' none h (grown_below hb) (fun r e => by cases e)
theorem DI.step {w W W' : World} {p bl N m ml : Nat} {below : Int} {F G : Nat → Prop} {st : St} {pre : List Fn} {x : Fn} (h : DI w W p bl N m ml below F st pre) (hF : ∀ k, F k → k < w.heap.size) (hbl : ¬ F bl) (hbw : bl < w.heap.size)
    (g2 : ∀ k, G k → F k ∨ w.heap.size + 5 ≤ k) (hd : Dk W' p (Ext G W W') (rems st ((pre ++ [x]).map (·.1)))) (hc : Chg G W W') (hmp : Mp W' p m ml) :
    DI w (W'.setCell ⟨w.heap.size + 1 + 1 + 1, 0, none⟩ (.int .i64 ((pre.length : Int) + 1))) p bl N m ml below F st (pre ++ [x]) := by
  obtain ⟨G', t1, t2, t3⟩ := hd.tight hmp
  have hc2 := dk.chg_set W' (w.heap.size + 1 + 1 + 1) 0 (.int .i64 ((pre.length : Int) + 1))
  have hbig := h.big
  have hsz := hc.size
  have hG' : ∀ k, G' k → F k ∨ w.heap.size + 5 ≤ k := fun k hk => by
    rcases t2 k hk with e | e
    · exact g2 k e
    · exact .inr (by omega)
  have nG : ∀ k, w.heap.size ≤ k → k < w.heap.size + 5 → ¬ G k := fun k h1 h2 e => by
    rcases g2 k e with e | e
    · have := hF k e; omega
    · omega
  have x0 := hc.blk h.b0 (nG _ (by omega) (by omega))
  have x1 := hc.blk h.b1 (nG _ (by omega) (by omega))
  have x2 := hc.blk h.b2 (nG _ (by omega) (by omega))
  have x3 := hc.blk h.b3 (nG _ (by omega) (by omega))
  have xl := hc.blk h.lg (fun e => by
    rcases g2 bl e with e | e
    · exact hbl e
    · omega)
  refine ⟨⟨G', t1.chg hc2 (fun k hk e => ?_), hG', fun k hk => ?_⟩, hmp.chg hc2 (fun k c fr hh e => ?_), hc2.blk xl (by omega), hc2.blk x0 (by omega), hc2.blk x1 (by omega), hc2.blk x2 (by omega), ?_, Nat.le_trans hbig (Nat.le_trans hsz hc2.size), ?_⟩
  · rcases hG' k hk with e9 | e9
    · have := hF k e9; omega
    · omega
  · rcases t3 k hk with e | e | ⟨c, t, fr, e⟩
    · exact .inl e
    · exact .inr (.inl e)
    · refine .inr (.inr ⟨c, t, fr, hc2.blk e (fun e9 => ?_)⟩)
      rcases hG' k hk with e8 | e8
      · have := hF k e8; omega
      · omega
  · subst e
    rcases hh with hh | hh
    · exact blk_type x3 hh (by decide) rfl
    · exact blk_type x3 hh (by decide) rfl
  · have := setp_obj (o := 0) (u := .int .i64 ((pre.length : Int) + 1)) x3
    rw [this]
    simp
  · exact (h.chg.trans hc (fun k hk e => (g2 k e).resolve_right (by omega))).trans hc2 (fun k hk e => by omega)
theorem min_app (l : List Fn) (h : l.Pairwise fun a b => a.1 ≠ b.1) {pre : List Fn} {x : Fn} (hp : pre ++ [x] <+: l) : x ∈ l ∧ x ∉ pre := by
  obtain ⟨t, rfl⟩ := hp
  refine ⟨by simp, fun e => ?_⟩
  rw [List.append_assoc, List.pairwise_append] at h
  exact h.2.2 x e x (by simp) rfl
def limit (below : Int) (N : Nat) : Int := min below (N : Int)
/-- how a Drop leaves the disk: L are the numbers dropped -/
def dropSt (st : St) (L : List Nat) : St := if L = [] then st else syncSt (rems st L)
/-- the numbers dropped -/
def dropped (fs : AL By) (lim : Int) : List Nat := (nums fs).takeWhile fun n => decide ((n : Int) < lim)
theorem ns_pw {fs : AL By} (hs : al.Srt fs) : (ns fs).Pairwise fun a b => a.1 ≠ b.1 := by
  have h := nums_pw hs
  rw [← ns_val fs, List.pairwise_map] at h
  exact h.imp (fun h => by omega)
theorem dropped_all {fs : AL By} {lim : Int} (h : ∀ y ∈ ns fs, (y.1 : Int) < lim) : dropped fs lim = (ns fs).map (·.1) := by
  unfold dropped
  rw [← ns_val fs]
  have key : ∀ l : List Nat, (∀ n ∈ l, (n : Int) < lim) → l.takeWhile (fun n : Nat => decide ((n : Int) < lim)) = l := by
    intro l
    induction l with
    | nil => intro _; rfl
    | cons n l ih => intro hl; rw [List.takeWhile_cons, if_pos (by simpa using hl n (by simp)), ih (fun k hk => hl k (by simp [hk]))]
  exact key _ fun n hn => by
    obtain ⟨y, hy, rfl⟩ := List.mem_map.1 hn
    exact h y hy
theorem takeWhile_at {α : Type} (q : α → Bool) (pre : List α) (x : α) (t : List α) (h1 : ∀ y ∈ pre, q y = true) (h2 : q x = false) : (pre ++ x :: t).takeWhile q = pre := by
  induction pre with
  | nil => simp [h2]
  | cons y pre ih => rw [List.cons_append, List.takeWhile_cons, h1 y (by simp), if_pos rfl, ih (fun z hz => h1 z (by simp [hz]))]
theorem dropped_at {fs : AL By} {lim : Int} {pre : List Fn} {x : Fn} (h : pre ++ [x] <+: ns fs) (hp : ∀ y ∈ pre, (y.1 : Int) < lim) (hx : ¬ (x.1 : Int) < lim) : dropped fs lim = pre.map (·.1) := by
  obtain ⟨t, ht⟩ := h
  unfold dropped
  rw [← ns_val fs, ← ht, List.append_assoc, List.map_append, List.singleton_append, List.map_cons]
  refine takeWhile_at _ _ _ _ (fun n hn => ?_) (by simpa using hx)
  obtain ⟨y, hy, rfl⟩ := List.mem_map.1 hn
  simpa using hp y hy
theorem rems_shown (st : St) (L : List Nat) : (rems st L).shown = L.foldl (fun fs n => al.del fs (lname n)) st.shown := by
  unfold St.shown rems fold
  rw [List.foldl_append, List.foldl_map]
  rfl
theorem get_dels (L : List Nat) (n : Nat) (hn : n ∉ L) : ∀ fs : AL By, al.get (L.foldl (fun fs n => al.del fs (lname n)) fs) (lname n) = al.get fs (lname n) := by
  induction L with
  | nil => intro fs; rfl
  | cons k L ih =>
    intro fs
    rw [List.foldl_cons, ih (fun e => hn (by simp [e])), get_del_other (fun e => hn (by rw [lname_inj e]; simp))]
/-- what is still to come is still there -/
theorem rems_there {st : St} (hs : al.Srt st.shown) {q : List Fn} {x : Fn} (h : q ++ [x] <+: ns st.shown) : al.get (rems st (q.map (·.1))).shown (lname x.1) ≠ none := by
  obtain ⟨h1, h2⟩ := min_app _ (ns_pw hs) h
  rw [rems_shown, get_dels _ _ (fun e => by
    obtain ⟨y, hy, e⟩ := List.mem_map.1 e
    obtain rfl := Subtype.ext e
    exact h2 hy)]
  have h3 : x.1 ∈ nums st.shown := by rw [← ns_val]; exact List.mem_map.2 ⟨x, h1, rfl⟩
  obtain ⟨a, ha, hn⟩ := nums_mem.1 h3
  obtain ⟨e, _⟩ := numOf_some hn
  have := get_mem hs (q := a.1) (x := a.2) ha
  rw [← e, this]
  simp
theorem drop_end {w W2 : World} {bl p N D : Nat} {F G3 : Nat → Prop} {st : St} {v r : Value} {o o' : Obj} {c : Array Value} (hF : ∀ k, F k → k < w.heap.size) (hd : Dk W2 p G3 st) (hG : ∀ k, G3 k → F k ∨ w.heap.size + 5 ≤ k) (hGD : ¬ G3 D) (hlg : Lg W2 bl p N) (hbw : bl < w.heap.size) (hc : Chg F w W2) (hD : w.heap.size + 5 ≤ D) (hKD : W2.heap[D]? = some o) (hb : W2.heap[w.heap.size + 1 + 1]? = some (.cells c 29 (0, 0))) :
    RetW w bl p F st N r (.returned r) ((W2.setCell ⟨w.heap.size + 1 + 1, 0, none⟩ v).putObj D o') := by
  have hcc : Chg (fun k => k = w.heap.size + 1 + 1 ∨ k = D) W2 ((W2.setCell ⟨w.heap.size + 1 + 1, 0, none⟩ v).putObj D o') :=
    ((dk.chg_set W2 (w.heap.size + 1 + 1) 0 v).mono (fun _ _ e => .inl e)).trans (S := fun k => k = w.heap.size + 1 + 1 ∨ k = D) (S' := fun k => k = D) ⟨rfl, rfl, rfl, by simp, fun k _ hk => World.putObj_heap_other hk⟩ (fun _ _ e => .inr e)
  have hs := hc.size
  have hs2 := hcc.size
  have hlt := hd.lt
  refine ⟨rfl, (hd.chg hcc (fun k hk e => ?_)).mono (fun k hk => ?_) (ext_lt hF (by omega)), hcc.blk hlg (by omega), (hc.trans hcc (fun k hk e => by omega)).mono (fun k _ e => .inl e)⟩
  · rcases e with e | e
    · rcases hG k hk with e9 | e9
      · have := hF k e9; omega
      · omega
    · exact hGD (e ▸ hk)
  · rcases hG k hk with e | e
    · exact .inl e
    · have := hlt k hk
      exact .inr ⟨by omega, by omega⟩
/-- a way out of Drop's loop -/
def DX (w : World) (p bl N m ml : Nat) (below : Int) (F : Nat → Prop) (st : St) (c : Code) (pre : List Fn) (W : World) : Prop :=
  (c = .ret ∧ ∃ (q : List Fn) (x : Fn), pre = q ++ [x] ∧ al.get (rems st (q.map (·.1))).shown (lname x.1) = none) ∨
  (c = .exit 0 ∧ ∃ (q : List Fn) (x : Fn), pre = q ++ [x] ∧ (¬ (x.1 : Int) < limit below N) ∧ (∀ y ∈ q, (y.1 : Int) < limit below N) ∧ DI w W p bl N m ml below F st q)
theorem DX.own {w : World} {p bl N m ml B : Nat} {below : Int} {F : Nat → Prop} {st : St} (h : OwnFrom B (fun pre W => DI w W p bl N m ml below F st pre)) (c : Code) : OwnFrom B (DX w p bl N m ml below F st c) := by
  intro pre A C row hx hg hr
  rcases hx with e | ⟨e, q, x, e1, e2, e3, e4⟩
  · exact .inl e
  · exact .inr ⟨e, q, x, e1, e2, e3, h q A C row e4 hg hr⟩
set_option maxHeartbeats 8000000 in
set_option maxRecDepth 100000 in
theorem drop_x (w0 w : World) (bl p N : Nat) (below : Int) (F : Nat → Prop) (st : St) (hd : Dk w p F st) (hlg : Lg w bl p N) (hbl : ¬ F bl) (hl : LayS w0) (hb0 : Below w0.heap.size w0 w) (hF0 : ∀ k, F k → w0.heap.size ≤ k) (hbl0 : w0.heap.size ≤ bl) (hlive : Live st)
    (h1 : fsum st.last + sumc st.pend ≤ 536870912) (h2 : st.last.length + st.pend.length + (nums st.shown).length ≤ 536870911) (h3 : 0 ≤ st.ops) (h4 : st.ops + (nums st.shown).length < 4611686018427387903) (hfew : st.shown.length ≤ 1000000000) :
    Calls Tryz.prog 20 #[ptr bl, .int .i64 below] w (RetW w bl p F (dropSt st (dropped st.shown (limit below N))) N (.int .i64 0)) := by
  have hF1 := hd.lt
  have hbw := blk_lt hlg
  have hsrt : al.Srt st.shown := fold_srt hd.srt _
  obtain ⟨m, ml, hmp, hm, hml⟩ := hd.mp
  obtain ⟨G0, t1, t2, t3⟩ := hd.tight hmp
  obtain ⟨S0, hS0⟩ : ∃ S0, w.heap.size = S0 := ⟨_, rfl⟩
  obtain ⟨W0, hW0⟩ : ∃ W0, ((((w.alloc (.cells #[ptr bl] 25)).alloc (.cells #[.int .i64 below] 3)).alloc (.cells #[.int .i64 0] 29)).alloc (.cells #[.int .i64 0] 3)).alloc (.cells #[ptr p] 23) = W0 := ⟨_, rfl⟩
  have b1 : Below w.heap.size w W0 := by rw [← hW0]; exact ((((Below.refl _ w).alloc (Nat.le_refl _) _).alloc (by simp) _).alloc (by simp; omega) _).alloc (by simp; omega) _ |>.alloc (by simp; omega) _
  have hsz : W0.heap.size = S0 + 5 := by rw [← hW0, ← hS0]; simp
  have f0 : W0.heap[w.heap.size]? = some (.cells #[ptr bl] 25 (0, 0)) := by rw [← hW0]; exact alloc_old _ (alloc_old _ (alloc_old _ (alloc_old _ (alloc_new _ _))))
  have f1 : W0.heap[w.heap.size + 1]? = some (.cells #[.int .i64 below] 3 (0, 0)) := by
    rw [← hW0]
    have := alloc_new (w.alloc (.cells #[ptr bl] 25)) (.cells #[.int .i64 below] 3)
    rw [World.size_alloc] at this
    exact alloc_old _ (alloc_old _ (alloc_old _ this))
  have f2 : W0.heap[w.heap.size + 1 + 1]? = some (.cells #[.int .i64 0] 29 (0, 0)) := by
    rw [← hW0]
    have := alloc_new ((w.alloc (.cells #[ptr bl] 25)).alloc (.cells #[.int .i64 below] 3)) (.cells #[.int .i64 0] 29)
    rw [World.size_alloc, World.size_alloc] at this
    exact alloc_old _ (alloc_old _ this)
  have f3 : W0.heap[w.heap.size + 1 + 1 + 1]? = some (.cells #[.int .i64 0] 3 (0, 0)) := by
    rw [← hW0]
    have := alloc_new (((w.alloc (.cells #[ptr bl] 25)).alloc (.cells #[.int .i64 below] 3)).alloc (.cells #[.int .i64 0] 29)) (.cells #[.int .i64 0] 3)
    rw [World.size_alloc, World.size_alloc, World.size_alloc] at this
    exact alloc_old _ this
  have f4 : W0.heap[w.heap.size + 1 + 1 + 1 + 1]? = some (.cells #[ptr p] 23 (0, 0)) := by
    rw [← hW0]
    have := alloc_new ((((w.alloc (.cells #[ptr bl] 25)).alloc (.cells #[.int .i64 below] 3)).alloc (.cells #[.int .i64 0] 29)).alloc (.cells #[.int .i64 0] 3)) (.cells #[ptr p] 23)
    rw [World.size_alloc, World.size_alloc, World.size_alloc, World.size_alloc] at this
    exact this
  have HI0 := Lib.hid (show DI w W0 p bl N m ml below F st [] from ⟨⟨G0, by rw [List.map_nil, rems_nil]; exact t1.chg (Chg.of_below b1) (fun _ _ e => e), fun k hk => .inl (t2 k hk), fun k hk => (t3 k hk).imp id (fun e => e.imp id (fun ⟨c, t, fr, e⟩ => ⟨c, t, fr, blk_below b1 e (blk_lt e)⟩))⟩, hmp.below b1, blk_below b1 hlg hbw, f0, f1, f2, f3, by omega, (Chg.of_below b1).mono (fun _ _ e => e.elim)⟩)
  have HSQ := Lib.hid (seq_g (3 - 1) p (w.heap.size + 1 + 1 + 1 + 1) F st W0 (hd.chg (Chg.of_below b1) (fun _ _ e => e)) f4 (hl.below (hb0.trans (b1.mono hb0.size))) hfew)
  have HOWN := Lib.hid (DI.own (w := w) (p := p) (bl := bl) (N := N) (below := below) (F := F) (st := st) (B := W0.heap.size) (by omega) hm hml)
  have g0 : (w.alloc (.cells #[ptr bl] 25)).heap[w.heap.size]? = some (.cells #[ptr bl] 25 (0, 0)) := alloc_new _ _
  have glg : Lg ((((w.alloc (.cells #[ptr bl] 25)).alloc (.cells #[.int .i64 below] 3)).alloc (.cells #[.int .i64 0] 29)).alloc (.cells #[.int .i64 0] 3)) bl p N := alloc_old _ (alloc_old _ (alloc_old _ (alloc_old _ hlg)))
  have HL := Lib.hid hl
  have HF0 := Lib.hid hF0
  have HF1 := Lib.hid hF1
  have HSRT := Lib.hid hsrt
  have HSZ := Lib.hid (And.intro hsz hS0)
  have HB0 := Lib.hid hb0
  have HBL := Lib.hid (And.intro hbl (And.intro hbw hbl0))
  have HMM := Lib.hid (And.intro hm hml)
  have HLV := Lib.hid hlive
  have HH := Lib.hid (And.intro h1 (And.intro h2 (And.intro h3 h4)))
  have HW := Lib.hid hW0
  have e0 : ((((w.alloc (.cells #[ptr bl] 25)).alloc (.cells #[.int .i64 below] 3)).alloc (.cells #[.int .i64 0] 29)).alloc (.cells #[.int .i64 0] 3)).cell? ⟨w.heap.size, 0, none⟩ = some (ptr bl) := by
    rw [cell_of_row _ _ _ _ _ _ (alloc_old _ (alloc_old _ (alloc_old _ (alloc_new w _))))]; rfl
  have e1 : ((((w.alloc (.cells #[ptr bl] 25)).alloc (.cells #[.int .i64 below] 3)).alloc (.cells #[.int .i64 0] 29)).alloc (.cells #[.int .i64 0] 3)).cell? ⟨bl, 0, none⟩ = some (ptr p) := by
    rw [cell_of_row _ _ _ _ _ _ glg]; rfl
  rw [hS0] at HSQ e0
  clear hd hlg hbl hl hF0 hF1 hsrt b1 f0 f1 f2 f3 f4 hb0 hsz hmp t1 t2 t3 hlive h1 h2 h3 h4 hfew hW0 g0 glg hm hml
  refine (callsIn_wide (n := 3)).1 (callsIn_of_wp_marks Tryz.func20 rfl trivial ?_ rfl)
  simp only [Tryz.ntmps20, List.size_toArray, List.length_cons, List.length_nil, Nat.reduceAdd, Nat.reduceSub, Array.replicate_succ, Array.replicate_zero, List.push_toArray, List.append_toArray, List.nil_append, List.cons_append]
  gi_wp2
  refine ⟨trivial, (callsIn_wide.2 (files_c _ _)).mono ?_⟩
  rintro e w' ⟨rfl, rfl⟩
  gi_wp2
  rw [HW.out]
  refine wpIn_rangeFunc_ownG rfl (by omega) (gf := 57) (lb := #[.pointer (some ⟨S0 + 1 + 1 + 1 + 1, 0, none⟩)]) (by rfl) trivial (enters_of Tryz.func57 (by kernel_rfl) rfl)
    HSQ.out Kb.tr Kb.put (Below.refl _ _) (fun _ => rfl)
    (fun pre W => DI w W p bl N m ml below F st pre ∧ ∀ y ∈ pre, (y.1 : Int) < limit below N)
    (DX w p bl N m ml below F st)
    (fun pre A C row h hg hr => ⟨HOWN.out pre A C row h.1 hg hr, h.2⟩)
    (DX.own HOWN.out)
    ⟨HI0.out, fun y hy => (by cases hy)⟩
    (fun x => { tmps := #[ptr bl, .int .i64 below, .pointer (some ⟨S0, 0, none⟩), .pointer (some ⟨S0 + 1, 0, none⟩), .pointer (some ⟨S0 + 1 + 1, 0, none⟩), .pointer (some ⟨S0 + 1 + 1 + 1, 0, none⟩), .int .i64 (x.1 : Int), .string (tx (lname x.1)), undef, ptr bl, .pointer (some ⟨bl, 0, none⟩), .pointer (some ⟨bl, 0, none⟩), ptr p, .func (.func 57) #[] #[.pointer (some ⟨S0 + 1 + 1 + 1 + 1, 0, none⟩)], .int .i64 (x.1 : Int), .string (tx (lname x.1)), undef, undef, undef, undef, undef, undef, undef, undef, undef, undef, undef, undef, undef, undef, undef, undef, undef, undef, undef, undef, undef, undef, undef, undef, undef, undef], defers := [] }) ?assign ?body ?done ?stop
  case assign =>
    intro l x W K hK
    unfold fnv
    gi_wp2
    exact hK
  case body =>
    rintro l pre x W ⟨hI, hlt⟩ hlen
    have c0 : W.cell? ⟨S0, 0, none⟩ = some (ptr bl) := by rw [cell_of_row _ _ _ _ _ _ (show W.heap[S0]? = _ by rw [← HSZ.out.2]; exact hI.b0)]; rfl
    have c1 : W.cell? ⟨S0 + 1, 0, none⟩ = some (.int .i64 below) := by rw [cell_of_row _ _ _ _ _ _ (show W.heap[S0 + 1]? = _ by rw [← HSZ.out.2]; exact hI.b1)]; rfl
    have c2 : W.cell? ⟨bl, 1, none⟩ = some (.int .i64 (N : Nat)) := by rw [cell_of_row _ _ _ _ _ _ hI.lg]; rfl
    have c3 : W.drew.cell? ⟨bl, 0, none⟩ = some (ptr p) := by rw [cell_of_row W.drew _ _ _ _ _ hI.lg]; rfl
    have l0 := blk_lt hI.b0
    have l1 := blk_lt hI.b1
    have l2 := blk_lt hI.lg
    have l5 := blk_lt hI.b3
    have l4 := blk_lt hI.b2
    rw [HSZ.out.2] at l5 l4
    rw [HSZ.out.2] at l0 l1
    have q0 := Wb.at_ c0
    have q1 := Wb.at_ c1
    have q2 := Wb.at_ c2
    have HI := Lib.hid hI
    have HLT := Lib.hid hlt
    have HLEN := Lib.hid hlen
    clear hI hlt hlen
    by_cases hx : (min below (N : Int)) ≤ (x.1 : Int)
    · gi_wp2
      refine wpIn_region_plan [([0, 1, 2, 3, 4, 5, 6, 7], none)] (by kernel_rfl) (by kernel_rfl) (by kernel_rfl) ?_
      refine seg_end _ (by dsimp only [pick, at_]) ?_
      repeat (go_big_quiet_step (fail))
      refine wpQuiet_nil ⟨rfl, ?_⟩
      clear q0 q1 q2
      gi_wp2
      exact ⟨(KeepsOthers.drew _).from _, .inr ⟨rfl, pre, x, rfl, Int.not_lt.2 hx, HLT.out, HI.out.quiet HMM.out.1 HMM.out.2 (Below.refl _ _).drew⟩⟩
    · obtain ⟨G, g1, g2, g3⟩ := HI.out.dk
      have hokx : okn (lname x.1) = true := okn_name x.2.2
      obtain ⟨st1, hst1⟩ : ∃ s, rems st (pre.map (·.1)) = s := ⟨_, rfl⟩
      rw [hst1] at g1
      have GG := Lib.hid (And.intro g2 g3)
      have HST := Lib.hid hst1
      have HX := Lib.hid hx
      cases hg : al.get st1.shown (lname x.1) with
      | none =>
        have HRM := Lib.hid (remove_k0 W.drew p G st1 (lname x.1) hokx hg (g1.chg (Chg.refl (fun _ => False) _).drew (fun _ _ e => e)))
        have HG := Lib.hid hg
        clear g1 g2 g3 hst1 hokx hg
        gi_wp2
        refine wpIn_region_plan [([0, 1, 2, 3, 4, 5, 6, 7], none)] (by kernel_rfl) (by kernel_rfl) (by kernel_rfl) ?_
        refine seg_end _ (by dsimp only [pick, at_]) ?_
        repeat (go_big_quiet_step (fail))
        refine wpQuiet_nil ⟨rfl, ?_⟩
        clear q0 q1 q2
        gi_wp2
        refine ⟨trivial, (CallsIn.inRound l (callsIn_wide.2 HRM.out)).mono ?_⟩
        rintro e W1 ⟨rfl, hb1⟩
        have hb2 : Below W.heap.size W W1 := ((Below.refl _ W).drew).trans hb1
        have I1 := HI.out.quiet HMM.out.1 HMM.out.2 hb2
        have z4 := frozen_of_row _ _ 0 _ _ (show W1.heap[S0 + 1 + 1]? = _ by rw [← HSZ.out.2]; exact I1.b2)
        have d4 : W1.cell? ⟨S0 + 1 + 1, 0, none⟩ = some (.int .i64 0) := by rw [cell_of_row _ _ _ _ _ _ (show W1.heap[S0 + 1 + 1]? = _ by rw [← HSZ.out.2]; exact I1.b2)]; rfl
        have m4 := blk_lt I1.b2
        rw [HSZ.out.2] at m4
        have HB2 := Lib.hid hb2
        clear hb1 hb2 I1 HRM
        gi_wp2
        exact ⟨((KeepsOthers.of_grownBy (grown_below HB2.out) (fun j o e => by cases e)).trans (KeepsOthers.setCell _ _ _)).from _, .inl ⟨rfl, pre, x, rfl, by rw [HST.out]; exact HG.out⟩⟩
      | some y =>
        have hlive1 : Live st1 := by rw [← hst1]; exact rems_live HLV.out _
        have hlen1 := HLEN.out
        have HRM := Lib.hid (remove_k W.drew p m ml G st1 (lname x.1) (HI.out.mp.below (Below.refl _ W).drew) hlive1 hokx (by rw [hg]; simp) (g1.chg (Chg.refl (fun _ => False) _).drew (fun _ _ e => e)) (by
          rw [← hst1]
          have h9 := HH.out
          refine rems_small HLV.out _ h9.1 ?_ h9.2.2.1 ?_
          · rw [List.length_map]; omega
          · rw [List.length_map]; omega))
        rw [rem_do hlive1 hokx (by rw [hg]; simp)] at HRM
        have hst2 : more st1 (.rem (lname x.1)) = rems st ((pre ++ [x]).map (·.1)) := by rw [← hst1, rems_snoc, List.map_append]; rfl
        simp only [hst2] at HRM
        have hwr : IntKind.i64.wrap ((pre.length : Int) + 1) = (pre.length : Int) + 1 := IntWalk.i64_in _ (by have := HH.out.2.1; omega)
        clear g1 g2 g3 hst1 hokx hg hst2 hlive1 hlen1
        gi_wp2
        refine wpIn_region_plan [([0, 1, 2, 3, 4, 5, 6, 7], none)] (by kernel_rfl) (by kernel_rfl) (by kernel_rfl) ?_
        refine seg_end _ (by dsimp only [pick, at_]) ?_
        repeat (go_big_quiet_step (fail))
        refine wpQuiet_nil ⟨rfl, ?_⟩
        clear q0 q1 q2
        gi_wp2
        refine ⟨trivial, (CallsIn.inRound l (callsIn_wide.2 HRM.out)).mono ?_⟩
        rintro e W1 ⟨⟨rfl, hd1, hc1⟩, hm1, hk1⟩
        have hc2 : Chg G W W1 := ((Chg.refl G W).drew).trans hc1 (fun _ _ e => e)
        have hnG : ∀ k, w.heap.size ≤ k → k < w.heap.size + 5 → ¬ G k := fun k h1 h2 e => by
          rcases GG.out.1 k e with e | e
          · have := HF1.out k e; omega
          · omega
        have x3 := hc2.blk HI.out.b3 (hnG _ (by omega) (by omega))
        rw [HSZ.out.2] at x3
        have z3 := frozen_of_row _ _ 0 _ _ x3
        have d3 : W1.cell? ⟨S0 + 1 + 1 + 1, 0, none⟩ = some (.int .i64 (pre.length : Nat)) := by rw [cell_of_row _ _ _ _ _ _ x3]; rfl
        have m3 := blk_lt x3
        have I2 := Lib.hid (HI.out.step (x := x) HF1.out HBL.out.1 HBL.out.2.1 GG.out.1 hd1 hc2 hm1)
        have hml9 : Mild m W W1 := (Mild.of_below (Below.refl _ W).drew).trans hk1
        have M1 := Lib.hid hml9
        clear hd1 hc1 hm1 hk1 hc2 hml9 HRM x3
        gi_wp2
        have I3 := I2.out
        rw [HSZ.out.2] at I3
        have hm9 := HMM.out.1
        have hz9 := HSZ.out
        refine ⟨⟨by simpa using M1.out.size, fun k o hB hk ho => ?_⟩, ⟨by simpa using M1.out.size, fun k c fr hB hk => ?_, fun _ => ?_⟩, I3, fun y hy => ?_⟩
        · have h9 := M1.out.keep hk (by omega) (fun c t fr _ e => by subst e; cases ho)
          exact (dk.chg_set W1 (S0 + 1 + 1 + 1) 0 (.int .i64 ((pre.length : Int) + 1))).blk h9 (by omega)
        · have h9 := M1.out.keep hk (by omega) (fun c t fr ht e => by cases e; exact ht rfl)
          exact (dk.chg_set W1 (S0 + 1 + 1 + 1) 0 (.int .i64 ((pre.length : Int) + 1))).blk h9 (by omega)
        · exact HL.out.below (HB0.out.trans (I3.chg.below HB0.out.size (fun k e => HF0.out k e)))
        · rcases List.mem_append.1 hy with e | e
          · exact HLT.out y e
          · simp at e; subst e; exact HX.out
  case done =>
    rintro D ys W hD rfl ⟨hI, hall⟩ hK
    have hdr := dropped_all hall
    have hlen9 := ns_len st.shown
    obtain ⟨q, hqe⟩ : ∃ q, ns st.shown = q := ⟨_, rfl⟩
    rw [hqe] at hI hlen9 hdr
    clear hall hqe
    obtain ⟨G, g1, g2, g3⟩ := hI.dk
    have hz9 := HSZ.out
    have hm9 := HMM.out
    have hGD : ¬ G D := fun e => by
      rcases g3 D e with e | e | ⟨c, t, f, e⟩
      · omega
      · omega
      · rw [hK] at e; cases e
    have y3 : W.cell? ⟨S0 + 1 + 1 + 1, 0, none⟩ = some (.int .i64 (q.length : Nat)) := by rw [cell_of_row _ _ _ _ _ _ (show W.heap[S0 + 1 + 1 + 1]? = _ by rw [← HSZ.out.2]; exact hI.b3)]; rfl
    have y0 : W.cell? ⟨S0, 0, none⟩ = some (ptr bl) := by rw [cell_of_row _ _ _ _ _ _ (show W.heap[S0]? = _ by rw [← HSZ.out.2]; exact hI.b0)]; rfl
    have y1 : W.cell? ⟨bl, 0, none⟩ = some (ptr p) := by rw [cell_of_row _ _ _ _ _ _ hI.lg]; rfl
    have xb := hI.b2
    have l0 := blk_lt hI.b0
    have l3 := blk_lt hI.b3
    have l4 := blk_lt hI.b2
    have l2 := blk_lt hI.lg
    have lD := blk_lt hK
    rw [HSZ.out.2] at l0 l3 l4 xb
    have z4 := frozen_of_row _ _ 0 _ _ xb
    have d4 : W.cell? ⟨S0 + 1 + 1, 0, none⟩ = some (.int .i64 0) := by rw [cell_of_row _ _ _ _ _ _ xb]; rfl
    have HK := Lib.hid hK
    have HXB := Lib.hid xb
    have GG := Lib.hid (And.intro g1 (And.intro g2 hGD))
    have HI := Lib.hid hI
    by_cases hq : q = []
    · subst hq
      have hds : dropSt st (dropped st.shown (limit below N)) = st := by rw [hdr]; unfold dropSt; rw [List.map_nil]; exact if_pos rfl
      have HDS := Lib.hid hds
      rw [List.map_nil, rems_nil] at g1
      have G1 := Lib.hid g1
      simp only [List.length_nil] at y3
      have y4 : W.cell? ⟨S0 + 1 + 1 + 1, 0, none⟩ = some (.int .i64 0) := y3
      clear g1 g2 g3 hGD hI hK hds hdr y3 xb
      gi_wp2
      have hK2 : (W.setCell ⟨S0 + 1 + 1, 0, none⟩ (.int .i64 0)).heap[D]? = some (.deferred (some [])) := (dk.chg_set W (S0 + 1 + 1) 0 (.int .i64 0)).blk HK.out (by omega)
      refine ⟨by simp, .inl ⟨_, _, rfl, run_takeDeferred hK2, ?_⟩⟩
      have hx2 := setp_obj (o := 0) (u := .int .i64 0) HXB.out
      have hc5 : ((W.setCell ⟨S0 + 1 + 1, 0, none⟩ (.int .i64 0)).putObj D (.deferred none)).cell? ⟨S0 + 1 + 1, 0, none⟩ = some (.int .i64 0) := by
        rw [cell_of_row _ _ _ _ _ _ ((World.putObj_heap_other (show S0 + 1 + 1 ≠ D by omega)).trans hx2)]; rfl
      refine ⟨.int .i64 0, by simp [results, Tryz.f20, go_sem, hc5], ?_⟩
      have hfin := drop_end (v := .int .i64 0) (r := .int .i64 0) (o' := .deferred none) (D := D) HF1.out G1.out GG.out.2.1 GG.out.2.2 HI.out.lg HBL.out.2.1 HI.out.chg (by omega) HK.out (by rw [HSZ.out.2]; exact HXB.out)
      rw [HSZ.out.2] at hfin
      rw [HDS.out]
      exact hfin
    · have hq1 : ((q.length : Int) == 0) = false := by
        have : q.length ≠ 0 := fun e => hq (List.eq_nil_of_length_eq_zero e)
        simpa using this
      obtain ⟨st1, hst1⟩ : ∃ s, rems st (q.map (·.1)) = s := ⟨_, rfl⟩
      have hds : dropSt st (dropped st.shown (limit below N)) = syncSt st1 := by rw [hdr]; unfold dropSt; rw [if_neg (fun e => hq (List.map_eq_nil_iff.1 e)), hst1]
      have HDS := Lib.hid hds
      rw [hst1] at g1
      have hlive1 : Live st1 := by rw [← hst1]; exact rems_live HLV.out _
      have HSY := Lib.hid (sync_d W p G st1 g1 (by
        rw [← hst1]
        have h9 := HH.out
        refine rems_small HLV.out _ h9.1 ?_ h9.2.2.1 ?_
        · rw [List.length_map]; omega
        · rw [List.length_map]; omega))
      rw [hlive1.doE] at HSY
      clear g1 g2 g3 hGD hI hK hds hdr xb hst1 hlive1 hq
      gi_wp2
      refine ⟨trivial, (callsIn_wide.2 HSY.out).mono ?_⟩
      rintro e W2 ⟨rfl, hd2, hc2⟩
      have hnG : ∀ k, w.heap.size ≤ k → k < w.heap.size + 5 → ¬ G k := fun k h1 h2 e => by
        rcases GG.out.2.1 k e with e | e
        · have := HF1.out k e; omega
        · omega
      have xb2 := hc2.blk HXB.out (hnG _ (by omega) (by omega))
      have hKw := hc2.blk HK.out GG.out.2.2
      have hlg2 := hc2.blk HI.out.lg (fun e => by
        rcases GG.out.2.1 bl e with e | e
        · exact HBL.out.1 e
        · have := HBL.out.2.1; omega)
      have z4 := frozen_of_row _ _ 0 _ _ xb2
      have d4 : W2.cell? ⟨S0 + 1 + 1, 0, none⟩ = some (.int .i64 0) := by rw [cell_of_row _ _ _ _ _ _ xb2]; rfl
      have l4 := blk_lt xb2
      have hbig9 := HI.out.big
      have hs9 := hc2.size
      have hcw : Chg F w W2 := HI.out.chg.trans hc2 (fun k hk e => (GG.out.2.1 k e).resolve_right (by omega))
      have D2 := Lib.hid (And.intro hd2 (And.intro hKw (And.intro hlg2 (And.intro hcw xb2))))
      clear hd2 hc2 hKw hlg2 hcw xb2 HSY
      gi_wp2
      have hK2 : (W2.setCell ⟨S0 + 1 + 1, 0, none⟩ (.int .i64 0)).heap[D]? = some (.deferred (some [])) := (dk.chg_set W2 (S0 + 1 + 1) 0 (.int .i64 0)).blk D2.out.2.1 (by omega)
      refine ⟨by simp, .inl ⟨_, _, rfl, run_takeDeferred hK2, ?_⟩⟩
      have hx2 := setp_obj (o := 0) (u := .int .i64 0) D2.out.2.2.2.2
      have hc5 : ((W2.setCell ⟨S0 + 1 + 1, 0, none⟩ (.int .i64 0)).putObj D (.deferred none)).cell? ⟨S0 + 1 + 1, 0, none⟩ = some (.int .i64 0) := by
        rw [cell_of_row _ _ _ _ _ _ ((World.putObj_heap_other (show S0 + 1 + 1 ≠ D by omega)).trans hx2)]; rfl
      refine ⟨.int .i64 0, by simp [results, Tryz.f20, go_sem, hc5], ?_⟩
      have hfin := drop_end (v := .int .i64 0) (r := .int .i64 0) (o' := .deferred none) (D := D) HF1.out D2.out.1 (fun k hk => by
        rcases hk with e | e
        · exact GG.out.2.1 k e
        · exact .inr (by omega)) (fun e => by
        rcases e with e | e
        · exact GG.out.2.2 e
        · omega) D2.out.2.2.1 HBL.out.2.1 D2.out.2.2.2.1 (by omega) D2.out.2.1 (by rw [HSZ.out.2]; exact D2.out.2.2.2.2)
      rw [HSZ.out.2] at hfin
      rw [HDS.out]
      exact hfin
  case stop =>
    rintro D c pre W hD hpre hx hK
    rcases hx with ⟨_, q, x, rfl, hno⟩ | ⟨rfl, q, x, rfl, hx1, hall, hI⟩
    · exact absurd hno (rems_there HSRT.out hpre)
    · have hdr := dropped_at hpre hall hx1
      have hlen9 : q.length ≤ (nums st.shown).length := by
        have := hpre.length_le
        rw [ns_len, List.length_append] at this
        omega
      clear hall hpre hx1
      obtain ⟨G, g1, g2, g3⟩ := hI.dk
      have hz9 := HSZ.out
      have hm9 := HMM.out
      have hGD : ¬ G D := fun e => by
        rcases g3 D e with e | e | ⟨c, t, f, e⟩
        · omega
        · omega
        · rw [hK] at e; cases e
      have y3 : W.cell? ⟨S0 + 1 + 1 + 1, 0, none⟩ = some (.int .i64 (q.length : Nat)) := by rw [cell_of_row _ _ _ _ _ _ (show W.heap[S0 + 1 + 1 + 1]? = _ by rw [← HSZ.out.2]; exact hI.b3)]; rfl
      have y0 : W.cell? ⟨S0, 0, none⟩ = some (ptr bl) := by rw [cell_of_row _ _ _ _ _ _ (show W.heap[S0]? = _ by rw [← HSZ.out.2]; exact hI.b0)]; rfl
      have y1 : W.cell? ⟨bl, 0, none⟩ = some (ptr p) := by rw [cell_of_row _ _ _ _ _ _ hI.lg]; rfl
      have xb := hI.b2
      have l0 := blk_lt hI.b0
      have l3 := blk_lt hI.b3
      have l4 := blk_lt hI.b2
      have l2 := blk_lt hI.lg
      have lD := blk_lt hK
      rw [HSZ.out.2] at l0 l3 l4 xb
      have z4 := frozen_of_row _ _ 0 _ _ xb
      have d4 : W.cell? ⟨S0 + 1 + 1, 0, none⟩ = some (.int .i64 0) := by rw [cell_of_row _ _ _ _ _ _ xb]; rfl
      have HK := Lib.hid hK
      have HXB := Lib.hid xb
      have GG := Lib.hid (And.intro g1 (And.intro g2 hGD))
      have HI := Lib.hid hI
      by_cases hq : q = []
      · subst hq
        have hds : dropSt st (dropped st.shown (limit below N)) = st := by rw [hdr]; unfold dropSt; rw [List.map_nil]; exact if_pos rfl
        have HDS := Lib.hid hds
        rw [List.map_nil, rems_nil] at g1
        have G1 := Lib.hid g1
        simp only [List.length_nil] at y3
        have y4 : W.cell? ⟨S0 + 1 + 1 + 1, 0, none⟩ = some (.int .i64 0) := y3
        clear g1 g2 g3 hGD hI hK hds hdr y3 xb
        gi_wp2
        have hK2 : (W.setCell ⟨S0 + 1 + 1, 0, none⟩ (.int .i64 0)).heap[D]? = some (.deferred (some [])) := (dk.chg_set W (S0 + 1 + 1) 0 (.int .i64 0)).blk HK.out (by omega)
        refine ⟨by simp, .inl ⟨_, _, rfl, run_takeDeferred hK2, ?_⟩⟩
        have hx2 := setp_obj (o := 0) (u := .int .i64 0) HXB.out
        have hc5 : ((W.setCell ⟨S0 + 1 + 1, 0, none⟩ (.int .i64 0)).putObj D (.deferred none)).cell? ⟨S0 + 1 + 1, 0, none⟩ = some (.int .i64 0) := by
          rw [cell_of_row _ _ _ _ _ _ ((World.putObj_heap_other (show S0 + 1 + 1 ≠ D by omega)).trans hx2)]; rfl
        refine ⟨.int .i64 0, by simp [results, Tryz.f20, go_sem, hc5], ?_⟩
        have hfin := drop_end (v := .int .i64 0) (r := .int .i64 0) (o' := .deferred none) (D := D) HF1.out G1.out GG.out.2.1 GG.out.2.2 HI.out.lg HBL.out.2.1 HI.out.chg (by omega) HK.out (by rw [HSZ.out.2]; exact HXB.out)
        rw [HSZ.out.2] at hfin
        rw [HDS.out]
        exact hfin
      · have hq1 : ((q.length : Int) == 0) = false := by
          have : q.length ≠ 0 := fun e => hq (List.eq_nil_of_length_eq_zero e)
          simpa using this
        obtain ⟨st1, hst1⟩ : ∃ s, rems st (q.map (·.1)) = s := ⟨_, rfl⟩
        have hds : dropSt st (dropped st.shown (limit below N)) = syncSt st1 := by rw [hdr]; unfold dropSt; rw [if_neg (fun e => hq (List.map_eq_nil_iff.1 e)), hst1]
        have HDS := Lib.hid hds
        rw [hst1] at g1
        have hlive1 : Live st1 := by rw [← hst1]; exact rems_live HLV.out _
        have HSY := Lib.hid (sync_d W p G st1 g1 (by
          rw [← hst1]
          have h9 := HH.out
          refine rems_small HLV.out _ h9.1 ?_ h9.2.2.1 ?_
          · rw [List.length_map]; omega
          · rw [List.length_map]; omega))
        rw [hlive1.doE] at HSY
        clear g1 g2 g3 hGD hI hK hds hdr xb hst1 hlive1 hq
        gi_wp2
        refine ⟨trivial, (callsIn_wide.2 HSY.out).mono ?_⟩
        rintro e W2 ⟨rfl, hd2, hc2⟩
        have hnG : ∀ k, w.heap.size ≤ k → k < w.heap.size + 5 → ¬ G k := fun k h1 h2 e => by
          rcases GG.out.2.1 k e with e | e
          · have := HF1.out k e; omega
          · omega
        have xb2 := hc2.blk HXB.out (hnG _ (by omega) (by omega))
        have hKw := hc2.blk HK.out GG.out.2.2
        have hlg2 := hc2.blk HI.out.lg (fun e => by
          rcases GG.out.2.1 bl e with e | e
          · exact HBL.out.1 e
          · have := HBL.out.2.1; omega)
        have z4 := frozen_of_row _ _ 0 _ _ xb2
        have d4 : W2.cell? ⟨S0 + 1 + 1, 0, none⟩ = some (.int .i64 0) := by rw [cell_of_row _ _ _ _ _ _ xb2]; rfl
        have l4 := blk_lt xb2
        have hbig9 := HI.out.big
        have hs9 := hc2.size
        have hcw : Chg F w W2 := HI.out.chg.trans hc2 (fun k hk e => (GG.out.2.1 k e).resolve_right (by omega))
        have D2 := Lib.hid (And.intro hd2 (And.intro hKw (And.intro hlg2 (And.intro hcw xb2))))
        clear hd2 hc2 hKw hlg2 hcw xb2 HSY
        gi_wp2
        have hK2 : (W2.setCell ⟨S0 + 1 + 1, 0, none⟩ (.int .i64 0)).heap[D]? = some (.deferred (some [])) := (dk.chg_set W2 (S0 + 1 + 1) 0 (.int .i64 0)).blk D2.out.2.1 (by omega)
        refine ⟨by simp, .inl ⟨_, _, rfl, run_takeDeferred hK2, ?_⟩⟩
        have hx2 := setp_obj (o := 0) (u := .int .i64 0) D2.out.2.2.2.2
        have hc5 : ((W2.setCell ⟨S0 + 1 + 1, 0, none⟩ (.int .i64 0)).putObj D (.deferred none)).cell? ⟨S0 + 1 + 1, 0, none⟩ = some (.int .i64 0) := by
          rw [cell_of_row _ _ _ _ _ _ ((World.putObj_heap_other (show S0 + 1 + 1 ≠ D by omega)).trans hx2)]; rfl
        refine ⟨.int .i64 0, by simp [results, Tryz.f20, go_sem, hc5], ?_⟩
        have hfin := drop_end (v := .int .i64 0) (r := .int .i64 0) (o' := .deferred none) (D := D) HF1.out D2.out.1 (fun k hk => by
          rcases hk with e | e
          · exact GG.out.2.1 k e
          · exact .inr (by omega)) (fun e => by
          rcases e with e | e
          · exact GG.out.2.2 e
          · omega) D2.out.2.2.1 HBL.out.2.1 D2.out.2.2.2.1 (by omega) D2.out.2.1 (by rw [HSZ.out.2]; exact D2.out.2.2.2.2)
        rw [HSZ.out.2] at hfin
        rw [HDS.out]
        exact hfin
end Go.Proofs.YtmegkemileailaaGreatDoor.lg
/-
  What a Drop leaves of a log: mathematics; what the law CommitlogDrops holds.
-/
namespace Go.Proofs.YtmegkemileailaaGreatDoor.lg
open Go.ChangeShapes Go.WideShapes Go.ChangeAt Go.RowKit Go.Shelf Go.Maps Go.Sort plain words ord mem al cl uvs dk

/-- the records of the files with these numbers -/
def fw (q : Nat → Bool) (hs : List (Nat × List Rec)) : List Rec := (hs.filter fun h => q h.1).flatMap (·.2)
theorem fw_app (q : Nat → Bool) (a b : List (Nat × List Rec)) : fw q (a ++ b) = fw q a ++ fw q b := by unfold fw; rw [List.filter_append, List.flatMap_append]
theorem fw_one (q : Nat → Bool) (n : Nat) (l : List Rec) : fw q [(n, l)] = if q n then l else [] := by
  unfold fw
  cases h : q n <;> simp [h]
theorem LI.write_q {st : St} {hs : List (Nat × List Rec)} {N : Nat} {want : List Rec} {r : Rec} (h : LI st hs N want) (he : err r = 0) (hn : cl.Num r) (hN : N < 1000000000) {o : Int} :
    ∃ hs', LI { st with last := al.put st.last (lname N) ((al.get st.last (lname N)).getD [] ++ enc r), pend := [], ops := o } hs' N (want ++ [r]) ∧ (∀ q : Nat → Bool, fw q hs' = fw q hs ++ if q N then [r] else []) := by
  rcases nil_or_snoc hs with e | ⟨l, y, e⟩
  · subst e
    refine ⟨[(N, [r])], ⟨⟨h.live.due, h.live.dead⟩, rfl, ?_, fun x hx => by simp at hx; subst hx; exact Nat.le_refl _, fun x hx => ?_, ?_, h.one⟩, fun q => by simp [fw]; split <;> simp_all⟩
    · have hf := h.files
      have hg : al.get st.last (lname N) = none := hf.none (fun p hp => by simp at hp)
      have := hf.app h.one hN (fun p hp => by simp at hp) (enc r)
      rw [hg]
      simpa [encs] using this
    · simp at hx; subst hx
      intro r' hr'
      simp at hr'; subst hr'
      exact ⟨good_of he, hn⟩
    · have := h.want; simp at this; subst this; simp
  · subst e
    obtain ⟨n, rs⟩ := y
    have hnN := h.low (n, rs) (by simp)
    have hf := h.files
    have hu := hf.up
    rw [List.map_append, List.pairwise_append] at hu
    by_cases hnn : n = N
    · subst hnn
      refine ⟨l ++ [(n, rs ++ [r])], ⟨⟨h.live.due, h.live.dead⟩, rfl, ?_, ?_, ?_, ?_, h.one⟩, fun q => ?_⟩
      · rw [List.map_append] at hf ⊢
        have hg : al.get st.last (lname n) = some (encs rs) := hf.at (by simp)
        have := hf.less (encs rs ++ enc r)
        rw [hg]
        simpa [encs_snoc] using this
      · intro x hx
        rcases List.mem_append.1 hx with e | e
        · exact h.low x (by simp [e])
        · simp at e; subst e; exact Nat.le_refl _
      · intro x hx
        rcases List.mem_append.1 hx with e | e
        · exact h.good x (by simp [e])
        · simp at e; subst e
          intro r' hr'
          rcases List.mem_append.1 hr' with e | e
          · exact h.good (n, rs) (by simp) r' e
          · simp at e; subst e; exact ⟨good_of he, hn⟩
      · have := h.want
        rw [← this]; simp
      · rw [fw_app, fw_app, fw_one, fw_one, List.append_assoc]
        cases q n <;> simp
    · have hlt : ∀ x ∈ l ++ [(n, rs)], x.1 < N := fun x hx => by
        rcases List.mem_append.1 hx with e | e
        · have := hu.2.2 (x.1, encs x.2) (List.mem_map.2 ⟨x, e, rfl⟩) (n, encs rs) (by simp)
          simp only at this; omega
        · simp at e; subst e; simp only; omega
      refine ⟨l ++ [(n, rs)] ++ [(N, [r])], ⟨⟨h.live.due, h.live.dead⟩, rfl, ?_, ?_, ?_, ?_, h.one⟩, fun q => ?_⟩
      · have hb : ∀ p ∈ (l ++ [(n, rs)]).map (fun h => (h.1, encs h.2)), p.1 < N := fun p hp => by
          obtain ⟨x, hx, rfl⟩ := List.mem_map.1 hp
          exact hlt x hx
        have hg : al.get st.last (lname N) = none := hf.none (fun p hp => by have := hb p hp; omega)
        have := hf.app h.one hN hb (enc r)
        rw [hg]
        rw [List.map_append]
        simpa [encs] using this
      · intro x hx
        rcases List.mem_append.1 hx with e | e
        · exact h.low x e
        · simp at e; subst e; exact Nat.le_refl _
      · intro x hx
        rcases List.mem_append.1 hx with e | e
        · exact h.good x e
        · simp at e; subst e
          intro r' hr'
          simp at hr'; subst hr'; exact ⟨good_of he, hn⟩
      · rw [List.flatMap_append, h.want]; simp
      · rw [fw_app, fw_one]
theorem LI.step_q {st : St} {hs : List (Nat × List Rec)} {N : Nat} {want : List Rec} {room : Int} {i : Nat} (h : LI st hs N want) (b : Bd st hs N room i) (hi : i ≤ 100000) (r : Rec) (hn : cl.Num r) :
    (err r ≠ 0 ∧ wr st N r = (st, N, err r)) ∨
    (err r = 0 ∧ room < (fsum st.shown : Int) + ((enc r).length : Int) ∧ wr st N r = (st, N + 1, 12) ∧ LI st hs (N + 1) want ∧ Bd st hs (N + 1) room (i + 1)) ∨
    (err r = 0 ∧ ¬ room < (fsum st.shown : Int) + ((enc r).length : Int) ∧ ∃ st' hs', wr st N r = (st', N, 0) ∧ LI st' hs' N (want ++ [r]) ∧ Bd st' hs' N room (i + 1) ∧ fsum st'.last = fsum st.last + (enc r).length ∧ ∀ q : Nat → Bool, fw q hs' = fw q hs ++ if q N then [r] else []) := by
  have hN : N < 1000000000 := by have := b.num; omega
  by_cases he : err r = 0
  · by_cases hf : room < (fsum st.shown : Int) + ((enc r).length : Int)
    · refine .inr (.inl ⟨he, hf, wr_full h.pend he hN (by rw [← h.shown, b.room]; exact hf), h.rotate, ⟨b.room, b.o0, by have := b.o1; omega, b.sum, by have := b.len; omega, by have := b.num; omega⟩⟩)
    · have hf' : ¬ st.room < (fsum st.last : Int) + ((enc r).length : Int) := by rw [← h.shown, b.room]; exact hf
      obtain ⟨hs', hli, hq⟩ := h.write_q (o := st.ops + 1 + 1) he hn hN
      refine .inr (.inr ⟨he, hf, _, hs', wr_live h.live h.pend he hN hf', hli, ⟨b.room, by have := b.o0; show 0 ≤ st.ops + 1 + 1; omega, by have := b.o1; show st.ops + 1 + 1 ≤ _; omega, ?_, ?_, by have := b.num; omega⟩, app_sum h.files.srt (lname N) (enc r), hq⟩)
      · show (fsum (al.put st.last (lname N) ((al.get st.last (lname N)).getD [] ++ enc r)) : Int) ≤ room
        have h1 := app_sum h.files.srt (lname N) (enc r)
        have h2 : dk.done st.last (.app (lname N) (enc r)) = al.put st.last (lname N) ((al.get st.last (lname N)).getD [] ++ enc r) := rfl
        rw [h2] at h1
        rw [h1]
        rw [b.room] at hf'
        omega
      · show (al.put st.last (lname N) ((al.get st.last (lname N)).getD [] ++ enc r)).length ≤ i + 1
        have h1 : (al.put st.last (lname N) ((al.get st.last (lname N)).getD [] ++ enc r)).length ≤ st.last.length + 1 := len_put
        have := b.len
        omega
  · exact .inl ⟨he, wr_no he⟩
/-- the records that were taken, written to a file with such a number: the i-th goes to 2 + i / k -/
def wq (k : Nat) (q : Nat → Bool) (l : List Rec) : Nat → List Rec
  | 0 => []
  | i + 1 => wq k q l i ++ match l[i]? with
    | none => []
    | some r => if err r = 0 ∧ q (2 + i / k) = true then [r] else []
theorem wq_no {k : Nat} {q : Nat → Bool} {l : List Rec} {i : Nat} {r : Rec} (h : l[i]? = some r) (he : err r ≠ 0) : wq k q l (i + 1) = wq k q l i := by
  show wq k q l i ++ (match l[i]? with
    | none => []
    | some r => if err r = 0 ∧ q (2 + i / k) = true then [r] else []) = _
  rw [h]
  simp [he]
theorem wq_ok {k : Nat} {q : Nat → Bool} {l : List Rec} {i : Nat} {r : Rec} (h : l[i]? = some r) (he : err r = 0) : wq k q l (i + 1) = wq k q l i ++ if q (2 + i / k) then [r] else [] := by
  conv => lhs; unfold wq
  rw [h]
  simp only [he, true_and]
theorem wq_congr {k : Nat} {q q' : Nat → Bool} {l : List Rec} : ∀ i, (∀ j, j < i → q (2 + j / k) = q' (2 + j / k)) → wq k q l i = wq k q' l i
  | 0, _ => rfl
  | i + 1, h => by
    unfold wq
    rw [wq_congr i (fun j hj => h j (by omega)), h i (by omega)]
/-- the number ahead of the i-th -/
def nb (k i : Nat) : Nat := if i = 0 then 1 else 2 + (i - 1) / k
theorem nb_yes {k i : Nat} (hk : 1 ≤ k) (hk5 : k ≤ 5) (h : i % k = 0) : nb k i + 1 = 2 + i / k := by
  unfold nb
  split
  · subst ‹i = 0›; simp
  · have : k = 1 ∨ k = 2 ∨ k = 3 ∨ k = 4 ∨ k = 5 := by omega
    rcases this with rfl | rfl | rfl | rfl | rfl <;> omega
theorem nb_no {k i : Nat} (hk : 1 ≤ k) (hk5 : k ≤ 5) (h : i % k ≠ 0) : nb k i = 2 + i / k := by
  unfold nb
  split
  · subst ‹i = 0›; simp at h
  · have : k = 1 ∨ k = 2 ∨ k = 3 ∨ k = 4 ∨ k = 5 := by omega
    rcases this with rfl | rfl | rfl | rfl | rfl <;> omega
theorem nb_next (k i : Nat) : nb k (i + 1) = 2 + i / k := by unfold nb; simp
theorem Files.del {fs : AL By} {gs : List (Nat × By)} (h : Files fs gs) (n : Nat) : Files (al.del fs (lname n)) (gs.filter fun p => p.1 != n) := by
  refine ⟨srt_del h.srt _, h.up.filter _, fun p hp => h.pos p (List.mem_filter.1 hp).1, fun q s => ?_⟩
  by_cases hq : q = lname n
  · subst hq
    rw [get_del_same]
    constructor
    · intro e; cases e
    · rintro ⟨m, hm, e⟩
      have e := lname_inj e
      subst e
      have := (List.mem_filter.1 hm).2
      simp at this
  · rw [get_del_other hq, h.is]
    constructor
    · rintro ⟨m, hm, e⟩
      refine ⟨m, List.mem_filter.2 ⟨hm, ?_⟩, e⟩
      simp only [bne_iff_ne, ne_eq]
      intro e9; subst e9; exact hq e
    · rintro ⟨m, hm, e⟩
      exact ⟨m, (List.mem_filter.1 hm).1, e⟩
theorem Files.dels (L : List Nat) : ∀ {fs : AL By} {gs : List (Nat × By)}, Files fs gs → Files (L.foldl (fun fs n => al.del fs (lname n)) fs) (gs.filter fun p => !L.contains p.1) := by
  induction L with
  | nil =>
    intro fs gs h
    have e : gs.filter (fun p => !([] : List Nat).contains p.1) = gs := List.filter_eq_self.2 (fun _ _ => rfl)
    rw [e]
    exact h
  | cons n L ih =>
    intro fs gs h
    have := ih (h.del n)
    rw [List.filter_filter] at this
    rw [List.foldl_cons]
    have e : (fun p : Nat × By => !(n :: L).contains p.1) = fun a => !L.contains a.1 && a.1 != n := by
      funext p
      rw [List.contains_cons, Bool.not_or, Bool.and_comm]
      rfl
    rw [e]
    exact this
theorem takeWhile_mem {lim : Int} : ∀ {l : List Nat}, l.Pairwise (· < ·) → ∀ n, n ∈ l.takeWhile (fun n : Nat => decide ((n : Int) < lim)) ↔ n ∈ l ∧ (n : Int) < lim := by
  intro l
  induction l with
  | nil => intro _ n; simp
  | cons x l ih =>
    intro hp n
    obtain ⟨h1, h2⟩ := List.pairwise_cons.1 hp
    rw [List.takeWhile_cons]
    by_cases hx : (x : Int) < lim
    · rw [if_pos (by simpa using hx), List.mem_cons, List.mem_cons, ih h2]
      constructor
      · rintro (e | e)
        · subst e; exact ⟨.inl rfl, hx⟩
        · exact ⟨.inr e.1, e.2⟩
      · rintro ⟨e | e, e2⟩
        · exact .inl e
        · exact .inr ⟨e, e2⟩
    · rw [if_neg (by simpa using hx)]
      constructor
      · intro e; cases e
      · rintro ⟨e, e2⟩
        rcases List.mem_cons.1 e with e | e
        · subst e; exact absurd e2 hx
        · have := h1 n e; omega
theorem drop_parts {st : St} (hl : Live st) (hp : st.pend = []) (L : List Nat) : (dropSt st L).last = L.foldl (fun fs n => al.del fs (lname n)) st.last ∧ (dropSt st L).pend = [] ∧ Live (dropSt st L) := by
  unfold dropSt
  split
  · subst ‹L = []›; exact ⟨rfl, hp, hl⟩
  · have h1 := rems_live hl L
    have h2 : syncSt (rems st L) = cnt { rems st L with last := (rems st L).shown, pend := [] } := by
      unfold syncSt
      rw [h1.pw, if_neg (by rw [h1.dead]; simp)]
    rw [h2]
    refine ⟨?_, rfl, ⟨?_, h1.dead⟩⟩
    · show (rems st L).shown = _
      rw [rems_shown]
      have : st.shown = st.last := by unfold St.shown; rw [hp]; rfl
      rw [this]
    · show Option.map dk.dec (rems st L).due = none
      rw [h1.due]; rfl
/-- what a Drop leaves -/
theorem LI.drop {st : St} {hs : List (Nat × List Rec)} {N : Nat} {want : List Rec} (h : LI st hs N want) (lim : Int) :
    LI (dropSt st (dropped st.shown lim)) (hs.filter fun x => !decide ((x.1 : Int) < lim)) N (fw (fun n => !decide ((n : Int) < lim)) hs) := by
  obtain ⟨h1, h2, h3⟩ := drop_parts h.live h.pend (dropped st.shown lim)
  refine ⟨h3, h2, ?_, fun x hx => h.low x (List.mem_filter.1 hx).1, fun x hx => h.good x (List.mem_filter.1 hx).1, rfl, h.one⟩
  rw [h1]
  have h4 := h.files.dels (dropped st.shown lim)
  have h5 : (hs.map fun h => (h.1, encs h.2)).filter (fun p => !(dropped st.shown lim).contains p.1) = (hs.filter fun x => !decide ((x.1 : Int) < lim)).map fun h => (h.1, encs h.2) := by
    rw [List.filter_map]
    congr 1
    refine List.filter_congr fun x hx => ?_
    have hm : x.1 ∈ nums st.shown := by
      rw [h.shown, h.files.nums]
      simp only [List.map_map]
      exact List.mem_map.2 ⟨x, hx, rfl⟩
    have := takeWhile_mem (lim := lim) (nums_pw (fs := st.shown) (by rw [h.shown]; exact h.files.srt)) x.1
    show (!(dropped st.shown lim).contains x.1) = _
    congr 1
    rw [Bool.eq_iff_iff, List.contains_iff_mem, decide_eq_true_iff]
    unfold dropped
    rw [this]
    exact ⟨fun e => e.2, fun e => ⟨hm, e⟩⟩
  rw [h5] at h4
  exact h4
theorem dels_sum (L : List Nat) : ∀ {fs : AL By}, al.Srt fs → fsum (L.foldl (fun fs n => al.del fs (lname n)) fs) ≤ fsum fs := by
  induction L with
  | nil => intro fs _; exact Nat.le_refl _
  | cons n L ih => intro fs h; rw [List.foldl_cons]; exact Nat.le_trans (ih (srt_del h _)) (rem_sum h (lname n))
theorem dels_len (L : List Nat) : ∀ {fs : AL By}, (L.foldl (fun fs n => al.del fs (lname n)) fs).length ≤ fs.length := by
  induction L with
  | nil => intro fs; exact Nat.le_refl _
  | cons n L ih => intro fs; rw [List.foldl_cons]; exact Nat.le_trans ih (List.length_filter_le _ _)
theorem nums_le (fs : AL By) : (nums fs).length ≤ fs.length := by unfold nums; rw [List.length_mergeSort]; exact List.length_filterMap_le _ _
section
variable {w0 w : World} {p bl N : Nat} {st : St} {v : Value} {m : Nat} {want : List Rec}
theorem LW.drop (h : LW w0 w p bl N st v m want) (hl : LayS w0) (below : Int) (hlive : Live st) (hp : st.pend = []) (h1 : fsum st.last ≤ 4194304) (h2 : st.last.length ≤ 65536) (h3 : 0 ≤ st.ops) (h4 : st.ops ≤ 100000000) :
    Calls Tryz.prog 20 #[ptr bl, .int .i64 below] w fun e w' => e = .returned (.int .i64 0) ∧ LW w0 w' p bl N (dropSt st (dropped st.shown (limit below N))) v m want := by
  obtain ⟨F, hd, hF⟩ := h.disk
  have hsh : st.shown = st.last := by unfold St.shown; rw [hp]; rfl
  have hnl := nums_le st.shown
  rw [hsh] at hnl
  refine (drop_x w0 w bl p N below F st hd h.lg (fun e => (hF bl e).2.1 rfl) hl h.bel (fun k hk => (hF k hk).1) h.hi hlive (by rw [hp]; show _ + 0 ≤ _; omega) (by rw [hp, hsh]; show _ + 0 + _ ≤ _; omega) h3 (by rw [hsh]; omega) (by rw [hsh]; omega)).mono ?_
  rintro e w' ⟨rfl, hd', hg, hc⟩
  have hsz := hc.size
  have hb0 := h.bel.size
  have hbl := blk_lt h.lg
  refine ⟨rfl, ⟨⟨_, hd', fun k hk => ?_⟩, hg, h.ow.chg hc (fun g hg e => ?_), h.own0, h.bel.trans (hc.below hb0 (fun k e => ?_)), h.hi⟩⟩
  · rcases hk with e | e
    · exact hF k e
    · exact ⟨by omega, by omega, fun e9 => by have := h.ow.lt e9; omega⟩
  · rcases e with e | e
    · exact (hF g e).2.2 hg
    · exact h.ne (e ▸ hg)
  · rcases e with e | e
    · exact (hF k e).1
    · rw [e]; exact h.hi
/-- the list is emptied in its place -/
theorem LW.empty {A : Option Addr} {c : Nat} (h : LW w0 w p bl N st (.slice A m c) m want) : LW w0 w p bl N st (.slice A 0 c) 0 [] := by
  have hob : (Value.slice A 0 c).ownBlock = (Value.slice A m c).ownBlock := by cases A <;> rfl
  refine ⟨by rw [hob]; exact h.disk, h.lg, ⟨rfl, ?_⟩, by rw [hob]; exact h.own0, h.bel, h.hi⟩
  rcases h.ow.2.2 with ⟨e, _⟩ | ⟨g, cap, cur, e, h1, h2, h3, h4, h5⟩
  · injection e with e1 e2 e3; subst e1 e3; exact Row.nil _ _ _
  · injection e with e1 e2 e3
    subst e1 e3
    have := Row.cut (h.ow.2) 0 c (Nat.zero_le _) (Nat.zero_le _) (Nat.le_refl _)
    rw [Nat.zero_mul, List.take_zero] at this
    exact this
end
end Go.Proofs.YtmegkemileailaaGreatDoor.lg
