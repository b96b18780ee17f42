/-
  The disk's calls: New, Power, Cut, Sync.
-/
import Derived.Test.YtmnliieiiaedeaaDkApp
namespace Go.Proofs.Ytmnliieiiaedeaa.dk
open Go.ChangeShapes Go.WideShapes Go.ChangeAt Go.RowKit Go.Maps Go.Sort Go.Shelf plain words ord mem al

def newSt (room : Int) : St := ⟨max room 0, [], [], none, false, 0⟩
set_option maxRecDepth 100000 in
set_option maxHeartbeats 1000000 in
theorem new_d (w : World) (room : Int) : Calls Try.prog 13 #[.int .i64 room] w fun e w' => ∃ p, e = .returned (ptr p) ∧ w.heap.size ≤ p ∧ Dk w' p (fun k => w.heap.size ≤ k ∧ k < w'.heap.size) (newSt room) ∧ Below w.heap.size w w' := by
  have HN := Lib.hid (new_f w)
  obtain ⟨R, hR⟩ : ∃ R, max room 0 = R := ⟨_, rfl⟩
  have HR := Lib.hid hR
  clear hR
  go_enter Try.func13, Try.ntmps13
  go_wp2_with fail
  refine HN.out.mono ?_
  rintro e w1 ⟨f1, rfl, hf1, hF1, hb1⟩
  have HN2 := Lib.hid (new_f w1)
  have F1 := Lib.hid hF1
  have B1 := Lib.hid hb1
  have hs1 : w.heap.size ≤ w1.heap.size := hb1.size
  clear hF1 hb1 HN
  go_wp2_with fail
  refine HN2.out.mono ?_
  rintro e w2 ⟨f2, rfl, hf2, hF2, hb2⟩
  have F2 := Lib.hid hF2
  have B2 := Lib.hid hb2
  have hs2 : w1.heap.size ≤ w2.heap.size := hb2.size
  clear hF2 hb2 HN2
  go_wp2_with fail
  rw [HR.out]
  go_ret
  obtain ⟨w3, hw3⟩ : ∃ w3, w2.alloc (diskO R f1 f2 (.slice none 0 0) none false 0) = w3 := ⟨_, rfl⟩
  have hb3 : Below w2.heap.size w2 w3 := by rw [← hw3]; exact (Below.refl _ _).alloc (Nat.le_refl _) _
  have hn3 : w3.heap[w2.heap.size]? = some (diskO R f1 f2 (.slice none 0 0) none false 0) := by rw [← hw3]; exact alloc_new _ _
  have hs3 : w3.heap.size = w2.heap.size + 1 := by rw [← hw3]; simp
  refine ⟨w2.heap.size, rfl, by omega, ?_, ?_⟩
  · show Dk (w2.alloc (diskO R f1 f2 (.slice none 0 0) none false 0)) _ (fun k => w.heap.size ≤ k ∧ k < (w2.alloc (diskO R f1 f2 (.slice none 0 0) none false 0)).heap.size) _
    rw [hw3]
    refine ⟨f1, f2, (fun k => w.heap.size ≤ k ∧ k < w1.heap.size), (fun k => w1.heap.size ≤ k ∧ k < w2.heap.size), (fun k => k = w2.heap.size), .slice none 0 0, [], none, ?_, ?_, rfl, trivial, fun k hk => ?_, fun k hk => hk.2⟩
    · unfold newSt; rw [HR.out]; exact hn3
    · have g1 := (F1.out.chg (Chg.of_below B2.out) (fun _ _ e => e)).chg (Chg.of_below hb3) (fun _ _ e => e)
      have g2 := F2.out.chg (Chg.of_below hb3) (fun _ _ e => e)
      exact ⟨g1, g2, Rw.nil _, fun q hq => (by cases hq), trivial, rfl, fun g hg => (by cases hg), fun q hq => (by cases hq), fun k hk e => by omega, fun k hk e => by omega, fun k hk e => by omega, fun k hk => by subst hk; omega⟩
    · rcases hk with e | e | e
      · exact ⟨e.1, by omega⟩
      · exact ⟨by omega, by omega⟩
      · exact ⟨by omega, by omega⟩
  · show Below _ _ (w2.alloc (diskO R f1 f2 (.slice none 0 0) none false 0))
    rw [hw3]
    exact B1.out.trans ((B2.out.trans (hb3.mono hs2)).mono hs1)
def powSt (st : St) : St := { st with dead := false, due := none }
set_option maxRecDepth 100000 in
set_option maxHeartbeats 1000000 in
theorem power_d (w : World) (p : Nat) (F : Nat → Prop) (st : St) (h : Dk w p F st) : Calls Try.prog 29 #[ptr p] w (RetDk w p F (powSt st) (.tuple #[])) := by
  obtain ⟨fs, fh, Fs, Fh, Fo, v, ps, dv, hb, hP, h3, h4, h5, h6⟩ := h
  obtain ⟨c0, c1, c2, c3, c4, c5, c6⟩ := disk_cell hb
  have f5 := disk_froz hb 5
  have f4 := disk_froz hb 4
  have hp := blk_lt hb
  have hpF : F p := h5 p (.inr (.inr hP.po))
  obtain ⟨w2, hw2⟩ : ∃ w2, (w.setCell ⟨p, 5, none⟩ (.bool false)).setCell ⟨p, 4, none⟩ (.pointer none) = w2 := ⟨_, rfl⟩
  have hc2 : Chg (fun k => k = p) w w2 := by rw [← hw2]; exact (chg_set _ _ _ _).trans (chg_set _ _ _ _) (fun _ _ e => e)
  have hb2 : w2.heap[p]? = some (diskO st.room fs fh v none false st.ops) := by
    rw [← hw2, setp_obj (setp_obj hb)]; rfl
  have hP2 := hP.setp hb hc2
  have hP3 : Parts w2 p fs fh Fs Fh Fo st.last st.shown v ps none none := ⟨hP2.hs, hP2.hh, hP2.row, hP2.box, trivial, hP2.po, hP2.ro, hP2.bo, hP2.ap1, hP2.ap2, hP2.ap3, hP2.lto⟩
  have FIN := Lib.hid (show RetDk w p F (powSt st) (.tuple #[]) (.returned (.tuple #[])) w2 from Dk.retp (due := none) (dv := none) (sh := []) (v := v) (ps := ps) (dead := false) (ops := st.ops) hP3 hb2 h3 h4 (fun k hk => .inl (h5 k hk)) h6 hc2 (fun k _ e => by subst e; exact hpF))
  have W2 := Lib.hid hw2
  clear hb hP h3 h4 h5 h6 c0 c1 c2 c3 c6 hw2 hc2 hb2 hP2 hP3
  go_enter Try.func29, Try.ntmps29
  go_wp2_with fail
  go_end0
  rw [W2.out]
  exact FIN.out
def cutSt (st : St) (n keep part : Int) : St := { st with due := some (max n 0, keep, part) }
set_option maxRecDepth 100000 in
set_option maxHeartbeats 1000000 in
theorem cut_d (w : World) (p : Nat) (F : Nat → Prop) (st : St) (n keep part : Int) (h : Dk w p F st) : Calls Try.prog 27 #[ptr p, .int .i64 n, .int .i64 keep, .int .i64 part] w (RetDk w p F (cutSt st n keep part) (.tuple #[])) := by
  obtain ⟨fs, fh, Fs, Fh, Fo, v, ps, dv, hb, hP, h3, h4, h5, h6⟩ := h
  have hp := blk_lt hb
  have hpF : F p := h5 p (.inr (.inr hP.po))
  have c4 := (disk_cell hb).2.2.2.2.1
  have f4 := disk_froz hb 4
  obtain ⟨w1, hw1⟩ : ∃ w1, w.setCell ⟨p, 4, none⟩ (ptr w.heap.size) = w1 := ⟨_, rfl⟩
  have hc1 : Chg (fun k => k = p) w w1 := by rw [← hw1]; exact chg_set _ _ _ _
  have hs1 : w1.heap.size = w.heap.size := by rw [← hw1]; simp [World.setCell]
  have hb1 : w1.heap[p]? = some (diskO st.room fs fh v (some w.heap.size) st.dead st.ops) := by
    rw [← hw1, setp_obj hb]; rfl
  obtain ⟨w2, hw2⟩ : ∃ w2, w1.alloc (lossO (max n 0, keep, part)) = w2 := ⟨_, rfl⟩
  have hb12 : Below w1.heap.size w1 w2 := by rw [← hw2]; exact (Below.refl _ _).alloc (Nat.le_refl _) _
  have hn2 : w2.heap[w.heap.size]? = some (lossO (max n 0, keep, part)) := by rw [← hw2, ← hs1]; exact alloc_new _ _
  have hs2 : w2.heap.size = w.heap.size + 1 := by rw [← hw2]; simp [hs1]
  have hc2 : Chg (fun k => k = p) w w2 := hc1.then_below hb12
  have hb2 : w2.heap[p]? = some (diskO st.room fs fh v (some w.heap.size) st.dead st.ops) := (Chg.of_below hb12).blk hb1 (fun e => e)
  have hP2 := (hP.setp hb hc1).quiet hb12
  have hls : ∀ k, Fs k → k < w.heap.size := by obtain ⟨_, _, _, _, _, _, h9⟩ := hP.hs; exact h9
  have hlh : ∀ k, Fh k → k < w.heap.size := by obtain ⟨_, _, _, _, _, _, h9⟩ := hP.hh; exact h9
  have hP3 : Parts w2 p fs fh Fs Fh (fun k => Fo k ∨ k = w.heap.size) st.last st.shown v ps (some (max n 0, keep, part)) (some w.heap.size) :=
    ⟨hP2.hs, hP2.hh, hP2.row, hP2.box, ⟨hn2, .inr rfl⟩, .inl hP2.po, fun g hg => .inl (hP2.ro g hg), fun q hq k hk => .inl (hP2.bo q hq k hk), hP2.ap1, fun k hk e => by
      rcases e with e | e
      · exact hP2.ap2 k hk e
      · have := hls k hk; omega, fun k hk e => by
      rcases e with e | e
      · exact hP2.ap3 k hk e
      · have := hlh k hk; omega, fun k hk => by
      rcases hk with e | e
      · exact hP2.lto k e
      · omega⟩
  have FIN := Lib.hid (show RetDk w p F (cutSt st n keep part) (.tuple #[]) (.returned (.tuple #[])) w2 from by
    exact Dk.retp (due := none) (dv := none) (sh := []) (v := v) (ps := ps) (dead := false) (ops := st.ops) hP3 hb2 h3 h4 (fun k hk => by
      rcases hk with e | e | e | e
      · exact .inl (h5 k (.inl e))
      · exact .inl (h5 k (.inr (.inl e)))
      · exact .inl (h5 k (.inr (.inr e)))
      · exact .inr ⟨by omega, by omega⟩) h6 hc2 (fun k _ e => by subst e; exact hpF))
  have W2 := Lib.hid hw2
  have W1 := Lib.hid hw1
  clear hb hP h3 h4 h5 h6 hw2 hw1 hc1 hc2 hb1 hb2 hb12 hP2 hP3 hn2 hs1 hs2
  go_enter Try.func27, Try.ntmps27
  have W2' : w1.alloc (.cells #[.int .i64 (max n 0), .int .i64 keep, .int .i64 part] 92) = w2 := W2.out
  have W2L := Lib.hid W2'
  clear W2'
  go_wp2_with fail
  go_end0
  rw [W1.out, W2L.out]
  exact FIN.out
def syncSt (st : St) : St := if (pw st).dead then pw st else cnt { st with last := st.shown, pend := [] }
set_option maxRecDepth 100000 in
set_option maxHeartbeats 1000000 in
theorem sync_d (w : World) (p : Nat) (F : Nat → Prop) (st : St) (h : Dk w p F st) (hs : Small st) : Calls Try.prog 15 #[ptr p] w (RetDk w p F (syncSt st) (.int .i64 (doE st))) := by
  have HPW := Lib.hid (powered_d w p F st h (by have := hs.sum; omega) (by have := hs.len; omega))
  have LT := Lib.hid h.lt
  have HS := Lib.hid hs
  clear h hs
  go_enter Try.func15, Try.ntmps15
  go_wp2_with fail
  refine HPW.out.mono ?_
  rintro e w2 ⟨rfl, hd2, hc2⟩
  have hs2 : w.heap.size ≤ w2.heap.size := hc2.size
  cases hdead : (pw st).dead with
  | true =>
    have hst : syncSt st = pw st := by unfold syncSt; rw [if_pos hdead]
    have he : doE st = 13 := by unfold doE; rw [if_pos hdead]
    have HST := Lib.hid hst
    have HE := Lib.hid he
    have D2 := Lib.hid hd2
    have C2 := Lib.hid hc2
    clear hst he hd2 hc2 hdead HPW
    go_wp2_with fail
    go_ret
    refine ⟨by rw [HE.out]; rfl, ?_, C2.out⟩
    rw [HST.out]
    exact D2.out
  | false =>
    obtain ⟨hpw, hal, hdue⟩ := pw_alive hdead
    rw [hpw] at hd2
    have hst : syncSt st = cnt { st with last := st.shown, pend := [] } := by unfold syncSt; rw [if_neg (by rw [hdead]; simp)]
    have he : doE st = 0 := by unfold doE; rw [if_neg (by rw [hdead]; simp)]
    have HST := Lib.hid hst
    have HE := Lib.hid he
    have HDUE := Lib.hid hdue
    obtain ⟨fs, fh, Fs, Fh, Fo, v, ps, dv, hb2, hP2, h3, h4, h5, h6⟩ := hd2
    have d3 := (disk_cell hb2).2.2.2.1
    obtain ⟨A, c, e1, hA, hNc, hcm⟩ := hP2.row.form
    subst e1
    have lp : p < w2.heap.size := blk_lt hb2
    have hpl : ps.length = st.pend.length := by rw [← h3, List.length_map]
    have hleg' : legal st.last (ps.map (·.c)) := by rw [h3]; exact h4
    have HSE := Lib.hid (settle_p w2 p st.room fs fh Fs Fh Fo st.last st.shown (.slice A ps.length c) ps st.due dv st.dead st.ops ps.length hb2 hP2 (Nat.le_refl _) hleg' (by rw [h3]; have := HS.out.sum; omega) (by rw [hpl]; have := HS.out.len; omega))
    obtain ⟨N, hN⟩ : ∃ N, ps.length = N := ⟨_, rfl⟩
    rw [hN] at d3 hNc
    have HN := Lib.hid hN
    have P2 := Lib.hid hP2
    have HB2 := Lib.hid hb2
    have C2 := Lib.hid hc2
    have HH := Lib.hid (And.intro h3 (And.intro h4 (And.intro h5 h6)))
    clear hst he hdue hb2 hP2 h3 h4 h5 h6 hc2 hdead hpw hal HPW hpl hleg' hN
    go_wp2_with fail
    rw [← HN.out]
    refine HSE.out.mono ?_
    rintro e w3 ⟨rfl, Fs3, hP3, hc3, hn3⟩
    have hb3 := hc3.blk HB2.out (fun e => P2.out.ap2 p e P2.out.po)
    have d3' := (disk_cell hb3).2.2.2.1
    have fz := disk_froz hb3 3
    have lp3 : p < w3.heap.size := blk_lt hb3
    have P3 := Lib.hid hP3
    have HB3 := Lib.hid hb3
    have C3 := Lib.hid hc3
    have N3 := Lib.hid hn3
    have hs3 : w2.heap.size ≤ w3.heap.size := hc3.size
    clear hP3 hb3 hc3 hn3 HSE d3
    obtain ⟨w4, hw4⟩ : ∃ w4, w3.setCell ⟨p, 3, none⟩ (.slice none 0 0) = w4 := ⟨_, rfl⟩
    have hc4 : Chg (fun k => k = p) w3 w4 := by rw [← hw4]; exact chg_set _ _ _ _
    have hb4 : w4.heap[p]? = some (diskO st.room fs fh (.slice none 0 0) dv st.dead st.ops) := by rw [← hw4, setp_obj HB3.out]; rfl
    have hP4 := P3.out.setp HB3.out hc4
    have hfold : fold st.last ((ps.map (·.c)).take ps.length) = st.shown := by
      rw [HH.out.1, List.take_of_length_le (by have h9 := congrArg List.length HH.out.1; rw [List.length_map] at h9; omega)]; rfl
    rw [hfold] at hP4
    have hP5 : Parts w4 p fs fh Fs3 Fh Fo st.shown st.shown (.slice none 0 0) [] st.due dv := ⟨hP4.hs, hP4.hh, Rw.nil _, fun q hq => (by cases hq), hP4.due_, hP4.po, fun g hg => (by cases hg), fun q hq => (by cases hq), hP4.ap1, hP4.ap2, hP4.ap3, hP4.lto⟩
    have hs4 : w3.heap.size ≤ w4.heap.size := hc4.size
    have hold : ∀ k, Ext F w w2 k → Ext F w w4 k := fun k hk => by
      rcases hk with e | e
      · exact .inl e
      · exact .inr ⟨e.1, by omega⟩
    have hlt4 : ∀ k, Fs3 k → k < w4.heap.size := by obtain ⟨_, _, _, _, _, _, h9⟩ := hP5.hs; exact h9
    have hd4 : Dk w4 p (Ext F w w4) { st with last := st.shown, pend := [] } := by
      refine ⟨fs, fh, Fs3, Fh, Fo, .slice none 0 0, [], dv, hb4, hP5, rfl, trivial, fun k hk => ?_, ext_lt LT.out (by omega)⟩
      rcases hk with e | e | e
      · rcases N3.out k e with e2 | e2
        · exact hold k (HH.out.2.2.1 k (.inl e2))
        · exact .inr ⟨by omega, hlt4 k e⟩
      · exact hold k (HH.out.2.2.1 k (.inr (.inl e)))
      · exact hold k (HH.out.2.2.1 k (.inr (.inr e)))
    have HCO := Lib.hid (count_d w4 p (Ext F w w4) { st with last := st.shown, pend := [] } hd4 HS.out.ops0 HS.out.ops1 (fun x hx => by have h8 := HS.out.due x hx; have h9 := HDUE.out x hx; omega))
    have hcw4 : Chg F w w4 := (C2.out.trans C3.out (fun k hk e => by
      rcases HH.out.2.2.1 _ (.inl e) with e | e
      · exact e
      · omega)).trans hc4 (fun k hk e => by
      subst e
      rcases HH.out.2.2.1 _ (.inr (.inr P2.out.po)) with e | e
      · exact e
      · omega)
    have C4 := Lib.hid hcw4
    have W4 := Lib.hid hw4
    clear hw4 hc4 hb4 hP4 hfold hP5 hd4 hcw4 hlt4
    go_wp2_with fail
    rw [W4.out]
    refine HCO.out.mono ?_
    rintro e w5 ⟨rfl, hd5, hc5⟩
    have hs5 : w4.heap.size ≤ w5.heap.size := hc5.size
    have FIN := Lib.hid (show RetDk w p F (syncSt st) (.int .i64 (doE st)) (.returned (.int .i64 0)) w5 from by
      refine ⟨by rw [HE.out], ?_, ?_⟩
      · rw [HST.out]
        exact hd5.mono (ext_trans (by omega) hs5) (ext_lt LT.out (by omega))
      · refine C4.out.trans hc5 (fun k hk e => ?_)
        rcases e with e | e
        · exact e
        · omega)
    clear hd5 hc5 HCO
    go_wp2_with fail
    go_ret
    exact FIN.out
end Go.Proofs.Ytmnliieiiaedeaa.dk
