/-
  The disk makes a change.
-/
import Derived.Test.YtmnliieiiaedeaaDkMu
namespace Go.Proofs.Ytmnliieiiaedeaa.dk
open Go.ChangeShapes Go.WideShapes Go.ChangeAt Go.RowKit Go.Maps Go.Sort Go.Shelf plain words ord mem al

/-- small enough for the machine's numbers -/
structure Small (st : St) : Prop where
  sum : fsum st.last + sumc st.pend ≤ 536870912
  len : st.last.length + st.pend.length ≤ 536870912
  ops0 : 0 ≤ st.ops
  ops1 : st.ops < 4611686018427387904
  due : ∀ x, st.due = some x → 0 ≤ x.1 ∧ x.1 ≤ 9223372036854775807
def doSt (st : St) (c : Chn) : St := if (pw st).dead then pw st else cnt { st with pend := st.pend ++ [c] }
def doE (st : St) : Int := if (pw st).dead then 13 else 0
theorem pw_alive {st : St} (h : (pw st).dead = false) : pw st = st ∧ st.dead = false ∧ ∀ x, st.due = some x → x.1 ≠ 0 := by
  unfold pw at h ⊢
  cases hd : st.due with
  | none => rw [hd] at h; exact ⟨rfl, h, fun x hx => by cases hx⟩
  | some x =>
    obtain ⟨l, k, q⟩ := x
    rw [hd] at h
    simp only at h ⊢
    split at h
    · rw [crash_dead] at h; cases h
    · rename_i hn
      rw [if_neg hn]
      exact ⟨rfl, h, fun x hx => by injection hx with hx; subst hx; exact fun e => hn ⟨h, e⟩⟩
theorem append_c {w : World} {ops : Array Oper} {rest : List Oper} {o : Oper} {a : Act} {Q : Exit → Act → World → Prop} (hgd : o.guard = none) (s x : Operand)
    (ho : o.op = .call { callee := .builtin .append, args := #[s, x], argTypes := #[72, 72] })
    (v : Value) (n : Nat) (l : List Pd) (hs : a.eval s = v) (hown : Rw CE w v n l)
    (B : Nat) (A : Option Addr) (m c : Nat) (hA : A = none → c = 0) (news : List Pd) (hx : a.eval x = .slice A m c) (hr : Ls CE w B A m news)
    (hn : n + m ≤ 1099511627776)
    (h : ∀ v' w', Rw CE w' v' (n + m) (l ++ news) → w.grownBy w' v.ownBlock → (v'.ownBlock = v.ownBlock ∨ v'.ownBlock = some w.heap.size) → wpList Try.prog ops Q rest (a.put o.dst v') w') : wpList Try.prog ops Q (o :: rest) a w := by
  obtain ⟨i0, hi, hz0, hz1, hz2⟩ := info_parts infoC
  refine wpList_append_row (P := Try.prog) _ hgd s x 72 ho CE.e i0 _ 2 16 Try.underlying72 hi hz0 hz1 hz2 rfl (by decide) v n (cs CE.enc l) hs hown.2 B A m c hA (cs CE.enc news) hx hr.2 (cs_oneCell CE.one _) (by unfold maxLen; omega) (by omega) ?_
  intro v' w' h1 h2 h3 _
  exact h v' w' ⟨by rw [List.length_append, hown.1, hr.1], by rw [cs_append]; exact h1⟩ h2 h3
def RetDo (w : World) (p : Nat) (F G : Nat → Prop) (st : St) (r : Value) (e : Ending) (w' : World) : Prop :=
  e = .returned r ∧ Dk w' p (fun k => Ext F w w' k ∨ G k) st ∧ Chg (fun k => F k ∨ G k) w w'
theorem Parts.push {w w' : World} {p fs fh : Nat} {Fs Fh Fo : Nat → Prop} {ls sh : AL Nm} {v v' : Value} {ps : List Pd} {q : Pd} {due : Due} {dv : Option Nat} (h : Parts w p fs fh Fs Fh Fo ls sh v ps due dv) {c : Array Value} {f : Nat × Nat} (hb : w.heap[p]? = some (.cells c 75 f))
    (hc : Chg (fun k => k = p ∨ v.ownBlock = some k) w w') (hr : Rw CE w' v' (ps ++ [q]).length (ps ++ [q])) (hat : ∀ g, v'.ownBlock = some g → v.ownBlock = some g ∨ w.heap.size ≤ g) (hq : q.boxes w) (hqS : ∀ k, q.foot k → ¬ Fs k ∧ ¬ Fh k) :
    Parts w' p fs fh Fs Fh (fun k => Fo k ∨ q.foot k ∨ (w.heap.size ≤ k ∧ k < w'.heap.size)) ls sh v' (ps ++ [q]) due dv := by
  have hls : ∀ k, Fs k → k < w.heap.size := by obtain ⟨_, _, _, _, _, _, h9⟩ := h.hs; exact h9
  have hlh : ∀ k, Fh k → k < w.heap.size := by obtain ⟨_, _, _, _, _, _, h9⟩ := h.hh; exact h9
  have hbox : ∀ r : Pd, r.boxes w → ∀ k, r.foot k → ¬ (k = p ∨ v.ownBlock = some k) := fun r hr k hk e => by
    obtain ⟨c2, hc2⟩ := box_type hr hk
    rcases e with e | e
    · subst e; exact blk_type hb hc2 (by decide) rfl
    · obtain ⟨c3, hc3⟩ := h.row.type e
      exact blk_type hc2 hc3 (by decide) rfl
  have hs := hc.size
  refine ⟨h.hs.chg hc (fun k hk e => ?_), h.hh.chg hc (fun k hk e => ?_), hr, fun r hrm => ?_, (h.due_.chg hc (fun b hb2 e => ?_)).mono (fun k hk => .inl hk), .inl h.po, fun g hg => ?_, fun r hrm k hk => ?_, h.ap1, fun k hk e => ?_, fun k hk e => ?_, fun k hk => ?_⟩
  · rcases e with e | e
    · subst e; exact h.ap2 _ hk h.po
    · exact h.ap2 k hk (h.ro k e)
  · rcases e with e | e
    · subst e; exact h.ap3 _ hk h.po
    · exact h.ap3 k hk (h.ro k e)
  · rcases List.mem_append.1 hrm with h1 | h1
    · exact Pd.boxes_chg (h.box r h1) hc (hbox r (h.box r h1))
    · simp at h1; subst h1; exact Pd.boxes_chg hq hc (hbox r hq)
  · obtain ⟨_, x, hx⟩ := h.dueo hb2
    rcases e with e | e
    · subst e; exact blk_type hb hx (by decide) rfl
    · obtain ⟨c3, hc3⟩ := h.row.type e
      exact blk_type hx hc3 (by decide) rfl
  · rcases hat g hg with e | e
    · exact .inl (h.ro g e)
    · exact .inr (.inr ⟨e, hr.lt hg⟩)
  · rcases List.mem_append.1 hrm with h1 | h1
    · exact .inl (h.bo r h1 k hk)
    · simp at h1; subst h1; exact .inr (.inl hk)
  · rcases e with e | e | e
    · exact h.ap2 k hk e
    · exact (hqS k e).1 hk
    · have := hls k hk; omega
  · rcases e with e | e | e
    · exact h.ap3 k hk e
    · exact (hqS k e).2 hk
    · have := hlh k hk; omega
  · rcases hk with e | e | e
    · exact Nat.lt_of_lt_of_le (h.lto k e) hs
    · exact Nat.lt_of_lt_of_le (Pd.boxes_lt hq e) hs
    · exact e.2
set_option maxRecDepth 100000 in
set_option maxHeartbeats 2000000 in
theorem do_d (w : World) (p : Nat) (F : Nat → Prop) (st : St) (q : Pd) (h : Dk w p F st) (hq : q.boxes w) (hqF : ∀ k, q.foot k → ¬ F k) (ho : okc st.shown q.c) (hs : Small st) (hcl : chlen q.c ≤ 1073741824) :
    Calls Try.prog 43 #[ptr p, .agg #[.func (.func q.fid) #[] q.caps, .bool q.isApp]] w (RetDo w p F q.foot (doSt st q.c) (.int .i64 (doE st))) := by
  obtain ⟨w1, hw1⟩ : ∃ w1, w.alloc (.cells #[.func (.func q.fid) #[] q.caps, .bool q.isApp] 83) = w1 := ⟨_, rfl⟩
  have hb1 : Below w.heap.size w w1 := by rw [← hw1]; exact (Below.refl _ _).alloc (Nat.le_refl _) _
  have hs1 : w1.heap.size = w.heap.size + 1 := by rw [← hw1]; simp
  have hbx : w1.heap[w.heap.size]? = some (.cells #[.func (.func q.fid) #[] q.caps, .bool q.isApp] 83 (0, 0)) := by rw [← hw1]; exact alloc_new _ _
  have hd1 := h.chg (Chg.of_below hb1) (fun _ _ e => e)
  have HPW := Lib.hid (powered_d w1 p F st hd1 (by have := hs.sum; omega) (by have := hs.len; omega))
  have hlt := h.lt
  have hq1 := Pd.boxes_chg hq (Chg.of_below hb1) (fun _ _ e => e)
  have hent := enters_q q
  obtain ⟨fid, hfid⟩ : ∃ fid, q.fid = fid := ⟨_, rfl⟩
  obtain ⟨caps, hcaps⟩ : ∃ caps, q.caps = caps := ⟨_, rfl⟩
  obtain ⟨isA, hisA⟩ : ∃ isA, q.isApp = isA := ⟨_, rfl⟩
  rw [hfid] at hent
  rw [hfid, hcaps, hisA] at hw1 hbx
  rw [hfid, hcaps, hisA]
  have W1 := Lib.hid hw1
  have B1 := Lib.hid hb1
  have BX := Lib.hid hbx
  have LT := Lib.hid hlt
  have Q1 := Lib.hid hq1
  have HF := Lib.hid (And.intro hfid (And.intro hcaps hisA))
  have HS := Lib.hid hs
  have HQF := Lib.hid hqF
  have HO := Lib.hid ho
  have QLT := Lib.hid (show ∀ k, q.foot k → k < w.heap.size from fun k hk => Pd.boxes_lt hq hk)
  have S1 := Lib.hid hs1
  clear h hq hw1 hb1 hbx hd1 hlt hq1 hfid hcaps hisA hs hqF ho hs1
  go_enter Try.func43, Try.ntmps43
  go_wp2_with fail
  rw [W1.out]
  refine HPW.out.mono ?_
  rintro e w2 ⟨rfl, hd2, hc2⟩
  have hcw2 : Chg F w w2 := (((Chg.of_below B1.out).mono (S' := F) (fun _ _ e => e.elim)).trans hc2 (fun _ _ e => e))
  have hs12 : w1.heap.size ≤ w2.heap.size := hc2.size
  cases hdead : (pw st).dead with
  | true =>
    have hst : doSt st q.c = pw st := by unfold doSt; rw [if_pos hdead]
    have he : doE st = 13 := by unfold doE; rw [if_pos hdead]
    have HST := Lib.hid hst
    have HE := Lib.hid he
    have D2 := Lib.hid hd2
    have C2 := Lib.hid hcw2
    clear hst he hd2 hc2 hcw2 hdead HPW hent
    go_wp2_with fail
    go_ret
    refine ⟨by rw [HE.out]; rfl, ?_, C2.out.mono (fun _ _ e => .inl e)⟩
    rw [HST.out]
    exact D2.out.mono (fun k hk => .inl (by
      rcases hk with e | e
      · exact .inl e
      · exact .inr ⟨by have := S1.out; omega, e.2⟩)) (fun k hk => by
      rcases hk with e | e
      · exact ext_lt LT.out (by have := S1.out; omega) k e
      · have := QLT.out k e; have := S1.out; omega)
  | false =>
    obtain ⟨hpw, hal, hdue⟩ := pw_alive hdead
    rw [hpw] at hd2
    have hst : doSt st q.c = cnt { st with pend := st.pend ++ [q.c] } := by unfold doSt; rw [if_neg (by rw [hdead]; simp)]
    have he : doE st = 0 := by unfold doE; rw [if_neg (by rw [hdead]; simp)]
    have HST := Lib.hid hst
    have HE := Lib.hid he
    have HDUE := Lib.hid hdue
    have hbx2 := hc2.blk BX.out (fun e => by have := LT.out _ e; omega)
    have hq2 := Pd.boxes_chg Q1.out hc2 HQF.out
    obtain ⟨fs, fh, Fs, Fh, Fo, v, ps, dv, hb2, hP2, h3, h4, h5, h6⟩ := hd2
    have x0 : w2.cell? ⟨w.heap.size, 0, none⟩ = some (.func (.func fid) #[] caps) := by rw [cell_of_row _ _ _ _ _ _ hbx2]; rfl
    have d2 := (disk_cell hb2).2.2.1
    have z0 := Wb.at_ x0
    have z2 := Wb.at_ d2
    have lp : p < w2.heap.size := blk_lt hb2
    have lx : w.heap.size < w2.heap.size := blk_lt hbx2
    have hsum1 := fold_sum hP2.hs.srt st.pend
    have hlen1 := fold_len st.last st.pend
    have HW := Lib.hid (whole_x w2.drew fh Fh st.shown q (hP2.quiet (w' := w2.drew) (Below.refl _ _).drew).hh (Pd.boxes_chg hq2 (Chg.refl (fun _ => False) _).drew (fun _ _ e => e)) HO.out (by have := HS.out.sum; unfold St.shown; omega) (by have := HS.out.len; unfold St.shown; omega))
    rw [HF.out.1, HF.out.2.1, show whole = 9223372036854775807 from rfl] at HW
    have P2 := Lib.hid hP2
    have HB2 := Lib.hid hb2
    have BX2 := Lib.hid hbx2
    have Q2 := Lib.hid hq2
    have C2 := Lib.hid hcw2
    have HH := Lib.hid (And.intro h3 (And.intro h4 (And.intro h5 h6)))
    clear hst he hdue hbx2 hq2 hb2 hP2 h3 h4 h5 h6 x0 d2 hsum1 hlen1 hc2 hcw2 hdead hpw hal HPW
    go_wp2_with fail
    refine wp_region_plan [([0, 1, 2, 3, 4, 5], some (6, true)), ([], none)] (by kernel_rfl) (by kernel_rfl) ?_
    refine seg_write _ (by dsimp only [pick, at_]) _ (by dsimp only [pick, at_]) ?_
    repeat (go_big_quiet_step (fail))
    refine wpQuiet_nil ?_
    intro K2 g1
    clear z0 z2
    go_wp2_with (fail)
    refine HW.out.mono ?_
    rintro e w3 hr
    obtain ⟨rfl, hf3, hc3⟩ := RetFil.drew hr
    have hP3 := P2.out.filh hc3 hf3 (fun k hk => hk.new)
    have hb3 := hc3.blk HB2.out (fun e => P2.out.ap3 p e P2.out.po)
    have hFhF : ∀ k, Fh k → F k ∨ w.heap.size + 1 ≤ k := fun k hk => by
      rcases HH.out.2.2.1 k (.inr (.inl hk)) with e | e
      · exact .inl e
      · exact .inr (by have := S1.out; omega)
    have hbx3 := hc3.blk BX2.out (fun e => by
      rcases hFhF _ e with e | e
      · have := LT.out _ e; omega
      · omega)
    have hq3 := Pd.boxes_chg Q2.out hc3 (fun k hk e => by
      rcases hFhF _ e with e | e
      · exact HQF.out k hk e
      · have := QLT.out k hk; omega)
    have hcw3 : Chg F w w3 := C2.out.trans hc3 (fun k hk e => (hFhF k e).resolve_right (by omega))
    have P3 := Lib.hid hP3
    have HB3 := Lib.hid hb3
    have BX3 := Lib.hid hbx3
    have Q3 := Lib.hid hq3
    have C3 := Lib.hid hcw3
    have hs23 : w2.heap.size ≤ w3.heap.size := hc3.size
    clear hr hf3 hc3 hP3 hb3 hbx3 hq3 hcw3 HW hent
    go_wp2_with (fail)
    refine seg_end _ (by dsimp only [pick, at_]) ?_
    repeat (go_big_quiet_step (fail))
    refine wpQuiet_nil (NoPanic.normal ?_)
    have d3 := (disk_cell HB3.out).2.2.2.1
    have y0 : w3.cell? ⟨w.heap.size, 0, none⟩ = some (.func (.func fid) #[] caps) := by rw [cell_of_row _ _ _ _ _ _ BX3.out]; rfl
    have y1 : w3.cell? ⟨w.heap.size, 1, none⟩ = some (.bool isA) := by rw [cell_of_row _ _ _ _ _ _ BX3.out]; rfl
    have lp3 : p < w3.heap.size := blk_lt HB3.out
    have lx3 : w.heap.size < w3.heap.size := by omega
    have z3 := Wb.at_ d3
    have z0 := Wb.at_ y0
    have z1 := Wb.at_ y1
    go_wp2_with fail
    refine wp_region_plan [([0, 1, 2, 3, 4, 5], some (6, false)), ([], some (7, true)), ([8, 9], some (10, true)), ([], none)] (by kernel_rfl) (by kernel_rfl) ?_
    refine seg_act _ (by dsimp only [pick, at_]) _ (by dsimp only [pick, at_]) ?_
    repeat (go_big_quiet_step (fail))
    refine wpQuiet_nil ?_
    intro K3 g1 g2
    clear g1 z0 z1 z3
    go_wp2_with (fail)
    obtain ⟨w4, hw4⟩ : ∃ w4, (w3.alloc (.cells #[.func (.func fid) #[] caps, .bool isA] 83)).drew = w4 := ⟨_, rfl⟩
    have hb34 : Below w3.heap.size w3 w4 := by rw [← hw4]; exact ((Below.refl _ _).alloc (Nat.le_refl _) _).drew
    have hpd : pdE q = [.func (.func fid) #[] caps, .bool isA] := by unfold pdE; rw [HF.out.1, HF.out.2.1, HF.out.2.2]
    have hnews : Ls CE w4 (w3.heap.size + 1) (some ⟨w3.heap.size, 0, none⟩) 1 [q] := by
      rw [← hw4]
      have h9 := (ls_new (E := CE) (w := w3) 83 q).drew
      have h10 : (CE.enc q).toArray = #[.func (.func fid) #[] caps, .bool isA] := by show (pdE q).toArray = _; rw [hpd]
      rw [h10] at h9
      exact h9
    have hrow4 : Rw CE w4 v ps.length ps := P3.out.row.chg (Chg.of_below hb34) (fun _ _ e => e)
    have hlp : ps.length ≤ 536870912 := by have h9 := congrArg List.length HH.out.1; rw [List.length_map] at h9; have := HS.out.len; omega
    have B34 := Lib.hid hb34
    have W4 := Lib.hid hw4
    rw [hw4]
    refine g2 _ _ hb34 ?_
    clear g2 hw4 hb34 hpd y0 y1 d3
    refine seg_write _ (by dsimp only [pick, at_]) _ (by dsimp only [pick, at_]) ?_
    refine wpQuiet_nil ?_
    intro K4 g1
    go_wp2_with (at_builtin; refine append_c rfl (.tmp 19) (.tmp 21) rfl v ps.length ps (by rfl) hrow4 _ _ 1 1 (fun e => by cases e) [q] (by rfl) hnews (by omega) ?_; intro v5 w5 hown5 hgrow5 hat5)
    obtain ⟨A5, c5, e5, _⟩ := hown5.form
    subst e5
    have hb4 := (Chg.of_below B34.out).blk HB3.out (fun e => e)
    have hvp : v.ownBlock ≠ some p := fun e => by
      obtain ⟨c9, hc9⟩ := P3.out.row.type e
      exact blk_type HB3.out hc9 (by decide) rfl
    have hb5 : w5.heap[p]? = some (diskO st.room fs fh v dv st.dead st.ops) := (hgrow5.block p (blk_lt hb4) (fun e => hvp e.symm)).trans hb4
    have d5 := (disk_cell hb5).2.2.2.1
    have fz := disk_froz hb5 3
    have lp5 : p < w5.heap.size := blk_lt hb5
    have z5 := Wb.at_ d5
    have O5 := Lib.hid hown5
    have G5 := Lib.hid hgrow5
    have A5L := Lib.hid hat5
    have HB5 := Lib.hid hb5
    clear hown5 hgrow5 hat5 hb5 hb4 hrow4 hnews
    refine seg_write _ (by dsimp only [pick, at_]) _ (by dsimp only [pick, at_]) ?_
    repeat (go_big_quiet_step (fail))
    refine wpQuiet_nil ?_
    intro K5 g1
    clear z5
    go_wp2_with (fail)
    refine seg_end _ (by dsimp only [pick, at_]) ?_
    repeat (go_big_quiet_step (fail))
    refine wpQuiet_nil (NoPanic.normal ?_)
    obtain ⟨w6, hw6⟩ : ∃ w6, w5.setCell ⟨p, 3, none⟩ (.slice A5 (ps.length + 1) c5) = w6 := ⟨_, rfl⟩
    rw [hw6]
    have hc56 : Chg (fun k => k = p) w5 w6 := by rw [← hw6]; exact chg_set _ _ _ _
    have hc36 : Chg (fun k => k = p ∨ v.ownBlock = some k) w3 w6 := (((Chg.of_below B34.out).mono (S' := fun k => k = p ∨ v.ownBlock = some k) (fun _ _ e => e.elim)).grown G5.out (fun k e _ => .inr e)).trans hc56 (fun _ _ e => .inl e)
    have hb6 : w6.heap[p]? = some (diskO st.room fs fh (.slice A5 (ps.length + 1) c5) dv st.dead st.ops) := by rw [← hw6]; exact setp_obj (o := 3) HB5.out
    have hrow6 : Rw CE w6 (.slice A5 (ps.length + 1) c5) (ps ++ [q]).length (ps ++ [q]) := by
      rw [List.length_append, List.length_singleton]
      exact O5.out.chg hc56 (fun g hg e => by
        obtain ⟨c9, hc9⟩ := O5.out.type hg
        exact blk_type HB5.out hc9 (by decide) e.symm)
    have hs34 : w3.heap.size ≤ w4.heap.size := B34.out.size
    have hs36 : w3.heap.size ≤ w6.heap.size := hc36.size
    have hs1 := S1.out
    have hat6 : ∀ g, (Value.slice A5 (ps.length + 1) c5).ownBlock = some g → v.ownBlock = some g ∨ w3.heap.size ≤ g := fun g hg => by
      rcases A5L.out with e | e
      · exact .inl (e.symm.trans hg)
      · rw [hg] at e; injection e with e; exact .inr (by omega)
    have hqS : ∀ k, q.foot k → ¬ Fs k ∧ ¬ Ext Fh w2.drew w3 k := fun k hk => by
      have h8 := QLT.out k hk
      have h9 := HQF.out k hk
      refine ⟨fun e => ?_, fun e => ?_⟩
      · rcases HH.out.2.2.1 k (.inl e) with e | e
        · exact h9 e
        · omega
      · rcases e with e | e
        · rcases HH.out.2.2.1 k (.inr (.inl e)) with e | e
          · exact h9 e
          · omega
        · have : w2.heap.size ≤ k := e.1
          omega
    have hP6 := P3.out.push HB3.out hc36 hrow6 hat6 Q3.out hqS
    obtain ⟨F6, hF6⟩ : ∃ F6 : Nat → Prop, F6 = fun k => Ext F w w6 k ∨ q.foot k := ⟨_, rfl⟩
    have hF6l : ∀ k, F6 k → k < w6.heap.size := fun k hk => by
      rw [hF6] at hk
      rcases hk with e | e
      · exact ext_lt LT.out (by omega) k e
      · have := QLT.out k e; omega
    have hd6 : Dk w6 p F6 { st with pend := st.pend ++ [q.c] } := by
      refine ⟨fs, fh, Fs, Ext Fh w2.drew w3, (fun k => Fo k ∨ q.foot k ∨ (w3.heap.size ≤ k ∧ k < w6.heap.size)), .slice A5 (ps.length + 1) c5, ps ++ [q], dv, hb6, ?_, ?_, legal_snoc HH.out.2.1 HO.out, fun k hk => ?_, hF6l⟩
      · have : St.shown { st with pend := st.pend ++ [q.c] } = done st.shown q.c := fold_snoc _ _ _
        rw [this]
        exact hP6
      · rw [List.map_append, HH.out.1]; rfl
      · rw [hF6]
        have old : ∀ k, Ext F w1 w2 k → Ext F w w6 k := fun k hk => by
          rcases hk with e | e
          · exact .inl e
          · exact .inr ⟨by omega, by omega⟩
        rcases hk with e | e | e
        · exact .inl (old k (HH.out.2.2.1 k (.inl e)))
        · rcases e with e | e
          · exact .inl (old k (HH.out.2.2.1 k (.inr (.inl e))))
          · have h9 : w2.heap.size ≤ k := e.1
            exact .inl (.inr ⟨by omega, by omega⟩)
        · rcases e with e | e | e
          · exact .inl (old k (HH.out.2.2.1 k (.inr (.inr e))))
          · exact .inr e
          · exact .inl (.inr ⟨by omega, e.2⟩)
    have HCO := Lib.hid (count_d w6 p F6 { st with pend := st.pend ++ [q.c] } hd6 HS.out.ops0 HS.out.ops1 (fun x hx => by have h8 := HS.out.due x hx; have h9 := HDUE.out x hx; omega))
    have hcw6 : Chg F w w6 := C3.out.trans hc36 (fun k hk e => by
      rcases e with e | e
      · subst e
        rcases HH.out.2.2.1 _ (.inr (.inr P2.out.po)) with e | e
        · exact e
        · omega
      · rcases HH.out.2.2.1 _ (.inr (.inr (P2.out.ro k e))) with e | e
        · exact e
        · omega)
    have C6 := Lib.hid hcw6
    have HF6 := Lib.hid hF6
    have HF6L := Lib.hid hF6l
    have hs06 : w.heap.size ≤ w6.heap.size := hcw6.size
    clear hc56 hc36 hb6 hrow6 hat6 hqS hP6 hF6 hF6l hd6 hcw6 d5 fz hw6
    go_wp2_with fail
    refine HCO.out.mono ?_
    rintro e w7 ⟨rfl, hd7, hc7⟩
    have hs67 : w6.heap.size ≤ w7.heap.size := hc7.size
    have hfin : RetDo w p F q.foot (doSt st q.c) (.int .i64 (doE st)) (.returned (.int .i64 0)) w7 := by
      refine ⟨by rw [HE.out], ?_, ?_⟩
      · rw [HST.out]
        refine hd7.mono (fun k hk => ?_) (fun k hk => ?_)
        · rcases hk with e | e
          · rw [HF6.out] at e
            rcases e with e | e
            · rcases e with e | e
              · exact .inl (.inl e)
              · exact .inl (.inr ⟨e.1, by omega⟩)
            · exact .inr e
          · exact .inl (.inr ⟨by omega, e.2⟩)
        · rcases hk with e | e
          · exact ext_lt LT.out (by omega) k e
          · have := QLT.out k e; omega
      · refine (C6.out.mono (S' := fun k => F k ∨ q.foot k) (fun _ _ e => .inl e)).trans hc7 (fun k hk e => ?_)
        rw [HF6.out] at e
        rcases e with e | e
        · rcases e with e | e
          · exact .inl e
          · omega
        · exact .inr e
    have FIN := Lib.hid hfin
    clear hd7 hc7 hfin HCO
    go_wp2_with fail
    go_ret
    exact FIN.out
end Go.Proofs.Ytmnliieiiaedeaa.dk
