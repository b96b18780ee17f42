/-
  The iterator: Next.
-/
import Derived.Test.YtemmfcinpkfoiaaMgTake
import Derived.Test.YtemmfcinpkfoiaaPoint
import Derived.Laws.ResultCell
namespace Go.Proofs.Ytemmfcinpkfoiaa.mg
open Go.ChangeShapes Go.WideShapes Go.ChangeAt Go.RowKit Go.Shelf plain words ord mem rg

theorem below2 (w : World) (a b : Obj) : Below w.heap.size w ((w.alloc a).alloc b) := ((Below.refl _ _).alloc (Nat.le_refl _) _).alloc (by simp) _
theorem wins_x (a b : Pt) (w : World) : Calls Try.prog 15 #[pV a, pV b] w fun e w' => e = .returned (.bool (wins a b)) ∧ Below w.heap.size w w' := by
  obtain ⟨t0, v0, s0⟩ := a
  obtain ⟨t1, v1, s1⟩ := b
  unfold wins pV
  dsimp only
  rcases Int.lt_trichotomy s1 s0 with h | h | h
  · go_enter Try.func15, Try.ntmps15
    go_wp2_with fail
    go_ret
    exact ⟨ret_bool (by simp [h]), below2 _ _ _⟩
  · subst h
    have h1 : ¬ s1 < s1 := by omega
    have h2 : (s1 == s1) = true := by simp
    go_enter Try.func15, Try.ntmps15
    go_wp2_with fail
    go_ret
    exact ⟨ret_bool (by simp), below2 _ _ _⟩
  · have h1 : ¬ s1 < s0 := by omega
    have h2 : (s0 == s1) = false := by simp; omega
    go_enter Try.func15, Try.ntmps15
    go_wp2_with fail
    go_ret
    exact ⟨ret_bool (by simp [h1]), below2 _ _ _⟩
theorem IsP.to {w w' : World} {H p g : Nat} {v v' : Value} {its : List It} {q : Pt} (h : IsP w g q) (hd : Hd w H p v its) (ht : HdTo p w v w' v') : IsP w' g q :=
  h.chg ht.chg fun e => by
    rcases e with e | e
    · exact blk_type hd.at_ h (by decide) e.symm
    · obtain ⟨cur, hc⟩ := hd.row.type e
      exact blk_type hc h (by decide) rfl
theorem IsP.ne {w : World} {H p g : Nat} {v : Value} {its : List It} {q : Pt} (h : IsP w g q) (hd : Hd w H p v its) : p ≠ g ∧ ∀ g', v.ownBlock = some g' → g' ≠ g :=
  ⟨fun e => blk_type hd.at_ h (by decide) e, fun g' hg' e => by
    obtain ⟨cur, hc⟩ := hd.row.type hg'
    exact blk_type hc h (by decide) e⟩
/-- what Next has taken so far: its best is b -/
structure NI (its its1 : List It) (b : Pt) : Prop where
  mem : b ∈ pts its
  min : ∀ r ∈ pts its, b.1 ≤ r.1
  sub : ∀ r ∈ pts its1, r ∈ pts its
  cov : ∀ r ∈ pts its, r ∈ pts its1 ∨ (r.1 = b.1 ∧ wins r b = false)
  len : its1.length ≤ its.length
  lt : (pts its1).length < (pts its).length
theorem NI.start {its its1 : List It} {q : Pt} (hp : (pts its).Perm (q :: pts its1)) (hl : ∀ r ∈ pts its, q.1 ≤ r.1) (hn : its1.length ≤ its.length) : NI its its1 q :=
  ⟨hp.mem_iff.2 List.mem_cons_self, hl, fun r hr => hp.mem_iff.2 (List.mem_cons_of_mem _ hr), fun r hr => by
    rcases List.mem_cons.1 (hp.mem_iff.1 hr) with rfl | hr
    · exact .inr ⟨rfl, wins_irrefl r⟩
    · exact .inl hr, hn, by rw [hp.length_eq]; exact Nat.lt_succ_self _⟩
theorem NI.same {its its1 its2 : List It} {b q r : Pt} (h : NI its its1 b) (hp : (pts its1).Perm (q :: pts its2)) (hl : ∀ r ∈ pts its1, q.1 ≤ r.1) (hr : r ∈ pts its1) (e : r.1 = b.1) : q.1 = b.1 := by
  have h1 := hl r hr
  have h2 := h.min q (h.sub q (hp.mem_iff.2 List.mem_cons_self))
  omega
theorem NI.take {its its1 its2 : List It} {b q : Pt} (h : NI its its1 b) (hp : (pts its1).Perm (q :: pts its2)) (e : q.1 = b.1) (hw : wins q b = true) (hn : its2.length ≤ its1.length) : NI its its2 q :=
  ⟨h.sub q (hp.mem_iff.2 List.mem_cons_self), fun r hr => by rw [e]; exact h.min r hr, fun r hr => h.sub r (hp.mem_iff.2 (List.mem_cons_of_mem _ hr)), fun r hr => by
    rcases h.cov r hr with h1 | ⟨h1, h2⟩
    · rcases List.mem_cons.1 (hp.mem_iff.1 h1) with rfl | h1
      · exact .inr ⟨rfl, wins_irrefl r⟩
      · exact .inl h1
    · exact .inr ⟨h1.trans e.symm, not_wins_trans r b q h2 (wins_asymm q b hw)⟩, Nat.le_trans hn h.len, by have := h.lt; rw [hp.length_eq, List.length_cons] at this; omega⟩
theorem NI.keep {its its1 its2 : List It} {b q : Pt} (h : NI its its1 b) (hp : (pts its1).Perm (q :: pts its2)) (e : q.1 = b.1) (hw : wins q b = false) (hn : its2.length ≤ its1.length) : NI its its2 b :=
  ⟨h.mem, h.min, fun r hr => h.sub r (hp.mem_iff.2 (List.mem_cons_of_mem _ hr)), fun r hr => by
    rcases h.cov r hr with h1 | h1
    · rcases List.mem_cons.1 (hp.mem_iff.1 h1) with rfl | h1
      · exact .inr ⟨e, hw⟩
      · exact .inl h1
    · exact .inr h1, Nat.le_trans hn h.len, by have := h.lt; rw [hp.length_eq, List.length_cons] at this; omega⟩
/-- the next point of the view -/
structure Nx (its its' : List It) (b : Pt) : Prop where
  mem : b ∈ pts its
  min : ∀ r ∈ pts its, b.1 ≤ r.1
  best : ∀ r ∈ pts its, r.1 = b.1 → wins r b = false
  rest : ∀ r, r ∈ pts its' ↔ r ∈ pts its ∧ b.1 < r.1
  lt : (pts its').length < (pts its).length
  len : its'.length ≤ its.length
theorem NI.done {its its1 : List It} {b : Pt} (h : NI its its1 b) (hd : ∀ r ∈ pts its1, b.1 < r.1) : Nx its its1 b :=
  ⟨h.mem, h.min, fun r hr e => by
    rcases h.cov r hr with h1 | h1
    · have := hd r h1; omega
    · exact h1.2, fun r => ⟨fun hr => ⟨h.sub r hr, hd r hr⟩, fun ⟨hr, hlt⟩ => by
    rcases h.cov r hr with h1 | h1
    · exact h1
    · omega⟩, h.lt, h.len⟩
def RetNext (w : World) (H p : Nat) (v : Value) (its : List It) (e : Ending) (w' : World) : Prop :=
  ∃ b v' its', e = .returned (.tuple #[pV b, .bool true]) ∧ Hd w' H p v' its' ∧ HdTo p w v w' v' ∧ Ts its' ∧ Nx its its' b
theorem ret_cell {P : Program} {fn : Func} {p u : Tmp} {ty : TypeId} (h : fn.results = #[.cell p ty, .tmp u]) (tmps : Array Value) (w : World) (g : Nat) (t : TypeId) (cs : Array Value) (fr : Nat × Nat) (d : TypeDesc)
    (hp : tmps.getD p undef = .pointer (some ⟨g, 0, none⟩)) (hg : w.heap[g]? = some (.cells cs t fr))
    (hu : P.underlying ty = some d) (hd : (match d with | .struct _ | .array _ _ => true | _ => false) = true) (hi : (P.info? ty).map (·.size) = some cs.size) :
    (results fn tmps).run P w = .ok (.tuple #[.agg cs, tmps.getD u undef]) w := by
  have hp' : tmps[p]?.getD undef = .pointer (some ⟨g, 0, none⟩) := by simpa using hp
  rw [results_cell_tmp h]
  simp [hp', asAddr, Result.andThen, run_loadVar_row w g t ty cs fr d hg hu hd hi]
set_option maxRecDepth 100000 in
set_option maxHeartbeats 4000000 in
/-- no more points -/
theorem next_no (w : World) (H p : Nat) (v : Value) (h : Hd w H p v []) :
    Calls Try.prog 26 #[hp p] w fun e w' => e = .returned (.tuple #[pV (0, 0, 0), .bool false]) ∧ Below w.heap.size w w' := by
  obtain ⟨A, c, rfl, hc1, hc2, hA⟩ := h.row.form
  have c0 := h.cell
  have hlt := h.lt
  obtain ⟨m, hm⟩ : ∃ m, w.heap.size = m := ⟨_, rfl⟩
  obtain ⟨w1, hw1⟩ : ∃ w1, w.alloc (.cells #[.int .i64 0, .int .u64 0, .int .u64 0] 24) = w1 := ⟨_, rfl⟩
  have hb1 : Below w.heap.size w w1 := by rw [← hw1]; exact (Below.refl _ _).alloc (Nat.le_refl _) _
  have hg1 : IsP w1 m (0, 0, 0) := by rw [← hw1, ← hm]; exact alloc_new _ _
  have c1 := (h.quiet (Chg.of_below hb1)).cell
  obtain ⟨r0, r1, r2⟩ := hg1.cells
  obtain ⟨f0, f1, f2⟩ := hg1.fz
  have B1 := Lib.hid hb1
  have G1 := Lib.hid hg1
  have W1 := Lib.hid hw1
  have HM := Lib.hid hm
  clear h hb1 hg1 hw1 hm
  go_enter Try.func26, Try.ntmps26
  go_wp2_with fail
  refine bodyPost_ret (ret_cell rfl _ _ w.heap.size 24 _ _ _ rfl (alloc_new _ _) Try.underlying24 rfl info3) rfl ?_
  rw [W1.out]
  exact ⟨rfl, B1.out⟩
set_option maxRecDepth 100000 in
set_option maxHeartbeats 4000000 in
theorem next_x (w : World) (H p : Nat) (v : Value) (its : List It) (h : Hd w H p v its) (n : Nat) (hn : its.length = n + 1) (hsz : n ≤ 99998) (ht : Ts its) :
    Calls Try.prog 26 #[hp p] w (RetNext w H p v its) := by
  obtain ⟨R, hR⟩ : ∃ R, RetNext w H p v its = R := ⟨_, rfl⟩
  rw [hR]
  have HR := Lib.hid hR
  obtain ⟨A, c, hv, hc1, hc2, hA⟩ := h.row.form
  rw [hn] at hv
  have hlt := h.lt
  have c0 := h.cell
  have HH := Lib.hid h
  have HN := Lib.hid hn
  have HT := Lib.hid ht
  obtain ⟨m, hm⟩ : ∃ m, w.heap.size = m := ⟨_, rfl⟩
  obtain ⟨w1, hw1⟩ : ∃ w1, w.alloc (.cells #[.int .i64 0, .int .u64 0, .int .u64 0] 24) = w1 := ⟨_, rfl⟩
  have hb1 : Below w.heap.size w w1 := by rw [← hw1]; exact (Below.refl _ _).alloc (Nat.le_refl _) _
  have hg1 : IsP w1 m (0, 0, 0) := by rw [← hw1, ← hm]; exact alloc_new _ _
  have h1 := h.quiet (Chg.of_below hb1)
  have c1 := h1.cell
  rw [hv] at c0 c1
  have B1 := Lib.hid hb1
  have G1 := Lib.hid hg1
  have W1 := Lib.hid hw1
  have HM := Lib.hid hm
  have H1 := Lib.hid h1
  have HV := Lib.hid hv
  have z1 : ¬ ((n : Int) + 1) = 0 := by omega
  have z2 : (((n + 1 : Nat) : Int) == 0) = false := by simp; omega
  clear h hn ht hb1 hg1 h1 hw1 hm hc1 hc2 hA hv hR
  go_enter Try.func26, Try.ntmps26
  go_wp2_with fail
  rw [W1.out, HM.out]
  refine (take_x w1 H p v its H1.out n HN.out hsz HT.out).mono ?_
  rintro e w2 ⟨q, v2, its2, rfl, hd2, ht2, hs2, hp2, hl2, hle2⟩
  have hg2 : IsP w2 m (0, 0, 0) := G1.out.to H1.out ht2
  have T2 := Lib.hid ((HdTo.quiet v (Chg.of_below B1.out)).trans ht2)
  have D2 := Lib.hid hd2
  have S2 := Lib.hid hs2
  have I2 := Lib.hid (NI.start hp2 hl2 hle2)
  have G2 := Lib.hid hg2
  clear hd2 ht2 hs2 hp2 hl2 hle2 hg2 H1 B1 G1 W1 c0 c1 z1 z2
  go_wp2_with fail
  obtain ⟨m4, hm4⟩ : ∃ m4, w2.heap.size = m4 := ⟨_, rfl⟩
  obtain ⟨w3, hw3⟩ : ∃ w3, w2.alloc (.cells #[.int .i64 q.1, .int .u64 q.2.1, .int .u64 q.2.2] 24) = w3 := ⟨_, rfl⟩
  have hb3 : Below w2.heap.size w2 w3 := by rw [← hw3]; exact (Below.refl _ _).alloc (Nat.le_refl _) _
  have hg4 : IsP w3 m4 q := by rw [← hw3, ← hm4]; exact alloc_new _ _
  rw [hw3, hm4]
  have D3 := Lib.hid (D2.out.quiet (Chg.of_below hb3))
  have T3 := Lib.hid (T2.out.trans (HdTo.quiet v2 (Chg.of_below hb3)))
  have G3 := Lib.hid (G2.out.chg (Chg.of_below hb3) (fun e => e))
  have G4 := Lib.hid hg4
  have hm4w : w.heap.size ≤ m4 := by rw [← hm4]; exact T2.out.chg.size
  have hmm : m < m4 := by rw [← hm4]; exact G2.out.lt
  clear hb3 hw3 hm4 hg4 T2 D2 G2
  go_loopg [5] (pts its).length (fun gg s5 wr => ∃ (b : Pt) (v1 : Value) (its1 : List It), (pts its1).length ≤ gg ∧ Aside (Hd wr H p v1 its1) ∧ Aside (HdTo p w v wr v1) ∧ Aside (IsP wr m (0, 0, 0)) ∧ Aside (IsP wr m4 b) ∧ Aside (Ts its1) ∧ Aside (NI its its1 b))
  case atStart => exact ⟨q, v2, its2, (by have := I2.out.lt; omega), D3.out, T3.out, G3.out, G4.out, S2.out, I2.out⟩
  case round =>
    clear D3 T3 G3 G4 S2 I2
    obtain ⟨b, v1, its1, hgg, DR, TR, GR, BR, SR, IR⟩ := hrel
    obtain ⟨wv, rfl⟩ : ∃ wv, wv = wr := ⟨wr, rfl⟩
    have c0 := DR.out.cell
    obtain ⟨b0, b1, b2⟩ := BR.out.cells
    obtain ⟨A1, c1, hv1, hc1, hc2, hA1⟩ := DR.out.row.form
    have HV1 := Lib.hid hv1
    rw [hv1] at c0
    rcases Nat.eq_zero_or_pos its1.length with hits | hits
    · have he : its1 = [] := List.eq_nil_of_length_eq_zero hits
      have NX := Lib.hid (IR.out.done (fun r hr => by rw [he] at hr; simp [pts] at hr))
      rw [hits] at c0
      have k0 := Wb.at_ c0
      clear hits hv1 c0 he hc1
      go_wp2_with fail
      refine wp_region_plan [([0, 1, 2, 3, 4, 5, 6, 7, 8, 9, 10, 11, 12, 13, 14, 15, 16, 17, 18, 19], none)] (by kernel_rfl) (by kernel_rfl) ?_
      refine seg_end _ (by dsimp only [pick, at_]) ?_
      repeat (go_big_quiet_step (fail))
      refine wpQuiet_nil ?_
      refine NoPanic.normal ?_
      obtain ⟨r0, r1, r2⟩ := GR.out.cells
      obtain ⟨f0, f1, f2⟩ := GR.out.fz
      go_wp2_with fail
      have hqd : Chg (fun _ => False) wv wv.drew := (Chg.refl _ _).drew
      have hGd : IsP wv.drew m (0, 0, 0) := GR.out
      have hHm : H ≤ m := by have := HH.out.lo; have := HM.out; omega
      refine bodyPost_ret (ret_cell rfl _ _ m 24 _ _ _ rfl (setP_is hGd b) Try.underlying24 rfl info3) rfl ?_
      rw [← HR.out]
      exact ⟨b, v1, _, rfl, (DR.out.quiet hqd).setP hGd hHm b, (TR.out.trans (HdTo.quiet v1 hqd)).setP (Nat.le_of_eq HM.out) b, SR.out, NX.out⟩
    · obtain ⟨x, hx⟩ : ∃ x, its1[0]? = some x := ⟨_, List.getElem?_eq_getElem hits⟩
      obtain ⟨n1, hn1⟩ : ∃ n1, its1.length = n1 + 1 := ⟨its1.length - 1, by omega⟩
      have hn1s : n1 ≤ 99998 := by have := IR.out.len; rw [hn1, HN.out] at this; omega
      obtain ⟨g, c', bb, off, q1, t1, hv', hgl, _, _, d0, hl1, hA', hcc1, _, d1, _, _, hbH⟩ := DR.out.get hx
      rw [hv1] at hv'
      cases hv'
      have hkey : x.key = q1.1 := by simp [It.key, hl1]
      have hleast := SR.out.least hx (mem_ne DR.out)
      rw [hkey] at hleast
      have hq1 : q1 ∈ pts its1 := List.mem_flatMap.2 ⟨x, List.mem_of_getElem? hx, by rw [hl1]; exact List.mem_cons_self⟩
      obtain ⟨n2, hn2⟩ : ∃ n2, x.l.length = n2 + 1 := ⟨t1.length, by rw [hl1]; rfl⟩
      rw [hn1] at c0 hc1
      rw [hn2] at d0 hcc1
      have k0 := Wb.at_ c0
      have k1 := Wb.at_ d0
      have k2 := Wb.at_ d1
      have k3 := Wb.at_ b0
      have z1 : (0 : Int) < ((n1 + 1 : Nat) : Int) := by omega
      have z2 : (0 : Int) < ((n2 + 1 : Nat) : Int) := by omega
      have HN1 := Lib.hid hn1
      have HL := Lib.hid hleast
      have HQ := Lib.hid hq1
      have hbl : bb < wv.heap.size := World.block_lt_of_cell? wv _ d1
      have hm4l := BR.out.lt
      clear hits hv1 c0 d0 d1 hx hl1 hA' hkey hleast hq1 hn1 hn2
      by_cases heq : q1.1 = b.1
      · have he : (q1.1 == b.1) = true := by simpa using heq
        go_wp2_with fail
        refine wp_region_plan [([0, 1, 2, 3, 4, 5, 6, 7, 8, 9, 10, 11, 12, 13, 14, 15, 16, 17, 18, 19], none)] (by kernel_rfl) (by kernel_rfl) ?_
        refine seg_end _ (by dsimp only [pick, at_]) ?_
        repeat (go_big_quiet_step (fail))
        refine wpQuiet_nil ?_
        refine NoPanic.normal ?_
        go_wp2_with fail
        have hqd : Chg (fun _ => False) wv wv.drew := (Chg.refl _ _).drew
        have DQ := Lib.hid (DR.out.quiet hqd)
        refine (take_x wv.drew H p v1 its1 DQ.out n1 HN1.out hn1s SR.out).mono ?_
        rintro e w5 ⟨q5, v5, its5, rfl, hd5, ht5, hs5, hp5, hl5, hle5⟩
        have e5 : q5.1 = b.1 := IR.out.same hp5 hl5 HQ.out heq
        have GD : IsP wv.drew m (0, 0, 0) := GR.out
        have BD : IsP wv.drew m4 b := BR.out
        have hg5 := GD.to DQ.out ht5
        have hbb5 := BD.to DQ.out ht5
        have T5 := Lib.hid ((TR.out.trans (HdTo.quiet v1 hqd)).trans ht5)
        have hgl5 : (pts its5).length < (pts its1).length := by rw [hp5.length_eq]; exact Nat.lt_succ_self _
        obtain ⟨m5, hm5⟩ : ∃ m5, w5.heap.size = m5 := ⟨_, rfl⟩
        obtain ⟨w6, hw6⟩ : ∃ w6, w5.alloc (.cells #[.int .i64 q5.1, .int .u64 q5.2.1, .int .u64 q5.2.2] 24) = w6 := ⟨_, rfl⟩
        have hb6 : Below w5.heap.size w5 w6 := by rw [← hw6]; exact (Below.refl _ _).alloc (Nat.le_refl _) _
        have hg6 : IsP w6 m5 q5 := by rw [← hw6, ← hm5]; exact alloc_new _ _
        have HW6 := Lib.hid hw6
        have HM5 := Lib.hid hm5
        have B6 := Lib.hid hb6
        have Q6 := Lib.hid hg6
        have D5 := Lib.hid hd5
        have G5 := Lib.hid hg5
        have BB5 := Lib.hid hbb5
        have S5 := Lib.hid hs5
        have P5 := Lib.hid (And.intro hp5 (And.intro e5 hle5))
        obtain ⟨y0, y1, y2⟩ := BB5.out.cells
        clear hd5 ht5 hs5 hp5 hl5 hle5 e5 GD BD hg5 hbb5 hw6 hm5 hb6 hg6 b0 b1 b2 k0 k1 k2 k3 DQ
        have hm45 : m4 < w5.heap.size := BB5.out.lt
        go_wp2_with fail
        rw [HW6.out, HM5.out]
        refine (wins_x q5 b w6).mono ?_
        rintro e w7 ⟨rfl, hb7⟩
        have hs5 : w5.heap.size ≤ w6.heap.size := B6.out.size
        have C7 := Lib.hid (show Chg (fun _ => False) w5 w7 from (Chg.of_below B6.out).then_below hb7)
        have hq7 : IsP w7 m5 q5 := Q6.out.chg (Chg.of_below hb7) (fun e => e)
        have hg7 : IsP w7 m (0, 0, 0) := G5.out.chg C7.out (fun e => e)
        have hb7' : IsP w7 m4 b := BB5.out.chg C7.out (fun e => e)
        have D7 := Lib.hid (D5.out.quiet C7.out)
        have T7 := Lib.hid (T5.out.trans (HdTo.quiet v5 C7.out))
        have G7 := Lib.hid hg7
        have BB7 := Lib.hid hb7'
        have hHm4 : H ≤ m4 := by have := HH.out.lo; omega
        have hne : m ≠ m4 := by omega
        obtain ⟨x0, x1, x2⟩ := hq7.cells
        obtain ⟨b0, b1, b2⟩ := hb7'.cells
        obtain ⟨f0, f1, f2⟩ := hb7'.fz
        clear y0 y1 y2 hb7 hg7 hb7' hq7 Q6 B6 HW6 HM5 D5 G5 BB5 T5
        cases hw : wins q5 b with
        | false =>
          go_wp2_with fail
          go_roundg (pts its5).length
          case measure => omega
          case rel => exact ⟨b, v5, its5, Nat.le_refl _, D7.out, T7.out, G7.out, BB7.out, S5.out, IR.out.keep P5.out.1 P5.out.2.1 hw P5.out.2.2⟩
        | true =>
          go_wp2_with fail
          go_roundg (pts its5).length
          case measure => omega
          case rel => exact ⟨q5, v5, its5, Nat.le_refl _, D7.out.setP BB7.out hHm4 q5, T7.out.setP hm4w q5, G7.out.chg (S := fun k => k = m4) (setP_chg q5 (Chg.refl _ _) (fun _ => rfl)) hne, setP_is BB7.out q5, S5.out, IR.out.take P5.out.1 P5.out.2.1 hw P5.out.2.2⟩
      · have he : (q1.1 == b.1) = false := by simpa using heq
        have NX := Lib.hid (IR.out.done (fun r hr => by
          have h1 := HL.out r hr
          have h2 := IR.out.min q1 (IR.out.sub q1 HQ.out)
          omega))
        go_wp2_with fail
        refine wp_region_plan [([0, 1, 2, 3, 4, 5, 6, 7, 8, 9, 10, 11, 12, 13, 14, 15, 16, 17, 18, 19], none)] (by kernel_rfl) (by kernel_rfl) ?_
        refine seg_end _ (by dsimp only [pick, at_]) ?_
        repeat (go_big_quiet_step (fail))
        refine wpQuiet_nil ?_
        refine NoPanic.normal ?_
        obtain ⟨r0, r1, r2⟩ := GR.out.cells
        obtain ⟨f0, f1, f2⟩ := GR.out.fz
        go_wp2_with fail
        have hqd : Chg (fun _ => False) wv wv.drew := (Chg.refl _ _).drew
        have hGd : IsP wv.drew m (0, 0, 0) := GR.out
        have hHm : H ≤ m := by have := HH.out.lo; have := HM.out; omega
        refine bodyPost_ret (ret_cell rfl _ _ m 24 _ _ _ rfl (setP_is hGd b) Try.underlying24 rfl info3) rfl ?_
        rw [← HR.out]
        exact ⟨b, v1, _, rfl, (DR.out.quiet hqd).setP hGd hHm b, (TR.out.trans (HdTo.quiet v1 hqd)).setP (Nat.le_of_eq HM.out) b, SR.out, NX.out⟩
end Go.Proofs.Ytemmfcinpkfoiaa.mg
