/-
  The iterator: take.
-/
import Derived.Test.YtemmfcinpkfoiaaMgPop
namespace Go.Proofs.Ytemmfcinpkfoiaa.mg
open Go.ChangeShapes Go.WideShapes Go.ChangeAt Go.RowKit Go.Shelf plain words ord mem rg

abbrev pV (q : Pt) : Value := .agg #[.int .i64 q.1, .int .u64 q.2.1, .int .u64 q.2.2]
/-- a point in a variable -/
def IsP (w : World) (g : Nat) (q : Pt) : Prop := w.heap[g]? = some (.cells #[.int .i64 q.1, .int .u64 q.2.1, .int .u64 q.2.2] 24 (0, 0))
def setP (w : World) (g : Nat) (q : Pt) : World := ((w.setCell ⟨g, 0, none⟩ (.int .i64 q.1)).setCell ⟨g, 1, none⟩ (.int .u64 q.2.1)).setCell ⟨g, 2, none⟩ (.int .u64 q.2.2)
theorem setP_is {w : World} {g : Nat} {q : Pt} (h : IsP w g q) (r : Pt) : IsP (setP w g r) g r := by
  unfold IsP setP
  have h1 := heap_setCell_same w g 0 _ _ (.int .i64 r.1) h
  have h2 := heap_setCell_same _ g 1 _ _ (.int .u64 r.2.1) h1
  have h3 := heap_setCell_same _ g 2 _ _ (.int .u64 r.2.2) h2
  simpa using h3
theorem setP_chg {S : Nat → Prop} {a w : World} {g : Nat} (q : Pt) (h : Chg S a w) (hg : g < a.heap.size → S g) : Chg S a (setP w g q) :=
  ((h.setCell (p := ⟨g, 0, none⟩) hg _).setCell (p := ⟨g, 1, none⟩) hg _).setCell (p := ⟨g, 2, none⟩) hg _
theorem IsP.chg {S : Nat → Prop} {w w' : World} {g : Nat} {q : Pt} (h : IsP w g q) (hc : Chg S w w') (hn : ¬ S g) : IsP w' g q := hc.blk h hn
theorem IsP.lt {w : World} {g : Nat} {q : Pt} (h : IsP w g q) : g < w.heap.size := blk_lt h
theorem IsP.cells {w : World} {g : Nat} {q : Pt} (h : IsP w g q) : w.cell? ⟨g, 0, none⟩ = some (.int .i64 q.1) ∧ w.cell? ⟨g, 1, none⟩ = some (.int .u64 q.2.1) ∧ w.cell? ⟨g, 2, none⟩ = some (.int .u64 q.2.2) :=
  ⟨by rw [cell_of_row _ _ _ _ _ _ h]; rfl, by rw [cell_of_row _ _ _ _ _ _ h]; rfl, by rw [cell_of_row _ _ _ _ _ _ h]; rfl⟩
theorem IsP.fz {w : World} {g : Nat} {q : Pt} (h : IsP w g q) : w.frozen? ⟨g, 0, none⟩ = false ∧ w.frozen? ⟨g, 1, none⟩ = false ∧ w.frozen? ⟨g, 2, none⟩ = false :=
  ⟨frozen_of_row _ _ _ _ _ h, frozen_of_row _ _ _ _ _ h, frozen_of_row _ _ _ _ _ h⟩
theorem info3 : (Try.prog.info? 24).map (·.size) = some 3 := by kernel_rfl
/-- all points of the heads -/
def pts (its : List It) : List Pt := its.flatMap It.l
theorem pts_perm {l m : List It} (h : l.Perm m) : (pts l).Perm (pts m) := h.flatMap_right _
/-- each head rises, and they lie as a heap -/
structure Ts (its : List It) : Prop where
  srt : ∀ x ∈ its, x.l.Pairwise fun a b => a.1 < b.1
  heap : Hf its 0 its.length
theorem key_le {l : List Pt} {q r : Pt} {t : List Pt} (h : l.Pairwise fun a b => a.1 < b.1) (hl : l = q :: t) (hr : r ∈ l) : q.1 ≤ r.1 := by
  subst hl
  rw [List.pairwise_cons] at h
  rcases List.mem_cons.1 hr with rfl | hr
  · exact Int.le_refl _
  · exact Int.le_of_lt (h.1 r hr)
theorem Ts.least {its : List It} {x : It} (h : Ts its) (hx : its[0]? = some x) (hne : ∀ y ∈ its, y.l ≠ []) : ∀ r ∈ pts its, x.key ≤ r.1 := by
  intro r hr
  obtain ⟨y, hy, hr⟩ := List.mem_flatMap.1 hr
  obtain ⟨m, hm, rfl⟩ := List.getElem_of_mem hy
  have h1 := h.heap.root m hm
  rw [kk_at hx, kk_at (List.getElem?_eq_getElem hm)] at h1
  have hn := hne _ hy
  cases hl : (its[m]).l with
  | nil => exact absurd hl hn
  | cons q t =>
    have h2 := key_le (h.srt _ hy) hl hr
    have : (its[m]).key = q.1 := by simp [It.key, hl]
    omega
theorem mem_ne {w : World} {H p : Nat} {v : Value} {its : List It} (h : Hd w H p v its) : ∀ y ∈ its, y.l ≠ [] := fun y hy => (h.ok y hy).ne
theorem Ts.pop {its its' : List It} {x : It} (h : Ts its) (hp : (x :: its').Perm its) (hf : Hf its' 0 its'.length) : Ts its' :=
  ⟨fun y hy => h.srt y (hp.mem_iff.1 (List.mem_cons_of_mem _ hy)), hf⟩
theorem Ts.push {its its' its'' : List It} {x y : It} {q : Pt} (h : Ts its) (hp : (x :: its').Perm its) (hx : x.l = q :: y.l) (hq : its''.Perm (y :: its')) (hf : Hf its'' 0 its''.length) : Ts its'' :=
  ⟨fun z hz => by
    rcases List.mem_cons.1 (hq.mem_iff.1 hz) with rfl | hz
    · have := h.srt x (hp.mem_iff.1 List.mem_cons_self)
      rw [hx, List.pairwise_cons] at this
      exact this.2
    · exact h.srt z (hp.mem_iff.1 (List.mem_cons_of_mem _ hz)), hf⟩
theorem pts_pop {its its' : List It} {x : It} {q : Pt} (hp : (x :: its').Perm its) (hx : x.l = [q]) : (pts its).Perm (q :: pts its') := by
  have := pts_perm hp
  simp only [pts, List.flatMap_cons, hx] at this
  exact this.symm
theorem pts_push {its its' its'' : List It} {x y : It} {q : Pt} (hp : (x :: its').Perm its) (hx : x.l = q :: y.l) (hq : its''.Perm (y :: its')) : (pts its).Perm (q :: pts its'') := by
  have h1 := pts_perm hp
  have h2 := pts_perm hq
  simp only [pts, List.flatMap_cons, hx] at h1 h2 ⊢
  exact h1.symm.trans ((h2.symm.cons q))
theorem Hd.setP {w : World} {H p g : Nat} {v : Value} {its : List It} {q : Pt} (h : Hd w H p v its) (hg : IsP w g q) (hH : H ≤ g) (r : Pt) : Hd (setP w g r) H p v its :=
  h.chg (S := fun b => b = g) (setP_chg r (Chg.refl _ _) (fun _ => rfl)) (fun e => blk_type h.at_ hg (by decide) e)
    (fun g' hg' e => by
      obtain ⟨cur, hc⟩ := h.row.type hg'
      exact blk_type hc hg (by decide) e) (fun k e => by subst e; exact hH)
theorem HdTo.setP {p g : Nat} {w w' : World} {v v' : Value} (h : HdTo p w v w' v') (hg : w.heap.size ≤ g) (r : Pt) : HdTo p w v (mg.setP w' g r) v' :=
  ⟨setP_chg r h.chg (fun e => by omega), h.row⟩
/-- the earliest point taken -/
def RetTake (w : World) (H p : Nat) (v : Value) (its : List It) (e : Ending) (w' : World) : Prop :=
  ∃ q v' its', e = .returned (pV q) ∧ Hd w' H p v' its' ∧ HdTo p w v w' v' ∧ Ts its' ∧ (pts its).Perm (q :: pts its') ∧ (∀ r ∈ pts its, q.1 ≤ r.1) ∧ its'.length ≤ its.length
set_option maxRecDepth 100000 in
set_option maxHeartbeats 4000000 in
theorem take_x (w : World) (H p : Nat) (v : Value) (its : List It) (h : Hd w H p v its) (n : Nat) (hn : its.length = n + 1) (hsz : n ≤ 99998) (ht : Ts its) :
    Calls Try.prog 45 #[hp p] w (RetTake w H p v its) := by
  have HH := Lib.hid h
  have HN := Lib.hid hn
  have HT := Lib.hid ht
  have hlt := h.lt
  obtain ⟨m, hm⟩ : ∃ m, w.heap.size = m := ⟨_, rfl⟩
  obtain ⟨w1, hw1⟩ : ∃ w1, w.alloc (.cells #[.int .i64 0, .int .u64 0, .int .u64 0] 24) = w1 := ⟨_, rfl⟩
  have hb1 : Below w.heap.size w w1 := by rw [← hw1]; exact (Below.refl _ _).alloc (Nat.le_refl _) _
  have hg1 : IsP w1 m (0, 0, 0) := by rw [← hw1, ← hm]; exact alloc_new _ _
  have h1 := h.quiet (Chg.of_below hb1)
  have H1 := Lib.hid h1
  have B1 := Lib.hid hb1
  have G1 := Lib.hid hg1
  have W1 := Lib.hid hw1
  have HM := Lib.hid hm
  have ta := assert_p
  have hf := ht.heap
  rw [hn] at hf
  have HP := Lib.hid (pop_x w1 H p v its h1 n hn (by omega) hf)
  clear h hn ht hb1 hg1 h1 hw1 hm hf
  go_enter Try.func45, Try.ntmps45
  go_wp2_with fail
  rw [W1.out, HM.out]
  refine HP.out.mono ?_
  rintro e w2 ⟨x, v2, its2, rfl, hx, hd2, ht2, hp2, hf2, hok⟩
  have hm := HM.out
  have hown := HH.out.own
  have hG2 : IsP w2 m (0, 0, 0) := G1.out.chg ht2.chg (fun e => by
    rcases e with e | e
    · omega
    · have := HH.out.row.lt e; omega)
  obtain ⟨q, t, hl⟩ : ∃ q t, x.l = q :: t := by
    cases hxl : x.l with
    | nil => exact absurd hxl hok.ne
    | cons q t => exact ⟨q, t, rfl⟩
  obtain ⟨b, off, hA, hb, p0, p1, p2⟩ := Ls.pt hok.ls (i := 0) (x := q) (by rw [hl]; rfl)
  simp only [Nat.zero_mul, Nat.add_zero] at p0 p1 p2
  obtain ⟨N, hN⟩ : ∃ N, t.length = N := ⟨_, rfl⟩
  have hlen : x.l.length = N + 1 := by rw [hl, List.length_cons, hN]
  have hxv : x.val = .slice (some ⟨b, off, none⟩) (N + 1) x.c := by rw [It.val, hA, hlen]
  have hc1 : N + 1 ≤ x.c := by rw [← hlen]; exact hok.cap
  have hc2 := hok.most
  have hls := hok.ls
  rw [hlen, hA] at hls
  have hkey : x.key = q.1 := by simp [It.key, hl]
  have hleast := HT.out.least hx (mem_ne HH.out)
  rw [hkey] at hleast
  rw [hxv]
  have D2 := Lib.hid hd2
  have T2 := Lib.hid ((HdTo.quiet v (Chg.of_below B1.out)).trans ht2)
  have P2 := Lib.hid hp2
  have F2 := Lib.hid hf2
  have G2 := Lib.hid hG2
  have L2 := Lib.hid hls
  have HL := Lib.hid hl
  have TL := Lib.hid hN
  have LE := Lib.hid hleast
  have C2 := Lib.hid (And.intro p0 (And.intro p1 p2))
  have hl2 : its2.length = n := by have := hp2.length_eq; rw [HN.out] at this; simpa using this
  have HL2 := Lib.hid hl2
  obtain ⟨xc, hxc⟩ : ∃ xc, x.c = xc := ⟨_, rfl⟩
  rw [hxc] at hc1 hc2 ⊢
  clear hd2 ht2 hp2 hf2 hG2 hls hl hN hlen hxv hkey hleast hok hA hx hown hm p0 p1 p2 HP hl2
  by_cases h0 : N = 0
  · subst h0
    obtain ⟨r0, r1, r2⟩ := G2.out.cells
    obtain ⟨f0, f1, f2⟩ := G2.out.fz
    obtain ⟨c0, c1, c2⟩ := C2.out
    go_wp2_with fail
    refine bodyPost_ret (results_cell_row rfl _ _ m 24 _ _ _ rfl (setP_is G2.out q) Try.underlying24 rfl info3) rfl ?_
    have hx1 : x.l = [q] := by rw [HL.out, List.eq_nil_of_length_eq_zero TL.out]
    have hHm : H ≤ m := by have := HH.out.lo; have := HM.out; omega
    refine ⟨q, v2, its2, rfl, D2.out.setP G2.out hHm q, T2.out.setP (Nat.le_of_eq HM.out) q, HT.out.pop P2.out F2.out, pts_pop P2.out hx1, LE.out, ?_⟩
    rw [HL2.out, HN.out]
    exact Nat.le_succ _
  · have hN1 : (1 : Int) < ((N + 1 : Nat) : Int) := by omega
    have hcc : ¬ xc = 1 := by omega
    have hcc' : (xc == 1) = false := by simpa using hcc
    have i1 : (1 : Int) ≤ ((N + 1 : Nat) : Int) := by omega
    have i2 : ((N + 1 : Nat) : Int) ≤ (xc : Int) := by omega
    have hok3 : ItOk w2 H ⟨some ⟨b, off + 3, none⟩, xc - 1, t⟩ := by
      have hd := L2.out.drop (i := 1) (by omega)
      rw [HL.out] at hd
      refine ⟨?_, ?_, ?_, by show xc - 1 ≤ _; omega⟩
      · have e : t.length = N + 1 - 1 := by rw [TL.out]; rfl
        show Ls PE w2 H (some ⟨b, off + 3, none⟩) t.length t
        rw [e]
        exact hd
      · show t ≠ []
        intro e
        have := TL.out
        rw [e] at this
        exact h0 this.symm
      · show t.length ≤ xc - 1
        rw [TL.out]; omega
    have HPU := Lib.hid (push_x w2.drew H p v2 its2 ⟨some ⟨b, off + 3, none⟩, xc - 1, t⟩ (D2.out.quiet (Chg.refl _ _).drew) (hok3.below ((Below.refl H w2).drew) (Nat.le_refl _)) n HL2.out (by omega) (by have := F2.out; rw [HL2.out] at this; exact this))
    clear hok3
    have hval : It.val ⟨some ⟨b, off + 3, none⟩, xc - 1, t⟩ = .slice (some ⟨b, off + 3, none⟩) N (xc - 1) := by simp [It.val, TL.out]
    rw [hval] at HPU
    clear hval
    go_wp2_with fail
    refine wp_region_plan [([0, 1, 2, 3, 4, 5, 6], some (7, true)), ([], none)] (by kernel_rfl) (by kernel_rfl) ?_
    refine seg_write _ (by dsimp only [pick, at_]) _ (by dsimp only [pick, at_]) ?_
    repeat (go_big_quiet_step (fail))
    refine wpQuiet_nil ?_
    intro K1 h1
    go_wp2_with (fail)
    refine HPU.out.mono ?_
    rintro e w3 ⟨v3, its3, rfl, hd3, ht3, hp3, hf3⟩
    have hbw : Below H w2 w3 := by
      have hc := ht3.chg
      have hcd : Chg (fun b => b = p ∨ v2.ownBlock = some b) w2 w3 := (Chg.refl _ _).drew.trans hc (fun _ _ e => e)
      exact (HdTo.mk (v' := v2) hcd (fun g h => .inl h)).below D2.out
    have hG3 : IsP w3 m (0, 0, 0) := by
      have hlt2 := D2.out.lt
      refine IsP.chg (w := w2.drew) G2.out ht3.chg (fun e => ?_)
      rcases e with e | e
      · have := HM.out; omega
      · obtain ⟨cur, hc⟩ := D2.out.row.type e
        exact blk_type hc G2.out (by decide) rfl
    have D3 := Lib.hid hd3
    have T3 := Lib.hid (T2.out.trans ((HdTo.quiet v2 (Chg.refl _ _).drew).trans ht3))
    have P3 := Lib.hid hp3
    have F3 := Lib.hid hf3
    have G3 := Lib.hid hG3
    obtain ⟨e0, e1, e2⟩ := C2.out
    have c0 := (hbw.cell (p := ⟨b, off, none⟩) hb).trans e0
    have c1 := (hbw.cell (p := ⟨b, off + 1, none⟩) hb).trans e1
    have c2 := (hbw.cell (p := ⟨b, off + 2, none⟩) hb).trans e2
    obtain ⟨r0, r1, r2⟩ := G3.out.cells
    obtain ⟨f0, f1, f2⟩ := G3.out.fz
    clear hd3 ht3 hp3 hf3 hG3 HPU e0 e1 e2 hbw C2 L2
    go_wp2_with (fail)
    refine seg_end _ (by dsimp only [pick, at_]) ?_
    refine wpQuiet_nil (NoPanic.normal ?_)
    go_wp2_with (fail)
    refine bodyPost_ret (results_cell_row rfl _ _ m 24 _ _ _ rfl (setP_is G3.out q) Try.underlying24 rfl info3) rfl ?_
    have hHm : H ≤ m := by have := HH.out.lo; have := HM.out; omega
    refine ⟨q, v3, its3, rfl, D3.out.setP G3.out hHm q, T3.out.setP (Nat.le_of_eq HM.out) q, HT.out.push P2.out HL.out P3.out F3.out, pts_push P2.out HL.out P3.out, LE.out, ?_⟩
    have := P3.out.length_eq
    rw [List.length_cons, HL2.out] at this
    rw [this, HN.out]
    exact Nat.le_refl _
end Go.Proofs.Ytemmfcinpkfoiaa.mg
