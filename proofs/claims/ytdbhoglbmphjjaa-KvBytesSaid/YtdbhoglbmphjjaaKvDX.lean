/-
  Bytes as a placement: the program's Decode.
-/
import Derived.Test.YtdbhoglbmphjjaaKvDI
namespace Go.Proofs.Ytdbhoglbmphjjaa.kv
open Go.ChangeShapes Go.WideShapes Go.ChangeAt Go.RowKit Go.Shelf plain words ord mem uvs uvc pm

def GoodB (b : List UInt8) : Prop := (s5 b).2 = true ∧ (s5 b).1 = [] ∧ chk (rdP b) = 0
open Classical in
noncomputable def decE (b : List UInt8) : Int := if GoodB b then 0 else 50
open Classical in
noncomputable def decP (b : List UInt8) : Pl := if GoodB b then rdP b else zeroPl
def RetDec (w : World) (b : List UInt8) (e : Ending) (w' : World) : Prop := ∃ v : PV, e = .returned (.tuple #[v.val, .int .i64 (decE b)]) ∧ v.pl = decP b ∧ OD w' w.heap.size v ∧ Below w.heap.size w w'
/-- the loops, step by step -/
structure LN (N : Nat) (s0 : St) (i : Nat) (s : St) (l : List Int) : Prop where
  eq : rdN N s0 = (l ++ (rdN (N - i) s).1, (rdN (N - i) s).2)
  len : l.length = i
  le : i ≤ N
theorem LN.zero (N : Nat) (s0 : St) : LN N s0 0 s0 [] := ⟨by simp, rfl, Nat.zero_le _⟩
theorem LN.succ {N i : Nat} {s0 : St} {r : List UInt8} {l : List Int} (h : LN N s0 i (r, true) l) (hi : i < N) : LN N s0 (i + 1) (rd (r, true)).2 (l ++ [(rd (r, true)).1]) := by
  refine ⟨?_, by simp [h.len], hi⟩
  have e : N - i = (N - (i + 1)) + 1 := by omega
  have h1 := h.eq
  rw [e] at h1
  simp only [rdN, if_true] at h1
  rw [h1]; simp
theorem LN.done {N i : Nat} {s0 s : St} {l : List Int} (h : LN N s0 i s l) (hd : s.2 = false ∨ ¬ i < N) : rdN N s0 = (l, s) := by
  have h1 := h.eq
  have h2 := h.le
  rcases hd with hd | hd
  · rw [rdN_bad hd] at h1; simpa using h1
  · rw [show N - i = 0 by omega] at h1; simpa [rdN] using h1
structure LO (N : Nat) (s0 : St) (i : Nat) (s : St) (l : List O) : Prop where
  eq : rdOs N s0 = (l ++ (rdOs (N - i) s).1, (rdOs (N - i) s).2)
  len : l.length = i
  le : i ≤ N
theorem LO.zero (N : Nat) (s0 : St) : LO N s0 0 s0 [] := ⟨by simp, rfl, Nat.zero_le _⟩
theorem LO.succ {N i : Nat} {s0 : St} {r : List UInt8} {l : List O} (h : LO N s0 i (r, true) l) (hi : i < N) : LO N s0 (i + 1) (rdO (r, true)).2 (l ++ [(rdO (r, true)).1]) := by
  refine ⟨?_, by simp [h.len], hi⟩
  have e : N - i = (N - (i + 1)) + 1 := by omega
  have h1 := h.eq
  rw [e] at h1
  simp only [rdOs, if_true] at h1
  rw [h1]; simp
theorem LO.done {N i : Nat} {s0 s : St} {l : List O} (h : LO N s0 i s l) (hd : s.2 = false ∨ ¬ i < N) : rdOs N s0 = (l, s) := by
  have h1 := h.eq
  have h2 := h.le
  rcases hd with hd | hd
  · rw [rdOs_bad hd] at h1; simpa using h1
  · rw [show N - i = 0 by omega] at h1; simpa [rdOs] using h1
structure LS (N : Nat) (s0 : St) (i : Nat) (s : St) (l : List (List O)) : Prop where
  eq : rdSs N s0 = (l ++ (rdSs (N - i) s).1, (rdSs (N - i) s).2)
  len : l.length = i
  le : i ≤ N
theorem LS.zero (N : Nat) (s0 : St) : LS N s0 0 s0 [] := ⟨by simp, rfl, Nat.zero_le _⟩
theorem LS.succ {N i : Nat} {s0 : St} {r : List UInt8} {l : List (List O)} {q : List O} {s' : St} (h : LS N s0 i (r, true) l) (hi : i < N) (hq : rdS (r, true) = (q, s')) : LS N s0 (i + 1) s' (l ++ [q]) := by
  refine ⟨?_, by simp [h.len], hi⟩
  have e : N - i = (N - (i + 1)) + 1 := by omega
  have h1 := h.eq
  rw [e] at h1
  simp only [rdSs, if_true, hq] at h1
  rw [h1]; simp
theorem LS.done {N i : Nat} {s0 s : St} {l : List (List O)} (h : LS N s0 i s l) (hd : s.2 = false ∨ ¬ i < N) : rdSs N s0 = (l, s) := by
  have h1 := h.eq
  have h2 := h.le
  rcases hd with hd | hd
  · rw [rdSs_bad hd] at h1; simpa using h1
  · rw [show N - i = 0 by omega] at h1; simpa [rdSs] using h1
/-- within a round: the reader's variables; what lay when the round began stays, but for them -/
structure DJ (wx w : World) (gb gk B0 : Nat) (s : St) : Prop where
  ds : DS w gb gk B0 s
  ch : Chg (fun k => k = gb ∨ k = gk ∨ wx.heap.size ≤ k) wx w
  lb : gb < wx.heap.size
  lk : gk < wx.heap.size
  b0 : B0 ≤ wx.heap.size
  ll : B0 ≤ gb ∧ B0 ≤ gk
section
variable {w4 wx w w' : World} {gb gk B0 D pb : Nat} {s : St} {v : PV}
theorem DJ.b1 (h : DJ wx w gb gk B0 s) : B0 ≤ w.heap.size := Nat.le_trans h.b0 h.ch.size
theorem DI.dj (h : DI w4 w gb gk B0 D pb s v) : DJ w w gb gk B0 s := by
  have h1 := h.lb; have h2 := h.lk; have h3 := h.wd.wp.le; have h4 := h.wd.wp.lt
  exact ⟨h.ds, Chg.refl _ _, by omega, by omega, h.b1, h.ll⟩
theorem DJ.step (h : DJ wx w gb gk B0 s) (hc : Chg (fun k => wx.heap.size ≤ k) w w') : DJ wx w' gb gk B0 s := by
  have h1 := h.lb; have h2 := h.lk; have h3 := h.b0
  exact ⟨h.ds.chg hc h.b1 (by omega) (by omega) (fun k hk => by omega), h.ch.trans hc (fun _ _ e => .inr (.inr e)), h.lb, h.lk, h.b0, h.ll⟩
theorem DJ.below (h : DJ wx w gb gk B0 s) (hb : Below w.heap.size w w') : DJ wx w' gb gk B0 s := h.step ((Chg.of_below hb).mono (fun _ _ e => e.elim))
theorem DJ.next (h : DJ wx w gb gk B0 s) : Calls Try.prog 15 #[.pointer (some ⟨gb, 0, none⟩), .pointer (some ⟨gk, 0, none⟩)] w fun e w' => e = .returned (.int .i64 (rd s).1) ∧ DJ wx w' gb gk B0 (rd s).2 ∧ Chg (fun k => k = gb ∨ k = gk) w w' := by
  refine (next_x w gb gk B0 s h.ds h.b1).mono fun e w' hr => ?_
  obtain ⟨h1, h2, h3⟩ := hr
  exact ⟨h1, ⟨h2, h.ch.trans h3 (fun k _ e => e.elim .inl (fun e => .inr (.inl e))), h.lb, h.lk, h.b0, h.ll⟩, h3⟩
theorem DJ.flag (h : DJ wx w gb gk B0 s) : w.cell? ⟨gk, 0, none⟩ = some (.bool s.2) := by rw [cell_of_row _ _ _ _ _ _ h.ds.ok]; rfl
/-- what was made ahead of the round stays -/
theorem DJ.wd (h : DJ wx w gb gk B0 s) (hw : WD wx D pb v) (h1 : gb < D) (h2 : gk < D) : WD w D pb v := by
  have no : ∀ k, D ≤ k → k < wx.heap.size → ¬ (k = gb ∨ k = gk ∨ wx.heap.size ≤ k) := fun k hk hs e => by omega
  have hc := h.ch
  exact ⟨⟨hw.wp.le, hc.blk hw.wp.var (no _ hw.wp.le hw.wp.lt), hw.wp.n.chg hc (fun g hg => no g (hw.wp.n.lt g hg).1 (hw.wp.n.lt g hg).2), hw.wp.s.chg hc (fun g hg => no g (hw.wp.s.lt g hg).1 (hw.wp.s.lt g hg).2), fun r hr => (hw.wp.each r hr).chg hc (fun g hg => no g ((hw.wp.each r hr).lt g hg).1 ((hw.wp.each r hr).lt g hg).2)⟩, hw.apart⟩
theorem DJ.di {s0 : St} (h : DJ wx w gb gk B0 s) (hi : DI w4 wx gb gk B0 D pb s0 v) : DI w4 w gb gk B0 D pb s v := by
  have h1 := hi.lb; have h2 := hi.lk; have h3 := hi.wd.wp.le; have h4 := hi.wd.wp.lt
  exact ⟨h.ds, h.wd hi.wd hi.lb hi.lk, hi.ch.trans h.ch (fun k _ e => by omega), hi.lb, hi.lk, hi.b0, hi.ll⟩
/-- a row laid behind the others -/
theorem DJ.push {s0 : St} {r' : Rw3} {A' : Option Addr} {c2 : Nat} (h : DJ wx w gb gk B0 s) (hi : DI w4 wx gb gk B0 D pb s0 v) (hr : Ow OE w wx.heap.size r'.val r'.l.length r'.l)
    (hs : Ow SE w' D (.slice A' (v.rs.length + 1) c2) (v.rs.length + 1) (v.rs ++ [r'])) (hg : w.grownBy w' (Value.slice v.sA v.rs.length v.sc).ownBlock) :
    DI w4 (w'.setCell ⟨pb, 2, none⟩ (.slice A' (v.rs.length + 1) c2)) gb gk B0 D pb s { v with sA := A', sc := c2, rs := v.rs ++ [r'] } := by
  have hd := h.di hi
  have hw := WD.push2 hi.wd hd.wd hr hs hg
  have hvar : pm.Boxed w' pb v := var_grown hd.wd hg
  have hc : Chg (fun k => D ≤ k) w w' := (Chg.refl _ w).grown hg (fun k hk _ => (hd.wd.wp.s.lt k hk).1)
  have hc2 : Chg (fun k => D ≤ k) w (w'.setCell ⟨pb, 2, none⟩ (.slice A' (v.rs.length + 1) c2)) := hc.setCell (p := ⟨pb, 2, none⟩) (fun _ => hd.wd.wp.le) _
  exact hd.step hc2 hw
end
theorem ret_bad_dec {w w' : World} {b : List UInt8} (h : ¬ GoodB b) (hb : Below w.heap.size w w') : RetDec w b (.returned (.tuple #[.agg #[.int .i64 0, .slice none 0 0, .slice none 0 0], .int .i64 50])) w' := by
  have e1 : decE b = 50 := by unfold decE; rw [if_neg h]
  have e2 : decP b = zeroPl := by unfold decP; rw [if_neg h]
  exact ⟨noPV, by rw [e1]; rfl, by rw [e2]; rfl, noPV_od _ _, hb⟩
theorem bad3 {b : List UInt8} (h : (s3 b).2 = false) : ¬ GoodB b := fun hg => by
  have h4 : (s4 b).2 = false := rd_bad h
  have h5 : s5 b = s4 b := by unfold s5; rw [rdSs_bad h4]
  have := hg.1
  rw [h5, h4] at this; cases this
theorem wd_new {w : World} {B : Nat} (z : Int) (hB : B ≤ w.heap.size) : WD (w.alloc (.cells #[.int .i64 z, .slice none 0 0, .slice none 0 0] 25)) B w.heap.size ⟨z, none, 0, [], none, 0, []⟩ :=
  ⟨⟨hB, alloc_new _ _, Ow.nil _ _, Ow.nil _ _, fun r hr => by simp at hr⟩, fun i j r s _ hr => by simp at hr⟩
set_option maxHeartbeats 4000000 in
set_option maxRecDepth 100000 in
theorem decode_x (w : World) (B n c : Nat) (A : Option Addr) (b : List UInt8) (h : Bs w B A n b) (hB : B ≤ w.heap.size) (hnc : n ≤ c) (hc : c ≤ 9223372036854775807) (hn : n ≤ 1099511627776) :
    Calls Try.prog 7 #[.slice A n c] w (RetDec w b) := by
  obtain ⟨w3, hw3⟩ : ∃ w3, ((w.alloc (.cells #[.slice A n c] 26)).alloc (.cells #[.int .i64 0, .slice none 0 0, .slice none 0 0] 25)).alloc (.cells #[.bool true] 4) = w3 := ⟨_, rfl⟩
  have hsz3 : w3.heap.size = w.heap.size + 3 := by rw [← hw3]; simp
  have hb3 : Below w.heap.size w w3 := by rw [← hw3]; exact ((below_al _ _).alloc (by simp) _).alloc (by simp; omega) _
  have gb3 : w3.heap[w.heap.size]? = some (.cells #[.slice A n c] 26 (0, 0)) := by rw [← hw3]; exact alloc_old _ (alloc_old _ (alloc_new _ _))
  have gr3 : IsV3 25 w3 (w.heap.size + 1) (.int .i64 0) (.slice none 0 0) (.slice none 0 0) := by
    rw [← hw3]
    have := alloc_new (w.alloc (.cells #[.slice A n c] 26)) (.cells #[.int .i64 0, .slice none 0 0, .slice none 0 0] 25)
    rw [World.size_alloc] at this
    exact alloc_old _ this
  have gk3 : w3.heap[w.heap.size + 1 + 1]? = some (.cells #[.bool true] 4 (0, 0)) := by
    rw [← hw3]
    have := alloc_new ((w.alloc (.cells #[.slice A n c] 26)).alloc (.cells #[.int .i64 0, .slice none 0 0, .slice none 0 0] 25)) (.cells #[.bool true] 4)
    rwa [World.size_alloc, World.size_alloc] at this
  have hds : DS w3 w.heap.size (w.heap.size + 1 + 1) B (b, true) := ⟨⟨A, n, c, gb3, h.below hb3 hB, hnc, hc, hn, hB⟩, gk3, by omega⟩
  have HN0 := Lib.hid (next_x w3 w.heap.size (w.heap.size + 1 + 1) B (b, true) hds (by omega))
  have HB3 := Lib.hid hb3
  have GR3 := Lib.hid gr3
  have HW3 := Lib.hid hw3
  have HFIN := Lib.hid (fun (u : World) (hu : Chg (fun k => k = w.heap.size ∨ k = w.heap.size + 1 + 1 ∨ w.heap.size + 3 ≤ k) w3 u) => And.intro (hb3.trans (hu.below (B := w.heap.size) (by omega) (fun k e => by omega))) (hu.blk gr3 (by omega)))
  clear hw3 hb3 gb3 gr3 gk3 hds h
  go_enter Try.func7, Try.ntmps7
  go_wp2_with (fail)
  rw [HW3.out]
  refine HN0.out.mono ?_
  rintro e w4 ⟨rfl, hd4, hc4⟩
  obtain ⟨z0, hz0⟩ : ∃ z0, (rd (b, true)).1 = z0 := ⟨_, rfl⟩
  rw [hz0]
  have hs4 := hc4.size
  obtain ⟨w5, hw5⟩ : ∃ w5, w4.alloc (.cells #[.int .i64 z0, .slice none 0 0, .slice none 0 0] 25) = w5 := ⟨_, rfl⟩
  obtain ⟨pb, hpb⟩ : ∃ pb, w4.heap.size = pb := ⟨_, rfl⟩
  have hpb3 : w.heap.size + 3 ≤ pb := by omega
  have K5 := Lib.hid (show DI w3 w5 w.heap.size (w.heap.size + 1 + 1) B (w.heap.size + 3) pb (s1 b) ⟨z0, none, 0, [], none, 0, []⟩ by
    have hwd := wd_new (w := w4) (B := w.heap.size + 3) z0 (by omega)
    rw [hw5, hpb] at hwd
    have hal : Below w4.heap.size w4 w5 := by rw [← hw5]; exact below_al _ _
    refine ⟨hd4.chg (Chg.of_below hal) (by omega) (fun e => e) (fun e => e) (fun k e => e.elim), hwd, ?_, by omega, by omega, by omega, by omega⟩
    exact (hc4.mono (S' := fun k => k = w.heap.size ∨ k = w.heap.size + 1 + 1 ∨ w.heap.size + 3 ≤ k) (fun k _ e => e.elim .inl (fun e => .inr (.inl e)))).trans (Chg.of_below hal) (fun _ _ e => e.elim))
  have HZ0 := Lib.hid hz0
  have HP1 := Lib.hid K5.out.next
  have HPB := Lib.hid hpb
  have HW5 := Lib.hid hw5
  clear hd4 hc4 hz0 hpb hw5
  go_wp2_with (fail)
  rw [HW5.out]
  simp only [HPB.out]
  refine HP1.out.mono ?_
  rintro e w6 ⟨rfl, hk6, _⟩
  have K6 := Lib.hid (show DI w3 w6 w.heap.size (w.heap.size + 1 + 1) B (w.heap.size + 3) pb (s2 b) ⟨z0, none, 0, [], none, 0, []⟩ from hk6)
  clear hk6
  have hr2 := rd_range (s1 b)
  obtain ⟨N1, hN1⟩ : ∃ N1 : Nat, nN b = N1 := ⟨_, rfl⟩
  have he2 : (rd (s1 b)).1 = (N1 : Int) := by rw [← hN1]; exact rd_nat _
  have hN1b : N1 ≤ 1099511627776 := by omega
  rw [he2]
  have HN1 := Lib.hid hN1
  clear he2 hr2 hN1
  go_wp2_with (fail)
  go_loopg [7] N1 (fun gg s7 wr => ∃ (i : Nat) (s : St) (l : List Int) (A : Option Addr) (c : Nat), s7 = .int .i64 i ∧ N1 - i ≤ gg ∧ i ≤ N1 ∧ Aside (LN N1 (s2 b) i s l) ∧ Aside (DI w3 wr w.heap.size (w.heap.size + 1 + 1) B (w.heap.size + 3) pb s ⟨z0, A, c, l, none, 0, []⟩))
  case atStart => exact ⟨0, _, [], none, 0, rfl, by omega, by omega, LN.zero _ _, K6.out⟩
  case round =>
    obtain ⟨i, s, l, A1, c1, rfl, hg, hi, HL, HK⟩ := hrel
    obtain ⟨r, ok⟩ := s
    have k0 := HK.out.flag
    have hkr : w.heap.size + 1 + 1 < wr.heap.size := World.block_lt_of_cell? wr _ k0
    simp only at k0
    by_cases hgo : ok = true ∧ i < N1
    · obtain ⟨rfl, hlt⟩ := hgo
      have hltz : (i : Int) < (N1 : Int) := by omega
      have hli := HL.out.len
      have hwd := HK.out.wd
      obtain ⟨⟨_, d1, _⟩, _, f1, _⟩ := isv3_cells hwd.wp.var
      have hpl := hwd.wp.lt
      simp only [hli] at d1
      have HLI := Lib.hid hli
      obtain ⟨z, hz⟩ : ∃ z, (rd (r, true)).1 = z := ⟨_, rfl⟩
      have HS := Lib.hid (HL.out.succ hlt)
      rw [hz] at HS
      have HP2 := Lib.hid (HK.out.drew.next)
      rw [hz] at HP2
      have q0 := Wf.at_ (F := fun k => k = w.heap.size ∨ k = w.heap.size + 1 + 1) d1 (fun e => by simp only at e; omega)
      clear hwd hli hz
      go_wp2_with (fail)
      refine fr.wp_region_tree (F := fun k => k = w.heap.size ∨ k = w.heap.size + 1 + 1) (.reads [0, 1, 2] (.one 3 false (.one 4 false (.one 5 true (.reads [6] (.one 7 true .stop)))))) (by kernel_rfl) (by kernel_rfl) ?_
      refine fr.tr_reads _ (by dsimp only [pick, ord.at_]) ?_
      repeat (go_big_quiet_step (fail))
      refine wpQuiet_nil ?_
      refine fr.tr_one _ (by dsimp only [pick, ord.at_]) ?_
      intro K1 g1 g2
      clear g1
      go_wp2_with (fail)
      refine HP2.out.mono ?_
      rintro e w7 ⟨rfl, hk7, hc7⟩
      have hc7' : Chg (fun k => k = w.heap.size ∨ k = w.heap.size + 1 + 1) wr w7 := (Chg.refl _ wr).drew.trans hc7 (fun _ _ e => e)
      have hs7 := hc7'.size
      have HC7 := Lib.hid hc7'
      have K7 := Lib.hid hk7
      clear hk7 hc7 hc7' q0 d1 f1 k0
      go_wp2_with (fail)
      refine g2 _ _ HC7.out ?_
      clear g2
      refine fr.tr_one _ (by dsimp only [pick, ord.at_]) ?_
      intro K1 g1 g2
      clear g1
      go_wp2_with (fail)
      obtain ⟨w8, hw8⟩ : ∃ w8, w7.alloc (.cells #[.int .i64 z] 3) = w8 := ⟨_, rfl⟩
      have hb8 : Below w7.heap.size w7 w8 := by rw [← hw8]; exact below_al _ _
      have HL8 := Lib.hid (show Ls NE w8 (w7.heap.size + 1) (some ⟨w7.heap.size, 0, none⟩) 1 [z] by rw [← hw8]; exact ls_new (E := NE) (w := w7) 3 z)
      have K8 := Lib.hid (K7.out.below hb8)
      have hs8 := hb8.size
      rw [hw8]
      refine g2 _ _ ((Chg.of_below hb8).mono (fun _ _ e => e.elim)) ?_
      clear g2 hw8
      have HB8 := Lib.hid hb8
      clear hb8
      have hO8 := K8.out.wd.wp.n
      simp only [HLI.out] at hO8
      refine fr.tr_write _ (by dsimp only [pick, ord.at_]) ?_
      intro K2 g3
      go_wp2_with (at_builtin; refine app_n rfl (.tmp 29) (.tmp 32) rfl (w.heap.size + 3) _ i l rfl hO8 (w7.heap.size + 1) (some ⟨w7.heap.size, 0, none⟩) 1 1 (fun e => by cases e) [z] (by rfl) HL8.out (by omega) (by omega) ?_; intro A9 c9 w9 hown9 hg9 _ h9a h9b hs9; have HO9 := Lib.hid hown9; have HG9 := Lib.hid hg9; clear hown9 hg9)
      obtain ⟨hwd9, hvar9, hch9⟩ := wd_appN (w' := w9) (A := A9) (m := i + 1) (c := c9) (l := l ++ [z]) K8.out.wd (by simp only [HLI.out]; exact HG9.out) HO9.out
      have K9 := Lib.hid (K8.out.step hch9 hwd9)
      obtain ⟨⟨_, e1, _⟩, _, e1f, _⟩ := isv3_cells hvar9
      simp only [HLI.out] at e1
      have hpl9 : pb < w9.heap.size := blk_lt hvar9
      clear hO8 hwd9 hvar9 hch9
      refine fr.tr_reads _ (by dsimp only [pick, ord.at_]) ?_
      repeat (go_big_quiet_step (fail))
      refine wpQuiet_nil ?_
      refine fr.tr_write _ (by dsimp only [pick, ord.at_]) ?_
      intro K3 g4
      go_wp2_with (fail)
      refine fr.tr_stop ?_
      refine NoPanic.normal ?_
      clear e1 e1f
      go_wp2_with (fail)
      go_roundg (N1 - (i + 1))
      case measure => omega
      case rel => exact ⟨i + 1, _, l ++ [z], A9, c9, by go_num, by omega, by omega, HS.out, K9.out⟩
    · have hdone := Lib.hid (HL.out.done (by rcases Classical.em (ok = true) with h | h; exact .inr (fun e => hgo ⟨h, e⟩); exact .inl (by simpa using h)))
      have HND := Lib.hid (show rdN (nN b) (s2 b) = (l, (r, ok)) by rw [HN1.out]; exact hdone.out)
      have K10 := Lib.hid (show DI w3 wr w.heap.size (w.heap.size + 1 + 1) B (w.heap.size + 3) pb (s3 b) ⟨z0, A1, c1, l, none, 0, []⟩ by unfold s3; rw [HND.out]; exact HK.out)
      have HP2 := Lib.hid K10.out.next
      obtain ⟨N2, hN2⟩ : ∃ N2 : Nat, nS b = N2 := ⟨_, rfl⟩
      have hr4 := rd_range (s3 b)
      have he4 : (rd (s3 b)).1 = (N2 : Int) := by rw [← hN2]; exact rd_nat _
      have hN2b : N2 ≤ 1099511627776 := by omega
      rw [he4] at HP2
      have HN2 := Lib.hid hN2
      obtain ⟨wy, hwy⟩ : ∃ wy, wy = wr := ⟨wr, rfl⟩
      obtain rfl := hwy
      clear hr4 he4 hN2 HL HK hdone
      by_cases hok : ok = true
      · subst hok
        have hltz : ¬ (i : Int) < (N1 : Int) := by have : ¬ i < N1 := fun e => hgo ⟨rfl, e⟩; omega
        clear hgo
        go_wp2_with (fail)
        refine HP2.out.mono ?_
        rintro e w11 ⟨rfl, hk11, _⟩
        have K11 := Lib.hid (show DI w3 w11 w.heap.size (w.heap.size + 1 + 1) B (w.heap.size + 3) pb (s4 b) ⟨z0, A1, c1, l, none, 0, []⟩ from hk11)
        clear hk11 k0
        go_wp2_with (fail)
        go_loopg [9, 11, 12, 13] N2 (fun gg s9 s11 s12 s13 wr => ∃ (i : Nat) (s : St) (L : List (List O)) (X : List Rw3) (A' : Option Addr) (c' : Nat), s9 = .int .i64 i ∧ N2 - i ≤ gg ∧ i ≤ N2 ∧ Aside (LS N2 (s4 b) i s L) ∧ Aside (X.map (·.l) = L) ∧ Aside (DI w3 wr w.heap.size (w.heap.size + 1 + 1) B (w.heap.size + 3) pb s ⟨z0, A1, c1, l, A', c', X⟩))
        case atStart => exact ⟨0, _, [], [], none, 0, rfl, by omega, by omega, LS.zero _ _, rfl, K11.out⟩
        case round =>
          obtain ⟨i, s, L, X, A2, c2, rfl, hg2, hi2, HLS, HXL, HK⟩ := hrel
          obtain ⟨wx, hwx⟩ : ∃ wx, wx = wr := ⟨wr, rfl⟩
          obtain rfl := hwx
          obtain ⟨r2, ok2⟩ := s
          have k0 := HK.out.flag
          have hkr2 : w.heap.size + 1 + 1 < wx.heap.size := World.block_lt_of_cell? wx _ k0
          have hplx := HK.out.wd.wp.lt
          simp only at k0
          by_cases hgo2 : ok2 = true ∧ i < N2
          · obtain ⟨rfl, hlt2⟩ := hgo2
            have hltz2 : (i : Int) < (N2 : Int) := by omega
            have HJ0 := Lib.hid HK.out.dj
            have HP3 := Lib.hid HJ0.out.next
            obtain ⟨N3, hN3⟩ : ∃ N3 : Nat, (rd (r2, true)).1.toNat = N3 := ⟨_, rfl⟩
            have hr6 := rd_range (r2, true)
            have he6 : (rd (r2, true)).1 = (N3 : Int) := by rw [← hN3]; exact rd_nat _
            have hN3b : N3 ≤ 1099511627776 := by omega
            rw [he6] at HP3
            have HN3 := Lib.hid hN3
            clear hr6 he6 hN3
            go_wp2_with (fail)
            refine HP3.out.mono ?_
            rintro e w12 ⟨rfl, hj12, _⟩
            have J12 := Lib.hid hj12
            clear hj12 k0
            go_wp2_with (fail)
            go_loopg [11, 12] N3 (fun gg3 s11 s12 wr => ∃ (j : Nat) (s : St) (q : List O) (A : Option Addr) (c : Nat), s12 = .int .i64 j ∧ s11 = .slice A j c ∧ N3 - j ≤ gg3 ∧ j ≤ N3 ∧ Aside (LO N3 (rd (r2, true)).2 j s q) ∧ Aside (DJ wx wr w.heap.size (w.heap.size + 1 + 1) B s) ∧ Aside (Ow OE wr wx.heap.size (.slice A j c) j q))
            case atStart => exact ⟨0, _, [], none, 0, rfl, rfl, by omega, by omega, LO.zero _ _, J12.out, Ow.nil _ _⟩
            case round =>
              obtain ⟨j, s, q, A3, c3, rfl, rfl, hg3, hj3, HLO, HJ, HO⟩ := hrel
              obtain ⟨wz, hwz⟩ : ∃ wz, wz = wr := ⟨wr, rfl⟩
              obtain rfl := hwz
              obtain ⟨r3, ok3⟩ := s
              have k0 := HJ.out.flag
              have hkz : w.heap.size + 1 + 1 < wz.heap.size := World.block_lt_of_cell? wz _ k0
              have hxz := HJ.out.ch.size
              simp only at k0
              by_cases hgo3 : ok3 = true ∧ j < N3
              · obtain ⟨rfl, hlt3⟩ := hgo3
                have hltz3 : (j : Int) < (N3 : Int) := by omega
                have HLO2 := Lib.hid (HLO.out.succ hlt3)
                obtain ⟨x1, hx1⟩ : ∃ x1, (rd (r3, true)).1 = x1 := ⟨_, rfl⟩
                obtain ⟨x2, hx2⟩ : ∃ x2, (rd (rd (r3, true)).2).1 = x2 := ⟨_, rfl⟩
                obtain ⟨x3, hx3⟩ : ∃ x3, (rd (rd (rd (r3, true)).2).2).1 = x3 := ⟨_, rfl⟩
                have hb3 := rd_range (rd (rd (r3, true)).2).2
                rw [hx3] at hb3
                have w1 : IntKind.i64.wrap (x3 - 1) = x3 - 1 := by rw [IntWalk.i64_in _ (by omega)]
                have w2 : wrap64 (x3 - 1) = x3 - 1 := by rw [IntWalk.wrap64_in _ (by omega)]
                have hOe : (rdO (r3, true)).1 = (x1, x2, x3 - 1) := by unfold rdO; rw [hx1, hx2, hx3]
                rw [hOe] at HLO2
                have HP4 := Lib.hid (HJ.out.next)
                rw [hx1] at HP4
                have HX2 := Lib.hid hx2
                have HX3 := Lib.hid hx3
                clear hx1 hx2 hx3 hOe
                go_wp2_with (fail)
                refine HP4.out.mono ?_
                rintro e wA ⟨rfl, hjA, hcA⟩
                have HOA := Lib.hid (HO.out.chg hcA (fun g hg e => by have := (HO.out.lt g hg).1; omega))
                have HP5 := Lib.hid hjA.next
                rw [HX2.out] at HP5
                clear hjA hcA k0
                go_wp2_with (fail)
                refine HP5.out.mono ?_
                rintro e wB ⟨rfl, hjB, hcB⟩
                have HOB := Lib.hid (HOA.out.chg hcB (fun g hg e => by have := (HOA.out.lt g hg).1; omega))
                have HP6 := Lib.hid hjB.next
                rw [HX3.out] at HP6
                clear hjB hcB
                go_wp2_with (fail)
                refine HP6.out.mono ?_
                rintro e wC ⟨rfl, hjC, hcC⟩
                have HOC := Lib.hid (HOB.out.chg hcC (fun g hg e => by have := (HOB.out.lt g hg).1; omega))
                have JC := Lib.hid hjC
                clear hjC hcC
                obtain ⟨w16, hw16⟩ : ∃ w16, wC.alloc (.cells #[.int .i64 x1, .int .i64 x2, .int .i64 (x3 - 1)] 41) = w16 := ⟨_, rfl⟩
                have hb16 : Below wC.heap.size wC w16 := by rw [← hw16]; exact below_al _ _
                have hs16 := hb16.size
                have hsC := JC.out.ch.size
                have HL16 := Lib.hid (show Ls OE w16 (wC.heap.size + 1) (some ⟨wC.heap.size, 0, none⟩) 1 [((x1, x2, x3 - 1) : O)] by rw [← hw16]; exact ls_new (E := OE) (w := wC) 41 ((x1, x2, x3 - 1) : O))
                have HO16 := Lib.hid (HOC.out.below hb16 (Nat.le_refl _))
                have J16 := Lib.hid (JC.out.below hb16)
                clear hb16
                go_wp2_with (at_builtin; refine app_o rfl (.tmp 55) (.tmp 64) rfl wx.heap.size _ j q rfl HO16.out (wC.heap.size + 1) (some ⟨wC.heap.size, 0, none⟩) 1 1 (fun e => by cases e) [((x1, x2, x3 - 1) : O)] (by rfl) HL16.out (by omega) (by omega) ?_; intro A9 c9 w17 hown9 hg9 _ h9a h9b hs9; have HO17 := Lib.hid hown9; have J17 := Lib.hid (J16.out.step ((Chg.refl _ _).grown hg9 (fun k hk _ => (HO16.out.lt k hk).1))); clear hown9 hg9)
                go_roundg (N3 - (j + 1))
                case measure => omega
                case rel => exact ⟨j + 1, _, q ++ [(x1, x2, x3 - 1)], A9, c9, by go_num, rfl, by omega, by omega, HLO2.out, J17.out, HO17.out⟩
              · have hdone := HLO.out.done (by rcases Classical.em (ok3 = true) with h | h; exact .inr (fun e => hgo3 ⟨h, e⟩); exact .inl (by simpa using h))
                have hrs : rdS (r2, true) = (q, (r3, ok3)) := by unfold rdS; rw [HN3.out]; exact hdone
                have HLS2 := Lib.hid (HLS.out.succ hlt2 hrs)
                clear hdone hrs
                by_cases hok3 : ok3 = true
                · subst hok3
                  have hltz3 : ¬ (j : Int) < (N3 : Int) := by have : ¬ j < N3 := fun e => hgo3 ⟨rfl, e⟩; omega
                  clear hgo3
                  have hjq := HLO.out.len
                  have hwz := HJ.out.wd HK.out.wd (by omega) (by omega)
                  obtain ⟨⟨_, _, d2⟩, _, _, f2⟩ := isv3_cells hwz.wp.var
                  have hXi : X.length = i := by have h1 := HXL.out; have h2 := HLS.out.len; rw [← h1, List.length_map] at h2; exact h2
                  simp only [hXi] at d2
                  have HXI := Lib.hid hXi
                  have hplz := hwz.wp.lt
                  obtain ⟨w18, hw18⟩ : ∃ w18, wz.alloc (.cells #[.slice A3 j c3] 35) = w18 := ⟨_, rfl⟩
                  have hb18 : Below wz.heap.size wz w18 := by rw [← hw18]; exact below_al _ _
                  have hs18 := hb18.size
                  have HL18 := Lib.hid (show Ls SE w18 (wz.heap.size + 1) (some ⟨wz.heap.size, 0, none⟩) 1 [(⟨A3, c3, q⟩ : Rw3)] by
                    rw [← hw18, ← hjq]; exact ls_new (E := SE) (w := wz) 35 (⟨A3, c3, q⟩ : Rw3))
                  have J18 := Lib.hid (HJ.out.below hb18)
                  have HO18 := Lib.hid (show Ow OE w18 wx.heap.size (⟨A3, c3, q⟩ : Rw3).val (⟨A3, c3, q⟩ : Rw3).l.length (⟨A3, c3, q⟩ : Rw3).l by
                    have := HO.out.below hb18 (Nat.le_refl _)
                    simpa only [Rw3.val, hjq] using this)
                  have hS18 := (hwz.below hb18 (Nat.le_refl _)).wp.s
                  simp only [hXi] at hS18
                  have HS18 := Lib.hid hS18
                  have hdx : w.heap.size + 3 ≤ w18.heap.size := by have := J18.out.ch.size; omega
                  clear hwz hb18 hS18 hXi hjq
                  go_wp2_with (at_builtin; refine app_s rfl (.tmp 67) (.tmp 69) rfl (w.heap.size + 3) _ i X rfl HS18.out (wz.heap.size + 1) (some ⟨wz.heap.size, 0, none⟩) 1 1 (fun e => by cases e) [(⟨A3, c3, q⟩ : Rw3)] (by rfl) HL18.out (by omega) (by omega) ?_; intro A9 c9 w19 hown9 hg9 _ h9a h9b hs9; have HO19 := Lib.hid hown9; have HG19 := Lib.hid hg9; clear hown9 hg9; have K19 := Lib.hid (J18.out.push (r' := (⟨A3, c3, q⟩ : Rw3)) (A' := A9) (c2 := c9) HK.out HO18.out (by simp only [HXI.out]; exact HO19.out) (by simp only [HXI.out]; exact HG19.out)); have hv19 := var_grown (J18.out.di HK.out).wd (w7 := w19) (by simp only [HXI.out]; exact HG19.out); have hl19 := blk_lt hv19; have hcc := isv3_cells hv19; simp only [HXI.out] at hcc; have e2 := hcc.1.2.2; have e2f := hcc.2.2.2; clear hcc hv19 d2 f2)
                  go_roundg (N2 - (i + 1))
                  case measure => omega
                  case rel =>
                    have := K19.out
                    simp only [HXI.out] at this
                    exact ⟨i + 1, (r3, true), L ++ [q], X ++ [(⟨A3, c3, q⟩ : Rw3)], A9, c9, by go_num, by omega, by omega, HLS2.out, by rw [List.map_append, HXL.out]; rfl, this⟩
                · have hok' : ok3 = false := by simpa using hok3
                  subst hok'
                  clear hgo3 hok3
                  have hjq := HLO.out.len
                  have hwz := HJ.out.wd HK.out.wd (by omega) (by omega)
                  obtain ⟨⟨_, _, d2⟩, _, _, f2⟩ := isv3_cells hwz.wp.var
                  have hXi : X.length = i := by have h1 := HXL.out; have h2 := HLS.out.len; rw [← h1, List.length_map] at h2; exact h2
                  simp only [hXi] at d2
                  have HXI := Lib.hid hXi
                  have hplz := hwz.wp.lt
                  obtain ⟨w18, hw18⟩ : ∃ w18, wz.alloc (.cells #[.slice A3 j c3] 35) = w18 := ⟨_, rfl⟩
                  have hb18 : Below wz.heap.size wz w18 := by rw [← hw18]; exact below_al _ _
                  have hs18 := hb18.size
                  have HL18 := Lib.hid (show Ls SE w18 (wz.heap.size + 1) (some ⟨wz.heap.size, 0, none⟩) 1 [(⟨A3, c3, q⟩ : Rw3)] by
                    rw [← hw18, ← hjq]; exact ls_new (E := SE) (w := wz) 35 (⟨A3, c3, q⟩ : Rw3))
                  have J18 := Lib.hid (HJ.out.below hb18)
                  have HO18 := Lib.hid (show Ow OE w18 wx.heap.size (⟨A3, c3, q⟩ : Rw3).val (⟨A3, c3, q⟩ : Rw3).l.length (⟨A3, c3, q⟩ : Rw3).l by
                    have := HO.out.below hb18 (Nat.le_refl _)
                    simpa only [Rw3.val, hjq] using this)
                  have hS18 := (hwz.below hb18 (Nat.le_refl _)).wp.s
                  simp only [hXi] at hS18
                  have HS18 := Lib.hid hS18
                  have hdx : w.heap.size + 3 ≤ w18.heap.size := by have := J18.out.ch.size; omega
                  clear hwz hb18 hS18 hXi hjq
                  go_wp2_with (at_builtin; refine app_s rfl (.tmp 67) (.tmp 69) rfl (w.heap.size + 3) _ i X rfl HS18.out (wz.heap.size + 1) (some ⟨wz.heap.size, 0, none⟩) 1 1 (fun e => by cases e) [(⟨A3, c3, q⟩ : Rw3)] (by rfl) HL18.out (by omega) (by omega) ?_; intro A9 c9 w19 hown9 hg9 _ h9a h9b hs9; have HO19 := Lib.hid hown9; have HG19 := Lib.hid hg9; clear hown9 hg9; have K19 := Lib.hid (J18.out.push (r' := (⟨A3, c3, q⟩ : Rw3)) (A' := A9) (c2 := c9) HK.out HO18.out (by simp only [HXI.out]; exact HO19.out) (by simp only [HXI.out]; exact HG19.out)); have hv19 := var_grown (J18.out.di HK.out).wd (w7 := w19) (by simp only [HXI.out]; exact HG19.out); have hl19 := blk_lt hv19; have hcc := isv3_cells hv19; simp only [HXI.out] at hcc; have e2 := hcc.1.2.2; have e2f := hcc.2.2.2; clear hcc hv19 d2 f2)
                  go_roundg (N2 - (i + 1))
                  case measure => omega
                  case rel =>
                    have := K19.out
                    simp only [HXI.out] at this
                    exact ⟨i + 1, (r3, false), L ++ [q], X ++ [(⟨A3, c3, q⟩ : Rw3)], A9, c9, by go_num, by omega, by omega, HLS2.out, by rw [List.map_append, HXL.out]; rfl, this⟩
          · have hdone := HLS.out.done (by rcases Classical.em (ok2 = true) with h | h; exact .inr (fun e => hgo2 ⟨h, e⟩); exact .inl (by simpa using h))
            have HSD := Lib.hid (show rdSs (nS b) (s4 b) = (L, (r2, ok2)) by rw [HN2.out]; exact hdone)
            have HS5 := Lib.hid (show s5 b = (r2, ok2) by unfold s5; rw [HSD.out])
            clear hdone
            have hfin := HFIN.out wx HK.out.ch
            obtain ⟨hbf, hgr⟩ := hfin
            have HBF := Lib.hid hbf
            have HGR := Lib.hid hgr
            have hgrl := blk_lt hgr
            obtain ⟨⟨v0, v1, v2⟩, u0, u1, u2⟩ := isv3_cells hgr
            clear hbf hgr
            by_cases hok2 : ok2 = true
            · subst hok2
              have hltz2 : ¬ (i : Int) < (N2 : Int) := by have : ¬ i < N2 := fun e => hgo2 ⟨rfl, e⟩; omega
              clear hgo2
              obtain ⟨A0, n0, c0, hgb, hbs, _, _, _, _⟩ := HK.out.ds.rest
              have b0 : wx.cell? ⟨w.heap.size, 0, none⟩ = some (.slice A0 n0 c0) := by rw [cell_of_row _ _ _ _ _ _ hgb]; rfl
              have hgbl := blk_lt hgb
              have hlen := hbs.len_
              simp only at hlen
              have HLEN := Lib.hid hlen
              clear hgb hbs hlen
              by_cases hn0 : 0 < n0
              · have hn0z : (0 : Int) < (n0 : Int) := by omega
                have HBAD := Lib.hid (show ¬ GoodB b from fun hg => by have h1 := hg.2.1; rw [HS5.out] at h1; simp only at h1; rw [h1] at HLEN; have := HLEN.out; simp at this; omega)
                clear hn0
                go_wp2_with (fail)
                (try simp only [Exit.inBlock, Exit.then])
                refine bodyPost_ret (ret_cell rfl _ _ (w.heap.size + 1) 25 _ _ _ rfl (set3 HGR.out) Try.underlying25 rfl sizeP) rfl ?_
                exact ret_bad_dec HBAD.out (below_set3 HBF.out (by omega) _ _ _)
              · have hn0z : ¬ (0 : Int) < (n0 : Int) := by omega
                have hr2 : r2 = [] := List.eq_nil_of_length_eq_zero (by have := HLEN.out; omega)
                have HR2 := Lib.hid hr2
                have hple : (⟨z0, A1, c1, l, A2, c2, X⟩ : PV).pl = rdP b := by
                  unfold PV.pl rdP
                  rw [HZ0.out, HND.out, HSD.out, HXL.out]
                have HPLE := Lib.hid hple
                have HCK := Lib.hid (pcheck_x wx wx.heap.size (⟨z0, A1, c1, l, A2, c2, X⟩ : PV) HK.out.wd.wp.ok (Nat.le_refl _))
                obtain ⟨ck, hck⟩ : ∃ ck, chk (rdP b) = ck := ⟨_, rfl⟩
                rw [hple, hck] at HCK
                have HCKE := Lib.hid hck
                obtain ⟨⟨p0, p1, p2⟩, _⟩ := isv3_cells HK.out.wd.wp.var
                simp only [PV.val] at HCK
                clear hr2 hple hck hn0 v0 v1 v2 u0 u1 u2
                go_wp2_with (fail)
                refine HCK.out.mono ?_
                rintro e wy ⟨rfl, hby⟩
                have hsy := hby.size
                have HBY := Lib.hid hby
                have HGRY := Lib.hid (blk_below hby HGR.out hgrl)
                have HPVY := Lib.hid (blk_below hby HK.out.wd.wp.var hplx)
                have HBFY := Lib.hid (HBF.out.trans (hby.mono HBF.out.size))
                have hgry := blk_lt HGRY.out
                have hply := blk_lt HPVY.out
                have HODY := Lib.hid (HK.out.wd.od.below hby (Nat.le_refl _))
                obtain ⟨⟨v0, v1, v2⟩, u0, u1, u2⟩ := isv3_cells HGRY.out
                obtain ⟨⟨p0', p1', p2'⟩, _⟩ := isv3_cells HPVY.out
                clear hby p0 p1 p2
                by_cases hk0 : ck = 0
                · subst hk0
                  have HGD := Lib.hid (show GoodB b from ⟨by rw [HS5.out], by rw [HS5.out]; exact HR2.out, HCKE.out⟩)
                  go_wp2_with (fail)
                  (try simp only [Exit.inBlock, Exit.then])
                  refine bodyPost_ret (ret_cell rfl _ _ (w.heap.size + 1) 25 _ _ _ rfl (set3 HGRY.out) Try.underlying25 rfl sizeP) rfl ?_
                  refine ⟨⟨z0, A1, c1, l, A2, c2, X⟩, ?_, ?_, (HODY.out.other (chg_set3 _ _ _) HGRY.out).base (by omega), below_set3 HBFY.out (by omega) _ _ _⟩
                  · rw [show decE b = 0 by unfold decE; rw [if_pos HGD.out]]; rfl
                  · rw [show decP b = rdP b by unfold decP; rw [if_pos HGD.out]]; exact HPLE.out
                · have hkz : (ck != 0) = true := by simp [hk0]
                  have HBAD := Lib.hid (show ¬ GoodB b from fun hg => by have h1 := hg.2.2; rw [HCKE.out] at h1; exact hk0 h1)
                  clear hk0
                  go_wp2_with (fail)
                  (try simp only [Exit.inBlock, Exit.then])
                  refine bodyPost_ret (ret_cell rfl _ _ (w.heap.size + 1) 25 _ _ _ rfl (set3 HGRY.out) Try.underlying25 rfl sizeP) rfl ?_
                  exact ret_bad_dec HBAD.out (below_set3 HBFY.out (by omega) _ _ _)
            · have hok' : ok2 = false := by simpa using hok2
              subst hok'
              have HBAD := Lib.hid (show ¬ GoodB b from fun hg => by have h1 := hg.1; rw [HS5.out] at h1; cases h1)
              clear hgo2 hok2
              go_wp2_with (fail)
              (try simp only [Exit.inBlock, Exit.then])
              refine bodyPost_ret (ret_cell rfl _ _ (w.heap.size + 1) 25 _ _ _ rfl (set3 HGR.out) Try.underlying25 rfl sizeP) rfl ?_
              exact ret_bad_dec HBAD.out (below_set3 HBF.out (by omega) _ _ _)
      · have hok' : ok = false := by simpa using hok
        subst hok'
        clear hgo hok
        go_wp2_with (fail)
        refine HP2.out.mono ?_
        rintro e w11 ⟨rfl, hk11, _⟩
        have h3 : (s3 b).2 = false := by unfold s3; rw [HND.out]
        have HBAD := Lib.hid (bad3 h3)
        have h4 := rd_bad h3
        have H4 := Lib.hid h4
        have K11 := Lib.hid hk11
        clear hk11 k0 h3 h4
        go_wp2_with (fail)
        go_loopg [9, 11, 12, 13] 0 (fun gg s9 s11 s12 s13 wr => s9 = .int .i64 0 ∧ Aside (DI w3 wr w.heap.size (w.heap.size + 1 + 1) B (w.heap.size + 3) pb (rd (s3 b)).2 ⟨z0, A1, c1, l, none, 0, []⟩))
        case atStart => exact ⟨rfl, K11.out⟩
        case round =>
          obtain ⟨rfl, HK⟩ := hrel
          have k0 := HK.out.flag
          have hkr2 : w.heap.size + 1 + 1 < wr.heap.size := World.block_lt_of_cell? wr _ k0
          rw [H4.out] at k0
          have hfin := HFIN.out wr HK.out.ch
          obtain ⟨hbf, hgr⟩ := hfin
          have HBF := Lib.hid hbf
          have HGR := Lib.hid hgr
          have hgrl := blk_lt hgr
          obtain ⟨⟨v0, v1, v2⟩, u0, u1, u2⟩ := isv3_cells hgr
          clear hbf hgr
          go_wp2_with (fail)
          (try simp only [Exit.inBlock, Exit.then])
          refine bodyPost_ret (ret_cell rfl _ _ (w.heap.size + 1) 25 _ _ _ rfl (set3 HGR.out) Try.underlying25 rfl sizeP) rfl ?_
          exact ret_bad_dec HBAD.out (below_set3 HBF.out (by omega) _ _ _)
end Go.Proofs.Ytdbhoglbmphjjaa.kv
