/-
  Placements: a step of the law, by the program and by the document.
-/
import Derived.Test.YtnpkhkhchimcnaaPmAddY
import Derived.Test.YtnpkhkhchimcnaaPmRemY
import Derived.Test.YtnpkhkhchimcnaaPmRepY
import Derived.Test.YtnpkhkhchimcnaaPmDoneY
import Derived.Test.YtnpkhkhchimcnaaPmAdd
import Derived.Test.YtnpkhkhchimcnaaPmPend
namespace Go.Proofs.Ytnpkhkhchimcnaa.pm
open Go.ChangeShapes Go.WideShapes Go.ChangeAt Go.RowKit Go.Shelf plain words ord mem

theorem ret_cell22 {P : Program} {fn : Func} {p u q s : Tmp} {ty : TypeId} (h : fn.results = #[.cell p ty, .tmp u, .cell q ty, .tmp s]) (tmps : Array Value) (w : World) (g g2 : Nat) (t : TypeId) (cs cs2 : Array Value) (fr fr2 : Nat × Nat) (d : TypeDesc)
    (hp : tmps.getD p undef = .pointer (some ⟨g, 0, none⟩)) (hq : tmps.getD q undef = .pointer (some ⟨g2, 0, none⟩)) (hg : w.heap[g]? = some (.cells cs t fr)) (hg2 : w.heap[g2]? = some (.cells cs2 t fr2))
    (hu : P.underlying ty = some d) (hd : (match d with | .struct _ | .array _ _ => true | _ => false) = true) (hi : (P.info? ty).map (·.size) = some cs.size) (hi2 : (P.info? ty).map (·.size) = some cs2.size) :
    (results fn tmps).run P w = .ok (.tuple #[.agg cs, tmps.getD u undef, .agg cs2, tmps.getD s undef]) w := by
  have hp' : tmps[p]?.getD undef = .pointer (some ⟨g, 0, none⟩) := by simpa using hp
  have hq' : tmps[q]?.getD undef = .pointer (some ⟨g2, 0, none⟩) := by simpa using hq
  simp only [results, h]
  simp [Sem.run_bind, Result.andThen, hp', hq', asAddr, run_loadVar_row w g t ty cs fr d hg hu hd hi, run_loadVar_row w g2 t ty cs2 fr2 d hg2 hu hd hi2]
def sArgs (p : Pl) (k a b : Int) : Int × Int := if k = 4 then pend p.ss else (a, b)
noncomputable def stepErr (p : Pl) (k a b : Int) : Int :=
  if k = 0 then addErr p a else if k = 1 then removeErr p a else if k = 2 then replaceErr p a b else doneErr p (sArgs p k a b).1 (sArgs p k a b).2
noncomputable def stepPl (p : Pl) (k a b : Int) : Pl :=
  if k = 0 then addPl p a else if k = 1 then removePl p a else if k = 2 then replacePl p a b else donePl p (sArgs p k a b).1 (sArgs p k a b).2
def RetStep (w : World) (p : Pl) (er : Int) (e : Ending) (w' : World) : Prop :=
  ∃ v v2 : PV, e = .returned (.tuple #[v.val, .int .i64 er, v2.val, .int .i64 er]) ∧ v.pl = p ∧ v2.pl = p ∧ OP w' w.heap.size v ∧ OP w' w.heap.size v2 ∧ Below w.heap.size w w'
theorem set3_ne {w : World} {g h : Nat} {o : Obj} (hg : w.heap[g]? = some o) (hne : g ≠ h) (a b c : Value) : (((w.setCell ⟨h, 0, none⟩ a).setCell ⟨h, 1, none⟩ b).setCell ⟨h, 2, none⟩ c).heap[g]? = some o :=
  (chg_set3 (g := h) a b c).blk hg hne
set_option maxHeartbeats 4000000 in
set_option maxRecDepth 100000 in
theorem step_l (w : World) (B : Nat) (v : PV) (h : PVok w B v) (hB : B ≤ w.heap.size) (k a b : Int) :
    Calls Try.prog 22 #[v.val, .agg #[.int .i64 k, .int .i64 a, .int .i64 b]] w (RetStep w (stepPl v.pl k a b) (stepErr v.pl k a b)) := by
  obtain ⟨wa, hwa⟩ : ∃ wa, w.alloc (boxO v) = wa := ⟨_, rfl⟩
  obtain ⟨wb, hwb⟩ : ∃ wb, wa.alloc (.cells #[.int .i64 k, .int .i64 a, .int .i64 b] 37) = wb := ⟨_, rfl⟩
  obtain ⟨wc, hwc⟩ : ∃ wc, wb.alloc (.cells #[.int .i64 0, .slice none 0 0, .slice none 0 0] 25) = wc := ⟨_, rfl⟩
  obtain ⟨w4, hw4⟩ : ∃ w4, wc.alloc (.cells #[.int .i64 0, .slice none 0 0, .slice none 0 0] 25) = w4 := ⟨_, rfl⟩
  have za : wa.heap.size = w.heap.size + 1 := by rw [← hwa, World.size_alloc]
  have zb : wb.heap.size = w.heap.size + 1 + 1 := by rw [← hwb, World.size_alloc, za]
  have zc : wc.heap.size = w.heap.size + 1 + 1 + 1 := by rw [← hwc, World.size_alloc, zb]
  have z4 : w4.heap.size = w.heap.size + 1 + 1 + 1 + 1 := by rw [← hw4, World.size_alloc, zc]
  have gp : Boxed w4 w.heap.size v := by rw [← hw4, ← hwc, ← hwb, ← hwa]; exact alloc_old _ (alloc_old _ (alloc_old _ (alloc_new _ _)))
  have gs : IsV3 37 w4 (w.heap.size + 1) (.int .i64 k) (.int .i64 a) (.int .i64 b) := by rw [← za, ← hw4, ← hwc, ← hwb]; exact alloc_old _ (alloc_old _ (alloc_new _ _))
  have ga : IsV3 25 w4 (w.heap.size + 1 + 1) (.int .i64 0) (.slice none 0 0) (.slice none 0 0) := by rw [← zb, ← hw4, ← hwc]; exact alloc_old _ (alloc_new _ _)
  have gb : IsV3 25 w4 (w.heap.size + 1 + 1 + 1) (.int .i64 0) (.slice none 0 0) (.slice none 0 0) := by rw [← zc, ← hw4]; exact alloc_new _ _
  have hb4 : Below w.heap.size w w4 := by
    rw [← hw4, ← hwc, ← hwb, ← hwa]
    exact ((((below_al w _).trans ((below_al _ _).mono (by simp))).trans ((below_al _ _).mono (by simp; omega))).trans ((below_al _ _).mono (by simp; omega)))
  have HW4 := Lib.hid (show (((w.alloc (boxO v)).alloc (.cells #[.int .i64 k, .int .i64 a, .int .i64 b] 37)).alloc (.cells #[.int .i64 0, .slice none 0 0, .slice none 0 0] 25)).alloc (.cells #[.int .i64 0, .slice none 0 0, .slice none 0 0] 25) = w4 by rw [hwa, hwb, hwc, hw4])
  have HB4 := Lib.hid hb4
  have HOK := Lib.hid (fun (u : World) (hu : Below w4.heap.size w4 u) => ((h.below hb4 hB).more (C := w.heap.size) hB).below hu (by omega))
  have HOKB := Lib.hid (fun (u : World) (hu : Below w.heap.size w u) => (h.below hu hB).more (C := w.heap.size) hB)
  have HSU := Lib.hid (fun (u : World) (hu : Below w4.heap.size w4 u) => (show w.heap.size ≤ u.heap.size by have := hu.size; omega))
  have HGP := Lib.hid gp
  have HGS := Lib.hid gs
  have HGA := Lib.hid ga
  have HGB := Lib.hid gb
  have hl4 : w.heap.size + 1 + 1 + 1 < w4.heap.size := by omega
  have HRF := Lib.hid (Below.refl w4.heap.size w4)
  clear h hwa hwb hwc hw4 za zb zc z4 gp gs ga gb hb4
  by_cases hk0 : k = 0
  · subst hk0
    have HST := Lib.hid (show stepErr v.pl 0 a b = addErr v.pl a by unfold stepErr; rw [if_pos rfl])
    have HSP := Lib.hid (show stepPl v.pl 0 a b = addPl v.pl a by unfold stepPl; rw [if_pos rfl])
    have HC1 := Lib.hid (fun (u : World) (hu : Below w4.heap.size w4 u) => padd_sx u w.heap.size v (HOK.out u hu) (HSU.out u hu) a)
    have HC2 := Lib.hid (fun (u : World) (hu : Below w4.heap.size w4 u) => radd_sy u w.heap.size v (HOK.out u hu) (HSU.out u hu) a)
    obtain ⟨er, her⟩ : ∃ er, addErr v.pl a = er := ⟨_, rfl⟩
    obtain ⟨pl, hpl⟩ : ∃ pl, addPl v.pl a = pl := ⟨_, rfl⟩
    rw [her] at HST HC1 HC2
    rw [hpl] at HSP HC1 HC2
    clear her hpl
    rw [HST.out, HSP.out]
    obtain ⟨ver, nA, nc, nodes, sA, sc, rs⟩ := v
    simp only [PV.val, boxO] at HC1 HC2 HW4 ⊢
    go_enter Try.func22, Try.ntmps22
    go_wp2_with (fail)
    rw [HW4.out]
    obtain ⟨⟨p0, p1, p2⟩, _⟩ := isv3_cells (blk_below HRF.out HGP.out (by omega))
    obtain ⟨⟨s0, s1, s2⟩, _, sf1, sf2⟩ := isv3_cells (blk_below HRF.out HGS.out (by omega))
    go_wp2_with (fail)
    refine (HC1.out w4 HRF.out).mono ?_
    rintro e w5 ⟨⟨xv, xA, xc, xn, xB, xd, xr⟩, rfl, hplx, hopx, hbrx⟩
    obtain ⟨w6, hw6⟩ : ∃ w6, w5.alloc (.cells #[.int .i64 xv, .slice xA xn.length xc, .slice xB xr.length xd] 25) = w6 := ⟨_, rfl⟩
    have hbax : Below w5.heap.size w5 w6 := by rw [← hw6]; exact below_al _ _
    have hgx : IsV3 25 w6 w5.heap.size (.int .i64 xv) (.slice xA xn.length xc) (.slice xB xr.length xd) := by rw [← hw6]; exact alloc_new _ _
    have HS6 := Lib.hid (show Below (w4).heap.size (w4) w6 from hbrx.trans (hbax.mono hbrx.size))
    have HP6 := Lib.hid (HRF.out.trans (HS6.out.mono HRF.out.size))
    have hs6 := HP6.out.size
    have ht6 := HS6.out.size
    have hu5 := hbrx.size
    have hz6 : w5.heap.size < w6.heap.size := blk_lt hgx
    have HPLx := Lib.hid hplx
    have HOPx := Lib.hid ((hopx.below hbax (Nat.le_refl _)).base (C := w4.heap.size) (by omega))
    have HGx := Lib.hid hgx
    clear hplx hopx hbrx hbax hgx p0 p1 p2 s0 s1 s2 sf1 sf2
    obtain ⟨⟨p0, p1, p2⟩, _⟩ := isv3_cells (blk_below HP6.out HGP.out (by omega))
    obtain ⟨⟨s0, s1, s2⟩, _, sf1, sf2⟩ := isv3_cells (blk_below HP6.out HGS.out (by omega))
    go_wp2_with (fail)
    refine (HC2.out w6 HP6.out).mono ?_
    rintro e w7 ⟨⟨yv, yA, yc, yn, yB, yd, yr⟩, rfl, hply, hopy, hbry⟩
    obtain ⟨w8, hw8⟩ : ∃ w8, w7.alloc (.cells #[.int .i64 yv, .slice yA yn.length yc, .slice yB yr.length yd] 25) = w8 := ⟨_, rfl⟩
    have hbay : Below w7.heap.size w7 w8 := by rw [← hw8]; exact below_al _ _
    have hgy : IsV3 25 w8 w7.heap.size (.int .i64 yv) (.slice yA yn.length yc) (.slice yB yr.length yd) := by rw [← hw8]; exact alloc_new _ _
    have HS8 := Lib.hid (show Below (w6).heap.size (w6) w8 from hbry.trans (hbay.mono hbry.size))
    have HP8 := Lib.hid (HP6.out.trans (HS8.out.mono HP6.out.size))
    have hs8 := HP8.out.size
    have ht8 := HS8.out.size
    have hu7 := hbry.size
    have hz8 : w7.heap.size < w8.heap.size := blk_lt hgy
    have HPLy := Lib.hid hply
    have HOPy := Lib.hid ((hopy.below hbay (Nat.le_refl _)).base (C := w4.heap.size) (by omega))
    have HGy := Lib.hid hgy
    clear hply hopy hbry hbay hgy p0 p1 p2 s0 s1 s2 sf1 sf2
    have HX8 := Lib.hid (blk_below HS8.out HGx.out (by omega))
    obtain ⟨⟨x0, x1, x2⟩, _⟩ := isv3_cells HX8.out
    obtain ⟨⟨y0, y1, y2⟩, _⟩ := isv3_cells HGy.out
    have HA8 := Lib.hid (blk_below HP8.out HGA.out (by omega))
    have HB8 := Lib.hid (blk_below HP8.out HGB.out (by omega))
    obtain ⟨⟨a0, a1, a2⟩, af0, af1, af2⟩ := isv3_cells HA8.out
    obtain ⟨⟨b0, b1, b2⟩, bf0, bf1, bf2⟩ := isv3_cells HB8.out
    have hx5 : w5.heap.size < w8.heap.size := by omega
    have hga8 : w.heap.size + 1 + 1 < w8.heap.size := by omega
    have hgb8 : w.heap.size + 1 + 1 + 1 < w8.heap.size := by omega
    have hne1 : w5.heap.size ≠ w.heap.size + 1 + 1 := by omega
    have hne2 : w5.heap.size ≠ w.heap.size + 1 + 1 + 1 := by omega
    have hne3 : w7.heap.size ≠ w.heap.size + 1 + 1 := by omega
    have hne4 : w7.heap.size ≠ w.heap.size + 1 + 1 + 1 := by omega
    have HOX8 := Lib.hid (HOPx.out.below HS8.out (Nat.le_refl _))
    go_wp2_with (fail)
    refine fr.wp_region_tree (F := fun b => b = w.heap.size + 1 + 1 ∨ b = w.heap.size + 1 + 1 + 1) (.reads [0, 1, 3] (.two 2 false (.one 4 true (.reads [5] (.one 6 true (.reads [7] .stop)))) 4 true (.reads [2, 5] (.one 6 true (.reads [7] .stop))))) (by kernel_rfl) (by kernel_rfl) ?_
    have q0 := Wf.at_ (F := fun b => b = w.heap.size + 1 + 1 ∨ b = w.heap.size + 1 + 1 + 1) x0 (by simp only; omega)
    have q1 := Wf.at_ (F := fun b => b = w.heap.size + 1 + 1 ∨ b = w.heap.size + 1 + 1 + 1) x1 (by simp only; omega)
    have q2 := Wf.at_ (F := fun b => b = w.heap.size + 1 + 1 ∨ b = w.heap.size + 1 + 1 + 1) x2 (by simp only; omega)
    have r0 := Wf.at_ (F := fun b => b = w.heap.size + 1 + 1 ∨ b = w.heap.size + 1 + 1 + 1) y0 (by simp only; omega)
    have r1 := Wf.at_ (F := fun b => b = w.heap.size + 1 + 1 ∨ b = w.heap.size + 1 + 1 + 1) y1 (by simp only; omega)
    have r2 := Wf.at_ (F := fun b => b = w.heap.size + 1 + 1 ∨ b = w.heap.size + 1 + 1 + 1) y2 (by simp only; omega)
    obtain ⟨wX, hwX⟩ : ∃ wX, (((w8.setCell ⟨w.heap.size + 1 + 1, 0, none⟩ (.int .i64 xv)).setCell ⟨w.heap.size + 1 + 1, 1, none⟩ (.slice xA xn.length xc)).setCell ⟨w.heap.size + 1 + 1, 2, none⟩ (.slice xB xr.length xd)).drew = wX := ⟨_, rfl⟩
    have hA9 : IsV3 25 wX (w.heap.size + 1 + 1) (.int .i64 xv) (.slice xA xn.length xc) (.slice xB xr.length xd) := by rw [← hwX]; exact set3 HA8.out
    have hB9 : IsV3 25 wX (w.heap.size + 1 + 1 + 1) (.int .i64 0) (.slice none 0 0) (.slice none 0 0) := by rw [← hwX]; exact set3_ne HB8.out (by omega) _ _ _
    have hY9 : IsV3 25 wX w7.heap.size (.int .i64 yv) (.slice yA yn.length yc) (.slice yB yr.length yd) := by rw [← hwX]; exact set3_ne HGy.out (by omega) _ _ _
    have hc9 : Chg (fun b => b = w.heap.size + 1 + 1 ∨ b = w.heap.size + 1 + 1 + 1) w8 wX := by rw [← hwX]; exact ((chg_set3 (g := w.heap.size + 1 + 1) (w := w8) _ _ _).mono (S' := fun b => b = w.heap.size + 1 + 1 ∨ b = w.heap.size + 1 + 1 + 1) (fun _ _ e => .inl e)).drew
    have HWX := Lib.hid hwX
    have HA9 := Lib.hid hA9
    have HC9 := Lib.hid hc9
    obtain ⟨⟨n0, n1, n2⟩, nf0, nf1, nf2⟩ := isv3_cells hB9
    obtain ⟨⟨m0, m1, m2⟩, _⟩ := isv3_cells hY9
    have HB9 := Lib.hid hB9
    have t0 := Wf.at_ (F := fun b => b = w.heap.size + 1 + 1 ∨ b = w.heap.size + 1 + 1 + 1) m0 (by simp only; omega)
    have t1 := Wf.at_ (F := fun b => b = w.heap.size + 1 + 1 ∨ b = w.heap.size + 1 + 1 + 1) m1 (by simp only; omega)
    have t2 := Wf.at_ (F := fun b => b = w.heap.size + 1 + 1 ∨ b = w.heap.size + 1 + 1 + 1) m2 (by simp only; omega)
    have hm9 : w7.heap.size < wX.heap.size := blk_lt hY9
    have hn9 : w.heap.size + 1 + 1 + 1 < wX.heap.size := blk_lt hB9
    have FINAL := Lib.hid (show RetStep w (pl) (er) (.returned (.tuple #[.agg #[.int .i64 xv, .slice xA xn.length xc, .slice xB xr.length xd], .int .i64 er, .agg #[.int .i64 yv, .slice yA yn.length yc, .slice yB yr.length yd], .int .i64 er])) (((wX.setCell ⟨w.heap.size + 1 + 1 + 1, 0, none⟩ (.int .i64 yv)).setCell ⟨w.heap.size + 1 + 1 + 1, 1, none⟩ (.slice yA yn.length yc)).setCell ⟨w.heap.size + 1 + 1 + 1, 2, none⟩ (.slice yB yr.length yd)) from by
      have hcc : Chg (fun b => b = w.heap.size + 1 + 1 ∨ b = w.heap.size + 1 + 1 + 1) w8 (((wX.setCell ⟨w.heap.size + 1 + 1 + 1, 0, none⟩ (.int .i64 yv)).setCell ⟨w.heap.size + 1 + 1 + 1, 1, none⟩ (.slice yA yn.length yc)).setCell ⟨w.heap.size + 1 + 1 + 1, 2, none⟩ (.slice yB yr.length yd)) :=
        hc9.trans ((chg_set3 (g := w.heap.size + 1 + 1 + 1) (w := wX) _ _ _).mono (S' := fun b => b = w.heap.size + 1 + 1 ∨ b = w.heap.size + 1 + 1 + 1) (fun _ _ e => .inr e)) (fun _ _ e => e)
      refine ⟨⟨xv, xA, xc, xn, xB, xd, xr⟩, ⟨yv, yA, yc, yn, yB, yd, yr⟩, rfl, HPLx.out, HPLy.out, (HOX8.out.chg hcc (fun k e => by rcases e with e | e <;> omega)).base (by omega), (HOPy.out.chg hcc (fun k e => by rcases e with e | e <;> omega)).base (by omega), ?_⟩
      exact (HB4.out.trans (HP8.out.mono (by omega))).trans (hcc.below (by omega) (fun k e => by rcases e with e | e <;> omega)))
    clear hwX hA9 hB9 hY9 hc9
    refine fr.tr_reads _ (by dsimp only [pick, ord.at_]) ?_
    repeat (go_big_quiet_step (fail))
    refine wpQuiet_nil ?_
    refine fr.tr_two ?_ ?_
    · refine fr.act_s _ (by dsimp only [pick, ord.at_]) ?_
      intro K1 g1 g2
      clear g2
      go_wp2_with (fail)
      refine g1 _ _ (Chg.refl _ _).drew ?_
      clear g1
      refine fr.tr_write _ (by dsimp only [pick, ord.at_]) ?_
      intro K2 g3
      go_wp2_with (fail)
      rw [HWX.out]
      refine fr.tr_reads _ (by dsimp only [pick, ord.at_]) ?_
      repeat (go_big_quiet_step (fail))
      refine wpQuiet_nil ?_
      refine fr.tr_write _ (by dsimp only [pick, ord.at_]) ?_
      intro K3 g4
      go_wp2_with (fail)
      refine fr.tr_reads _ (by dsimp only [pick, ord.at_]) ?_
      repeat (go_big_quiet_step (fail))
      refine wpQuiet_nil ?_
      refine fr.tr_stop ?_
      refine NoPanic.normal ?_
      go_wp2_with (fail)
      (try simp only [Exit.inBlock, Exit.then, Exit.noGoto_ret])
      refine bodyPost_ret (ret_cell22 rfl _ _ (w.heap.size + 1 + 1) (w.heap.size + 1 + 1 + 1) 25 _ _ _ _ _ rfl rfl (set3_ne HA9.out (by omega) _ _ _) (set3 HB9.out) Try.underlying25 rfl sizeP sizeP) rfl ?_
      exact FINAL.out
    · refine fr.act_w _ (by dsimp only [pick, ord.at_]) ?_
      intro K2 g3
      go_wp2_with (fail)
      rw [HWX.out]
      refine fr.tr_reads _ (by dsimp only [pick, ord.at_]) ?_
      repeat (go_big_quiet_step (fail))
      refine wpQuiet_nil ?_
      refine fr.tr_write _ (by dsimp only [pick, ord.at_]) ?_
      intro K3 g4
      go_wp2_with (fail)
      refine fr.tr_reads _ (by dsimp only [pick, ord.at_]) ?_
      repeat (go_big_quiet_step (fail))
      refine wpQuiet_nil ?_
      refine fr.tr_stop ?_
      refine NoPanic.normal ?_
      go_wp2_with (fail)
      (try simp only [Exit.inBlock, Exit.then, Exit.noGoto_ret])
      refine bodyPost_ret (ret_cell22 rfl _ _ (w.heap.size + 1 + 1) (w.heap.size + 1 + 1 + 1) 25 _ _ _ _ _ rfl rfl (set3_ne HA9.out (by omega) _ _ _) (set3 HB9.out) Try.underlying25 rfl sizeP sizeP) rfl ?_
      exact FINAL.out
  have k0 : (k == 0) = false := by simpa using hk0
  by_cases hk1 : k = 1
  · subst hk1
    have HST := Lib.hid (show stepErr v.pl 1 a b = removeErr v.pl a by unfold stepErr; rw [if_neg (by decide), if_pos rfl])
    have HSP := Lib.hid (show stepPl v.pl 1 a b = removePl v.pl a by unfold stepPl; rw [if_neg (by decide), if_pos rfl])
    have HC1 := Lib.hid (fun (u : World) (hu : Below w4.heap.size w4 u) => premove_sx u w.heap.size v (HOK.out u hu) (HSU.out u hu) a)
    have HC2 := Lib.hid (fun (u : World) (hu : Below w4.heap.size w4 u) => rremove_sy u w.heap.size v (HOK.out u hu) (HSU.out u hu) a)
    obtain ⟨er, her⟩ : ∃ er, removeErr v.pl a = er := ⟨_, rfl⟩
    obtain ⟨pl, hpl⟩ : ∃ pl, removePl v.pl a = pl := ⟨_, rfl⟩
    rw [her] at HST HC1 HC2
    rw [hpl] at HSP HC1 HC2
    clear her hpl
    rw [HST.out, HSP.out]
    obtain ⟨ver, nA, nc, nodes, sA, sc, rs⟩ := v
    simp only [PV.val, boxO] at HC1 HC2 HW4 ⊢
    go_enter Try.func22, Try.ntmps22
    go_wp2_with (fail)
    rw [HW4.out]
    obtain ⟨⟨p0, p1, p2⟩, _⟩ := isv3_cells (blk_below HRF.out HGP.out (by omega))
    obtain ⟨⟨s0, s1, s2⟩, _, sf1, sf2⟩ := isv3_cells (blk_below HRF.out HGS.out (by omega))
    go_wp2_with (fail)
    refine (HC1.out w4 HRF.out).mono ?_
    rintro e w5 ⟨⟨xv, xA, xc, xn, xB, xd, xr⟩, rfl, hplx, hopx, hbrx⟩
    obtain ⟨w6, hw6⟩ : ∃ w6, w5.alloc (.cells #[.int .i64 xv, .slice xA xn.length xc, .slice xB xr.length xd] 25) = w6 := ⟨_, rfl⟩
    have hbax : Below w5.heap.size w5 w6 := by rw [← hw6]; exact below_al _ _
    have hgx : IsV3 25 w6 w5.heap.size (.int .i64 xv) (.slice xA xn.length xc) (.slice xB xr.length xd) := by rw [← hw6]; exact alloc_new _ _
    have HS6 := Lib.hid (show Below (w4).heap.size (w4) w6 from hbrx.trans (hbax.mono hbrx.size))
    have HP6 := Lib.hid (HRF.out.trans (HS6.out.mono HRF.out.size))
    have hs6 := HP6.out.size
    have ht6 := HS6.out.size
    have hu5 := hbrx.size
    have hz6 : w5.heap.size < w6.heap.size := blk_lt hgx
    have HPLx := Lib.hid hplx
    have HOPx := Lib.hid ((hopx.below hbax (Nat.le_refl _)).base (C := w4.heap.size) (by omega))
    have HGx := Lib.hid hgx
    clear hplx hopx hbrx hbax hgx p0 p1 p2 s0 s1 s2 sf1 sf2
    obtain ⟨⟨p0, p1, p2⟩, _⟩ := isv3_cells (blk_below HP6.out HGP.out (by omega))
    obtain ⟨⟨s0, s1, s2⟩, _, sf1, sf2⟩ := isv3_cells (blk_below HP6.out HGS.out (by omega))
    go_wp2_with (fail)
    refine (HC2.out w6 HP6.out).mono ?_
    rintro e w7 ⟨⟨yv, yA, yc, yn, yB, yd, yr⟩, rfl, hply, hopy, hbry⟩
    obtain ⟨w8, hw8⟩ : ∃ w8, w7.alloc (.cells #[.int .i64 yv, .slice yA yn.length yc, .slice yB yr.length yd] 25) = w8 := ⟨_, rfl⟩
    have hbay : Below w7.heap.size w7 w8 := by rw [← hw8]; exact below_al _ _
    have hgy : IsV3 25 w8 w7.heap.size (.int .i64 yv) (.slice yA yn.length yc) (.slice yB yr.length yd) := by rw [← hw8]; exact alloc_new _ _
    have HS8 := Lib.hid (show Below (w6).heap.size (w6) w8 from hbry.trans (hbay.mono hbry.size))
    have HP8 := Lib.hid (HP6.out.trans (HS8.out.mono HP6.out.size))
    have hs8 := HP8.out.size
    have ht8 := HS8.out.size
    have hu7 := hbry.size
    have hz8 : w7.heap.size < w8.heap.size := blk_lt hgy
    have HPLy := Lib.hid hply
    have HOPy := Lib.hid ((hopy.below hbay (Nat.le_refl _)).base (C := w4.heap.size) (by omega))
    have HGy := Lib.hid hgy
    clear hply hopy hbry hbay hgy p0 p1 p2 s0 s1 s2 sf1 sf2
    have HX8 := Lib.hid (blk_below HS8.out HGx.out (by omega))
    obtain ⟨⟨x0, x1, x2⟩, _⟩ := isv3_cells HX8.out
    obtain ⟨⟨y0, y1, y2⟩, _⟩ := isv3_cells HGy.out
    have HA8 := Lib.hid (blk_below HP8.out HGA.out (by omega))
    have HB8 := Lib.hid (blk_below HP8.out HGB.out (by omega))
    obtain ⟨⟨a0, a1, a2⟩, af0, af1, af2⟩ := isv3_cells HA8.out
    obtain ⟨⟨b0, b1, b2⟩, bf0, bf1, bf2⟩ := isv3_cells HB8.out
    have hx5 : w5.heap.size < w8.heap.size := by omega
    have hga8 : w.heap.size + 1 + 1 < w8.heap.size := by omega
    have hgb8 : w.heap.size + 1 + 1 + 1 < w8.heap.size := by omega
    have hne1 : w5.heap.size ≠ w.heap.size + 1 + 1 := by omega
    have hne2 : w5.heap.size ≠ w.heap.size + 1 + 1 + 1 := by omega
    have hne3 : w7.heap.size ≠ w.heap.size + 1 + 1 := by omega
    have hne4 : w7.heap.size ≠ w.heap.size + 1 + 1 + 1 := by omega
    have HOX8 := Lib.hid (HOPx.out.below HS8.out (Nat.le_refl _))
    go_wp2_with (fail)
    refine fr.wp_region_tree (F := fun b => b = w.heap.size + 1 + 1 ∨ b = w.heap.size + 1 + 1 + 1) (.reads [0, 1, 3] (.two 2 false (.one 4 true (.reads [5] (.one 6 true (.reads [7] .stop)))) 4 true (.reads [2, 5] (.one 6 true (.reads [7] .stop))))) (by kernel_rfl) (by kernel_rfl) ?_
    have q0 := Wf.at_ (F := fun b => b = w.heap.size + 1 + 1 ∨ b = w.heap.size + 1 + 1 + 1) x0 (by simp only; omega)
    have q1 := Wf.at_ (F := fun b => b = w.heap.size + 1 + 1 ∨ b = w.heap.size + 1 + 1 + 1) x1 (by simp only; omega)
    have q2 := Wf.at_ (F := fun b => b = w.heap.size + 1 + 1 ∨ b = w.heap.size + 1 + 1 + 1) x2 (by simp only; omega)
    have r0 := Wf.at_ (F := fun b => b = w.heap.size + 1 + 1 ∨ b = w.heap.size + 1 + 1 + 1) y0 (by simp only; omega)
    have r1 := Wf.at_ (F := fun b => b = w.heap.size + 1 + 1 ∨ b = w.heap.size + 1 + 1 + 1) y1 (by simp only; omega)
    have r2 := Wf.at_ (F := fun b => b = w.heap.size + 1 + 1 ∨ b = w.heap.size + 1 + 1 + 1) y2 (by simp only; omega)
    obtain ⟨wX, hwX⟩ : ∃ wX, (((w8.setCell ⟨w.heap.size + 1 + 1, 0, none⟩ (.int .i64 xv)).setCell ⟨w.heap.size + 1 + 1, 1, none⟩ (.slice xA xn.length xc)).setCell ⟨w.heap.size + 1 + 1, 2, none⟩ (.slice xB xr.length xd)).drew = wX := ⟨_, rfl⟩
    have hA9 : IsV3 25 wX (w.heap.size + 1 + 1) (.int .i64 xv) (.slice xA xn.length xc) (.slice xB xr.length xd) := by rw [← hwX]; exact set3 HA8.out
    have hB9 : IsV3 25 wX (w.heap.size + 1 + 1 + 1) (.int .i64 0) (.slice none 0 0) (.slice none 0 0) := by rw [← hwX]; exact set3_ne HB8.out (by omega) _ _ _
    have hY9 : IsV3 25 wX w7.heap.size (.int .i64 yv) (.slice yA yn.length yc) (.slice yB yr.length yd) := by rw [← hwX]; exact set3_ne HGy.out (by omega) _ _ _
    have hc9 : Chg (fun b => b = w.heap.size + 1 + 1 ∨ b = w.heap.size + 1 + 1 + 1) w8 wX := by rw [← hwX]; exact ((chg_set3 (g := w.heap.size + 1 + 1) (w := w8) _ _ _).mono (S' := fun b => b = w.heap.size + 1 + 1 ∨ b = w.heap.size + 1 + 1 + 1) (fun _ _ e => .inl e)).drew
    have HWX := Lib.hid hwX
    have HA9 := Lib.hid hA9
    have HC9 := Lib.hid hc9
    obtain ⟨⟨n0, n1, n2⟩, nf0, nf1, nf2⟩ := isv3_cells hB9
    obtain ⟨⟨m0, m1, m2⟩, _⟩ := isv3_cells hY9
    have HB9 := Lib.hid hB9
    have t0 := Wf.at_ (F := fun b => b = w.heap.size + 1 + 1 ∨ b = w.heap.size + 1 + 1 + 1) m0 (by simp only; omega)
    have t1 := Wf.at_ (F := fun b => b = w.heap.size + 1 + 1 ∨ b = w.heap.size + 1 + 1 + 1) m1 (by simp only; omega)
    have t2 := Wf.at_ (F := fun b => b = w.heap.size + 1 + 1 ∨ b = w.heap.size + 1 + 1 + 1) m2 (by simp only; omega)
    have hm9 : w7.heap.size < wX.heap.size := blk_lt hY9
    have hn9 : w.heap.size + 1 + 1 + 1 < wX.heap.size := blk_lt hB9
    have FINAL := Lib.hid (show RetStep w (pl) (er) (.returned (.tuple #[.agg #[.int .i64 xv, .slice xA xn.length xc, .slice xB xr.length xd], .int .i64 er, .agg #[.int .i64 yv, .slice yA yn.length yc, .slice yB yr.length yd], .int .i64 er])) (((wX.setCell ⟨w.heap.size + 1 + 1 + 1, 0, none⟩ (.int .i64 yv)).setCell ⟨w.heap.size + 1 + 1 + 1, 1, none⟩ (.slice yA yn.length yc)).setCell ⟨w.heap.size + 1 + 1 + 1, 2, none⟩ (.slice yB yr.length yd)) from by
      have hcc : Chg (fun b => b = w.heap.size + 1 + 1 ∨ b = w.heap.size + 1 + 1 + 1) w8 (((wX.setCell ⟨w.heap.size + 1 + 1 + 1, 0, none⟩ (.int .i64 yv)).setCell ⟨w.heap.size + 1 + 1 + 1, 1, none⟩ (.slice yA yn.length yc)).setCell ⟨w.heap.size + 1 + 1 + 1, 2, none⟩ (.slice yB yr.length yd)) :=
        hc9.trans ((chg_set3 (g := w.heap.size + 1 + 1 + 1) (w := wX) _ _ _).mono (S' := fun b => b = w.heap.size + 1 + 1 ∨ b = w.heap.size + 1 + 1 + 1) (fun _ _ e => .inr e)) (fun _ _ e => e)
      refine ⟨⟨xv, xA, xc, xn, xB, xd, xr⟩, ⟨yv, yA, yc, yn, yB, yd, yr⟩, rfl, HPLx.out, HPLy.out, (HOX8.out.chg hcc (fun k e => by rcases e with e | e <;> omega)).base (by omega), (HOPy.out.chg hcc (fun k e => by rcases e with e | e <;> omega)).base (by omega), ?_⟩
      exact (HB4.out.trans (HP8.out.mono (by omega))).trans (hcc.below (by omega) (fun k e => by rcases e with e | e <;> omega)))
    clear hwX hA9 hB9 hY9 hc9
    refine fr.tr_reads _ (by dsimp only [pick, ord.at_]) ?_
    repeat (go_big_quiet_step (fail))
    refine wpQuiet_nil ?_
    refine fr.tr_two ?_ ?_
    · refine fr.act_s _ (by dsimp only [pick, ord.at_]) ?_
      intro K1 g1 g2
      clear g2
      go_wp2_with (fail)
      refine g1 _ _ (Chg.refl _ _).drew ?_
      clear g1
      refine fr.tr_write _ (by dsimp only [pick, ord.at_]) ?_
      intro K2 g3
      go_wp2_with (fail)
      rw [HWX.out]
      refine fr.tr_reads _ (by dsimp only [pick, ord.at_]) ?_
      repeat (go_big_quiet_step (fail))
      refine wpQuiet_nil ?_
      refine fr.tr_write _ (by dsimp only [pick, ord.at_]) ?_
      intro K3 g4
      go_wp2_with (fail)
      refine fr.tr_reads _ (by dsimp only [pick, ord.at_]) ?_
      repeat (go_big_quiet_step (fail))
      refine wpQuiet_nil ?_
      refine fr.tr_stop ?_
      refine NoPanic.normal ?_
      go_wp2_with (fail)
      (try simp only [Exit.inBlock, Exit.then, Exit.noGoto_ret])
      refine bodyPost_ret (ret_cell22 rfl _ _ (w.heap.size + 1 + 1) (w.heap.size + 1 + 1 + 1) 25 _ _ _ _ _ rfl rfl (set3_ne HA9.out (by omega) _ _ _) (set3 HB9.out) Try.underlying25 rfl sizeP sizeP) rfl ?_
      exact FINAL.out
    · refine fr.act_w _ (by dsimp only [pick, ord.at_]) ?_
      intro K2 g3
      go_wp2_with (fail)
      rw [HWX.out]
      refine fr.tr_reads _ (by dsimp only [pick, ord.at_]) ?_
      repeat (go_big_quiet_step (fail))
      refine wpQuiet_nil ?_
      refine fr.tr_write _ (by dsimp only [pick, ord.at_]) ?_
      intro K3 g4
      go_wp2_with (fail)
      refine fr.tr_reads _ (by dsimp only [pick, ord.at_]) ?_
      repeat (go_big_quiet_step (fail))
      refine wpQuiet_nil ?_
      refine fr.tr_stop ?_
      refine NoPanic.normal ?_
      go_wp2_with (fail)
      (try simp only [Exit.inBlock, Exit.then, Exit.noGoto_ret])
      refine bodyPost_ret (ret_cell22 rfl _ _ (w.heap.size + 1 + 1) (w.heap.size + 1 + 1 + 1) 25 _ _ _ _ _ rfl rfl (set3_ne HA9.out (by omega) _ _ _) (set3 HB9.out) Try.underlying25 rfl sizeP sizeP) rfl ?_
      exact FINAL.out
  have k1 : (k == 1) = false := by simpa using hk1
  by_cases hk2 : k = 2
  · subst hk2
    have HST := Lib.hid (show stepErr v.pl 2 a b = replaceErr v.pl a b by unfold stepErr; rw [if_neg (by decide), if_neg (by decide), if_pos rfl])
    have HSP := Lib.hid (show stepPl v.pl 2 a b = replacePl v.pl a b by unfold stepPl; rw [if_neg (by decide), if_neg (by decide), if_pos rfl])
    have HC1 := Lib.hid (fun (u : World) (hu : Below w4.heap.size w4 u) => preplace_sx u w.heap.size v (HOK.out u hu) (HSU.out u hu) a b)
    have HC2 := Lib.hid (fun (u : World) (hu : Below w4.heap.size w4 u) => rreplace_sy u w.heap.size v (HOK.out u hu) (HSU.out u hu) a b)
    obtain ⟨er, her⟩ : ∃ er, replaceErr v.pl a b = er := ⟨_, rfl⟩
    obtain ⟨pl, hpl⟩ : ∃ pl, replacePl v.pl a b = pl := ⟨_, rfl⟩
    rw [her] at HST HC1 HC2
    rw [hpl] at HSP HC1 HC2
    clear her hpl
    rw [HST.out, HSP.out]
    obtain ⟨ver, nA, nc, nodes, sA, sc, rs⟩ := v
    simp only [PV.val, boxO] at HC1 HC2 HW4 ⊢
    go_enter Try.func22, Try.ntmps22
    go_wp2_with (fail)
    rw [HW4.out]
    obtain ⟨⟨p0, p1, p2⟩, _⟩ := isv3_cells (blk_below HRF.out HGP.out (by omega))
    obtain ⟨⟨s0, s1, s2⟩, _, sf1, sf2⟩ := isv3_cells (blk_below HRF.out HGS.out (by omega))
    go_wp2_with (fail)
    refine (HC1.out w4 HRF.out).mono ?_
    rintro e w5 ⟨⟨xv, xA, xc, xn, xB, xd, xr⟩, rfl, hplx, hopx, hbrx⟩
    obtain ⟨w6, hw6⟩ : ∃ w6, w5.alloc (.cells #[.int .i64 xv, .slice xA xn.length xc, .slice xB xr.length xd] 25) = w6 := ⟨_, rfl⟩
    have hbax : Below w5.heap.size w5 w6 := by rw [← hw6]; exact below_al _ _
    have hgx : IsV3 25 w6 w5.heap.size (.int .i64 xv) (.slice xA xn.length xc) (.slice xB xr.length xd) := by rw [← hw6]; exact alloc_new _ _
    have HS6 := Lib.hid (show Below (w4).heap.size (w4) w6 from hbrx.trans (hbax.mono hbrx.size))
    have HP6 := Lib.hid (HRF.out.trans (HS6.out.mono HRF.out.size))
    have hs6 := HP6.out.size
    have ht6 := HS6.out.size
    have hu5 := hbrx.size
    have hz6 : w5.heap.size < w6.heap.size := blk_lt hgx
    have HPLx := Lib.hid hplx
    have HOPx := Lib.hid ((hopx.below hbax (Nat.le_refl _)).base (C := w4.heap.size) (by omega))
    have HGx := Lib.hid hgx
    clear hplx hopx hbrx hbax hgx p0 p1 p2 s0 s1 s2 sf1 sf2
    obtain ⟨⟨p0, p1, p2⟩, _⟩ := isv3_cells (blk_below HP6.out HGP.out (by omega))
    obtain ⟨⟨s0, s1, s2⟩, _, sf1, sf2⟩ := isv3_cells (blk_below HP6.out HGS.out (by omega))
    go_wp2_with (fail)
    refine (HC2.out w6 HP6.out).mono ?_
    rintro e w7 ⟨⟨yv, yA, yc, yn, yB, yd, yr⟩, rfl, hply, hopy, hbry⟩
    obtain ⟨w8, hw8⟩ : ∃ w8, w7.alloc (.cells #[.int .i64 yv, .slice yA yn.length yc, .slice yB yr.length yd] 25) = w8 := ⟨_, rfl⟩
    have hbay : Below w7.heap.size w7 w8 := by rw [← hw8]; exact below_al _ _
    have hgy : IsV3 25 w8 w7.heap.size (.int .i64 yv) (.slice yA yn.length yc) (.slice yB yr.length yd) := by rw [← hw8]; exact alloc_new _ _
    have HS8 := Lib.hid (show Below (w6).heap.size (w6) w8 from hbry.trans (hbay.mono hbry.size))
    have HP8 := Lib.hid (HP6.out.trans (HS8.out.mono HP6.out.size))
    have hs8 := HP8.out.size
    have ht8 := HS8.out.size
    have hu7 := hbry.size
    have hz8 : w7.heap.size < w8.heap.size := blk_lt hgy
    have HPLy := Lib.hid hply
    have HOPy := Lib.hid ((hopy.below hbay (Nat.le_refl _)).base (C := w4.heap.size) (by omega))
    have HGy := Lib.hid hgy
    clear hply hopy hbry hbay hgy p0 p1 p2 s0 s1 s2 sf1 sf2
    have HX8 := Lib.hid (blk_below HS8.out HGx.out (by omega))
    obtain ⟨⟨x0, x1, x2⟩, _⟩ := isv3_cells HX8.out
    obtain ⟨⟨y0, y1, y2⟩, _⟩ := isv3_cells HGy.out
    have HA8 := Lib.hid (blk_below HP8.out HGA.out (by omega))
    have HB8 := Lib.hid (blk_below HP8.out HGB.out (by omega))
    obtain ⟨⟨a0, a1, a2⟩, af0, af1, af2⟩ := isv3_cells HA8.out
    obtain ⟨⟨b0, b1, b2⟩, bf0, bf1, bf2⟩ := isv3_cells HB8.out
    have hx5 : w5.heap.size < w8.heap.size := by omega
    have hga8 : w.heap.size + 1 + 1 < w8.heap.size := by omega
    have hgb8 : w.heap.size + 1 + 1 + 1 < w8.heap.size := by omega
    have hne1 : w5.heap.size ≠ w.heap.size + 1 + 1 := by omega
    have hne2 : w5.heap.size ≠ w.heap.size + 1 + 1 + 1 := by omega
    have hne3 : w7.heap.size ≠ w.heap.size + 1 + 1 := by omega
    have hne4 : w7.heap.size ≠ w.heap.size + 1 + 1 + 1 := by omega
    have HOX8 := Lib.hid (HOPx.out.below HS8.out (Nat.le_refl _))
    go_wp2_with (fail)
    refine fr.wp_region_tree (F := fun b => b = w.heap.size + 1 + 1 ∨ b = w.heap.size + 1 + 1 + 1) (.reads [0, 1, 3] (.two 2 false (.one 4 true (.reads [5] (.one 6 true (.reads [7] .stop)))) 4 true (.reads [2, 5] (.one 6 true (.reads [7] .stop))))) (by kernel_rfl) (by kernel_rfl) ?_
    have q0 := Wf.at_ (F := fun b => b = w.heap.size + 1 + 1 ∨ b = w.heap.size + 1 + 1 + 1) x0 (by simp only; omega)
    have q1 := Wf.at_ (F := fun b => b = w.heap.size + 1 + 1 ∨ b = w.heap.size + 1 + 1 + 1) x1 (by simp only; omega)
    have q2 := Wf.at_ (F := fun b => b = w.heap.size + 1 + 1 ∨ b = w.heap.size + 1 + 1 + 1) x2 (by simp only; omega)
    have r0 := Wf.at_ (F := fun b => b = w.heap.size + 1 + 1 ∨ b = w.heap.size + 1 + 1 + 1) y0 (by simp only; omega)
    have r1 := Wf.at_ (F := fun b => b = w.heap.size + 1 + 1 ∨ b = w.heap.size + 1 + 1 + 1) y1 (by simp only; omega)
    have r2 := Wf.at_ (F := fun b => b = w.heap.size + 1 + 1 ∨ b = w.heap.size + 1 + 1 + 1) y2 (by simp only; omega)
    obtain ⟨wX, hwX⟩ : ∃ wX, (((w8.setCell ⟨w.heap.size + 1 + 1, 0, none⟩ (.int .i64 xv)).setCell ⟨w.heap.size + 1 + 1, 1, none⟩ (.slice xA xn.length xc)).setCell ⟨w.heap.size + 1 + 1, 2, none⟩ (.slice xB xr.length xd)).drew = wX := ⟨_, rfl⟩
    have hA9 : IsV3 25 wX (w.heap.size + 1 + 1) (.int .i64 xv) (.slice xA xn.length xc) (.slice xB xr.length xd) := by rw [← hwX]; exact set3 HA8.out
    have hB9 : IsV3 25 wX (w.heap.size + 1 + 1 + 1) (.int .i64 0) (.slice none 0 0) (.slice none 0 0) := by rw [← hwX]; exact set3_ne HB8.out (by omega) _ _ _
    have hY9 : IsV3 25 wX w7.heap.size (.int .i64 yv) (.slice yA yn.length yc) (.slice yB yr.length yd) := by rw [← hwX]; exact set3_ne HGy.out (by omega) _ _ _
    have hc9 : Chg (fun b => b = w.heap.size + 1 + 1 ∨ b = w.heap.size + 1 + 1 + 1) w8 wX := by rw [← hwX]; exact ((chg_set3 (g := w.heap.size + 1 + 1) (w := w8) _ _ _).mono (S' := fun b => b = w.heap.size + 1 + 1 ∨ b = w.heap.size + 1 + 1 + 1) (fun _ _ e => .inl e)).drew
    have HWX := Lib.hid hwX
    have HA9 := Lib.hid hA9
    have HC9 := Lib.hid hc9
    obtain ⟨⟨n0, n1, n2⟩, nf0, nf1, nf2⟩ := isv3_cells hB9
    obtain ⟨⟨m0, m1, m2⟩, _⟩ := isv3_cells hY9
    have HB9 := Lib.hid hB9
    have t0 := Wf.at_ (F := fun b => b = w.heap.size + 1 + 1 ∨ b = w.heap.size + 1 + 1 + 1) m0 (by simp only; omega)
    have t1 := Wf.at_ (F := fun b => b = w.heap.size + 1 + 1 ∨ b = w.heap.size + 1 + 1 + 1) m1 (by simp only; omega)
    have t2 := Wf.at_ (F := fun b => b = w.heap.size + 1 + 1 ∨ b = w.heap.size + 1 + 1 + 1) m2 (by simp only; omega)
    have hm9 : w7.heap.size < wX.heap.size := blk_lt hY9
    have hn9 : w.heap.size + 1 + 1 + 1 < wX.heap.size := blk_lt hB9
    have FINAL := Lib.hid (show RetStep w (pl) (er) (.returned (.tuple #[.agg #[.int .i64 xv, .slice xA xn.length xc, .slice xB xr.length xd], .int .i64 er, .agg #[.int .i64 yv, .slice yA yn.length yc, .slice yB yr.length yd], .int .i64 er])) (((wX.setCell ⟨w.heap.size + 1 + 1 + 1, 0, none⟩ (.int .i64 yv)).setCell ⟨w.heap.size + 1 + 1 + 1, 1, none⟩ (.slice yA yn.length yc)).setCell ⟨w.heap.size + 1 + 1 + 1, 2, none⟩ (.slice yB yr.length yd)) from by
      have hcc : Chg (fun b => b = w.heap.size + 1 + 1 ∨ b = w.heap.size + 1 + 1 + 1) w8 (((wX.setCell ⟨w.heap.size + 1 + 1 + 1, 0, none⟩ (.int .i64 yv)).setCell ⟨w.heap.size + 1 + 1 + 1, 1, none⟩ (.slice yA yn.length yc)).setCell ⟨w.heap.size + 1 + 1 + 1, 2, none⟩ (.slice yB yr.length yd)) :=
        hc9.trans ((chg_set3 (g := w.heap.size + 1 + 1 + 1) (w := wX) _ _ _).mono (S' := fun b => b = w.heap.size + 1 + 1 ∨ b = w.heap.size + 1 + 1 + 1) (fun _ _ e => .inr e)) (fun _ _ e => e)
      refine ⟨⟨xv, xA, xc, xn, xB, xd, xr⟩, ⟨yv, yA, yc, yn, yB, yd, yr⟩, rfl, HPLx.out, HPLy.out, (HOX8.out.chg hcc (fun k e => by rcases e with e | e <;> omega)).base (by omega), (HOPy.out.chg hcc (fun k e => by rcases e with e | e <;> omega)).base (by omega), ?_⟩
      exact (HB4.out.trans (HP8.out.mono (by omega))).trans (hcc.below (by omega) (fun k e => by rcases e with e | e <;> omega)))
    clear hwX hA9 hB9 hY9 hc9
    refine fr.tr_reads _ (by dsimp only [pick, ord.at_]) ?_
    repeat (go_big_quiet_step (fail))
    refine wpQuiet_nil ?_
    refine fr.tr_two ?_ ?_
    · refine fr.act_s _ (by dsimp only [pick, ord.at_]) ?_
      intro K1 g1 g2
      clear g2
      go_wp2_with (fail)
      refine g1 _ _ (Chg.refl _ _).drew ?_
      clear g1
      refine fr.tr_write _ (by dsimp only [pick, ord.at_]) ?_
      intro K2 g3
      go_wp2_with (fail)
      rw [HWX.out]
      refine fr.tr_reads _ (by dsimp only [pick, ord.at_]) ?_
      repeat (go_big_quiet_step (fail))
      refine wpQuiet_nil ?_
      refine fr.tr_write _ (by dsimp only [pick, ord.at_]) ?_
      intro K3 g4
      go_wp2_with (fail)
      refine fr.tr_reads _ (by dsimp only [pick, ord.at_]) ?_
      repeat (go_big_quiet_step (fail))
      refine wpQuiet_nil ?_
      refine fr.tr_stop ?_
      refine NoPanic.normal ?_
      go_wp2_with (fail)
      (try simp only [Exit.inBlock, Exit.then, Exit.noGoto_ret])
      refine bodyPost_ret (ret_cell22 rfl _ _ (w.heap.size + 1 + 1) (w.heap.size + 1 + 1 + 1) 25 _ _ _ _ _ rfl rfl (set3_ne HA9.out (by omega) _ _ _) (set3 HB9.out) Try.underlying25 rfl sizeP sizeP) rfl ?_
      exact FINAL.out
    · refine fr.act_w _ (by dsimp only [pick, ord.at_]) ?_
      intro K2 g3
      go_wp2_with (fail)
      rw [HWX.out]
      refine fr.tr_reads _ (by dsimp only [pick, ord.at_]) ?_
      repeat (go_big_quiet_step (fail))
      refine wpQuiet_nil ?_
      refine fr.tr_write _ (by dsimp only [pick, ord.at_]) ?_
      intro K3 g4
      go_wp2_with (fail)
      refine fr.tr_reads _ (by dsimp only [pick, ord.at_]) ?_
      repeat (go_big_quiet_step (fail))
      refine wpQuiet_nil ?_
      refine fr.tr_stop ?_
      refine NoPanic.normal ?_
      go_wp2_with (fail)
      (try simp only [Exit.inBlock, Exit.then, Exit.noGoto_ret])
      refine bodyPost_ret (ret_cell22 rfl _ _ (w.heap.size + 1 + 1) (w.heap.size + 1 + 1 + 1) 25 _ _ _ _ _ rfl rfl (set3_ne HA9.out (by omega) _ _ _) (set3 HB9.out) Try.underlying25 rfl sizeP sizeP) rfl ?_
      exact FINAL.out
  have k2 : (k == 2) = false := by simpa using hk2
  by_cases hk4 : k = 4
  · subst hk4
    have HST := Lib.hid (show stepErr v.pl 4 a b = doneErr v.pl (pend v.pl.ss).1 (pend v.pl.ss).2 by unfold stepErr sArgs; rfl)
    have HSP := Lib.hid (show stepPl v.pl 4 a b = donePl v.pl (pend v.pl.ss).1 (pend v.pl.ss).2 by unfold stepPl sArgs; rfl)
    have HPN := Lib.hid (pending_l w4 w.heap.size v (HOK.out w4 HRF.out) (HSU.out w4 HRF.out))
    have HC1 := Lib.hid (fun (u : World) (hu : PVok u w.heap.size v) (hs : w.heap.size ≤ u.heap.size) => pdone_sx u w.heap.size v hu hs (pend v.pl.ss).1 (pend v.pl.ss).2)
    have HC2 := Lib.hid (fun (u : World) (hu : PVok u w.heap.size v) (hs : w.heap.size ≤ u.heap.size) => rdone_sy u w.heap.size v hu hs (pend v.pl.ss).1 (pend v.pl.ss).2)
    obtain ⟨pi, hpi⟩ : ∃ pi, (pend v.pl.ss).1 = pi := ⟨_, rfl⟩
    obtain ⟨pn, hpn⟩ : ∃ pn, (pend v.pl.ss).2 = pn := ⟨_, rfl⟩
    rw [hpi, hpn] at HST HSP HC1 HC2 HPN
    clear hpi hpn
    obtain ⟨er, her⟩ : ∃ er, doneErr v.pl pi pn = er := ⟨_, rfl⟩
    obtain ⟨pl, hpl⟩ : ∃ pl, donePl v.pl pi pn = pl := ⟨_, rfl⟩
    rw [her] at HST HC1 HC2
    rw [hpl] at HSP HC1 HC2
    clear her hpl
    rw [HST.out, HSP.out]
    obtain ⟨ver, nA, nc, nodes, sA, sc, rs⟩ := v
    simp only [PV.val, boxO] at HC1 HC2 HPN HW4 ⊢
    go_enter Try.func22, Try.ntmps22
    go_wp2_with (fail)
    rw [HW4.out]
    obtain ⟨⟨p0, p1, p2⟩, _⟩ := isv3_cells (blk_below HRF.out HGP.out (by omega))
    obtain ⟨⟨s0, s1, s2⟩, _, sf1, sf2⟩ := isv3_cells (blk_below HRF.out HGS.out (by omega))
    go_wp2_with (fail)
    refine HPN.out.mono ?_
    rintro e wp ⟨rfl, hbp⟩
    have HBP := Lib.hid hbp
    have hsp := hbp.size
    clear hbp p0 p1 p2 s0 s1 s2 sf1 sf2
    obtain ⟨⟨u0, u1, u2⟩, _, uf1, uf2⟩ := isv3_cells (blk_below HBP.out HGS.out (show w.heap.size + 1 < w4.heap.size by omega))
    have hwp1 : w.heap.size + 1 < wp.heap.size := by omega
    have gsp := blk_below HBP.out HGS.out (show w.heap.size + 1 < w4.heap.size by omega)
    obtain ⟨wS, hwS⟩ : ∃ wS, (wp.setCell ⟨w.heap.size + 1, 1, none⟩ (.int .i64 pi)).setCell ⟨w.heap.size + 1, 2, none⟩ (.int .i64 pn) = wS := ⟨_, rfl⟩
    have hcS : Chg (fun b => b = w.heap.size + 1) wp wS := by rw [← hwS]; exact (chg_set1 _).trans (chg_set1 _) (fun _ _ e => e)
    have gsS : IsV3 37 wS (w.heap.size + 1) (.int .i64 4) (.int .i64 pi) (.int .i64 pn) := by
      rw [← hwS]
      have h1 := heap_setCell_same wp (w.heap.size + 1) 1 _ _ (.int .i64 pi) gsp
      have h2 := heap_setCell_same (wp.setCell ⟨w.heap.size + 1, 1, none⟩ (.int .i64 pi)) (w.heap.size + 1) 2 _ _ (.int .i64 pn) h1
      simpa [IsV3] using h2
    have hsS := hcS.size
    have hcW := (Chg.of_below HBP.out).mono (S' := fun b => b = w.heap.size + 1) (fun _ _ e => e.elim)
    have hc4 : Chg (fun b => b = w.heap.size + 1) w4 wS := hcW.trans hcS (fun _ _ e => e)
    have hbS : Below w.heap.size w wS := HB4.out.trans (hc4.below (by omega) (fun k e => by omega))
    have HGPS := Lib.hid (hc4.blk HGP.out (by omega))
    have HGSS := Lib.hid gsS
    have HGAS := Lib.hid (hc4.blk HGA.out (by omega))
    have HGBS := Lib.hid (hc4.blk HGB.out (by omega))
    have HB4S := Lib.hid hbS
    have HOKS := Lib.hid (fun (u : World) (hu : Below wS.heap.size wS u) => (HOKB.out wS hbS).below hu (by omega))
    have HSUS := Lib.hid (fun (u : World) (hu : Below wS.heap.size wS u) => (show w.heap.size ≤ u.heap.size by have := hu.size; omega))
    have HRFS := Lib.hid (Below.refl wS.heap.size wS)
    have hl4S : w.heap.size + 1 + 1 + 1 < wS.heap.size := by omega
    clear gsp hcS gsS hcW hc4 hbS
    obtain ⟨⟨p0, p1, p2⟩, _⟩ := isv3_cells (blk_below HRFS.out HGPS.out (by omega))
    obtain ⟨⟨s0, s1, s2⟩, _, sf1, sf2⟩ := isv3_cells (blk_below HRFS.out HGSS.out (by omega))
    go_wp2_with (fail)
    refine (HC1.out wS (HOKS.out wS HRFS.out) (HSUS.out wS HRFS.out)).mono ?_
    rintro e w5 ⟨⟨xv, xA, xc, xn, xB, xd, xr⟩, rfl, hplx, hopx, hbrx⟩
    obtain ⟨w6, hw6⟩ : ∃ w6, w5.alloc (.cells #[.int .i64 xv, .slice xA xn.length xc, .slice xB xr.length xd] 25) = w6 := ⟨_, rfl⟩
    have hbax : Below w5.heap.size w5 w6 := by rw [← hw6]; exact below_al _ _
    have hgx : IsV3 25 w6 w5.heap.size (.int .i64 xv) (.slice xA xn.length xc) (.slice xB xr.length xd) := by rw [← hw6]; exact alloc_new _ _
    have HS6 := Lib.hid (show Below (wS).heap.size (wS) w6 from hbrx.trans (hbax.mono hbrx.size))
    have HP6 := Lib.hid (HRFS.out.trans (HS6.out.mono HRFS.out.size))
    have hs6 := HP6.out.size
    have ht6 := HS6.out.size
    have hu5 := hbrx.size
    have hz6 : w5.heap.size < w6.heap.size := blk_lt hgx
    have HPLx := Lib.hid hplx
    have HOPx := Lib.hid ((hopx.below hbax (Nat.le_refl _)).base (C := wS.heap.size) (by omega))
    have HGx := Lib.hid hgx
    clear hplx hopx hbrx hbax hgx u0 u1 u2 uf1 uf2 p0 p1 p2 s0 s1 s2 sf1 sf2
    obtain ⟨⟨p0, p1, p2⟩, _⟩ := isv3_cells (blk_below HP6.out HGPS.out (by omega))
    obtain ⟨⟨s0, s1, s2⟩, _, sf1, sf2⟩ := isv3_cells (blk_below HP6.out HGSS.out (by omega))
    go_wp2_with (fail)
    refine (HC2.out w6 (HOKS.out w6 HP6.out) (HSUS.out w6 HP6.out)).mono ?_
    rintro e w7 ⟨⟨yv, yA, yc, yn, yB, yd, yr⟩, rfl, hply, hopy, hbry⟩
    obtain ⟨w8, hw8⟩ : ∃ w8, w7.alloc (.cells #[.int .i64 yv, .slice yA yn.length yc, .slice yB yr.length yd] 25) = w8 := ⟨_, rfl⟩
    have hbay : Below w7.heap.size w7 w8 := by rw [← hw8]; exact below_al _ _
    have hgy : IsV3 25 w8 w7.heap.size (.int .i64 yv) (.slice yA yn.length yc) (.slice yB yr.length yd) := by rw [← hw8]; exact alloc_new _ _
    have HS8 := Lib.hid (show Below (w6).heap.size (w6) w8 from hbry.trans (hbay.mono hbry.size))
    have HP8 := Lib.hid (HP6.out.trans (HS8.out.mono HP6.out.size))
    have hs8 := HP8.out.size
    have ht8 := HS8.out.size
    have hu7 := hbry.size
    have hz8 : w7.heap.size < w8.heap.size := blk_lt hgy
    have HPLy := Lib.hid hply
    have HOPy := Lib.hid ((hopy.below hbay (Nat.le_refl _)).base (C := wS.heap.size) (by omega))
    have HGy := Lib.hid hgy
    clear hply hopy hbry hbay hgy p0 p1 p2 s0 s1 s2 sf1 sf2
    have HX8 := Lib.hid (blk_below HS8.out HGx.out (by omega))
    obtain ⟨⟨x0, x1, x2⟩, _⟩ := isv3_cells HX8.out
    obtain ⟨⟨y0, y1, y2⟩, _⟩ := isv3_cells HGy.out
    have HA8 := Lib.hid (blk_below HP8.out HGAS.out (by omega))
    have HB8 := Lib.hid (blk_below HP8.out HGBS.out (by omega))
    obtain ⟨⟨a0, a1, a2⟩, af0, af1, af2⟩ := isv3_cells HA8.out
    obtain ⟨⟨b0, b1, b2⟩, bf0, bf1, bf2⟩ := isv3_cells HB8.out
    have hx5 : w5.heap.size < w8.heap.size := by omega
    have hga8 : w.heap.size + 1 + 1 < w8.heap.size := by omega
    have hgb8 : w.heap.size + 1 + 1 + 1 < w8.heap.size := by omega
    have hne1 : w5.heap.size ≠ w.heap.size + 1 + 1 := by omega
    have hne2 : w5.heap.size ≠ w.heap.size + 1 + 1 + 1 := by omega
    have hne3 : w7.heap.size ≠ w.heap.size + 1 + 1 := by omega
    have hne4 : w7.heap.size ≠ w.heap.size + 1 + 1 + 1 := by omega
    have HOX8 := Lib.hid (HOPx.out.below HS8.out (Nat.le_refl _))
    go_wp2_with (fail)
    refine fr.wp_region_tree (F := fun b => b = w.heap.size + 1 + 1 ∨ b = w.heap.size + 1 + 1 + 1) (.reads [0, 1, 3] (.two 2 false (.one 4 true (.reads [5] (.one 6 true (.reads [7] .stop)))) 4 true (.reads [2, 5] (.one 6 true (.reads [7] .stop))))) (by kernel_rfl) (by kernel_rfl) ?_
    have q0 := Wf.at_ (F := fun b => b = w.heap.size + 1 + 1 ∨ b = w.heap.size + 1 + 1 + 1) x0 (by simp only; omega)
    have q1 := Wf.at_ (F := fun b => b = w.heap.size + 1 + 1 ∨ b = w.heap.size + 1 + 1 + 1) x1 (by simp only; omega)
    have q2 := Wf.at_ (F := fun b => b = w.heap.size + 1 + 1 ∨ b = w.heap.size + 1 + 1 + 1) x2 (by simp only; omega)
    have r0 := Wf.at_ (F := fun b => b = w.heap.size + 1 + 1 ∨ b = w.heap.size + 1 + 1 + 1) y0 (by simp only; omega)
    have r1 := Wf.at_ (F := fun b => b = w.heap.size + 1 + 1 ∨ b = w.heap.size + 1 + 1 + 1) y1 (by simp only; omega)
    have r2 := Wf.at_ (F := fun b => b = w.heap.size + 1 + 1 ∨ b = w.heap.size + 1 + 1 + 1) y2 (by simp only; omega)
    obtain ⟨wX, hwX⟩ : ∃ wX, (((w8.setCell ⟨w.heap.size + 1 + 1, 0, none⟩ (.int .i64 xv)).setCell ⟨w.heap.size + 1 + 1, 1, none⟩ (.slice xA xn.length xc)).setCell ⟨w.heap.size + 1 + 1, 2, none⟩ (.slice xB xr.length xd)).drew = wX := ⟨_, rfl⟩
    have hA9 : IsV3 25 wX (w.heap.size + 1 + 1) (.int .i64 xv) (.slice xA xn.length xc) (.slice xB xr.length xd) := by rw [← hwX]; exact set3 HA8.out
    have hB9 : IsV3 25 wX (w.heap.size + 1 + 1 + 1) (.int .i64 0) (.slice none 0 0) (.slice none 0 0) := by rw [← hwX]; exact set3_ne HB8.out (by omega) _ _ _
    have hY9 : IsV3 25 wX w7.heap.size (.int .i64 yv) (.slice yA yn.length yc) (.slice yB yr.length yd) := by rw [← hwX]; exact set3_ne HGy.out (by omega) _ _ _
    have hc9 : Chg (fun b => b = w.heap.size + 1 + 1 ∨ b = w.heap.size + 1 + 1 + 1) w8 wX := by rw [← hwX]; exact ((chg_set3 (g := w.heap.size + 1 + 1) (w := w8) _ _ _).mono (S' := fun b => b = w.heap.size + 1 + 1 ∨ b = w.heap.size + 1 + 1 + 1) (fun _ _ e => .inl e)).drew
    have HWX := Lib.hid hwX
    have HA9 := Lib.hid hA9
    have HC9 := Lib.hid hc9
    obtain ⟨⟨n0, n1, n2⟩, nf0, nf1, nf2⟩ := isv3_cells hB9
    obtain ⟨⟨m0, m1, m2⟩, _⟩ := isv3_cells hY9
    have HB9 := Lib.hid hB9
    have t0 := Wf.at_ (F := fun b => b = w.heap.size + 1 + 1 ∨ b = w.heap.size + 1 + 1 + 1) m0 (by simp only; omega)
    have t1 := Wf.at_ (F := fun b => b = w.heap.size + 1 + 1 ∨ b = w.heap.size + 1 + 1 + 1) m1 (by simp only; omega)
    have t2 := Wf.at_ (F := fun b => b = w.heap.size + 1 + 1 ∨ b = w.heap.size + 1 + 1 + 1) m2 (by simp only; omega)
    have hm9 : w7.heap.size < wX.heap.size := blk_lt hY9
    have hn9 : w.heap.size + 1 + 1 + 1 < wX.heap.size := blk_lt hB9
    have FINAL := Lib.hid (show RetStep w (pl) (er) (.returned (.tuple #[.agg #[.int .i64 xv, .slice xA xn.length xc, .slice xB xr.length xd], .int .i64 er, .agg #[.int .i64 yv, .slice yA yn.length yc, .slice yB yr.length yd], .int .i64 er])) (((wX.setCell ⟨w.heap.size + 1 + 1 + 1, 0, none⟩ (.int .i64 yv)).setCell ⟨w.heap.size + 1 + 1 + 1, 1, none⟩ (.slice yA yn.length yc)).setCell ⟨w.heap.size + 1 + 1 + 1, 2, none⟩ (.slice yB yr.length yd)) from by
      have hcc : Chg (fun b => b = w.heap.size + 1 + 1 ∨ b = w.heap.size + 1 + 1 + 1) w8 (((wX.setCell ⟨w.heap.size + 1 + 1 + 1, 0, none⟩ (.int .i64 yv)).setCell ⟨w.heap.size + 1 + 1 + 1, 1, none⟩ (.slice yA yn.length yc)).setCell ⟨w.heap.size + 1 + 1 + 1, 2, none⟩ (.slice yB yr.length yd)) :=
        hc9.trans ((chg_set3 (g := w.heap.size + 1 + 1 + 1) (w := wX) _ _ _).mono (S' := fun b => b = w.heap.size + 1 + 1 ∨ b = w.heap.size + 1 + 1 + 1) (fun _ _ e => .inr e)) (fun _ _ e => e)
      refine ⟨⟨xv, xA, xc, xn, xB, xd, xr⟩, ⟨yv, yA, yc, yn, yB, yd, yr⟩, rfl, HPLx.out, HPLy.out, (HOX8.out.chg hcc (fun k e => by rcases e with e | e <;> omega)).base (by omega), (HOPy.out.chg hcc (fun k e => by rcases e with e | e <;> omega)).base (by omega), ?_⟩
      exact (HB4S.out.trans (HP8.out.mono (by omega))).trans (hcc.below (by omega) (fun k e => by rcases e with e | e <;> omega)))
    clear hwX hA9 hB9 hY9 hc9
    refine fr.tr_reads _ (by dsimp only [pick, ord.at_]) ?_
    repeat (go_big_quiet_step (fail))
    refine wpQuiet_nil ?_
    refine fr.tr_two ?_ ?_
    · refine fr.act_s _ (by dsimp only [pick, ord.at_]) ?_
      intro K1 g1 g2
      clear g2
      go_wp2_with (fail)
      refine g1 _ _ (Chg.refl _ _).drew ?_
      clear g1
      refine fr.tr_write _ (by dsimp only [pick, ord.at_]) ?_
      intro K2 g3
      go_wp2_with (fail)
      rw [HWX.out]
      refine fr.tr_reads _ (by dsimp only [pick, ord.at_]) ?_
      repeat (go_big_quiet_step (fail))
      refine wpQuiet_nil ?_
      refine fr.tr_write _ (by dsimp only [pick, ord.at_]) ?_
      intro K3 g4
      go_wp2_with (fail)
      refine fr.tr_reads _ (by dsimp only [pick, ord.at_]) ?_
      repeat (go_big_quiet_step (fail))
      refine wpQuiet_nil ?_
      refine fr.tr_stop ?_
      refine NoPanic.normal ?_
      go_wp2_with (fail)
      (try simp only [Exit.inBlock, Exit.then, Exit.noGoto_ret])
      refine bodyPost_ret (ret_cell22 rfl _ _ (w.heap.size + 1 + 1) (w.heap.size + 1 + 1 + 1) 25 _ _ _ _ _ rfl rfl (set3_ne HA9.out (by omega) _ _ _) (set3 HB9.out) Try.underlying25 rfl sizeP sizeP) rfl ?_
      exact FINAL.out
    · refine fr.act_w _ (by dsimp only [pick, ord.at_]) ?_
      intro K2 g3
      go_wp2_with (fail)
      rw [HWX.out]
      refine fr.tr_reads _ (by dsimp only [pick, ord.at_]) ?_
      repeat (go_big_quiet_step (fail))
      refine wpQuiet_nil ?_
      refine fr.tr_write _ (by dsimp only [pick, ord.at_]) ?_
      intro K3 g4
      go_wp2_with (fail)
      refine fr.tr_reads _ (by dsimp only [pick, ord.at_]) ?_
      repeat (go_big_quiet_step (fail))
      refine wpQuiet_nil ?_
      refine fr.tr_stop ?_
      refine NoPanic.normal ?_
      go_wp2_with (fail)
      (try simp only [Exit.inBlock, Exit.then, Exit.noGoto_ret])
      refine bodyPost_ret (ret_cell22 rfl _ _ (w.heap.size + 1 + 1) (w.heap.size + 1 + 1 + 1) 25 _ _ _ _ _ rfl rfl (set3_ne HA9.out (by omega) _ _ _) (set3 HB9.out) Try.underlying25 rfl sizeP sizeP) rfl ?_
      exact FINAL.out
  have k4 : (k == 4) = false := by simpa using hk4
  have HST := Lib.hid (show stepErr v.pl k a b = doneErr v.pl a b by unfold stepErr sArgs; rw [if_neg hk0, if_neg hk1, if_neg hk2, if_neg hk4])
  have HSP := Lib.hid (show stepPl v.pl k a b = donePl v.pl a b by unfold stepPl sArgs; rw [if_neg hk0, if_neg hk1, if_neg hk2, if_neg hk4])
  have HC1 := Lib.hid (fun (u : World) (hu : Below w4.heap.size w4 u) => pdone_sx u w.heap.size v (HOK.out u hu) (HSU.out u hu) a b)
  have HC2 := Lib.hid (fun (u : World) (hu : Below w4.heap.size w4 u) => rdone_sy u w.heap.size v (HOK.out u hu) (HSU.out u hu) a b)
  obtain ⟨er, her⟩ : ∃ er, doneErr v.pl a b = er := ⟨_, rfl⟩
  obtain ⟨pl, hpl⟩ : ∃ pl, donePl v.pl a b = pl := ⟨_, rfl⟩
  rw [her] at HST HC1 HC2
  rw [hpl] at HSP HC1 HC2
  clear her hpl
  rw [HST.out, HSP.out]
  clear hk0 hk1 hk2 hk4
  obtain ⟨ver, nA, nc, nodes, sA, sc, rs⟩ := v
  simp only [PV.val, boxO] at HC1 HC2 HW4 ⊢
  go_enter Try.func22, Try.ntmps22
  go_wp2_with (fail)
  rw [HW4.out]
  obtain ⟨⟨p0, p1, p2⟩, _⟩ := isv3_cells (blk_below HRF.out HGP.out (by omega))
  obtain ⟨⟨s0, s1, s2⟩, _, sf1, sf2⟩ := isv3_cells (blk_below HRF.out HGS.out (by omega))
  go_wp2_with (fail)
  refine (HC1.out w4 HRF.out).mono ?_
  rintro e w5 ⟨⟨xv, xA, xc, xn, xB, xd, xr⟩, rfl, hplx, hopx, hbrx⟩
  obtain ⟨w6, hw6⟩ : ∃ w6, w5.alloc (.cells #[.int .i64 xv, .slice xA xn.length xc, .slice xB xr.length xd] 25) = w6 := ⟨_, rfl⟩
  have hbax : Below w5.heap.size w5 w6 := by rw [← hw6]; exact below_al _ _
  have hgx : IsV3 25 w6 w5.heap.size (.int .i64 xv) (.slice xA xn.length xc) (.slice xB xr.length xd) := by rw [← hw6]; exact alloc_new _ _
  have HS6 := Lib.hid (show Below (w4).heap.size (w4) w6 from hbrx.trans (hbax.mono hbrx.size))
  have HP6 := Lib.hid (HRF.out.trans (HS6.out.mono HRF.out.size))
  have hs6 := HP6.out.size
  have ht6 := HS6.out.size
  have hu5 := hbrx.size
  have hz6 : w5.heap.size < w6.heap.size := blk_lt hgx
  have HPLx := Lib.hid hplx
  have HOPx := Lib.hid ((hopx.below hbax (Nat.le_refl _)).base (C := w4.heap.size) (by omega))
  have HGx := Lib.hid hgx
  clear hplx hopx hbrx hbax hgx p0 p1 p2 s0 s1 s2 sf1 sf2
  obtain ⟨⟨p0, p1, p2⟩, _⟩ := isv3_cells (blk_below HP6.out HGP.out (by omega))
  obtain ⟨⟨s0, s1, s2⟩, _, sf1, sf2⟩ := isv3_cells (blk_below HP6.out HGS.out (by omega))
  go_wp2_with (fail)
  refine (HC2.out w6 HP6.out).mono ?_
  rintro e w7 ⟨⟨yv, yA, yc, yn, yB, yd, yr⟩, rfl, hply, hopy, hbry⟩
  obtain ⟨w8, hw8⟩ : ∃ w8, w7.alloc (.cells #[.int .i64 yv, .slice yA yn.length yc, .slice yB yr.length yd] 25) = w8 := ⟨_, rfl⟩
  have hbay : Below w7.heap.size w7 w8 := by rw [← hw8]; exact below_al _ _
  have hgy : IsV3 25 w8 w7.heap.size (.int .i64 yv) (.slice yA yn.length yc) (.slice yB yr.length yd) := by rw [← hw8]; exact alloc_new _ _
  have HS8 := Lib.hid (show Below (w6).heap.size (w6) w8 from hbry.trans (hbay.mono hbry.size))
  have HP8 := Lib.hid (HP6.out.trans (HS8.out.mono HP6.out.size))
  have hs8 := HP8.out.size
  have ht8 := HS8.out.size
  have hu7 := hbry.size
  have hz8 : w7.heap.size < w8.heap.size := blk_lt hgy
  have HPLy := Lib.hid hply
  have HOPy := Lib.hid ((hopy.below hbay (Nat.le_refl _)).base (C := w4.heap.size) (by omega))
  have HGy := Lib.hid hgy
  clear hply hopy hbry hbay hgy p0 p1 p2 s0 s1 s2 sf1 sf2
  have HX8 := Lib.hid (blk_below HS8.out HGx.out (by omega))
  obtain ⟨⟨x0, x1, x2⟩, _⟩ := isv3_cells HX8.out
  obtain ⟨⟨y0, y1, y2⟩, _⟩ := isv3_cells HGy.out
  have HA8 := Lib.hid (blk_below HP8.out HGA.out (by omega))
  have HB8 := Lib.hid (blk_below HP8.out HGB.out (by omega))
  obtain ⟨⟨a0, a1, a2⟩, af0, af1, af2⟩ := isv3_cells HA8.out
  obtain ⟨⟨b0, b1, b2⟩, bf0, bf1, bf2⟩ := isv3_cells HB8.out
  have hx5 : w5.heap.size < w8.heap.size := by omega
  have hga8 : w.heap.size + 1 + 1 < w8.heap.size := by omega
  have hgb8 : w.heap.size + 1 + 1 + 1 < w8.heap.size := by omega
  have hne1 : w5.heap.size ≠ w.heap.size + 1 + 1 := by omega
  have hne2 : w5.heap.size ≠ w.heap.size + 1 + 1 + 1 := by omega
  have hne3 : w7.heap.size ≠ w.heap.size + 1 + 1 := by omega
  have hne4 : w7.heap.size ≠ w.heap.size + 1 + 1 + 1 := by omega
  have HOX8 := Lib.hid (HOPx.out.below HS8.out (Nat.le_refl _))
  go_wp2_with (fail)
  refine fr.wp_region_tree (F := fun b => b = w.heap.size + 1 + 1 ∨ b = w.heap.size + 1 + 1 + 1) (.reads [0, 1, 3] (.two 2 false (.one 4 true (.reads [5] (.one 6 true (.reads [7] .stop)))) 4 true (.reads [2, 5] (.one 6 true (.reads [7] .stop))))) (by kernel_rfl) (by kernel_rfl) ?_
  have q0 := Wf.at_ (F := fun b => b = w.heap.size + 1 + 1 ∨ b = w.heap.size + 1 + 1 + 1) x0 (by simp only; omega)
  have q1 := Wf.at_ (F := fun b => b = w.heap.size + 1 + 1 ∨ b = w.heap.size + 1 + 1 + 1) x1 (by simp only; omega)
  have q2 := Wf.at_ (F := fun b => b = w.heap.size + 1 + 1 ∨ b = w.heap.size + 1 + 1 + 1) x2 (by simp only; omega)
  have r0 := Wf.at_ (F := fun b => b = w.heap.size + 1 + 1 ∨ b = w.heap.size + 1 + 1 + 1) y0 (by simp only; omega)
  have r1 := Wf.at_ (F := fun b => b = w.heap.size + 1 + 1 ∨ b = w.heap.size + 1 + 1 + 1) y1 (by simp only; omega)
  have r2 := Wf.at_ (F := fun b => b = w.heap.size + 1 + 1 ∨ b = w.heap.size + 1 + 1 + 1) y2 (by simp only; omega)
  obtain ⟨wX, hwX⟩ : ∃ wX, (((w8.setCell ⟨w.heap.size + 1 + 1, 0, none⟩ (.int .i64 xv)).setCell ⟨w.heap.size + 1 + 1, 1, none⟩ (.slice xA xn.length xc)).setCell ⟨w.heap.size + 1 + 1, 2, none⟩ (.slice xB xr.length xd)).drew = wX := ⟨_, rfl⟩
  have hA9 : IsV3 25 wX (w.heap.size + 1 + 1) (.int .i64 xv) (.slice xA xn.length xc) (.slice xB xr.length xd) := by rw [← hwX]; exact set3 HA8.out
  have hB9 : IsV3 25 wX (w.heap.size + 1 + 1 + 1) (.int .i64 0) (.slice none 0 0) (.slice none 0 0) := by rw [← hwX]; exact set3_ne HB8.out (by omega) _ _ _
  have hY9 : IsV3 25 wX w7.heap.size (.int .i64 yv) (.slice yA yn.length yc) (.slice yB yr.length yd) := by rw [← hwX]; exact set3_ne HGy.out (by omega) _ _ _
  have hc9 : Chg (fun b => b = w.heap.size + 1 + 1 ∨ b = w.heap.size + 1 + 1 + 1) w8 wX := by rw [← hwX]; exact ((chg_set3 (g := w.heap.size + 1 + 1) (w := w8) _ _ _).mono (S' := fun b => b = w.heap.size + 1 + 1 ∨ b = w.heap.size + 1 + 1 + 1) (fun _ _ e => .inl e)).drew
  have HWX := Lib.hid hwX
  have HA9 := Lib.hid hA9
  have HC9 := Lib.hid hc9
  obtain ⟨⟨n0, n1, n2⟩, nf0, nf1, nf2⟩ := isv3_cells hB9
  obtain ⟨⟨m0, m1, m2⟩, _⟩ := isv3_cells hY9
  have HB9 := Lib.hid hB9
  have t0 := Wf.at_ (F := fun b => b = w.heap.size + 1 + 1 ∨ b = w.heap.size + 1 + 1 + 1) m0 (by simp only; omega)
  have t1 := Wf.at_ (F := fun b => b = w.heap.size + 1 + 1 ∨ b = w.heap.size + 1 + 1 + 1) m1 (by simp only; omega)
  have t2 := Wf.at_ (F := fun b => b = w.heap.size + 1 + 1 ∨ b = w.heap.size + 1 + 1 + 1) m2 (by simp only; omega)
  have hm9 : w7.heap.size < wX.heap.size := blk_lt hY9
  have hn9 : w.heap.size + 1 + 1 + 1 < wX.heap.size := blk_lt hB9
  have FINAL := Lib.hid (show RetStep w (pl) (er) (.returned (.tuple #[.agg #[.int .i64 xv, .slice xA xn.length xc, .slice xB xr.length xd], .int .i64 er, .agg #[.int .i64 yv, .slice yA yn.length yc, .slice yB yr.length yd], .int .i64 er])) (((wX.setCell ⟨w.heap.size + 1 + 1 + 1, 0, none⟩ (.int .i64 yv)).setCell ⟨w.heap.size + 1 + 1 + 1, 1, none⟩ (.slice yA yn.length yc)).setCell ⟨w.heap.size + 1 + 1 + 1, 2, none⟩ (.slice yB yr.length yd)) from by
    have hcc : Chg (fun b => b = w.heap.size + 1 + 1 ∨ b = w.heap.size + 1 + 1 + 1) w8 (((wX.setCell ⟨w.heap.size + 1 + 1 + 1, 0, none⟩ (.int .i64 yv)).setCell ⟨w.heap.size + 1 + 1 + 1, 1, none⟩ (.slice yA yn.length yc)).setCell ⟨w.heap.size + 1 + 1 + 1, 2, none⟩ (.slice yB yr.length yd)) :=
      hc9.trans ((chg_set3 (g := w.heap.size + 1 + 1 + 1) (w := wX) _ _ _).mono (S' := fun b => b = w.heap.size + 1 + 1 ∨ b = w.heap.size + 1 + 1 + 1) (fun _ _ e => .inr e)) (fun _ _ e => e)
    refine ⟨⟨xv, xA, xc, xn, xB, xd, xr⟩, ⟨yv, yA, yc, yn, yB, yd, yr⟩, rfl, HPLx.out, HPLy.out, (HOX8.out.chg hcc (fun k e => by rcases e with e | e <;> omega)).base (by omega), (HOPy.out.chg hcc (fun k e => by rcases e with e | e <;> omega)).base (by omega), ?_⟩
    exact (HB4.out.trans (HP8.out.mono (by omega))).trans (hcc.below (by omega) (fun k e => by rcases e with e | e <;> omega)))
  clear hwX hA9 hB9 hY9 hc9
  refine fr.tr_reads _ (by dsimp only [pick, ord.at_]) ?_
  repeat (go_big_quiet_step (fail))
  refine wpQuiet_nil ?_
  refine fr.tr_two ?_ ?_
  · refine fr.act_s _ (by dsimp only [pick, ord.at_]) ?_
    intro K1 g1 g2
    clear g2
    go_wp2_with (fail)
    refine g1 _ _ (Chg.refl _ _).drew ?_
    clear g1
    refine fr.tr_write _ (by dsimp only [pick, ord.at_]) ?_
    intro K2 g3
    go_wp2_with (fail)
    rw [HWX.out]
    refine fr.tr_reads _ (by dsimp only [pick, ord.at_]) ?_
    repeat (go_big_quiet_step (fail))
    refine wpQuiet_nil ?_
    refine fr.tr_write _ (by dsimp only [pick, ord.at_]) ?_
    intro K3 g4
    go_wp2_with (fail)
    refine fr.tr_reads _ (by dsimp only [pick, ord.at_]) ?_
    repeat (go_big_quiet_step (fail))
    refine wpQuiet_nil ?_
    refine fr.tr_stop ?_
    refine NoPanic.normal ?_
    go_wp2_with (fail)
    (try simp only [Exit.inBlock, Exit.then, Exit.noGoto_ret])
    refine bodyPost_ret (ret_cell22 rfl _ _ (w.heap.size + 1 + 1) (w.heap.size + 1 + 1 + 1) 25 _ _ _ _ _ rfl rfl (set3_ne HA9.out (by omega) _ _ _) (set3 HB9.out) Try.underlying25 rfl sizeP sizeP) rfl ?_
    exact FINAL.out
  · refine fr.act_w _ (by dsimp only [pick, ord.at_]) ?_
    intro K2 g3
    go_wp2_with (fail)
    rw [HWX.out]
    refine fr.tr_reads _ (by dsimp only [pick, ord.at_]) ?_
    repeat (go_big_quiet_step (fail))
    refine wpQuiet_nil ?_
    refine fr.tr_write _ (by dsimp only [pick, ord.at_]) ?_
    intro K3 g4
    go_wp2_with (fail)
    refine fr.tr_reads _ (by dsimp only [pick, ord.at_]) ?_
    repeat (go_big_quiet_step (fail))
    refine wpQuiet_nil ?_
    refine fr.tr_stop ?_
    refine NoPanic.normal ?_
    go_wp2_with (fail)
    (try simp only [Exit.inBlock, Exit.then, Exit.noGoto_ret])
    refine bodyPost_ret (ret_cell22 rfl _ _ (w.heap.size + 1 + 1) (w.heap.size + 1 + 1 + 1) 25 _ _ _ _ _ rfl rfl (set3_ne HA9.out (by omega) _ _ _) (set3 HB9.out) Try.underlying25 rfl sizeP sizeP) rfl ?_
    exact FINAL.out
end Go.Proofs.Ytnpkhkhchimcnaa.pm
