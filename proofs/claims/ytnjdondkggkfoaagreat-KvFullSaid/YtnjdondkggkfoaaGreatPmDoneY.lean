/-
  Placements: the document's Done.
-/
import Derived.Test.YtnjdondkggkfoaaGreatPmLw
namespace Go.Proofs.YtnjdondkggkfoaaGreat.pm
open Go.ChangeShapes Go.WideShapes Go.ChangeAt Go.RowKit Go.Shelf plain words ord mem

set_option maxHeartbeats 4000000 in
theorem rdone_sy (w : World) (B : Nat) (v : PV) (h : PVok w B v) (hB : B ≤ w.heap.size) (s n : Int) :
    Calls Tryz.prog 43 #[v.val, .int .i64 s, .int .i64 n] w (RetPl2 w (donePl v.pl s n) (doneErr v.pl s n)) := by
  obtain ⟨w2, hw2⟩ : ∃ w2, (w.alloc (boxO v)).alloc (.cells #[.int .i64 0, .slice none 0 0, .slice none 0 0] 25) = w2 := ⟨_, rfl⟩
  have hb2 : Below w.heap.size w w2 := by rw [← hw2]; exact (below_al _ _).trans ((below_al _ _).mono (by simp))
  have gp : Boxed w2 w.heap.size v := by rw [← hw2]; exact alloc_old _ (alloc_new _ _)
  have g2 : IsV3 25 w2 (w.heap.size + 1) (.int .i64 0) (.slice none 0 0) (.slice none 0 0) := by rw [← hw2]; have := alloc_new (w.alloc (boxO v)) (.cells #[.int .i64 0, .slice none 0 0, .slice none 0 0] 25); rwa [World.size_alloc] at this
  have hl2 : w.heap.size + 1 < w2.heap.size := blk_lt g2
  have HCK := Lib.hid (rcheck_y w2 B v (h.below hb2 hB) (by omega))
  have HHS := Lib.hid (fun (u : World) (hu : Below w2.heap.size w2 u) (x : Int) => has_y u B v.nodes.length v.nc v.nA v.nodes ((h.below hb2 hB).below hu (by omega)).n (by have := hu.size; omega) h.len.2 x)
  have HBS := Lib.hid (fun (u : World) (hu : Below w2.heap.size w2 u) => rbusy_y u B v ((h.below hb2 hB).below hu (by omega)) (by have := hu.size; omega))
  have HFD := Lib.hid (fun (u : World) (hu : Below w2.heap.size w2 u) => rfind_y u B v ((h.below hb2 hB).below hu (by omega)) (by have := hu.size; omega) s n)
  have HCP := Lib.hid (fun (u : World) (hu : Below w2.heap.size w2 u) (hok : PlOk v.pl) => copied_y u B v ((h.below hb2 hB).below hu (by omega)) (by have := hu.size; omega) hok.sizes.1 hok.sizes.2.1 hok.sizes.2.2.1 hok.sizes.2.2.2.1 hok.sizes.2.2.2.2)
  have hpv : v.pl.ss.length = v.rs.length := by simp [PV.pl]
  have hpn : v.pl.nodes = v.nodes := rfl
  obtain ⟨p, hp⟩ : ∃ p, v.pl = p := ⟨_, rfl⟩
  rw [hp] at HCK HBS HCP hpv hpn ⊢
  rw [hp] at HFD
  have HPV := Lib.hid hp
  obtain ⟨ver, nA, nc, nodes, sA, sc, rs⟩ := v
  obtain ⟨N, hN⟩ : ∃ N, rs.length = N := ⟨_, rfl⟩
  obtain ⟨nl, hnl⟩ : ∃ nl, nodes.length = nl := ⟨_, rfl⟩
  have hpl : p.nodes.length = nl := by rw [hpn]; exact hnl
  simp only at hpn
  subst hpn
  simp only [PV.val, boxO, Boxed, hN, hnl] at hw2 gp HCK HHS HBS HCP HFD hpv ⊢
  have HW2 := Lib.hid hw2
  have HB2 := Lib.hid hb2
  have HBB2 := Lib.hid (Below.refl w2.heap.size w2)
  have hs2 := HBB2.out.size
  have G2 := Lib.hid g2
  have GP2 := Lib.hid gp
  have HN := Lib.hid hN
  have HPL := Lib.hid hpl
  clear h hw2 hp hN hnl hpl hb2
  obtain ⟨⟨d0, d1, d2⟩, f0, f1, f2⟩ := isv3_cells g2
  obtain ⟨⟨e0, e1, e2⟩, _⟩ := isv3_cells gp
  clear g2 gp
  by_cases hok : PlOk p
  · have hc : chk p = 0 := chk_ok hok
    have hdef : doneErr p s n = if s < 0 ∨ (p.ss.length : Int) ≤ s then 1 else if (fnd (byNode n) (shardAt p.ss s)).2.1 = 1 then bumpErr p else 140 := by unfold doneErr; rw [if_pos hc]
    rw [hc] at HCK
    have HDEF := Lib.hid hdef
    clear hc hdef
    go_enter Tryz.func43, Tryz.ntmps43
    go_wp2_with (fail)
    rw [HW2.out]
    go_wp2_with (fail)
    refine (HCK.out).mono ?_
    rintro e w3 ⟨rfl, hbc⟩
    have HBB3 := Lib.hid (HBB2.out.trans (hbc.mono hs2))
    have HB3 := Lib.hid (HB2.out.trans (hbc.mono (by omega)))
    have G3 := Lib.hid (blk_below hbc G2.out hl2)
    have GP3 := Lib.hid (blk_below hbc GP2.out (by omega))
    have hs3 := HBB3.out.size
    have hl3 : w.heap.size + 1 < w3.heap.size := by omega
    clear hbc d0 d1 d2 f0 f1 f2 e0 e1 e2
    obtain ⟨⟨d0, d1, d2⟩, f0, f1, f2⟩ := isv3_cells G3.out
    obtain ⟨⟨e0, e1, e2⟩, _⟩ := isv3_cells GP3.out
    by_cases q1 : s < 0
    · have t1 : decide (s < 0) = true := decide_eq_true q1
      have HE := Lib.hid (show doneErr p s n = 1 by rw [HDEF.out, if_pos (.inl q1)])
      have HQ := Lib.hid (show donePl p s n = ⟨0, [], []⟩ by unfold donePl; rw [HE.out]; rfl)
      go_wp2_with (fail)
      (try simp only [Exit.inBlock, Exit.then])
      refine bodyPost_ret (ret_cell rfl _ _ (w.heap.size + 1) 25 _ _ _ rfl (set3 G3.out) Tryz.underlying25 rfl sizeP) rfl ?_
      rw [HE.out, HQ.out]
      exact RetPl2.none (below_set3 (g := w.heap.size + 1) HB3.out (by omega) _ _ _)
    · have t1 : decide (s < 0) = false := decide_eq_false q1
      obtain ⟨k, rfl⟩ : ∃ k : Nat, s = (k : Int) := ⟨s.toNat, by omega⟩
      by_cases q2 : (N : Int) ≤ (k : Int)
      · have t2 : decide ((N : Int) ≤ (k : Int)) = true := decide_eq_true q2
        have HE := Lib.hid (show doneErr p (k : Int) n = 1 by rw [HDEF.out, if_pos (.inr (by omega))])
        have HQ := Lib.hid (show donePl p (k : Int) n = ⟨0, [], []⟩ by unfold donePl; rw [HE.out]; rfl)
        go_wp2_with (fail)
        (try simp only [Exit.inBlock, Exit.then])
        refine bodyPost_ret (ret_cell rfl _ _ (w.heap.size + 1) 25 _ _ _ rfl (set3 G3.out) Tryz.underlying25 rfl sizeP) rfl ?_
        rw [HE.out, HQ.out]
        exact RetPl2.none (below_set3 (g := w.heap.size + 1) HB3.out (by omega) _ _ _)
      · have t2 : decide ((N : Int) ≤ (k : Int)) = false := decide_eq_false q2
        have hkS : k < p.ss.length := by omega
        obtain ⟨l, hl⟩ : ∃ l, p.ss[k]? = some l := ⟨_, List.getElem?_eq_getElem hkS⟩
        have hsh : shardAt p.ss (k : Int) = l := shardAt_in hl
        have hrok := hok.each l (List.mem_of_getElem? hl)
        obtain ⟨o, ho⟩ : ∃ o, fnd (byNode n) l = o := ⟨_, rfl⟩
        obtain ⟨bq, hbq⟩ : ∃ bq, fis (byNode n) l = bq := ⟨_, rfl⟩
        have hfd := HFD.out w3 HBB3.out
        rw [hsh, ho, hbq] at hfd
        have HDEF2 := Lib.hid (show doneErr p (k : Int) n = if o.2.1 = 1 then bumpErr p else 140 by rw [HDEF.out, if_neg (by omega), hsh, ho])
        have HO := Lib.hid ho
        have HBQ := Lib.hid hbq
        have HSH := Lib.hid hsh
        have HROK := Lib.hid hrok
        have HL := Lib.hid hl
        have HFD2 := Lib.hid hfd
        obtain ⟨o1, o2, o3⟩ := o
        clear hl hsh hrok ho hbq hfd HFD
        go_wp2_with (fail)
        refine HFD2.out.mono ?_
        rintro e w4 ⟨rfl, hb4⟩
        obtain ⟨w5, hw5⟩ : ∃ w5, w4.alloc (.cells #[.int .i64 o1, .int .i64 o2, .int .i64 o3] 68) = w5 := ⟨_, rfl⟩
        have hb5 : Below w4.heap.size w4 w5 := by rw [← hw5]; exact below_al _ _
        have g5 : IsV3 68 w5 w4.heap.size (.int .i64 o1) (.int .i64 o2) (.int .i64 o3) := by rw [← hw5]; exact alloc_new _ _
        have hs4 := hb4.size
        have hs45 : w4.heap.size < w5.heap.size := blk_lt g5
        have HB5 := Lib.hid (HB3.out.trans ((hb4.trans (hb5.mono hs4)).mono (by omega)))
        have HBB5 := Lib.hid (HBB3.out.trans ((hb4.trans (hb5.mono hs4)).mono hs3))
        have hs5 := HBB5.out.size
        have G5 := Lib.hid (blk_below hb5 (blk_below hb4 G3.out hl3) (by omega))
        have GP5 := Lib.hid (blk_below hb5 (blk_below hb4 GP3.out (by omega)) (by omega))
        have O5 := Lib.hid g5
        clear hb4 hb5 g5 HFD2 d0 d1 d2 f0 f1 f2 e0 e1 e2
        obtain ⟨⟨d0, d1, d2⟩, f0, f1, f2⟩ := isv3_cells G5.out
        obtain ⟨⟨e0, e1, e2⟩, _⟩ := isv3_cells GP5.out
        obtain ⟨⟨o0', o1', o2'⟩, _⟩ := isv3_cells O5.out
        have hl5 : w.heap.size + 1 < w5.heap.size := by omega
        cases bq with
        | false =>
          have hz : o2 = 0 := by
            have h1 := HO.out
            have h2 := HBQ.out
            unfold fis at h2
            unfold fnd at h1
            cases hf : l.find? (byNode n) with
            | none => rw [hf] at h1; simp at h1; exact h1.2.1.symm
            | some x => rw [hf] at h2; cases h2
          have HZ0 := Lib.hid hz
          clear hz
          have HE := Lib.hid (show doneErr p (k : Int) n = 140 by rw [HDEF2.out, if_neg (by rw [HZ0.out]; decide)])
          have HQ := Lib.hid (show donePl p (k : Int) n = ⟨0, [], []⟩ by unfold donePl; rw [HE.out]; rfl)
          go_wp2_with (fail)
          (try simp only [Exit.inBlock, Exit.then])
          refine bodyPost_ret (ret_cell rfl _ _ (w.heap.size + 1) 25 _ _ _ rfl (set3 G5.out) Tryz.underlying25 rfl sizeP) rfl ?_
          rw [HE.out, HQ.out]
          exact RetPl2.none (below_set3 (g := w.heap.size + 1) HB5.out (by omega) _ _ _)
        | true =>
          by_cases q3 : o2 = 1
          · subst q3
            have t3 : ((1 : Int) != 1) = false := rfl
            have hom := fnd_mem (p := byNode n) (l := l) (by rw [HO.out])
            rw [HO.out] at hom
            have hon : o1 = n := by simpa [byNode] using hom.2
            subst hon
            have hll := HROK.out.ll
            have HE := Lib.hid (show doneErr p (k : Int) o1 = bumpErr p by rw [HDEF2.out, if_pos rfl])
            have HQ := Lib.hid (show donePl p (k : Int) o1 = bump ⟨p.ver, p.nodes, p.ss.set k (own (disown (disown l o3) o1) (o1, 2, -1))⟩ by
              unfold donePl
              rw [HE.out, HSH.out, HO.out]
              exact bump_of p _ _)
            clear hom
            go_wp2_with (fail)
            refine (HCP.out w5 HBB5.out hok).mono ?_
            rintro e w6 ⟨vn, rfl, hvn, hod, hb6⟩
            have HVN := Lib.hid hvn
            have HOD := Lib.hid hod
            obtain ⟨nver, nnA, nnc, nnodes, nsA, nsc, nrs⟩ := vn
            have hs6 := hb6.size
            have HB6 := Lib.hid (HB5.out.trans (hb6.mono (by omega)))
            have G6 := Lib.hid (blk_below hb6 G5.out hl5)
            clear hvn hod d0 d1 d2 f0 f1 f2 e0 e1 e2
            obtain ⟨w7, hw7⟩ : ∃ w7, w6.alloc (.cells #[.int .i64 nver, .slice nnA nnodes.length nnc, .slice nsA nrs.length nsc] 25) = w7 := ⟨_, rfl⟩
            have hb7 : Below w6.heap.size w6 w7 := by rw [← hw7]; exact below_al _ _
            have gv7 : IsV3 25 w7 w6.heap.size (.int .i64 nver) (.slice nnA nnodes.length nnc) (.slice nsA nrs.length nsc) := by rw [← hw7]; exact alloc_new _ _
            have G7 := Lib.hid (blk_below hb7 G6.out (by omega))
            have HB7 := Lib.hid (HB6.out.trans (hb7.mono HB6.out.size))
            have hs7 := hb7.size
            have hl7 : w.heap.size + 1 < w7.heap.size := by omega
            have hl7'' : w6.heap.size < w7.heap.size := blk_lt gv7
            have hwd := (HOD.out.below hb7 (Nat.le_refl _)).wd (pb := w6.heap.size) hs6 gv7
            have hss : nrs.map (·.l) = p.ss := congrArg Pl.ss HVN.out
            have hnd : nnodes = p.nodes := congrArg Pl.nodes HVN.out
            have hver : nver = p.ver := congrArg Pl.ver HVN.out
            have hNl : nrs.length = p.ss.length := by have := congrArg List.length hss; rwa [List.length_map] at this
            have HLW := Lib.hid (show LW w7 w7 w5.heap.size w6.heap.size p.ver p.nodes p.ss ⟨nver, nnA, nnc, nnodes, nsA, nsc, nrs⟩ from ⟨hwd.wp, hver, hnd, hss, Chg.refl _ _⟩)
            have HND := Lib.hid hnd
            have HNL := Lib.hid hNl
            obtain ⟨⟨c0, c1, c2⟩, k0, k1, k2⟩ := isv3_cells gv7
            clear hwd hss hnd hver hNl gv7
            have hO7 := blk_below (show Below w5.heap.size w5 w7 from (by
              have h1 : Below w5.heap.size w5 w6 := hb6
              exact h1.trans (hb7.mono hs6))) O5.out hs45
            obtain ⟨⟨_, _, oc⟩, _⟩ := isv3_cells hO7
            have hwp := HLW.out.wp
            obtain ⟨r, hr, hrl⟩ := HLW.out.row HL.out
            obtain ⟨sb, hsA, hsb⟩ := HLW.out.sA (by omega)
            have hkN : k < nrs.length := by rw [HNL.out]; exact hkS
            obtain ⟨b, off, eb, _, hcell, _⟩ := hwp.ok.s.at_ hr
            have hrow := hwp.each r (List.mem_of_getElem? hr)
            simp only at hsA
            subst hsA
            cases eb
            have hrok := Ow.rwok hrow rfl rfl
            have hsbl := (hwp.s.lt sb rfl).2
            have HWP := Lib.hid hwp
            have HR := Lib.hid hr
            have hcell' : w7.cell? ⟨sb, k, none⟩ = some r.val := by simpa using hcell
            have hlen : r.l.length ≤ 8 := by rw [hrl]; exact hll.2
            have HUN := Lib.hid (fun (u : World) (hu : Below w7.heap.size w7 u) => unset_y u w7.heap.size r.l.length r.c r.A r.l (hrok.ls.below hu (Nat.le_refl _)) hu.size (by omega) o3)
            obtain ⟨ra, rc, L⟩ := r
            simp only [Rw3.val] at hcell' HUN hlen
            obtain ⟨m, hm⟩ : ∃ m, L.length = m := ⟨_, rfl⟩
            rw [hm] at hcell' HUN
            have HM := Lib.hid hm
            have HRL := Lib.hid hrl
            have hkz : (k : Int) < (nrs.length : Int) := by omega
            have i0 : (0 : Int) ≤ (k : Int) := by omega
            have hl47 : w4.heap.size < w7.heap.size := by omega
            have q0 := Wb.at_ c2
            have q1 := Wb.at_ hcell'
            have q2 := Wb.at_ oc
            clear hwp hr hrow hrok hcell hm hrl hO7 hb6 hb7 c0 c1 k0 k1 k2
            go_wp2_with (fail)
            refine wp_region_plan [([0, 1, 2, 3, 4, 5, 6], some (7, false)), ([8], none)] (by kernel_rfl) (by kernel_rfl) ?_
            refine seg_act _ (by dsimp only [pick, ord.at_]) _ (by dsimp only [pick, ord.at_]) ?_
            repeat (go_big_quiet_step (fail))
            refine wpQuiet_nil ?_
            intro K1 h1 h2
            clear h2
            go_wp2_with (fail)
            refine (HUN.out w7.drew (Below.refl _ _).drew).mono ?_
            rintro e w8 ⟨g8, c8, rfl, how8, hb8⟩
            have HB8 := Lib.hid (show Below w7.heap.size w7 w8 from (Below.refl _ _).drew.trans hb8)
            have hs8 := HB8.out.size
            obtain ⟨M, hM⟩ : ∃ M, disown L o3 = M := ⟨_, rfl⟩
            have hMl : M.length ≤ 8 := by rw [← hM]; exact Nat.le_trans (List.length_filter_le _ _) hlen
            rw [hM] at how8 ⊢
            have HMM := Lib.hid hM
            have HUS := Lib.hid (fun (u : World) (hu : Below w8.heap.size w8 u) => set_y u w8.heap.size M.length c8 (some ⟨g8, 0, none⟩) M (how8.ls.below hu (Nat.le_refl _)) hu.size (by omega) (o1, 2, -1))
            obtain ⟨ml, hml⟩ : ∃ ml, M.length = ml := ⟨_, rfl⟩
            rw [hml] at HUS ⊢
            clear how8 hb8 hM hml
            go_wp2_with (fail)
            refine h1 _ _ HB8.out ?_
            clear h1
            refine seg_end _ (by dsimp only [pick, ord.at_]) ?_
            repeat (go_big_quiet_step (fail))
            refine wpQuiet_nil ?_
            refine NoPanic.normal ?_
            clear q0 q1 q2
            have HV8 := Lib.hid (HWP.out.below HB8.out (Nat.le_refl _))
            obtain ⟨⟨_, _, c8'⟩, _⟩ := isv3_cells HV8.out.var
            simp only at c8'
            have q0 := Wb.at_ c8'
            have hsb8 : sb < w8.heap.size := by omega
            have hpb8 : w6.heap.size < w8.heap.size := by omega
            go_wp2_with (fail)
            refine wp_region_plan [([0, 1, 2, 3, 4, 5], some (6, false)), ([7], some (8, true)), ([], none)] (by kernel_rfl) (by kernel_rfl) ?_
            refine seg_act _ (by dsimp only [pick, ord.at_]) _ (by dsimp only [pick, ord.at_]) ?_
            repeat (go_big_quiet_step (fail))
            refine wpQuiet_nil ?_
            intro K1 h1 h2
            clear h2
            go_wp2_with (fail)
            refine (HUS.out w8.drew (Below.refl _ _).drew).mono ?_
            rintro e w12 ⟨g12, c12, rfl, how12, hb12⟩
            have HB12 := Lib.hid (show Below w8.heap.size w8 w12 from (Below.refl _ _).drew.trans hb12)
            have hs12 := HB12.out.size
            obtain ⟨M2, hM2⟩ : ∃ M2, own (disown M o1) (o1, 2, -1) = M2 := ⟨_, rfl⟩
            simp only [hM2] at how12 ⊢
            have HO12 := Lib.hid how12
            have HM2 := Lib.hid hM2
            obtain ⟨m2, hm2⟩ : ∃ m2, M2.length = m2 := ⟨_, rfl⟩
            have HM2L := Lib.hid hm2
            rw [hm2]
            clear how12 hb12 hM2 hm2
            go_wp2_with (fail)
            refine h1 _ _ HB12.out ?_
            clear h1
            have HV12 := Lib.hid (HV8.out.below HB12.out (Nat.le_refl _))
            obtain ⟨sb2, cur2, es2, _, _, hcur2, _⟩ := HV12.out.srow hkN
            simp only [Option.some.injEq, Addr.mk.injEq, and_true, true_and] at es2
            subst es2
            have hf12 : w12.frozen? ⟨sb, k, none⟩ = false := frozen_of_row _ _ _ _ _ hcur2
            obtain ⟨b12, off12, e12, _, e12', _⟩ := HV12.out.ok.s.at_ HR.out
            have hk12 : ∃ y, w12.cell? ⟨sb, k, none⟩ = some y := ⟨_, by cases e12; simpa using e12'⟩
            obtain ⟨y12, hk12⟩ := hk12
            clear e12 e12' hcur2
            refine seg_write _ (by dsimp only [pick, ord.at_]) _ (by dsimp only [pick, ord.at_]) ?_
            repeat (go_big_quiet_step (fail))
            refine wpQuiet_nil ?_
            intro K4 h4
            go_wp2_with (fail)
            refine seg_end _ (by dsimp only [pick, ord.at_]) ?_
            refine wpQuiet_nil (NoPanic.normal ?_)
            clear q0 hk12 hf12
            have hput := HV12.out.put rfl hkN ⟨some ⟨g12, 0, none⟩, c12, M2⟩ (HO12.out.base (by show w5.heap.size ≤ w8.heap.size; omega))
            simp only [Rw3.val, HM2L.out] at hput
            have hset : (nrs.set k ⟨some ⟨g12, 0, none⟩, c12, M2⟩).length = nrs.length := List.length_set
            obtain ⟨wr, hwr⟩ : ∃ wr, w12.setCell ⟨sb, k, none⟩ (.slice (some ⟨g12, 0, none⟩) m2 c12) = wr := ⟨_, rfl⟩
            rw [hwr] at hput ⊢
            have HZ := Lib.hid (show LW w7 wr w5.heap.size w6.heap.size p.ver p.nodes (p.ss.set k M2) ⟨nver, nnA, nnc, nnodes, some ⟨sb, 0, none⟩, nsc, nrs.set k ⟨some ⟨g12, 0, none⟩, c12, M2⟩⟩ from
              ⟨hput, HLW.out.ver, HLW.out.nds, by
                show (nrs.set k _).map (·.l) = p.ss.set k M2
                rw [List.map_set, ← HLW.out.ss]; rfl, by
                rw [← hwr]
                exact ((Chg.of_below (HB8.out.trans (HB12.out.mono hs8))).mono (fun _ _ e => e.elim)).setCell (p := ⟨sb, k, none⟩) (fun _ => hsb) _⟩)
            have HMF := Lib.hid (show M2 = own (disown (disown l o3) o1) (o1, 2, -1) by rw [← HM2.out, ← HMM.out, ← HRL.out])
            clear hput hwr
            obtain ⟨⟨z0, z1, z2⟩, _⟩ := isv3_cells HZ.out.wp.var
            simp only [hset] at z2
            have hbr := HZ.out.chg.below (show w5.heap.size ≤ w7.heap.size by omega) (fun k h => h)
            have G10 := Lib.hid (blk_below hbr G7.out (by omega))
            have HB10 := Lib.hid (HB7.out.trans (hbr.mono (by omega)))
            have hpw := HZ.out.wp.lt
            have hgw := blk_lt G10.out
            have hl10 : w.heap.size + 1 < (wr).heap.size := hgw
            have HNX := Lib.hid (next_y (wr) ⟨nver, nnA, nnc, nnodes, some ⟨sb, 0, none⟩, nsc, nrs.set k ⟨some ⟨g12, 0, none⟩, c12, M2⟩⟩ ⟨by have := hok.lo; have := HZ.out.ver; simp only at this; show 0 ≤ nver; omega, by have := hok.hi; have := HZ.out.ver; simp only at this; show nver ≤ _; omega⟩)
            clear hbr
            simp only [PV.val, hset] at HNX
            go_wp2_with (fail)
            refine HNX.out.mono ?_
            rintro e w11 ⟨rfl, hb11⟩
            have hPL : (⟨nver, nnA, nnc, nnodes, some ⟨sb, 0, none⟩, nsc, nrs.set k ⟨some ⟨g12, 0, none⟩, c12, M2⟩⟩ : PV).pl = ⟨p.ver, p.nodes, p.ss.set k M2⟩ := by
              have h1 := HZ.out.ver
              have h2 := HZ.out.nds
              have h3 := HZ.out.ss
              simp only at h1 h2
              rw [h1, h2] at h3 ⊢
              unfold PV.pl at h3 ⊢
              simp only at h3 ⊢
              rw [h3]
            have HPLE := Lib.hid (show (nextV ⟨nver, nnA, nnc, nnodes, some ⟨sb, 0, none⟩, nsc, nrs.set k ⟨some ⟨g12, 0, none⟩, c12, M2⟩⟩).pl = donePl p (k : Int) o1 by rw [nextV_pl, hPL, HQ.out, HMF.out])
            have HERE := Lib.hid (show bumpErr (⟨nver, nnA, nnc, nnodes, some ⟨sb, 0, none⟩, nsc, nrs.set k ⟨some ⟨g12, 0, none⟩, c12, M2⟩⟩ : PV).pl = doneErr p (k : Int) o1 by rw [hPL, HE.out]; rfl)
            have HOKE := Lib.hid (fun (u : World) (C : Nat) (h : OP u C ⟨nver, nnA, nnc, nnodes, some ⟨sb, 0, none⟩, nsc, nrs.set k ⟨some ⟨g12, 0, none⟩, c12, M2⟩⟩) => nextV_op h)
            have HZB := Lib.hid (HZ.out.wp.below hb11 (Nat.le_refl _))
            have G11 := Lib.hid (blk_below hb11 G10.out hl10)
            have HB11 := Lib.hid (HB10.out.trans (hb11.mono (by omega)))
            rw [HERE.out]
            obtain ⟨V, hV⟩ : ∃ V, nextV ⟨nver, nnA, nnc, nnodes, some ⟨sb, 0, none⟩, nsc, nrs.set k ⟨some ⟨g12, 0, none⟩, c12, M2⟩⟩ = V := ⟨_, rfl⟩
            rw [hV] at HPLE HOKE ⊢
            obtain ⟨xver, xnA, xnc, xnodes, xsA, xsc, xrs⟩ := V
            have hl11 := blk_lt G11.out
            obtain ⟨⟨d0, d1, d2⟩, f0, f1, f2⟩ := isv3_cells G11.out
            have hpb := HZ.out.wp.le
            clear z0 z1 z2 hb11 hPL hV HERE
            go_wp2_with (fail)
            (try simp only [Exit.inBlock, Exit.then])
            refine bodyPost_ret (ret_cell rfl _ _ (w.heap.size + 1) 25 _ _ _ rfl (set3 G11.out) Tryz.underlying25 rfl sizeP) rfl ?_
            refine ⟨⟨xver, xnA, xnc, xnodes, xsA, xsc, xrs⟩, rfl, HPLE.out, ?_, below_set3 (g := w.heap.size + 1) HB11.out (by omega) _ _ _⟩
            exact HOKE.out _ _ ((HZB.out.apart (chg_set3 _ _ _) G11.out (by omega)).op (by omega))
          · have t3 : (o2 != 1) = true := by simpa using q3
            have HE := Lib.hid (show doneErr p (k : Int) n = 140 by rw [HDEF2.out, if_neg q3])
            have HQ := Lib.hid (show donePl p (k : Int) n = ⟨0, [], []⟩ by unfold donePl; rw [HE.out]; rfl)
            go_wp2_with (fail)
            (try simp only [Exit.inBlock, Exit.then])
            refine bodyPost_ret (ret_cell rfl _ _ (w.heap.size + 1) 25 _ _ _ rfl (set3 G5.out) Tryz.underlying25 rfl sizeP) rfl ?_
            rw [HE.out, HQ.out]
            exact RetPl2.none (below_set3 (g := w.heap.size + 1) HB5.out (by omega) _ _ _)
  · have hc : chk p = 50 := chk_bad hok
    rw [hc] at HCK
    have HC := Lib.hid hc
    clear hc
    go_enter Tryz.func43, Tryz.ntmps43
    go_wp2_with (fail)
    rw [HW2.out]
    go_wp2_with (fail)
    refine (HCK.out).mono ?_
    rintro e w3 ⟨rfl, hbc⟩
    have HBB3 := Lib.hid (HBB2.out.trans (hbc.mono hs2))
    have HB3 := Lib.hid (HB2.out.trans (hbc.mono (by omega)))
    have G3 := Lib.hid (blk_below hbc G2.out hl2)
    have GP3 := Lib.hid (blk_below hbc GP2.out (by omega))
    have hs3 := HBB3.out.size
    have hl3 : w.heap.size + 1 < w3.heap.size := by omega
    clear hbc d0 d1 d2 f0 f1 f2 e0 e1 e2
    obtain ⟨⟨d0, d1, d2⟩, f0, f1, f2⟩ := isv3_cells G3.out
    obtain ⟨⟨e0, e1, e2⟩, _⟩ := isv3_cells GP3.out
    have HE := Lib.hid (show doneErr p s n = 50 by unfold doneErr; rw [HC.out]; rfl)
    have HQ := Lib.hid (show donePl p s n = ⟨0, [], []⟩ by unfold donePl; rw [HE.out]; rfl)
    go_wp2_with (fail)
    (try simp only [Exit.inBlock, Exit.then])
    refine bodyPost_ret (ret_cell rfl _ _ (w.heap.size + 1) 25 _ _ _ rfl (set3 G3.out) Tryz.underlying25 rfl sizeP) rfl ?_
    rw [HE.out, HQ.out]
    exact RetPl2.none (below_set3 (g := w.heap.size + 1) HB3.out (by omega) _ _ _)
theorem rdone_y (w : World) (B : Nat) (v : PV) (h : PVok w B v) (hB : B ≤ w.heap.size) (s n : Int) :
    Calls Tryz.prog 43 #[v.val, .int .i64 s, .int .i64 n] w (RetPl w (donePl v.pl s n) (doneErr v.pl s n)) :=
  (rdone_sy w B v h hB s n).mono fun _ _ h => h.weak
end Go.Proofs.YtnjdondkggkfoaaGreat.pm
