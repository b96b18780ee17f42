/-
  Placements: the document's Remove.
-/
import Derived.Test.YtnjdondkggkfoaaGreatPmLw
namespace Go.Proofs.YtnjdondkggkfoaaGreat.pm
open Go.ChangeShapes Go.WideShapes Go.ChangeAt Go.RowKit Go.Shelf plain words ord mem

set_option maxHeartbeats 4000000 in
theorem rremove_sy (w : World) (B : Nat) (v : PV) (h : PVok w B v) (hB : B ≤ w.heap.size) (n : Int) :
    Calls Tryz.prog 41 #[v.val, .int .i64 n] w (RetPl2 w (removePl v.pl n) (removeErr v.pl n)) := by
  obtain ⟨w2, hw2⟩ : ∃ w2, (w.alloc (boxO v)).alloc (.cells #[.int .i64 0, .slice none 0 0, .slice none 0 0] 25) = w2 := ⟨_, rfl⟩
  have hb2 : Below w.heap.size w w2 := by rw [← hw2]; exact (below_al _ _).trans ((below_al _ _).mono (by simp))
  have gp : Boxed w2 w.heap.size v := by rw [← hw2]; exact alloc_old _ (alloc_new _ _)
  have g2 : IsV3 25 w2 (w.heap.size + 1) (.int .i64 0) (.slice none 0 0) (.slice none 0 0) := by rw [← hw2]; have := alloc_new (w.alloc (boxO v)) (.cells #[.int .i64 0, .slice none 0 0, .slice none 0 0] 25); rwa [World.size_alloc] at this
  have hl2 : w.heap.size + 1 < w2.heap.size := blk_lt g2
  have HCK := Lib.hid (rcheck_y w2 B v (h.below hb2 hB) (by omega))
  have HHS := Lib.hid (fun (u : World) (hu : Below w2.heap.size w2 u) (x : Int) => has_y u B v.nodes.length v.nc v.nA v.nodes ((h.below hb2 hB).below hu (by omega)).n (by have := hu.size; omega) h.len.2 x)
  have HBS := Lib.hid (fun (u : World) (hu : Below w2.heap.size w2 u) => rbusy_y u B v ((h.below hb2 hB).below hu (by omega)) (by have := hu.size; omega))
  have HCP := Lib.hid (fun (u : World) (hu : Below w2.heap.size w2 u) (hok : PlOk v.pl) => copied_y u B v ((h.below hb2 hB).below hu (by omega)) (by have := hu.size; omega) hok.sizes.1 hok.sizes.2.1 hok.sizes.2.2.1 hok.sizes.2.2.2.1 hok.sizes.2.2.2.2)
  have hpv : v.pl.ss.length = v.rs.length := by simp [PV.pl]
  have hpn : v.pl.nodes = v.nodes := rfl
  obtain ⟨p, hp⟩ : ∃ p, v.pl = p := ⟨_, rfl⟩
  rw [hp] at HCK HBS HCP hpv hpn ⊢
  have HPV := Lib.hid hp
  obtain ⟨ver, nA, nc, nodes, sA, sc, rs⟩ := v
  obtain ⟨N, hN⟩ : ∃ N, rs.length = N := ⟨_, rfl⟩
  obtain ⟨nl, hnl⟩ : ∃ nl, nodes.length = nl := ⟨_, rfl⟩
  have hpl : p.nodes.length = nl := by rw [hpn]; exact hnl
  simp only at hpn
  subst hpn
  simp only [PV.val, boxO, Boxed, hN, hnl] at hw2 gp HCK HHS HBS HCP hpv ⊢
  have HW2 := Lib.hid hw2
  have HB2 := Lib.hid hb2
  have HBB2 := Lib.hid (Below.refl w2.heap.size w2)
  have hs2 := HBB2.out.size
  have G2 := Lib.hid g2
  have GP2 := Lib.hid gp
  have HN := Lib.hid hN
  have HPL := Lib.hid hpl
  clear h hw2 hp hN hnl hpl hb2
  obtain ⟨⟨d0, d1, d2⟩, f0, f1, f2⟩ := isv3_cells g2
  obtain ⟨⟨e0, e1, e2⟩, _⟩ := isv3_cells gp
  clear g2 gp
  by_cases hok : PlOk p
  · have hc : chk p = 0 := chk_ok hok
    have hdef : removeErr p n = if has p.nodes n = false ∨ p.nodes.length ≤ 3 then 140 else if busy p.ss = true then 141 else bumpErr p := by unfold removeErr; rw [if_pos hc]
    rw [hc] at HCK
    have HDEF := Lib.hid hdef
    clear hc hdef
    go_enter Tryz.func41, Tryz.ntmps41
    go_wp2_with (fail)
    rw [HW2.out]
    go_wp2_with (fail)
    refine (HCK.out).mono ?_
    rintro e w3 ⟨rfl, hbc⟩
    have HBB3 := Lib.hid (HBB2.out.trans (hbc.mono hs2))
    have HB3 := Lib.hid (HB2.out.trans (hbc.mono (by omega)))
    have G3 := Lib.hid (blk_below hbc G2.out hl2)
    have GP3 := Lib.hid (blk_below hbc GP2.out (by omega))
    have hs3 := HBB3.out.size
    have hl3 : w.heap.size + 1 < w3.heap.size := by omega
    clear hbc d0 d1 d2 f0 f1 f2 e0 e1 e2
    obtain ⟨⟨d0, d1, d2⟩, f0, f1, f2⟩ := isv3_cells G3.out
    obtain ⟨⟨e0, e1, e2⟩, _⟩ := isv3_cells GP3.out
    go_wp2_with (fail)
    refine (HHS.out w3 HBB3.out n).mono ?_
    rintro e w4 ⟨rfl, hbc⟩
    have HBB4 := Lib.hid (HBB3.out.trans (hbc.mono hs3))
    have HB4 := Lib.hid (HB3.out.trans (hbc.mono (by omega)))
    have G4 := Lib.hid (blk_below hbc G3.out hl3)
    have GP4 := Lib.hid (blk_below hbc GP3.out (by omega))
    have hs4 := HBB4.out.size
    have hl4 : w.heap.size + 1 < w4.heap.size := by omega
    clear hbc d0 d1 d2 f0 f1 f2 e0 e1 e2
    obtain ⟨⟨d0, d1, d2⟩, f0, f1, f2⟩ := isv3_cells G4.out
    obtain ⟨⟨e0, e1, e2⟩, _⟩ := isv3_cells GP4.out
    cases hh : has p.nodes n with
    | false =>
      have HE := Lib.hid (show removeErr p n = 140 by rw [HDEF.out, if_pos (.inl hh)])
      have HQ := Lib.hid (show removePl p n = ⟨0, [], []⟩ by unfold removePl; rw [HE.out]; rfl)
      go_wp2_with (fail)
      (try simp only [Exit.inBlock, Exit.then])
      refine bodyPost_ret (ret_cell rfl _ _ (w.heap.size + 1) 25 _ _ _ rfl (set3 G4.out) Tryz.underlying25 rfl sizeP) rfl ?_
      rw [HE.out, HQ.out]
      exact RetPl2.none (below_set3 (g := w.heap.size + 1) HB4.out (by omega) _ _ _)
    | true =>
      by_cases hl3 : nl < 4
      · have t1 : decide ((nl : Int) < 4) = true := decide_eq_true (by omega)
        have HE := Lib.hid (show removeErr p n = 140 by rw [HDEF.out, if_pos (.inr (by have := HPL.out; omega))])
        have HQ := Lib.hid (show removePl p n = ⟨0, [], []⟩ by unfold removePl; rw [HE.out]; rfl)
        go_wp2_with (fail)
        (try simp only [Exit.inBlock, Exit.then])
        refine bodyPost_ret (ret_cell rfl _ _ (w.heap.size + 1) 25 _ _ _ rfl (set3 G4.out) Tryz.underlying25 rfl sizeP) rfl ?_
        rw [HE.out, HQ.out]
        exact RetPl2.none (below_set3 (g := w.heap.size + 1) HB4.out (by omega) _ _ _)
      · have t1 : decide ((nl : Int) < 4) = false := decide_eq_false (by omega)
        have HDEF2 := Lib.hid (show removeErr p n = if busy p.ss = true then 141 else bumpErr p by rw [HDEF.out, if_neg (by rw [hh]; have := HPL.out; simp; omega)])
        go_wp2_with (fail)
        refine (HBS.out w4 HBB4.out).mono ?_
        rintro e w5 ⟨rfl, hbc⟩
        have HBB5 := Lib.hid (HBB4.out.trans (hbc.mono hs4))
        have HB5 := Lib.hid (HB4.out.trans (hbc.mono (by omega)))
        have G5 := Lib.hid (blk_below hbc G4.out hl4)
        have GP5 := Lib.hid (blk_below hbc GP4.out (by omega))
        have hs5 := HBB5.out.size
        have hl5 : w.heap.size + 1 < w5.heap.size := by omega
        clear hbc d0 d1 d2 f0 f1 f2 e0 e1 e2
        obtain ⟨⟨d0, d1, d2⟩, f0, f1, f2⟩ := isv3_cells G5.out
        obtain ⟨⟨e0, e1, e2⟩, _⟩ := isv3_cells GP5.out
        cases hbu : busy p.ss with
        | true =>
          have HE := Lib.hid (show removeErr p n = 141 by rw [HDEF2.out, if_pos hbu])
          have HQ := Lib.hid (show removePl p n = ⟨0, [], []⟩ by unfold removePl; rw [HE.out]; rfl)
          go_wp2_with (fail)
          (try simp only [Exit.inBlock, Exit.then])
          refine bodyPost_ret (ret_cell rfl _ _ (w.heap.size + 1) 25 _ _ _ rfl (set3 G5.out) Tryz.underlying25 rfl sizeP) rfl ?_
          rw [HE.out, HQ.out]
          exact RetPl2.none (below_set3 (g := w.heap.size + 1) HB5.out (by omega) _ _ _)
        | false =>
          have HE := Lib.hid (show removeErr p n = bumpErr p by rw [HDEF2.out, if_neg (by rw [hbu]; simp)])
          have HMAY := Lib.hid (show MayRem p n from ⟨hok, hh, by have := HPL.out; omega, hok.calm hbu⟩)
          have HQ := Lib.hid (show removePl p n = bump ⟨p.ver, without p.nodes n, remAt (without p.nodes n) n p.ss p.ss.length⟩ by unfold removePl; rw [HE.out]; exact bump_of p _ _)
          go_wp2_with (fail)
          refine (HCP.out w5 HBB5.out hok).mono ?_
          rintro e w6 ⟨vn, rfl, hvn, hod, hb6⟩
          have HVN := Lib.hid hvn
          have HOD := Lib.hid hod
          obtain ⟨nver, nnA, nnc, nnodes, nsA, nsc, nrs⟩ := vn
          have hs6 := hb6.size
          have HB6 := Lib.hid (HB5.out.trans (hb6.mono (by omega)))
          have G6 := Lib.hid (blk_below hb6 G5.out hl5)
          clear hvn hod d0 d1 d2 f0 f1 f2 e0 e1 e2
          obtain ⟨w7, hw7⟩ : ∃ w7, w6.alloc (.cells #[.int .i64 nver, .slice nnA nnodes.length nnc, .slice nsA nrs.length nsc] 25) = w7 := ⟨_, rfl⟩
          have hb7 : Below w6.heap.size w6 w7 := by rw [← hw7]; exact below_al _ _
          have gv7 : IsV3 25 w7 w6.heap.size (.int .i64 nver) (.slice nnA nnodes.length nnc) (.slice nsA nrs.length nsc) := by rw [← hw7]; exact alloc_new _ _
          have G7 := Lib.hid (blk_below hb7 G6.out (by omega))
          have HB7 := Lib.hid (HB6.out.trans (hb7.mono HB6.out.size))
          have hs7 := hb7.size
          have hl7 : w.heap.size + 1 < w7.heap.size := by omega
          have hl7'' : w6.heap.size < w7.heap.size := blk_lt gv7
          have hwd := (HOD.out.below hb7 (Nat.le_refl _)).wd (pb := w6.heap.size) hs6 gv7
          have hss : nrs.map (·.l) = p.ss := congrArg Pl.ss HVN.out
          have hnd : nnodes = p.nodes := congrArg Pl.nodes HVN.out
          have hver : nver = p.ver := congrArg Pl.ver HVN.out
          have hNl : nrs.length = p.ss.length := by have := congrArg List.length hss; rwa [List.length_map] at this
          have HLW := Lib.hid (show LW w7 w7 w5.heap.size w6.heap.size p.ver p.nodes p.ss ⟨nver, nnA, nnc, nnodes, nsA, nsc, nrs⟩ from ⟨hwd.wp, hver, hnd, hss, Chg.refl _ _⟩)
          have HND := Lib.hid hnd
          have HNL := Lib.hid hNl
          obtain ⟨⟨c0, c1, c2⟩, k0, k1, k2⟩ := isv3_cells gv7
          clear hwd hss hnd hver hNl gv7 hb6 hb7
          have hwn := HLW.out.wp.n
          have HWT := Lib.hid (without_y w7 w7.heap.size nnodes.length nnc nnA nnodes hwn.ls (Nat.le_refl _) (by have := hok.nl; rw [HND.out]; omega) n)
          clear hwn
          go_wp2_with (fail)
          refine HWT.out.mono ?_
          rintro e w8 ⟨g8, cc8, rfl, hon8, hbn8⟩
          have hwp8 := (HLW.out.below hbn8).wp
          have hnew := hwp8.putNodes (hon8.base (show w5.heap.size ≤ w7.heap.size by omega))
          obtain ⟨ml, hml⟩ : ∃ ml, (without nnodes n).length = ml := ⟨_, rfl⟩
          obtain ⟨w9, hw9⟩ : ∃ w9, w8.setCell ⟨w6.heap.size, 1, none⟩ (.slice (some ⟨g8, 0, none⟩) ml cc8) = w9 := ⟨_, rfl⟩
          rw [hml, hw9] at hnew
          have hb89 : Chg (fun k => w5.heap.size ≤ k) w7 w9 := by
            rw [← hw9]
            exact ((Chg.of_below hbn8).mono (fun _ _ e => e.elim)).setCell (p := ⟨w6.heap.size, 1, none⟩) (fun _ => hs6) _
          have HLW9 := Lib.hid (show LW w9 w9 w5.heap.size w6.heap.size p.ver (without p.nodes n) p.ss ⟨nver, some ⟨g8, 0, none⟩, cc8, without nnodes n, nsA, nsc, nrs⟩ from
            ⟨hnew, HLW.out.ver, by rw [HND.out], HLW.out.ss, Chg.refl _ _⟩)
          have hB9 := hb89.below (show w5.heap.size ≤ w7.heap.size by omega) (fun k h => h)
          have G9 := Lib.hid (blk_below hB9 G7.out (by omega))
          have HB9 := Lib.hid (HB7.out.trans (hB9.mono (by omega)))
          have hs9 := hB9.size
          have hs8 := hbn8.size
          obtain ⟨⟨y0, y1, y2⟩, u0, u1, u2⟩ := isv3_cells hwp8.var
          have hl8 : w6.heap.size < w8.heap.size := by omega
          have HW9 := Lib.hid hw9
          have HML := Lib.hid hml
          clear hnew hb89 hB9 hon8 hbn8 c0 c1 c2 k0 k1 k2 hwp8
          rw [hml]
          clear hml hw9
          go_wp2_with (fail)
          rw [HW9.out]
          clear y0 y1 y2 u0 u1 u2
          have HNL9 := HNL
          obtain ⟨S, hS⟩ : ∃ S, p.ss.length = S := ⟨_, rfl⟩
          have hS1 := hok.some_
          have hS8 := hok.few
          rw [hS] at HQ hS1 hS8
          have HS := Lib.hid hS
          clear hS
          go_loopg [7] S (fun gg s7 wr => ∃ i : Nat, s7 = .int .i64 i ∧ i ≤ S ∧ S - i ≤ gg ∧ Aside (∃ v, LW w9 wr w5.heap.size w6.heap.size p.ver (without p.nodes n) (remAt (without p.nodes n) n p.ss i) v))
          case atStart => exact ⟨0, rfl, by omega, by omega, ⟨_, HLW9.out⟩⟩
          case round =>
            obtain ⟨i, rfl, hi, hg, HR⟩ := hrel
            clear HLW9
            obtain ⟨v, hv⟩ := HR.out
            have hsr := hv.chg.size
            have hvl := hv.len
            rw [remAt_len, HS.out] at hvl
            have HF := Lib.hid (HMAY.out.half i)
            have HRI := Lib.hid (show Rises v.pl.ss by rw [hv.ss]; exact HF.out.rises HMAY.out.calm)
            by_cases hlt : i < S
            · have hltz : (i : Int) < (S : Int) := by omega
              obtain ⟨l, hl⟩ : ∃ l, p.ss[i]? = some l := ⟨_, List.getElem?_eq_getElem (by rw [HS.out]; exact hlt)⟩
              have hX : (remAt (without p.nodes n) n p.ss i)[i]? = some l := by rw [HF.out.high i (Nat.le_refl _)]; exact hl
              have hat : at_ (remAt (without p.nodes n) n p.ss i) i = l := by unfold at_; rw [hX]; rfl
              have hcl := HMAY.out.calm l (List.mem_of_getElem? hl)
              obtain ⟨r, hr, hrl⟩ := hv.row hX
              obtain ⟨sb, hsA, hsb⟩ := hv.sA (by rw [remAt_len, HS.out]; omega)
              have hvx : v.pl.ss[i]? = some l := by rw [hv.ss]; exact hX
              have HOW := Lib.hid ((shardAt_in hvx) ▸ rowns_y wr wr.heap.size v hv.wp.ok (Nat.le_refl _) HRI.out (i : Int) n)
              have HLE := Lib.hid (fun (u : World) (hu : Below wr.heap.size wr u) => rleast_y u wr.heap.size v (hv.wp.ok.below hu (Nat.le_refl _)) hu.size HRI.out i l hvx)
              have HMV := Lib.hid (fun (u : World) (hu : Below wr.heap.size wr u) (t : Int) => move_y u w5.heap.size w6.heap.size sb v (hv.wp.below hu (Nat.le_refl _)) hsA i r hr (by rw [hrl, hcl.three]; omega) n t)
              have HV := Lib.hid hv
              have HVX := Lib.hid hvx
              have HXI := Lib.hid hX
              have HAT := Lib.hid hat
              have HCL := Lib.hid hcl
              have HSB := Lib.hid hsb
              have HRL := Lib.hid hrl
              have HLI := Lib.hid (List.mem_of_getElem? hl)
              have hvd := hv.nds
              obtain ⟨vver, vnA, vnc, vnodes, vsA, vsc, vrs⟩ := v
              simp only at hvl hvd
              have HVD := Lib.hid hvd
              obtain ⟨⟨z0, z1, z2⟩, _⟩ := isv3_cells hv.wp.var
              rw [hvl] at z2
              simp only [PV.val, hvl] at HOW HLE HMV
              have HVL := Lib.hid hvl
              have HVC := Lib.hid (fun (u : World) (hu : Below wr.heap.size wr u) => (show u.cell? ⟨w6.heap.size, 0, none⟩ = some (.int .i64 vver) ∧ u.cell? ⟨w6.heap.size, 1, none⟩ = some (.slice vnA vnodes.length vnc) ∧ u.cell? ⟨w6.heap.size, 2, none⟩ = some (.slice vsA S vsc) from by
                obtain ⟨a0, a1, a2⟩ := (isv3_cells (hv.wp.below hu (Nat.le_refl _)).var).1
                simp only [hvl] at a2
                exact ⟨a0, a1, a2⟩))
              have hpwr : w6.heap.size < wr.heap.size := hv.wp.lt
              clear hv hl hX hat hcl hr hrl hsA hsb hvx HR hvd hvl
              go_wp2_with (fail)
              refine HOW.out.mono ?_
              rintro e wh ⟨rfl, hbh⟩
              have HBH := Lib.hid hbh
              have hsh := hbh.size
              clear hbh z0 z1 z2
              cases hh2 : holds l n with
              | false =>
                have HZ := Lib.hid (HV.out.below HBH.out)
                have HST := Lib.hid (show remAt (without p.nodes n) n p.ss (i + 1) = remAt (without p.nodes n) n p.ss i by show remStep _ _ _ _ = _; unfold remStep; rw [HAT.out, if_neg (by rw [hh2]; simp)])
                go_wp2_with (fail)
                go_roundg (S - (i + 1))
                case measure => omega
                case rel => exact ⟨i + 1, by go_num, by omega, by omega, ⟨_, by rw [HST.out]; exact HZ.out⟩⟩
              | true =>
                obtain ⟨z0, z1, z2⟩ := HVC.out wh HBH.out
                have hph : w6.heap.size < wh.heap.size := by omega
                go_wp2_with (fail)
                have q0 := Wb.at_ z0
                have q1 := Wb.at_ z1
                have q2 := Wb.at_ z2
                refine wp_region_plan [([0, 1, 2, 3, 4], some (5, false)), ([], some (6, true)), ([], none)] (by kernel_rfl) (by kernel_rfl) ?_
                refine seg_act _ (by dsimp only [pick, ord.at_]) _ (by dsimp only [pick, ord.at_]) ?_
                repeat (go_big_quiet_step (fail))
                refine wpQuiet_nil ?_
                intro K1 h1 h2
                clear h2
                go_wp2_with (fail)
                refine (HLE.out wh.drew HBH.out.drew).mono ?_
                rintro e wl ⟨rfl, hbl⟩
                have HBL0 := Lib.hid (show Below wh.heap.size wh wl from (Below.refl _ _).drew.trans hbl)
                have HBL := Lib.hid (HBH.out.trans (HBL0.out.mono hsh))
                clear hbl
                go_wp2_with (fail)
                refine h1 _ _ HBL0.out ?_
                clear h1
                refine seg_write _ (by dsimp only [pick, ord.at_]) _ (by dsimp only [pick, ord.at_]) ?_
                repeat (go_big_quiet_step (fail))
                refine wpQuiet_nil ?_
                intro K4 h4
                go_wp2_with (fail)
                refine (HMV.out wl HBL.out _).mono ?_
                rintro e wt hret
                obtain ⟨rfl, v2, hv2, _⟩ := (HV.out.below HBL.out).put HSB.out hret
                have hst : (remAt (without p.nodes n) n p.ss i).set i (giveY r.l n (least vnodes (⟨vver, vnA, vnc, vnodes, vsA, vsc, vrs⟩ : PV).pl.ss l)) = remAt (without p.nodes n) n p.ss (i + 1) := by
                  show _ = remStep _ _ _ _
                  unfold remStep
                  rw [HAT.out, if_pos hh2, HRL.out, HV.out.ss, HVD.out]
                  obtain ⟨a1, a2⟩ := HMAY.out.least HLI.out hh2 (remAt (without p.nodes n) n p.ss i)
                  rw [give_eq (HCL.out.not a2) (fun e => by have := (List.mem_filter.1 a1).2; rw [← e] at this; simp at this)]
                rw [hst] at hv2
                have HV2 := Lib.hid hv2
                clear hret hv2 hst q0 q1 q2 z0 z1 z2
                go_wp2_with (fail)
                refine seg_end _ (by dsimp only [pick, ord.at_]) ?_
                refine wpQuiet_nil (NoPanic.normal ?_)
                go_wp2_with (fail)
                go_roundg (S - (i + 1))
                case measure => omega
                case rel => exact ⟨i + 1, by go_num, by omega, by omega, ⟨_, HV2.out⟩⟩
            · obtain hie : i = S := by omega
              subst hie
              have hltz : ¬ ((i : Nat) : Int) < ((i : Nat) : Int) := by omega
              have HZ := Lib.hid hv
              obtain ⟨vver, vnA, vnc, vnodes, vsA, vsc, vrs⟩ := v
              simp only at hvl
              subst hvl
              clear HR hv
              obtain ⟨⟨z0, z1, z2⟩, _⟩ := isv3_cells HZ.out.wp.var
              have hbr := HZ.out.chg.below (show w5.heap.size ≤ w9.heap.size by omega) (fun k h => h)
              have G10 := Lib.hid (blk_below hbr G9.out (by omega))
              have HB10 := Lib.hid (HB9.out.trans (hbr.mono (by omega)))
              have hpw := HZ.out.wp.lt
              have hgw := blk_lt G10.out
              have hl10 : w.heap.size + 1 < (wr).heap.size := hgw
              have HNX := Lib.hid (next_y (wr) ⟨vver, vnA, vnc, vnodes, vsA, vsc, vrs⟩ ⟨by have := hok.lo; have := HZ.out.ver; simp only at this; show 0 ≤ vver; omega, by have := hok.hi; have := HZ.out.ver; simp only at this; show vver ≤ _; omega⟩)
              clear hbr
              go_wp2_with (fail)
              refine HNX.out.mono ?_
              rintro e w11 ⟨rfl, hb11⟩
              have hPL : (⟨vver, vnA, vnc, vnodes, vsA, vsc, vrs⟩ : PV).pl = ⟨p.ver, without p.nodes n, remAt (without p.nodes n) n p.ss vrs.length⟩ := by
                have h1 := HZ.out.ver
                have h2 := HZ.out.nds
                have h3 := HZ.out.ss
                simp only at h1 h2
                rw [h1, h2] at h3 ⊢
                unfold PV.pl at h3 ⊢
                simp only at h3 ⊢
                rw [h3]
              have HPLE := Lib.hid (show (nextV ⟨vver, vnA, vnc, vnodes, vsA, vsc, vrs⟩).pl = removePl p n by rw [nextV_pl, hPL, HQ.out])
              have HERE := Lib.hid (show bumpErr (⟨vver, vnA, vnc, vnodes, vsA, vsc, vrs⟩ : PV).pl = removeErr p n by rw [hPL, HE.out]; rfl)
              have HOKE := Lib.hid (fun (u : World) (C : Nat) (h : OP u C ⟨vver, vnA, vnc, vnodes, vsA, vsc, vrs⟩) => nextV_op h)
              have HZB := Lib.hid (HZ.out.wp.below hb11 (Nat.le_refl _))
              have G11 := Lib.hid (blk_below hb11 G10.out hl10)
              have HB11 := Lib.hid (HB10.out.trans (hb11.mono (by omega)))
              rw [HERE.out]
              obtain ⟨V, hV⟩ : ∃ V, nextV ⟨vver, vnA, vnc, vnodes, vsA, vsc, vrs⟩ = V := ⟨_, rfl⟩
              rw [hV] at HPLE HOKE ⊢
              obtain ⟨xver, xnA, xnc, xnodes, xsA, xsc, xrs⟩ := V
              have hl11 := blk_lt G11.out
              obtain ⟨⟨d0, d1, d2⟩, f0, f1, f2⟩ := isv3_cells G11.out
              have hpb := HZ.out.wp.le
              clear z0 z1 z2 hb11 hPL hV HERE
              go_wp2_with (fail)
              (try simp only [Exit.inBlock, Exit.then])
              refine bodyPost_ret (ret_cell rfl _ _ (w.heap.size + 1) 25 _ _ _ rfl (set3 G11.out) Tryz.underlying25 rfl sizeP) rfl ?_
              refine ⟨⟨xver, xnA, xnc, xnodes, xsA, xsc, xrs⟩, rfl, HPLE.out, ?_, below_set3 (g := w.heap.size + 1) HB11.out (by omega) _ _ _⟩
              exact HOKE.out _ _ ((HZB.out.apart (chg_set3 _ _ _) G11.out (by omega)).op (by omega))
  · have hc : chk p = 50 := chk_bad hok
    rw [hc] at HCK
    have HC := Lib.hid hc
    clear hc
    go_enter Tryz.func41, Tryz.ntmps41
    go_wp2_with (fail)
    rw [HW2.out]
    go_wp2_with (fail)
    refine (HCK.out).mono ?_
    rintro e w3 ⟨rfl, hbc⟩
    have HBB3 := Lib.hid (HBB2.out.trans (hbc.mono hs2))
    have HB3 := Lib.hid (HB2.out.trans (hbc.mono (by omega)))
    have G3 := Lib.hid (blk_below hbc G2.out hl2)
    have GP3 := Lib.hid (blk_below hbc GP2.out (by omega))
    have hs3 := HBB3.out.size
    have hl3 : w.heap.size + 1 < w3.heap.size := by omega
    clear hbc d0 d1 d2 f0 f1 f2 e0 e1 e2
    obtain ⟨⟨d0, d1, d2⟩, f0, f1, f2⟩ := isv3_cells G3.out
    obtain ⟨⟨e0, e1, e2⟩, _⟩ := isv3_cells GP3.out
    have HE := Lib.hid (show removeErr p n = 50 by unfold removeErr; rw [HC.out]; rfl)
    have HQ := Lib.hid (show removePl p n = ⟨0, [], []⟩ by unfold removePl; rw [HE.out]; rfl)
    go_wp2_with (fail)
    (try simp only [Exit.inBlock, Exit.then])
    refine bodyPost_ret (ret_cell rfl _ _ (w.heap.size + 1) 25 _ _ _ rfl (set3 G3.out) Tryz.underlying25 rfl sizeP) rfl ?_
    rw [HE.out, HQ.out]
    exact RetPl2.none (below_set3 (g := w.heap.size + 1) HB3.out (by omega) _ _ _)
theorem rremove_y (w : World) (B : Nat) (v : PV) (h : PVok w B v) (hB : B ≤ w.heap.size) (n : Int) :
    Calls Tryz.prog 41 #[v.val, .int .i64 n] w (RetPl w (removePl v.pl n) (removeErr v.pl n)) :=
  (rremove_sy w B v h hB n).mono fun _ _ h => h.weak
end Go.Proofs.YtnjdondkggkfoaaGreat.pm
