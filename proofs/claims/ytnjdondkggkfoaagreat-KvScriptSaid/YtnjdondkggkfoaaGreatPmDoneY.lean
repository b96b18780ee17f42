/-
  Placements: the document's Add.
-/
import Derived.Test.YtnjdondkggkfoaaGreatPmLw
namespace Go.Proofs.YtnjdondkggkfoaaGreat.pm
open Go.ChangeShapes Go.WideShapes Go.ChangeAt Go.RowKit Go.Shelf plain words ord mem

set_option maxHeartbeats 4000000 in
theorem radd_sy (w : World) (B : Nat) (v : PV) (h : PVok w B v) (hB : B ≤ w.heap.size) (n : Int) :
    Calls Tryz.prog 40 #[v.val, .int .i64 n] w (RetPl2 w (addPl v.pl n) (addErr v.pl n)) := by
  obtain ⟨w2, hw2⟩ : ∃ w2, (w.alloc (boxO v)).alloc (.cells #[.int .i64 0, .slice none 0 0, .slice none 0 0] 25) = w2 := ⟨_, rfl⟩
  have hb2 : Below w.heap.size w w2 := by rw [← hw2]; exact (below_al _ _).trans ((below_al _ _).mono (by simp))
  have gp : Boxed w2 w.heap.size v := by rw [← hw2]; exact alloc_old _ (alloc_new _ _)
  have g2 : IsV3 25 w2 (w.heap.size + 1) (.int .i64 0) (.slice none 0 0) (.slice none 0 0) := by rw [← hw2]; have := alloc_new (w.alloc (boxO v)) (.cells #[.int .i64 0, .slice none 0 0, .slice none 0 0] 25); rwa [World.size_alloc] at this
  have hl2 : w.heap.size + 1 < w2.heap.size := blk_lt g2
  have HCK := Lib.hid (rcheck_y w2 B v (h.below hb2 hB) (by omega))
  have HHS := Lib.hid (fun (u : World) (hu : Below w2.heap.size w2 u) (x : Int) => has_y u B v.nodes.length v.nc v.nA v.nodes ((h.below hb2 hB).below hu (by omega)).n (by have := hu.size; omega) h.len.2 x)
  have HBS := Lib.hid (fun (u : World) (hu : Below w2.heap.size w2 u) => rbusy_y u B v ((h.below hb2 hB).below hu (by omega)) (by have := hu.size; omega))
  have HCP := Lib.hid (fun (u : World) (hu : Below w2.heap.size w2 u) (hok : PlOk v.pl) => copied_y u B v ((h.below hb2 hB).below hu (by omega)) (by have := hu.size; omega) hok.sizes.1 hok.sizes.2.1 hok.sizes.2.2.1 hok.sizes.2.2.2.1 hok.sizes.2.2.2.2)
  have hpv : v.pl.ss.length = v.rs.length := by simp [PV.pl]
  have hpn : v.pl.nodes = v.nodes := rfl
  obtain ⟨p, hp⟩ : ∃ p, v.pl = p := ⟨_, rfl⟩
  rw [hp] at HCK HBS HCP hpv hpn ⊢
  have HPV := Lib.hid hp
  obtain ⟨ver, nA, nc, nodes, sA, sc, rs⟩ := v
  obtain ⟨N, hN⟩ : ∃ N, rs.length = N := ⟨_, rfl⟩
  obtain ⟨nl, hnl⟩ : ∃ nl, nodes.length = nl := ⟨_, rfl⟩
  have hpl : p.nodes.length = nl := by rw [hpn]; exact hnl
  simp only at hpn
  subst hpn
  simp only [PV.val, boxO, Boxed, hN, hnl] at hw2 gp HCK HHS HBS HCP hpv ⊢
  have HW2 := Lib.hid hw2
  have HB2 := Lib.hid hb2
  have HBB2 := Lib.hid (Below.refl w2.heap.size w2)
  have hs2 := HBB2.out.size
  have G2 := Lib.hid g2
  have GP2 := Lib.hid gp
  have HN := Lib.hid hN
  have HPL := Lib.hid hpl
  clear h hw2 hp hN hnl hpl hb2
  obtain ⟨⟨d0, d1, d2⟩, f0, f1, f2⟩ := isv3_cells g2
  obtain ⟨⟨e0, e1, e2⟩, _⟩ := isv3_cells gp
  clear g2 gp
  by_cases hok : PlOk p
  · have hc : chk p = 0 := chk_ok hok
    have hdef : addErr p n = if n < 0 ∨ 8 ≤ n ∨ has p.nodes n = true then 140 else if busy p.ss = true then 141 else bumpErr p := by unfold addErr; rw [if_pos hc]
    rw [hc] at HCK
    have HDEF := Lib.hid hdef
    clear hc hdef
    go_enter Tryz.func40, Tryz.ntmps40
    go_wp2_with (fail)
    rw [HW2.out]
    go_wp2_with (fail)
    refine (HCK.out).mono ?_
    rintro e w3 ⟨rfl, hbc⟩
    have HBB3 := Lib.hid (HBB2.out.trans (hbc.mono hs2))
    have HB3 := Lib.hid (HB2.out.trans (hbc.mono (by omega)))
    have G3 := Lib.hid (blk_below hbc G2.out hl2)
    have GP3 := Lib.hid (blk_below hbc GP2.out (by omega))
    have hs3 := HBB3.out.size
    have hl3 : w.heap.size + 1 < w3.heap.size := by omega
    clear hbc d0 d1 d2 f0 f1 f2 e0 e1 e2
    obtain ⟨⟨d0, d1, d2⟩, f0, f1, f2⟩ := isv3_cells G3.out
    obtain ⟨⟨e0, e1, e2⟩, _⟩ := isv3_cells GP3.out
    go_wp2_with (fail)
    refine (node_y w3 n).mono ?_
    rintro e w14 ⟨rfl, hbc⟩
    have HBB14 := Lib.hid (HBB3.out.trans (hbc.mono hs3))
    have HB14 := Lib.hid (HB3.out.trans (hbc.mono (by omega)))
    have G14 := Lib.hid (blk_below hbc G3.out hl3)
    have GP14 := Lib.hid (blk_below hbc GP3.out (by omega))
    have hs14 := HBB14.out.size
    have hl14 : w.heap.size + 1 < w14.heap.size := by omega
    clear hbc d0 d1 d2 f0 f1 f2 e0 e1 e2
    obtain ⟨⟨d0, d1, d2⟩, f0, f1, f2⟩ := isv3_cells G14.out
    obtain ⟨⟨e0, e1, e2⟩, _⟩ := isv3_cells GP14.out
    cases hnb : isNodeB n with
    | false =>
      have HE := Lib.hid (show addErr p n = 140 by rw [HDEF.out, if_pos]; rcases isNodeB_false.1 hnb with h | h; exact .inl h; exact .inr (.inl h))
      have HQ := Lib.hid (show addPl p n = ⟨0, [], []⟩ by unfold addPl; rw [HE.out]; rfl)
      go_wp2_with (fail)
      (try simp only [Exit.inBlock, Exit.then])
      refine bodyPost_ret (ret_cell rfl _ _ (w.heap.size + 1) 25 _ _ _ rfl (set3 G14.out) Tryz.underlying25 rfl sizeP) rfl ?_
      rw [HE.out, HQ.out]
      exact RetPl2.none (below_set3 (g := w.heap.size + 1) HB14.out (by omega) _ _ _)
    | true =>
      go_wp2_with (fail)
      refine (HHS.out w14 HBB14.out n).mono ?_
      rintro e w15 ⟨rfl, hbc⟩
      have HBB15 := Lib.hid (HBB14.out.trans (hbc.mono hs14))
      have HB15 := Lib.hid (HB14.out.trans (hbc.mono (by omega)))
      have G15 := Lib.hid (blk_below hbc G14.out hl14)
      have GP15 := Lib.hid (blk_below hbc GP14.out (by omega))
      have hs15 := HBB15.out.size
      have hl15 : w.heap.size + 1 < w15.heap.size := by omega
      clear hbc d0 d1 d2 f0 f1 f2 e0 e1 e2
      obtain ⟨⟨d0, d1, d2⟩, f0, f1, f2⟩ := isv3_cells G15.out
      obtain ⟨⟨e0, e1, e2⟩, _⟩ := isv3_cells GP15.out
      cases hh3 : has p.nodes n with
      | true =>
        have HE := Lib.hid (show addErr p n = 140 by rw [HDEF.out, if_pos (.inr (.inr hh3))])
        have HQ := Lib.hid (show addPl p n = ⟨0, [], []⟩ by unfold addPl; rw [HE.out]; rfl)
        go_wp2_with (fail)
        (try simp only [Exit.inBlock, Exit.then])
        refine bodyPost_ret (ret_cell rfl _ _ (w.heap.size + 1) 25 _ _ _ rfl (set3 G15.out) Tryz.underlying25 rfl sizeP) rfl ?_
        rw [HE.out, HQ.out]
        exact RetPl2.none (below_set3 (g := w.heap.size + 1) HB15.out (by omega) _ _ _)
      | false =>
        have hnd0 : isNode n := (isNodeB_iff n).1 hnb
        have HDEF2 := Lib.hid (show addErr p n = if busy p.ss = true then 141 else bumpErr p by rw [HDEF.out, if_neg (by rw [hh3]; have := hnd0.1; have := hnd0.2; simp; omega)])
        go_wp2_with (fail)
        refine (HBS.out w15 HBB15.out).mono ?_
        rintro e w5 ⟨rfl, hbc⟩
        have HBB5 := Lib.hid (HBB15.out.trans (hbc.mono hs15))
        have HB5 := Lib.hid (HB15.out.trans (hbc.mono (by omega)))
        have G5 := Lib.hid (blk_below hbc G15.out hl15)
        have GP5 := Lib.hid (blk_below hbc GP15.out (by omega))
        have hs5 := HBB5.out.size
        have hl5 : w.heap.size + 1 < w5.heap.size := by omega
        clear hbc d0 d1 d2 f0 f1 f2 e0 e1 e2
        obtain ⟨⟨d0, d1, d2⟩, f0, f1, f2⟩ := isv3_cells G5.out
        obtain ⟨⟨e0, e1, e2⟩, _⟩ := isv3_cells GP5.out
        cases hbu : busy p.ss with
        | true =>
          have HE := Lib.hid (show addErr p n = 141 by rw [HDEF2.out, if_pos hbu])
          have HQ := Lib.hid (show addPl p n = ⟨0, [], []⟩ by unfold addPl; rw [HE.out]; rfl)
          go_wp2_with (fail)
          (try simp only [Exit.inBlock, Exit.then])
          refine bodyPost_ret (ret_cell rfl _ _ (w.heap.size + 1) 25 _ _ _ rfl (set3 G5.out) Tryz.underlying25 rfl sizeP) rfl ?_
          rw [HE.out, HQ.out]
          exact RetPl2.none (below_set3 (g := w.heap.size + 1) HB5.out (by omega) _ _ _)
        | false =>
          have HE := Lib.hid (show addErr p n = bumpErr p by rw [HDEF2.out, if_neg (by rw [hbu]; simp)])
          have HMAY := Lib.hid (show MayAdd p n from ⟨hok, hnd0, hh3, hok.calm hbu⟩)
          have HQ := Lib.hid (show addPl p n = bump ⟨p.ver, addNodes p n, addGo (addNodes p n) n (addPart p n) (addPart p n) p.ss⟩ by unfold addPl; rw [HE.out]; exact bump_of p _ _)
          go_wp2_with (fail)
          refine (HCP.out w5 HBB5.out hok).mono ?_
          rintro e w6 ⟨vn, rfl, hvn, hod, hb6⟩
          have HVN := Lib.hid hvn
          have HOD := Lib.hid hod
          obtain ⟨nver, nnA, nnc, nnodes, nsA, nsc, nrs⟩ := vn
          have hs6 := hb6.size
          have HB6 := Lib.hid (HB5.out.trans (hb6.mono (by omega)))
          have G6 := Lib.hid (blk_below hb6 G5.out hl5)
          clear hvn hod d0 d1 d2 f0 f1 f2 e0 e1 e2
          obtain ⟨w7, hw7⟩ : ∃ w7, w6.alloc (.cells #[.int .i64 nver, .slice nnA nnodes.length nnc, .slice nsA nrs.length nsc] 25) = w7 := ⟨_, rfl⟩
          have hb7 : Below w6.heap.size w6 w7 := by rw [← hw7]; exact below_al _ _
          have gv7 : IsV3 25 w7 w6.heap.size (.int .i64 nver) (.slice nnA nnodes.length nnc) (.slice nsA nrs.length nsc) := by rw [← hw7]; exact alloc_new _ _
          have G7 := Lib.hid (blk_below hb7 G6.out (by omega))
          have HB7 := Lib.hid (HB6.out.trans (hb7.mono HB6.out.size))
          have hs7 := hb7.size
          have hl7 : w.heap.size + 1 < w7.heap.size := by omega
          have hl7'' : w6.heap.size < w7.heap.size := blk_lt gv7
          have hwd := (HOD.out.below hb7 (Nat.le_refl _)).wd (pb := w6.heap.size) hs6 gv7
          have hss : nrs.map (·.l) = p.ss := congrArg Pl.ss HVN.out
          have hnd : nnodes = p.nodes := congrArg Pl.nodes HVN.out
          have hver : nver = p.ver := congrArg Pl.ver HVN.out
          have hNl : nrs.length = p.ss.length := by have := congrArg List.length hss; rwa [List.length_map] at this
          have HLW := Lib.hid (show LW w7 w7 w5.heap.size w6.heap.size p.ver p.nodes p.ss ⟨nver, nnA, nnc, nnodes, nsA, nsc, nrs⟩ from ⟨hwd.wp, hver, hnd, hss, Chg.refl _ _⟩)
          have HND := Lib.hid hnd
          have HNL := Lib.hid hNl
          obtain ⟨⟨c0, c1, c2⟩, k0, k1, k2⟩ := isv3_cells gv7
          clear hwd hss hnd hver hNl gv7 hb6 hb7
          have hwn := HLW.out.wp.n
          have HWI := Lib.hid (with_y w7 w7.heap.size nnodes.length nnc nnA nnodes hwn.ls (Nat.le_refl _) (by have := hok.nl; rw [HND.out]; omega) n)
          clear hwn
          go_wp2_with (fail)
          refine HWI.out.mono ?_
          rintro e w8 ⟨g8, cc8, rfl, hon8, hbn8⟩
          have hwp8 := (HLW.out.below hbn8).wp
          have hnew := hwp8.putNodes (hon8.base (show w5.heap.size ≤ w7.heap.size by omega))
          have hwith : with_ nnodes n 8 = addNodes p n := by
            have hm := hok.nodes.many
            rw [HND.out]
            exact with_srt (l := p.nodes) hok.nodes.each (nodes_nodup hok.nodes.rise) (by omega) hnd0 hh3
          obtain ⟨NN, hNN⟩ : ∃ NN, with_ nnodes n 8 = NN := ⟨_, rfl⟩
          rw [hNN] at hwith hon8 hnew ⊢
          obtain ⟨ml, hml⟩ : ∃ ml, NN.length = ml := ⟨_, rfl⟩
          obtain ⟨w9, hw9⟩ : ∃ w9, w8.setCell ⟨w6.heap.size, 1, none⟩ (.slice (some ⟨g8, 0, none⟩) ml cc8) = w9 := ⟨_, rfl⟩
          rw [hml, hw9] at hnew
          have hb89 : Chg (fun k => w5.heap.size ≤ k) w7 w9 := by
            rw [← hw9]
            exact ((Chg.of_below hbn8).mono (fun _ _ e => e.elim)).setCell (p := ⟨w6.heap.size, 1, none⟩) (fun _ => hs6) _
          have HLW9 := Lib.hid (show LW w9 w9 w5.heap.size w6.heap.size p.ver (addNodes p n) p.ss ⟨nver, some ⟨g8, 0, none⟩, cc8, NN, nsA, nsc, nrs⟩ from
            ⟨hnew, HLW.out.ver, hwith, HLW.out.ss, Chg.refl _ _⟩)
          have hB9 := hb89.below (show w5.heap.size ≤ w7.heap.size by omega) (fun k h => h)
          have G9 := Lib.hid (blk_below hB9 G7.out (by omega))
          have HB9 := Lib.hid (HB7.out.trans (hB9.mono (by omega)))
          have hs9 := hB9.size
          have hs8 := hbn8.size
          obtain ⟨⟨y0, y1, y2⟩, u0, u1, u2⟩ := isv3_cells hwp8.var
          have hl8 : w6.heap.size < w8.heap.size := by omega
          have HW9 := Lib.hid hw9
          have hml2 : (addNodes p n).length = ml := by rw [← hwith]; exact hml
          have HML2 := Lib.hid hml2
          have hm4 : ml = p.nodes.length + 1 := by rw [← hml2]; exact HMAY.out.nodes.2.2
          have hm3 : 4 ≤ ml := by have := hok.nodes.many; omega
          have hm9 : ml ≤ 9 := by have := hok.nl; omega
          clear hm4 hml2
          clear hnew hb89 hB9 hon8 hbn8 c0 c1 c2 k0 k1 k2 hwp8 hwith hNN
          rw [hml]
          clear hml hw9
          go_wp2_with (fail)
          rw [HW9.out]
          clear y0 y1 y2 u0 u1 u2
          obtain ⟨S, hS⟩ : ∃ S, p.ss.length = S := ⟨_, rfl⟩
          have hS1 := hok.some_
          have hS8 := hok.few
          rw [hS] at hS1 hS8
          have HS := Lib.hid hS
          obtain ⟨P, hP⟩ : ∃ P, addPart p n = P := ⟨_, rfl⟩
          rw [hP] at HQ
          obtain ⟨FIN, hFIN⟩ : ∃ FIN, addGo (addNodes p n) n P P p.ss = FIN := ⟨_, rfl⟩
          rw [hFIN] at HQ
          have hpart : ((3 * (S : Int)).tdiv (ml : Int)) = (P : Int) := by
            rw [← hP]
            unfold addPart
            rw [HML2.out, hS, Int.tdiv_eq_ediv_of_nonneg (by omega)]
            simp
          have hP24 : P ≤ 24 := by
            have : P = 3 * p.ss.length / (addNodes p n).length := hP.symm
            rw [this]
            exact Nat.le_trans (Nat.div_le_self _ _) (by omega)
          have hnz : ¬ ((ml : Int) = 0) := by omega
          have HPA := Lib.hid hpart
          have HIN0 := Lib.hid (AddInv.start p.ss n)
          have HFN := Lib.hid hFIN
          clear hS hP hFIN
          go_loopg [7, 8] P (fun gg s7 s8 wr => Aside (∃ (gf : Nat) (v : PV) (X : List (List O)), LW w9 wr w5.heap.size w6.heap.size p.ver (addNodes p n) X v ∧ AddInv p.ss n X ∧ P ≤ gf + load X n ∧ addGo (addNodes p n) n P gf X = FIN ∧ P - load X n ≤ gg))
          case atStart => exact ⟨P, _, _, HLW9.out, HIN0.out, Nat.le_add_right _ _, HFN.out, Nat.sub_le _ _⟩
          case round =>
            obtain ⟨gf, v, X, hv, hin, hfu, hgo, hgg⟩ := hrel.out
            clear HLW9 hrel
            have hsr := hv.chg.size
            have hvl := hv.len
            rw [hin.len, HS.out] at hvl
            have HRI := Lib.hid (show Rises v.pl.ss by rw [hv.ss]; exact hin.rises HMAY.out.calm)
            have HLD := Lib.hid (fun (u : World) (hu : Below wr.heap.size wr u) => rload_y u wr.heap.size v (hv.wp.ok.below hu (Nat.le_refl _)) hu.size HRI.out n)
            have HGV := Lib.hid (fun (u : World) (hu : Below wr.heap.size wr u) => rgiver_y u wr.heap.size v (hv.wp.ok.below hu (Nat.le_refl _)) hu.size HRI.out n)
            rw [hv.ss] at HLD HGV
            rw [hv.nds] at HGV
            obtain ⟨sb, hsA, hsb⟩ := hv.sA (by rw [hin.len, HS.out]; omega)
            have HSA := Lib.hid hsA
            have HSB := Lib.hid hsb
            have HV := Lib.hid hv
            have HIN := Lib.hid hin
            have HFU := Lib.hid hfu
            have HGO := Lib.hid hgo
            have hvd : v.nodes.length = ml := by rw [hv.nds]; exact HML2.out
            obtain ⟨vver, vnA, vnc, vnodes, vsA, vsc, vrs⟩ := v
            simp only at hvl hvd
            obtain ⟨⟨z0, z1, z2⟩, _⟩ := isv3_cells hv.wp.var
            rw [hvl] at z2
            rw [hvd] at z1
            simp only [PV.val, hvl, hvd] at HLD HGV
            have HVC := Lib.hid (fun (u : World) (hu : Below wr.heap.size wr u) => (show u.cell? ⟨w6.heap.size, 0, none⟩ = some (.int .i64 vver) ∧ u.cell? ⟨w6.heap.size, 1, none⟩ = some (.slice vnA ml vnc) ∧ u.cell? ⟨w6.heap.size, 2, none⟩ = some (.slice vsA S vsc) from by
              obtain ⟨a0, a1, a2⟩ := (isv3_cells (hv.wp.below hu (Nat.le_refl _)).var).1
              simp only [hvl, hvd] at a1 a2
              exact ⟨a0, a1, a2⟩))
            have hpwr : w6.heap.size < wr.heap.size := hv.wp.lt
            have HVL := Lib.hid hvl
            obtain ⟨ld, hld⟩ : ∃ ld, load X n = ld := ⟨_, rfl⟩
            rw [hld] at HLD hgg
            have HLDE := Lib.hid hld
            clear hv hin hfu hgo hsA hsb hvd hvl hld
            have hpart := HPA.out
            go_wp2_with (fail)
            have q0 := Wb.at_ z0
            have q1 := Wb.at_ z1
            have q2 := Wb.at_ z2
            refine wp_region_plan [([0, 1, 3, 4, 5, 6, 7, 8, 9, 10], some (2, false)), ([11], none)] (by kernel_rfl) (by kernel_rfl) ?_
            refine seg_act _ (by dsimp only [pick, ord.at_]) _ (by dsimp only [pick, ord.at_]) ?_
            repeat (go_big_quiet_step (fail))
            refine wpQuiet_nil ?_
            intro K1 h1 h2
            clear h2
            go_wp2_with (fail)
            refine (HLD.out wr.drew (Below.refl _ _).drew).mono ?_
            rintro e wh ⟨rfl, hbh⟩
            have HBH := Lib.hid (show Below wr.heap.size wr wh from (Below.refl _ _).drew.trans hbh)
            have hsh := HBH.out.size
            clear hbh z0 z1 z2
            go_wp2_with (fail)
            refine h1 _ _ HBH.out ?_
            clear h1
            by_cases hlt : ld < P
            · have hltz : decide ((ld : Int) < (P : Int)) = true := decide_eq_true (by omega)
              refine seg_end _ (by dsimp only [pick, ord.at_]) ?_
              repeat (go_big_quiet_step (fail))
              refine wpQuiet_nil ?_
              refine NoPanic.normal ?_
              obtain ⟨z0, z1, z2⟩ := HVC.out wh HBH.out
              have hpw : w6.heap.size < wh.heap.size := by omega
              clear q0 q1 q2 hpart
              rcases givers_spec X n (nodes := addNodes p n) (fun x hx => (HMAY.out.nodes.1.each x hx).1) with ⟨eg, hall⟩ | ⟨f, k, l, eg, hf0, hfm, hXk, hh1, hh2⟩
              · have HFE := Lib.hid eg
                have hgv := HGV.out wh HBH.out
                rw [eg] at hgv
                have HGV2 := Lib.hid hgv
                clear hgv eg hall
                go_wp2_with (fail)
                refine HGV2.out.mono ?_
                rintro e wl ⟨rfl, hbl⟩
                have HBL := Lib.hid (HBH.out.trans (hbl.mono hsh))
                clear hbl z0 z1 z2
                have HZ := Lib.hid (HV.out.below HBL.out)
                have HFIN := Lib.hid (show X = FIN by rw [← HGO.out, addGo_stop (.inr (by rw [HFE.out]; decide))])
                have hsl := HBL.out.size
                clear hlt
                obtain ⟨z0, z1, z2⟩ := HVC.out (wl) HBL.out
                have hbr := HZ.out.chg.below (show w5.heap.size ≤ w9.heap.size by omega) (fun k h => h)
                have G10 := Lib.hid (blk_below hbr G9.out (by omega))
                have HB10 := Lib.hid (HB9.out.trans (hbr.mono (by omega)))
                have hpw := HZ.out.wp.lt
                have hgw := blk_lt G10.out
                have hl10 : w.heap.size + 1 < (wl).heap.size := hgw
                have HNX := Lib.hid (next_y (wl) ⟨vver, vnA, vnc, vnodes, vsA, vsc, vrs⟩ ⟨by have := hok.lo; have := HZ.out.ver; simp only at this; show 0 ≤ vver; omega, by have := hok.hi; have := HZ.out.ver; simp only at this; show vver ≤ _; omega⟩)
                clear hbr
                have hvl2 := HVL.out
                have hvd2 : vnodes.length = ml := by have := HV.out.nds; simp only at this; rw [this]; exact HML2.out
                simp only [PV.val] at HNX
                rw [hvl2, hvd2] at HNX
                clear hvl2 hvd2
                go_wp2_with (fail)
                refine HNX.out.mono ?_
                rintro e w11 ⟨rfl, hb11⟩
                have hPL : (⟨vver, vnA, vnc, vnodes, vsA, vsc, vrs⟩ : PV).pl = ⟨p.ver, addNodes p n, FIN⟩ := by
                  have h1 := HZ.out.ver
                  have h2 := HZ.out.nds
                  have h3 := HZ.out.ss
                  simp only at h1 h2
                  rw [h1, h2] at h3 ⊢
                  unfold PV.pl at h3 ⊢
                  simp only at h3 ⊢
                  rw [h3]; rw [HFIN.out]
                have HPLE := Lib.hid (show (nextV ⟨vver, vnA, vnc, vnodes, vsA, vsc, vrs⟩).pl = addPl p n by rw [nextV_pl, hPL, HQ.out])
                have HERE := Lib.hid (show bumpErr (⟨vver, vnA, vnc, vnodes, vsA, vsc, vrs⟩ : PV).pl = addErr p n by rw [hPL, HE.out]; rfl)
                have HOKE := Lib.hid (fun (u : World) (C : Nat) (h : OP u C ⟨vver, vnA, vnc, vnodes, vsA, vsc, vrs⟩) => nextV_op h)
                have HZB := Lib.hid (HZ.out.wp.below hb11 (Nat.le_refl _))
                have G11 := Lib.hid (blk_below hb11 G10.out hl10)
                have HB11 := Lib.hid (HB10.out.trans (hb11.mono (by omega)))
                rw [HERE.out]
                obtain ⟨V, hV⟩ : ∃ V, nextV ⟨vver, vnA, vnc, vnodes, vsA, vsc, vrs⟩ = V := ⟨_, rfl⟩
                rw [hV] at HPLE HOKE ⊢
                obtain ⟨xver, xnA, xnc, xnodes, xsA, xsc, xrs⟩ := V
                have hl11 := blk_lt G11.out
                obtain ⟨⟨d0, d1, d2⟩, f0, f1, f2⟩ := isv3_cells G11.out
                have hpb := HZ.out.wp.le
                clear z0 z1 z2 hb11 hPL hV HERE
                go_wp2_with (fail)
                (try simp only [Exit.inBlock, Exit.then])
                refine bodyPost_ret (ret_cell rfl _ _ (w.heap.size + 1) 25 _ _ _ rfl (set3 G11.out) Tryz.underlying25 rfl sizeP) rfl ?_
                refine ⟨⟨xver, xnA, xnc, xnodes, xsA, xsc, xrs⟩, rfl, HPLE.out, ?_, below_set3 (g := w.heap.size + 1) HB11.out (by omega) _ _ _⟩
                exact HOKE.out _ _ ((HZB.out.apart (chg_set3 _ _ _) G11.out (by omega)).op (by omega))
              · have hgv := HGV.out wh HBH.out
                rw [eg] at hgv
                have HGV2 := Lib.hid hgv
                have HEG := Lib.hid eg
                have HXK := Lib.hid hXk
                have HH1 := Lib.hid hh1
                have HH2 := Lib.hid hh2
                clear hgv eg hXk hh1 hh2 hfm
                have hf1 : ¬ (f < 0) := by omega
                go_wp2_with (fail)
                refine HGV2.out.mono ?_
                rintro e wl ⟨rfl, hbl⟩
                have HBL := Lib.hid (HBH.out.trans (hbl.mono hsh))
                clear hbl z0 z1 z2
                obtain ⟨z0, z1, z2⟩ := HVC.out wl HBL.out
                have hpl2 : w6.heap.size < wl.heap.size := by have := HBL.out.size; omega
                obtain ⟨r, hr, hrl⟩ := HV.out.row HXK.out
                have hss1 := HIN.out.fresh HXK.out HH2.out
                have hcl := HMAY.out.calm l (List.mem_of_getElem? hss1)
                have hmv := move_y wl w5.heap.size w6.heap.size sb _ (HV.out.wp.below HBL.out (Nat.le_refl _)) HSA.out k r hr (by rw [hrl, hcl.three]; omega) f n
                have hge : giveY r.l f n = give l f n := by
                  rw [hrl]
                  exact give_eq (hcl.not HH2.out) (fun e => by have h1 := HH1.out; have h2 := HH2.out; rw [e, h2] at h1; cases h1)
                rw [hge] at hmv
                have HMV := Lib.hid hmv
                simp only [PV.val] at HMV
                have hvl2 := HVL.out
                have hvd2 : vnodes.length = ml := by have := HV.out.nds; simp only at this; rw [this]; exact HML2.out
                rw [hvl2, hvd2] at HMV
                clear hr hss1 hcl hmv hge hvl2 hvd2
                go_wp2_with (fail)
                refine HMV.out.mono ?_
                rintro e wt hret
                obtain ⟨rfl, v2, hv2, _⟩ := (HV.out.below HBL.out).put HSB.out hret
                obtain ⟨g', hg', hgo2⟩ := addGo_step (by rw [HLDE.out]; exact hlt) HFU.out HEG.out HXK.out
                have hl2 : load (X.set k (give l f n)) n = ld + 1 := by rw [load_give HXK.out HH2.out, HLDE.out]
                have HV2 := Lib.hid hv2
                have HI2 := Lib.hid (HIN.out.step HXK.out HH2.out HH1.out)
                have HGO2 := Lib.hid (show addGo (addNodes p n) n P g' (X.set k (give l f n)) = FIN by rw [← hgo2]; exact HGO.out)
                have HFU2 := Lib.hid (show P ≤ g' + load (X.set k (give l f n)) n by rw [hl2]; have := HFU.out; rw [HLDE.out] at this; omega)
                have HL2 := Lib.hid hl2
                clear hret hv2 hgo2 hl2 hg' z0 z1 z2 hrl
                go_wp2_with (fail)
                go_roundg (P - (ld + 1))
                case measure => omega
                case rel => exact ⟨g', v2, _, HV2.out, HI2.out, HFU2.out, HGO2.out, by rw [HL2.out]; omega⟩
            · have hltz : decide ((ld : Int) < (P : Int)) = false := decide_eq_false (by omega)
              refine seg_end _ (by dsimp only [pick, ord.at_]) ?_
              repeat (go_big_quiet_step (fail))
              refine wpQuiet_nil ?_
              refine NoPanic.normal ?_
              clear q0 q1 q2 hpart
              have HZ := Lib.hid (HV.out.below HBH.out)
              have HFIN := Lib.hid (show X = FIN by rw [← HGO.out, addGo_stop (.inl (by rw [HLDE.out]; exact hlt))])
              have hsl := HBH.out.size
              clear hlt
              obtain ⟨z0, z1, z2⟩ := HVC.out (wh) HBH.out
              have hbr := HZ.out.chg.below (show w5.heap.size ≤ w9.heap.size by omega) (fun k h => h)
              have G10 := Lib.hid (blk_below hbr G9.out (by omega))
              have HB10 := Lib.hid (HB9.out.trans (hbr.mono (by omega)))
              have hpw := HZ.out.wp.lt
              have hgw := blk_lt G10.out
              have hl10 : w.heap.size + 1 < (wh).heap.size := hgw
              have HNX := Lib.hid (next_y (wh) ⟨vver, vnA, vnc, vnodes, vsA, vsc, vrs⟩ ⟨by have := hok.lo; have := HZ.out.ver; simp only at this; show 0 ≤ vver; omega, by have := hok.hi; have := HZ.out.ver; simp only at this; show vver ≤ _; omega⟩)
              clear hbr
              have hvl2 := HVL.out
              have hvd2 : vnodes.length = ml := by have := HV.out.nds; simp only at this; rw [this]; exact HML2.out
              simp only [PV.val] at HNX
              rw [hvl2, hvd2] at HNX
              clear hvl2 hvd2
              go_wp2_with (fail)
              refine HNX.out.mono ?_
              rintro e w11 ⟨rfl, hb11⟩
              have hPL : (⟨vver, vnA, vnc, vnodes, vsA, vsc, vrs⟩ : PV).pl = ⟨p.ver, addNodes p n, FIN⟩ := by
                have h1 := HZ.out.ver
                have h2 := HZ.out.nds
                have h3 := HZ.out.ss
                simp only at h1 h2
                rw [h1, h2] at h3 ⊢
                unfold PV.pl at h3 ⊢
                simp only at h3 ⊢
                rw [h3]; rw [HFIN.out]
              have HPLE := Lib.hid (show (nextV ⟨vver, vnA, vnc, vnodes, vsA, vsc, vrs⟩).pl = addPl p n by rw [nextV_pl, hPL, HQ.out])
              have HERE := Lib.hid (show bumpErr (⟨vver, vnA, vnc, vnodes, vsA, vsc, vrs⟩ : PV).pl = addErr p n by rw [hPL, HE.out]; rfl)
              have HOKE := Lib.hid (fun (u : World) (C : Nat) (h : OP u C ⟨vver, vnA, vnc, vnodes, vsA, vsc, vrs⟩) => nextV_op h)
              have HZB := Lib.hid (HZ.out.wp.below hb11 (Nat.le_refl _))
              have G11 := Lib.hid (blk_below hb11 G10.out hl10)
              have HB11 := Lib.hid (HB10.out.trans (hb11.mono (by omega)))
              rw [HERE.out]
              obtain ⟨V, hV⟩ : ∃ V, nextV ⟨vver, vnA, vnc, vnodes, vsA, vsc, vrs⟩ = V := ⟨_, rfl⟩
              rw [hV] at HPLE HOKE ⊢
              obtain ⟨xver, xnA, xnc, xnodes, xsA, xsc, xrs⟩ := V
              have hl11 := blk_lt G11.out
              obtain ⟨⟨d0, d1, d2⟩, f0, f1, f2⟩ := isv3_cells G11.out
              have hpb := HZ.out.wp.le
              clear z0 z1 z2 hb11 hPL hV HERE
              go_wp2_with (fail)
              (try simp only [Exit.inBlock, Exit.then])
              refine bodyPost_ret (ret_cell rfl _ _ (w.heap.size + 1) 25 _ _ _ rfl (set3 G11.out) Tryz.underlying25 rfl sizeP) rfl ?_
              refine ⟨⟨xver, xnA, xnc, xnodes, xsA, xsc, xrs⟩, rfl, HPLE.out, ?_, below_set3 (g := w.heap.size + 1) HB11.out (by omega) _ _ _⟩
              exact HOKE.out _ _ ((HZB.out.apart (chg_set3 _ _ _) G11.out (by omega)).op (by omega))
  · have hc : chk p = 50 := chk_bad hok
    rw [hc] at HCK
    have HC := Lib.hid hc
    clear hc
    go_enter Tryz.func40, Tryz.ntmps40
    go_wp2_with (fail)
    rw [HW2.out]
    go_wp2_with (fail)
    refine (HCK.out).mono ?_
    rintro e w3 ⟨rfl, hbc⟩
    have HBB3 := Lib.hid (HBB2.out.trans (hbc.mono hs2))
    have HB3 := Lib.hid (HB2.out.trans (hbc.mono (by omega)))
    have G3 := Lib.hid (blk_below hbc G2.out hl2)
    have GP3 := Lib.hid (blk_below hbc GP2.out (by omega))
    have hs3 := HBB3.out.size
    have hl3 : w.heap.size + 1 < w3.heap.size := by omega
    clear hbc d0 d1 d2 f0 f1 f2 e0 e1 e2
    obtain ⟨⟨d0, d1, d2⟩, f0, f1, f2⟩ := isv3_cells G3.out
    obtain ⟨⟨e0, e1, e2⟩, _⟩ := isv3_cells GP3.out
    have HE := Lib.hid (show addErr p n = 50 by unfold addErr; rw [HC.out]; rfl)
    have HQ := Lib.hid (show addPl p n = ⟨0, [], []⟩ by unfold addPl; rw [HE.out]; rfl)
    go_wp2_with (fail)
    (try simp only [Exit.inBlock, Exit.then])
    refine bodyPost_ret (ret_cell rfl _ _ (w.heap.size + 1) 25 _ _ _ rfl (set3 G3.out) Tryz.underlying25 rfl sizeP) rfl ?_
    rw [HE.out, HQ.out]
    exact RetPl2.none (below_set3 (g := w.heap.size + 1) HB3.out (by omega) _ _ _)
end Go.Proofs.YtnjdondkggkfoaaGreat.pm
/-
  Placements: the document's Remove.
-/
namespace Go.Proofs.YtnjdondkggkfoaaGreat.pm
open Go.ChangeShapes Go.WideShapes Go.ChangeAt Go.RowKit Go.Shelf plain words ord mem

set_option maxHeartbeats 4000000 in
theorem rremove_sy (w : World) (B : Nat) (v : PV) (h : PVok w B v) (hB : B ≤ w.heap.size) (n : Int) :
    Calls Tryz.prog 41 #[v.val, .int .i64 n] w (RetPl2 w (removePl v.pl n) (removeErr v.pl n)) := by
  obtain ⟨w2, hw2⟩ : ∃ w2, (w.alloc (boxO v)).alloc (.cells #[.int .i64 0, .slice none 0 0, .slice none 0 0] 25) = w2 := ⟨_, rfl⟩
  have hb2 : Below w.heap.size w w2 := by rw [← hw2]; exact (below_al _ _).trans ((below_al _ _).mono (by simp))
  have gp : Boxed w2 w.heap.size v := by rw [← hw2]; exact alloc_old _ (alloc_new _ _)
  have g2 : IsV3 25 w2 (w.heap.size + 1) (.int .i64 0) (.slice none 0 0) (.slice none 0 0) := by rw [← hw2]; have := alloc_new (w.alloc (boxO v)) (.cells #[.int .i64 0, .slice none 0 0, .slice none 0 0] 25); rwa [World.size_alloc] at this
  have hl2 : w.heap.size + 1 < w2.heap.size := blk_lt g2
  have HCK := Lib.hid (rcheck_y w2 B v (h.below hb2 hB) (by omega))
  have HHS := Lib.hid (fun (u : World) (hu : Below w2.heap.size w2 u) (x : Int) => has_y u B v.nodes.length v.nc v.nA v.nodes ((h.below hb2 hB).below hu (by omega)).n (by have := hu.size; omega) h.len.2 x)
  have HBS := Lib.hid (fun (u : World) (hu : Below w2.heap.size w2 u) => rbusy_y u B v ((h.below hb2 hB).below hu (by omega)) (by have := hu.size; omega))
  have HCP := Lib.hid (fun (u : World) (hu : Below w2.heap.size w2 u) (hok : PlOk v.pl) => copied_y u B v ((h.below hb2 hB).below hu (by omega)) (by have := hu.size; omega) hok.sizes.1 hok.sizes.2.1 hok.sizes.2.2.1 hok.sizes.2.2.2.1 hok.sizes.2.2.2.2)
  have hpv : v.pl.ss.length = v.rs.length := by simp [PV.pl]
  have hpn : v.pl.nodes = v.nodes := rfl
  obtain ⟨p, hp⟩ : ∃ p, v.pl = p := ⟨_, rfl⟩
  rw [hp] at HCK HBS HCP hpv hpn ⊢
  have HPV := Lib.hid hp
  obtain ⟨ver, nA, nc, nodes, sA, sc, rs⟩ := v
  obtain ⟨N, hN⟩ : ∃ N, rs.length = N := ⟨_, rfl⟩
  obtain ⟨nl, hnl⟩ : ∃ nl, nodes.length = nl := ⟨_, rfl⟩
  have hpl : p.nodes.length = nl := by rw [hpn]; exact hnl
  simp only at hpn
  subst hpn
  simp only [PV.val, boxO, Boxed, hN, hnl] at hw2 gp HCK HHS HBS HCP hpv ⊢
  have HW2 := Lib.hid hw2
  have HB2 := Lib.hid hb2
  have HBB2 := Lib.hid (Below.refl w2.heap.size w2)
  have hs2 := HBB2.out.size
  have G2 := Lib.hid g2
  have GP2 := Lib.hid gp
  have HN := Lib.hid hN
  have HPL := Lib.hid hpl
  clear h hw2 hp hN hnl hpl hb2
  obtain ⟨⟨d0, d1, d2⟩, f0, f1, f2⟩ := isv3_cells g2
  obtain ⟨⟨e0, e1, e2⟩, _⟩ := isv3_cells gp
  clear g2 gp
  by_cases hok : PlOk p
  · have hc : chk p = 0 := chk_ok hok
    have hdef : removeErr p n = if has p.nodes n = false ∨ p.nodes.length ≤ 3 then 140 else if busy p.ss = true then 141 else bumpErr p := by unfold removeErr; rw [if_pos hc]
    rw [hc] at HCK
    have HDEF := Lib.hid hdef
    clear hc hdef
    go_enter Tryz.func41, Tryz.ntmps41
    go_wp2_with (fail)
    rw [HW2.out]
    go_wp2_with (fail)
    refine (HCK.out).mono ?_
    rintro e w3 ⟨rfl, hbc⟩
    have HBB3 := Lib.hid (HBB2.out.trans (hbc.mono hs2))
    have HB3 := Lib.hid (HB2.out.trans (hbc.mono (by omega)))
    have G3 := Lib.hid (blk_below hbc G2.out hl2)
    have GP3 := Lib.hid (blk_below hbc GP2.out (by omega))
    have hs3 := HBB3.out.size
    have hl3 : w.heap.size + 1 < w3.heap.size := by omega
    clear hbc d0 d1 d2 f0 f1 f2 e0 e1 e2
    obtain ⟨⟨d0, d1, d2⟩, f0, f1, f2⟩ := isv3_cells G3.out
    obtain ⟨⟨e0, e1, e2⟩, _⟩ := isv3_cells GP3.out
    go_wp2_with (fail)
    refine (HHS.out w3 HBB3.out n).mono ?_
    rintro e w4 ⟨rfl, hbc⟩
    have HBB4 := Lib.hid (HBB3.out.trans (hbc.mono hs3))
    have HB4 := Lib.hid (HB3.out.trans (hbc.mono (by omega)))
    have G4 := Lib.hid (blk_below hbc G3.out hl3)
    have GP4 := Lib.hid (blk_below hbc GP3.out (by omega))
    have hs4 := HBB4.out.size
    have hl4 : w.heap.size + 1 < w4.heap.size := by omega
    clear hbc d0 d1 d2 f0 f1 f2 e0 e1 e2
    obtain ⟨⟨d0, d1, d2⟩, f0, f1, f2⟩ := isv3_cells G4.out
    obtain ⟨⟨e0, e1, e2⟩, _⟩ := isv3_cells GP4.out
    cases hh : has p.nodes n with
    | false =>
      have HE := Lib.hid (show removeErr p n = 140 by rw [HDEF.out, if_pos (.inl hh)])
      have HQ := Lib.hid (show removePl p n = ⟨0, [], []⟩ by unfold removePl; rw [HE.out]; rfl)
      go_wp2_with (fail)
      (try simp only [Exit.inBlock, Exit.then])
      refine bodyPost_ret (ret_cell rfl _ _ (w.heap.size + 1) 25 _ _ _ rfl (set3 G4.out) Tryz.underlying25 rfl sizeP) rfl ?_
      rw [HE.out, HQ.out]
      exact RetPl2.none (below_set3 (g := w.heap.size + 1) HB4.out (by omega) _ _ _)
    | true =>
      by_cases hl3 : nl < 4
      · have t1 : decide ((nl : Int) < 4) = true := decide_eq_true (by omega)
        have HE := Lib.hid (show removeErr p n = 140 by rw [HDEF.out, if_pos (.inr (by have := HPL.out; omega))])
        have HQ := Lib.hid (show removePl p n = ⟨0, [], []⟩ by unfold removePl; rw [HE.out]; rfl)
        go_wp2_with (fail)
        (try simp only [Exit.inBlock, Exit.then])
        refine bodyPost_ret (ret_cell rfl _ _ (w.heap.size + 1) 25 _ _ _ rfl (set3 G4.out) Tryz.underlying25 rfl sizeP) rfl ?_
        rw [HE.out, HQ.out]
        exact RetPl2.none (below_set3 (g := w.heap.size + 1) HB4.out (by omega) _ _ _)
      · have t1 : decide ((nl : Int) < 4) = false := decide_eq_false (by omega)
        have HDEF2 := Lib.hid (show removeErr p n = if busy p.ss = true then 141 else bumpErr p by rw [HDEF.out, if_neg (by rw [hh]; have := HPL.out; simp; omega)])
        go_wp2_with (fail)
        refine (HBS.out w4 HBB4.out).mono ?_
        rintro e w5 ⟨rfl, hbc⟩
        have HBB5 := Lib.hid (HBB4.out.trans (hbc.mono hs4))
        have HB5 := Lib.hid (HB4.out.trans (hbc.mono (by omega)))
        have G5 := Lib.hid (blk_below hbc G4.out hl4)
        have GP5 := Lib.hid (blk_below hbc GP4.out (by omega))
        have hs5 := HBB5.out.size
        have hl5 : w.heap.size + 1 < w5.heap.size := by omega
        clear hbc d0 d1 d2 f0 f1 f2 e0 e1 e2
        obtain ⟨⟨d0, d1, d2⟩, f0, f1, f2⟩ := isv3_cells G5.out
        obtain ⟨⟨e0, e1, e2⟩, _⟩ := isv3_cells GP5.out
        cases hbu : busy p.ss with
        | true =>
          have HE := Lib.hid (show removeErr p n = 141 by rw [HDEF2.out, if_pos hbu])
          have HQ := Lib.hid (show removePl p n = ⟨0, [], []⟩ by unfold removePl; rw [HE.out]; rfl)
          go_wp2_with (fail)
          (try simp only [Exit.inBlock, Exit.then])
          refine bodyPost_ret (ret_cell rfl _ _ (w.heap.size + 1) 25 _ _ _ rfl (set3 G5.out) Tryz.underlying25 rfl sizeP) rfl ?_
          rw [HE.out, HQ.out]
          exact RetPl2.none (below_set3 (g := w.heap.size + 1) HB5.out (by omega) _ _ _)
        | false =>
          have HE := Lib.hid (show removeErr p n = bumpErr p by rw [HDEF2.out, if_neg (by rw [hbu]; simp)])
          have HMAY := Lib.hid (show MayRem p n from ⟨hok, hh, by have := HPL.out; omega, hok.calm hbu⟩)
          have HQ := Lib.hid (show removePl p n = bump ⟨p.ver, without p.nodes n, remAt (without p.nodes n) n p.ss p.ss.length⟩ by unfold removePl; rw [HE.out]; exact bump_of p _ _)
          go_wp2_with (fail)
          refine (HCP.out w5 HBB5.out hok).mono ?_
          rintro e w6 ⟨vn, rfl, hvn, hod, hb6⟩
          have HVN := Lib.hid hvn
          have HOD := Lib.hid hod
          obtain ⟨nver, nnA, nnc, nnodes, nsA, nsc, nrs⟩ := vn
          have hs6 := hb6.size
          have HB6 := Lib.hid (HB5.out.trans (hb6.mono (by omega)))
          have G6 := Lib.hid (blk_below hb6 G5.out hl5)
          clear hvn hod d0 d1 d2 f0 f1 f2 e0 e1 e2
          obtain ⟨w7, hw7⟩ : ∃ w7, w6.alloc (.cells #[.int .i64 nver, .slice nnA nnodes.length nnc, .slice nsA nrs.length nsc] 25) = w7 := ⟨_, rfl⟩
          have hb7 : Below w6.heap.size w6 w7 := by rw [← hw7]; exact below_al _ _
          have gv7 : IsV3 25 w7 w6.heap.size (.int .i64 nver) (.slice nnA nnodes.length nnc) (.slice nsA nrs.length nsc) := by rw [← hw7]; exact alloc_new _ _
          have G7 := Lib.hid (blk_below hb7 G6.out (by omega))
          have HB7 := Lib.hid (HB6.out.trans (hb7.mono HB6.out.size))
          have hs7 := hb7.size
          have hl7 : w.heap.size + 1 < w7.heap.size := by omega
          have hl7'' : w6.heap.size < w7.heap.size := blk_lt gv7
          have hwd := (HOD.out.below hb7 (Nat.le_refl _)).wd (pb := w6.heap.size) hs6 gv7
          have hss : nrs.map (·.l) = p.ss := congrArg Pl.ss HVN.out
          have hnd : nnodes = p.nodes := congrArg Pl.nodes HVN.out
          have hver : nver = p.ver := congrArg Pl.ver HVN.out
          have hNl : nrs.length = p.ss.length := by have := congrArg List.length hss; rwa [List.length_map] at this
          have HLW := Lib.hid (show LW w7 w7 w5.heap.size w6.heap.size p.ver p.nodes p.ss ⟨nver, nnA, nnc, nnodes, nsA, nsc, nrs⟩ from ⟨hwd.wp, hver, hnd, hss, Chg.refl _ _⟩)
          have HND := Lib.hid hnd
          have HNL := Lib.hid hNl
          obtain ⟨⟨c0, c1, c2⟩, k0, k1, k2⟩ := isv3_cells gv7
          clear hwd hss hnd hver hNl gv7 hb6 hb7
          have hwn := HLW.out.wp.n
          have HWT := Lib.hid (without_y w7 w7.heap.size nnodes.length nnc nnA nnodes hwn.ls (Nat.le_refl _) (by have := hok.nl; rw [HND.out]; omega) n)
          clear hwn
          go_wp2_with (fail)
          refine HWT.out.mono ?_
          rintro e w8 ⟨g8, cc8, rfl, hon8, hbn8⟩
          have hwp8 := (HLW.out.below hbn8).wp
          have hnew := hwp8.putNodes (hon8.base (show w5.heap.size ≤ w7.heap.size by omega))
          obtain ⟨ml, hml⟩ : ∃ ml, (without nnodes n).length = ml := ⟨_, rfl⟩
          obtain ⟨w9, hw9⟩ : ∃ w9, w8.setCell ⟨w6.heap.size, 1, none⟩ (.slice (some ⟨g8, 0, none⟩) ml cc8) = w9 := ⟨_, rfl⟩
          rw [hml, hw9] at hnew
          have hb89 : Chg (fun k => w5.heap.size ≤ k) w7 w9 := by
            rw [← hw9]
            exact ((Chg.of_below hbn8).mono (fun _ _ e => e.elim)).setCell (p := ⟨w6.heap.size, 1, none⟩) (fun _ => hs6) _
          have HLW9 := Lib.hid (show LW w9 w9 w5.heap.size w6.heap.size p.ver (without p.nodes n) p.ss ⟨nver, some ⟨g8, 0, none⟩, cc8, without nnodes n, nsA, nsc, nrs⟩ from
            ⟨hnew, HLW.out.ver, by rw [HND.out], HLW.out.ss, Chg.refl _ _⟩)
          have hB9 := hb89.below (show w5.heap.size ≤ w7.heap.size by omega) (fun k h => h)
          have G9 := Lib.hid (blk_below hB9 G7.out (by omega))
          have HB9 := Lib.hid (HB7.out.trans (hB9.mono (by omega)))
          have hs9 := hB9.size
          have hs8 := hbn8.size
          obtain ⟨⟨y0, y1, y2⟩, u0, u1, u2⟩ := isv3_cells hwp8.var
          have hl8 : w6.heap.size < w8.heap.size := by omega
          have HW9 := Lib.hid hw9
          have HML := Lib.hid hml
          clear hnew hb89 hB9 hon8 hbn8 c0 c1 c2 k0 k1 k2 hwp8
          rw [hml]
          clear hml hw9
          go_wp2_with (fail)
          rw [HW9.out]
          clear y0 y1 y2 u0 u1 u2
          have HNL9 := HNL
          obtain ⟨S, hS⟩ : ∃ S, p.ss.length = S := ⟨_, rfl⟩
          have hS1 := hok.some_
          have hS8 := hok.few
          rw [hS] at HQ hS1 hS8
          have HS := Lib.hid hS
          clear hS
          go_loopg [7] S (fun gg s7 wr => ∃ i : Nat, s7 = .int .i64 i ∧ i ≤ S ∧ S - i ≤ gg ∧ Aside (∃ v, LW w9 wr w5.heap.size w6.heap.size p.ver (without p.nodes n) (remAt (without p.nodes n) n p.ss i) v))
          case atStart => exact ⟨0, rfl, by omega, by omega, ⟨_, HLW9.out⟩⟩
          case round =>
            obtain ⟨i, rfl, hi, hg, HR⟩ := hrel
            clear HLW9
            obtain ⟨v, hv⟩ := HR.out
            have hsr := hv.chg.size
            have hvl := hv.len
            rw [remAt_len, HS.out] at hvl
            have HF := Lib.hid (HMAY.out.half i)
            have HRI := Lib.hid (show Rises v.pl.ss by rw [hv.ss]; exact HF.out.rises HMAY.out.calm)
            by_cases hlt : i < S
            · have hltz : (i : Int) < (S : Int) := by omega
              obtain ⟨l, hl⟩ : ∃ l, p.ss[i]? = some l := ⟨_, List.getElem?_eq_getElem (by rw [HS.out]; exact hlt)⟩
              have hX : (remAt (without p.nodes n) n p.ss i)[i]? = some l := by rw [HF.out.high i (Nat.le_refl _)]; exact hl
              have hat : at_ (remAt (without p.nodes n) n p.ss i) i = l := by unfold at_; rw [hX]; rfl
              have hcl := HMAY.out.calm l (List.mem_of_getElem? hl)
              obtain ⟨r, hr, hrl⟩ := hv.row hX
              obtain ⟨sb, hsA, hsb⟩ := hv.sA (by rw [remAt_len, HS.out]; omega)
              have hvx : v.pl.ss[i]? = some l := by rw [hv.ss]; exact hX
              have HOW := Lib.hid ((shardAt_in hvx) ▸ rowns_y wr wr.heap.size v hv.wp.ok (Nat.le_refl _) HRI.out (i : Int) n)
              have HLE := Lib.hid (fun (u : World) (hu : Below wr.heap.size wr u) => rleast_y u wr.heap.size v (hv.wp.ok.below hu (Nat.le_refl _)) hu.size HRI.out i l hvx)
              have HMV := Lib.hid (fun (u : World) (hu : Below wr.heap.size wr u) (t : Int) => move_y u w5.heap.size w6.heap.size sb v (hv.wp.below hu (Nat.le_refl _)) hsA i r hr (by rw [hrl, hcl.three]; omega) n t)
              have HV := Lib.hid hv
              have HVX := Lib.hid hvx
              have HXI := Lib.hid hX
              have HAT := Lib.hid hat
              have HCL := Lib.hid hcl
              have HSB := Lib.hid hsb
              have HRL := Lib.hid hrl
              have HLI := Lib.hid (List.mem_of_getElem? hl)
              have hvd := hv.nds
              obtain ⟨vver, vnA, vnc, vnodes, vsA, vsc, vrs⟩ := v
              simp only at hvl hvd
              have HVD := Lib.hid hvd
              obtain ⟨⟨z0, z1, z2⟩, _⟩ := isv3_cells hv.wp.var
              rw [hvl] at z2
              simp only [PV.val, hvl] at HOW HLE HMV
              have HVL := Lib.hid hvl
              have HVC := Lib.hid (fun (u : World) (hu : Below wr.heap.size wr u) => (show u.cell? ⟨w6.heap.size, 0, none⟩ = some (.int .i64 vver) ∧ u.cell? ⟨w6.heap.size, 1, none⟩ = some (.slice vnA vnodes.length vnc) ∧ u.cell? ⟨w6.heap.size, 2, none⟩ = some (.slice vsA S vsc) from by
                obtain ⟨a0, a1, a2⟩ := (isv3_cells (hv.wp.below hu (Nat.le_refl _)).var).1
                simp only [hvl] at a2
                exact ⟨a0, a1, a2⟩))
              have hpwr : w6.heap.size < wr.heap.size := hv.wp.lt
              clear hv hl hX hat hcl hr hrl hsA hsb hvx HR hvd hvl
              go_wp2_with (fail)
              refine HOW.out.mono ?_
              rintro e wh ⟨rfl, hbh⟩
              have HBH := Lib.hid hbh
              have hsh := hbh.size
              clear hbh z0 z1 z2
              cases hh2 : holds l n with
              | false =>
                have HZ := Lib.hid (HV.out.below HBH.out)
                have HST := Lib.hid (show remAt (without p.nodes n) n p.ss (i + 1) = remAt (without p.nodes n) n p.ss i by show remStep _ _ _ _ = _; unfold remStep; rw [HAT.out, if_neg (by rw [hh2]; simp)])
                go_wp2_with (fail)
                go_roundg (S - (i + 1))
                case measure => omega
                case rel => exact ⟨i + 1, by go_num, by omega, by omega, ⟨_, by rw [HST.out]; exact HZ.out⟩⟩
              | true =>
                obtain ⟨z0, z1, z2⟩ := HVC.out wh HBH.out
                have hph : w6.heap.size < wh.heap.size := by omega
                go_wp2_with (fail)
                have q0 := Wb.at_ z0
                have q1 := Wb.at_ z1
                have q2 := Wb.at_ z2
                refine wp_region_plan [([0, 1, 2, 3, 4], some (5, false)), ([], some (6, true)), ([], none)] (by kernel_rfl) (by kernel_rfl) ?_
                refine seg_act _ (by dsimp only [pick, ord.at_]) _ (by dsimp only [pick, ord.at_]) ?_
                repeat (go_big_quiet_step (fail))
                refine wpQuiet_nil ?_
                intro K1 h1 h2
                clear h2
                go_wp2_with (fail)
                refine (HLE.out wh.drew HBH.out.drew).mono ?_
                rintro e wl ⟨rfl, hbl⟩
                have HBL0 := Lib.hid (show Below wh.heap.size wh wl from (Below.refl _ _).drew.trans hbl)
                have HBL := Lib.hid (HBH.out.trans (HBL0.out.mono hsh))
                clear hbl
                go_wp2_with (fail)
                refine h1 _ _ HBL0.out ?_
                clear h1
                refine seg_write _ (by dsimp only [pick, ord.at_]) _ (by dsimp only [pick, ord.at_]) ?_
                repeat (go_big_quiet_step (fail))
                refine wpQuiet_nil ?_
                intro K4 h4
                go_wp2_with (fail)
                refine (HMV.out wl HBL.out _).mono ?_
                rintro e wt hret
                obtain ⟨rfl, v2, hv2, _⟩ := (HV.out.below HBL.out).put HSB.out hret
                have hst : (remAt (without p.nodes n) n p.ss i).set i (giveY r.l n (least vnodes (⟨vver, vnA, vnc, vnodes, vsA, vsc, vrs⟩ : PV).pl.ss l)) = remAt (without p.nodes n) n p.ss (i + 1) := by
                  show _ = remStep _ _ _ _
                  unfold remStep
                  rw [HAT.out, if_pos hh2, HRL.out, HV.out.ss, HVD.out]
                  obtain ⟨a1, a2⟩ := HMAY.out.least HLI.out hh2 (remAt (without p.nodes n) n p.ss i)
                  rw [give_eq (HCL.out.not a2) (fun e => by have := (List.mem_filter.1 a1).2; rw [← e] at this; simp at this)]
                rw [hst] at hv2
                have HV2 := Lib.hid hv2
                clear hret hv2 hst q0 q1 q2 z0 z1 z2
                go_wp2_with (fail)
                refine seg_end _ (by dsimp only [pick, ord.at_]) ?_
                refine wpQuiet_nil (NoPanic.normal ?_)
                go_wp2_with (fail)
                go_roundg (S - (i + 1))
                case measure => omega
                case rel => exact ⟨i + 1, by go_num, by omega, by omega, ⟨_, HV2.out⟩⟩
            · obtain hie : i = S := by omega
              subst hie
              have hltz : ¬ ((i : Nat) : Int) < ((i : Nat) : Int) := by omega
              have HZ := Lib.hid hv
              obtain ⟨vver, vnA, vnc, vnodes, vsA, vsc, vrs⟩ := v
              simp only at hvl
              subst hvl
              clear HR hv
              obtain ⟨⟨z0, z1, z2⟩, _⟩ := isv3_cells HZ.out.wp.var
              have hbr := HZ.out.chg.below (show w5.heap.size ≤ w9.heap.size by omega) (fun k h => h)
              have G10 := Lib.hid (blk_below hbr G9.out (by omega))
              have HB10 := Lib.hid (HB9.out.trans (hbr.mono (by omega)))
              have hpw := HZ.out.wp.lt
              have hgw := blk_lt G10.out
              have hl10 : w.heap.size + 1 < (wr).heap.size := hgw
              have HNX := Lib.hid (next_y (wr) ⟨vver, vnA, vnc, vnodes, vsA, vsc, vrs⟩ ⟨by have := hok.lo; have := HZ.out.ver; simp only at this; show 0 ≤ vver; omega, by have := hok.hi; have := HZ.out.ver; simp only at this; show vver ≤ _; omega⟩)
              clear hbr
              go_wp2_with (fail)
              refine HNX.out.mono ?_
              rintro e w11 ⟨rfl, hb11⟩
              have hPL : (⟨vver, vnA, vnc, vnodes, vsA, vsc, vrs⟩ : PV).pl = ⟨p.ver, without p.nodes n, remAt (without p.nodes n) n p.ss vrs.length⟩ := by
                have h1 := HZ.out.ver
                have h2 := HZ.out.nds
                have h3 := HZ.out.ss
                simp only at h1 h2
                rw [h1, h2] at h3 ⊢
                unfold PV.pl at h3 ⊢
                simp only at h3 ⊢
                rw [h3]
              have HPLE := Lib.hid (show (nextV ⟨vver, vnA, vnc, vnodes, vsA, vsc, vrs⟩).pl = removePl p n by rw [nextV_pl, hPL, HQ.out])
              have HERE := Lib.hid (show bumpErr (⟨vver, vnA, vnc, vnodes, vsA, vsc, vrs⟩ : PV).pl = removeErr p n by rw [hPL, HE.out]; rfl)
              have HOKE := Lib.hid (fun (u : World) (C : Nat) (h : OP u C ⟨vver, vnA, vnc, vnodes, vsA, vsc, vrs⟩) => nextV_op h)
              have HZB := Lib.hid (HZ.out.wp.below hb11 (Nat.le_refl _))
              have G11 := Lib.hid (blk_below hb11 G10.out hl10)
              have HB11 := Lib.hid (HB10.out.trans (hb11.mono (by omega)))
              rw [HERE.out]
              obtain ⟨V, hV⟩ : ∃ V, nextV ⟨vver, vnA, vnc, vnodes, vsA, vsc, vrs⟩ = V := ⟨_, rfl⟩
              rw [hV] at HPLE HOKE ⊢
              obtain ⟨xver, xnA, xnc, xnodes, xsA, xsc, xrs⟩ := V
              have hl11 := blk_lt G11.out
              obtain ⟨⟨d0, d1, d2⟩, f0, f1, f2⟩ := isv3_cells G11.out
              have hpb := HZ.out.wp.le
              clear z0 z1 z2 hb11 hPL hV HERE
              go_wp2_with (fail)
              (try simp only [Exit.inBlock, Exit.then])
              refine bodyPost_ret (ret_cell rfl _ _ (w.heap.size + 1) 25 _ _ _ rfl (set3 G11.out) Tryz.underlying25 rfl sizeP) rfl ?_
              refine ⟨⟨xver, xnA, xnc, xnodes, xsA, xsc, xrs⟩, rfl, HPLE.out, ?_, below_set3 (g := w.heap.size + 1) HB11.out (by omega) _ _ _⟩
              exact HOKE.out _ _ ((HZB.out.apart (chg_set3 _ _ _) G11.out (by omega)).op (by omega))
  · have hc : chk p = 50 := chk_bad hok
    rw [hc] at HCK
    have HC := Lib.hid hc
    clear hc
    go_enter Tryz.func41, Tryz.ntmps41
    go_wp2_with (fail)
    rw [HW2.out]
    go_wp2_with (fail)
    refine (HCK.out).mono ?_
    rintro e w3 ⟨rfl, hbc⟩
    have HBB3 := Lib.hid (HBB2.out.trans (hbc.mono hs2))
    have HB3 := Lib.hid (HB2.out.trans (hbc.mono (by omega)))
    have G3 := Lib.hid (blk_below hbc G2.out hl2)
    have GP3 := Lib.hid (blk_below hbc GP2.out (by omega))
    have hs3 := HBB3.out.size
    have hl3 : w.heap.size + 1 < w3.heap.size := by omega
    clear hbc d0 d1 d2 f0 f1 f2 e0 e1 e2
    obtain ⟨⟨d0, d1, d2⟩, f0, f1, f2⟩ := isv3_cells G3.out
    obtain ⟨⟨e0, e1, e2⟩, _⟩ := isv3_cells GP3.out
    have HE := Lib.hid (show removeErr p n = 50 by unfold removeErr; rw [HC.out]; rfl)
    have HQ := Lib.hid (show removePl p n = ⟨0, [], []⟩ by unfold removePl; rw [HE.out]; rfl)
    go_wp2_with (fail)
    (try simp only [Exit.inBlock, Exit.then])
    refine bodyPost_ret (ret_cell rfl _ _ (w.heap.size + 1) 25 _ _ _ rfl (set3 G3.out) Tryz.underlying25 rfl sizeP) rfl ?_
    rw [HE.out, HQ.out]
    exact RetPl2.none (below_set3 (g := w.heap.size + 1) HB3.out (by omega) _ _ _)
end Go.Proofs.YtnjdondkggkfoaaGreat.pm
/-
  Placements: the document's Replace.
-/
namespace Go.Proofs.YtnjdondkggkfoaaGreat.pm
open Go.ChangeShapes Go.WideShapes Go.ChangeAt Go.RowKit Go.Shelf plain words ord mem

set_option maxHeartbeats 4000000 in
theorem rreplace_sy (w : World) (B : Nat) (v : PV) (h : PVok w B v) (hB : B ≤ w.heap.size) (old n : Int) :
    Calls Tryz.prog 42 #[v.val, .int .i64 old, .int .i64 n] w (RetPl2 w (replacePl v.pl old n) (replaceErr v.pl old n)) := by
  obtain ⟨w2, hw2⟩ : ∃ w2, (w.alloc (boxO v)).alloc (.cells #[.int .i64 0, .slice none 0 0, .slice none 0 0] 25) = w2 := ⟨_, rfl⟩
  have hb2 : Below w.heap.size w w2 := by rw [← hw2]; exact (below_al _ _).trans ((below_al _ _).mono (by simp))
  have gp : Boxed w2 w.heap.size v := by rw [← hw2]; exact alloc_old _ (alloc_new _ _)
  have g2 : IsV3 25 w2 (w.heap.size + 1) (.int .i64 0) (.slice none 0 0) (.slice none 0 0) := by rw [← hw2]; have := alloc_new (w.alloc (boxO v)) (.cells #[.int .i64 0, .slice none 0 0, .slice none 0 0] 25); rwa [World.size_alloc] at this
  have hl2 : w.heap.size + 1 < w2.heap.size := blk_lt g2
  have HCK := Lib.hid (rcheck_y w2 B v (h.below hb2 hB) (by omega))
  have HHS := Lib.hid (fun (u : World) (hu : Below w2.heap.size w2 u) (x : Int) => has_y u B v.nodes.length v.nc v.nA v.nodes ((h.below hb2 hB).below hu (by omega)).n (by have := hu.size; omega) h.len.2 x)
  have HBS := Lib.hid (fun (u : World) (hu : Below w2.heap.size w2 u) => rbusy_y u B v ((h.below hb2 hB).below hu (by omega)) (by have := hu.size; omega))
  have HCP := Lib.hid (fun (u : World) (hu : Below w2.heap.size w2 u) (hok : PlOk v.pl) => copied_y u B v ((h.below hb2 hB).below hu (by omega)) (by have := hu.size; omega) hok.sizes.1 hok.sizes.2.1 hok.sizes.2.2.1 hok.sizes.2.2.2.1 hok.sizes.2.2.2.2)
  have hpv : v.pl.ss.length = v.rs.length := by simp [PV.pl]
  have hpn : v.pl.nodes = v.nodes := rfl
  obtain ⟨p, hp⟩ : ∃ p, v.pl = p := ⟨_, rfl⟩
  rw [hp] at HCK HBS HCP hpv hpn ⊢
  have HPV := Lib.hid hp
  obtain ⟨ver, nA, nc, nodes, sA, sc, rs⟩ := v
  obtain ⟨N, hN⟩ : ∃ N, rs.length = N := ⟨_, rfl⟩
  obtain ⟨nl, hnl⟩ : ∃ nl, nodes.length = nl := ⟨_, rfl⟩
  have hpl : p.nodes.length = nl := by rw [hpn]; exact hnl
  simp only at hpn
  subst hpn
  simp only [PV.val, boxO, Boxed, hN, hnl] at hw2 gp HCK HHS HBS HCP hpv ⊢
  have HW2 := Lib.hid hw2
  have HB2 := Lib.hid hb2
  have HBB2 := Lib.hid (Below.refl w2.heap.size w2)
  have hs2 := HBB2.out.size
  have G2 := Lib.hid g2
  have GP2 := Lib.hid gp
  have HN := Lib.hid hN
  have HPL := Lib.hid hpl
  clear h hw2 hp hN hnl hpl hb2
  obtain ⟨⟨d0, d1, d2⟩, f0, f1, f2⟩ := isv3_cells g2
  obtain ⟨⟨e0, e1, e2⟩, _⟩ := isv3_cells gp
  clear g2 gp
  by_cases hok : PlOk p
  · have hc : chk p = 0 := chk_ok hok
    have hdef : replaceErr p old n = if has p.nodes old = false ∨ n < 0 ∨ 8 ≤ n ∨ has p.nodes n = true then 140 else if busy p.ss = true then 141 else bumpErr p := by unfold replaceErr; rw [if_pos hc]
    rw [hc] at HCK
    have HDEF := Lib.hid hdef
    clear hc hdef
    go_enter Tryz.func42, Tryz.ntmps42
    go_wp2_with (fail)
    rw [HW2.out]
    go_wp2_with (fail)
    refine (HCK.out).mono ?_
    rintro e w3 ⟨rfl, hbc⟩
    have HBB3 := Lib.hid (HBB2.out.trans (hbc.mono hs2))
    have HB3 := Lib.hid (HB2.out.trans (hbc.mono (by omega)))
    have G3 := Lib.hid (blk_below hbc G2.out hl2)
    have GP3 := Lib.hid (blk_below hbc GP2.out (by omega))
    have hs3 := HBB3.out.size
    have hl3 : w.heap.size + 1 < w3.heap.size := by omega
    clear hbc d0 d1 d2 f0 f1 f2 e0 e1 e2
    obtain ⟨⟨d0, d1, d2⟩, f0, f1, f2⟩ := isv3_cells G3.out
    obtain ⟨⟨e0, e1, e2⟩, _⟩ := isv3_cells GP3.out
    go_wp2_with (fail)
    refine (HHS.out w3 HBB3.out old).mono ?_
    rintro e w4 ⟨rfl, hbc⟩
    have HBB4 := Lib.hid (HBB3.out.trans (hbc.mono hs3))
    have HB4 := Lib.hid (HB3.out.trans (hbc.mono (by omega)))
    have G4 := Lib.hid (blk_below hbc G3.out hl3)
    have GP4 := Lib.hid (blk_below hbc GP3.out (by omega))
    have hs4 := HBB4.out.size
    have hl4 : w.heap.size + 1 < w4.heap.size := by omega
    clear hbc d0 d1 d2 f0 f1 f2 e0 e1 e2
    obtain ⟨⟨d0, d1, d2⟩, f0, f1, f2⟩ := isv3_cells G4.out
    obtain ⟨⟨e0, e1, e2⟩, _⟩ := isv3_cells GP4.out
    cases hh : has p.nodes old with
    | false =>
      have HE := Lib.hid (show replaceErr p old n = 140 by rw [HDEF.out, if_pos (.inl hh)])
      have HQ := Lib.hid (show replacePl p old n = ⟨0, [], []⟩ by unfold replacePl; rw [HE.out]; rfl)
      go_wp2_with (fail)
      (try simp only [Exit.inBlock, Exit.then])
      refine bodyPost_ret (ret_cell rfl _ _ (w.heap.size + 1) 25 _ _ _ rfl (set3 G4.out) Tryz.underlying25 rfl sizeP) rfl ?_
      rw [HE.out, HQ.out]
      exact RetPl2.none (below_set3 (g := w.heap.size + 1) HB4.out (by omega) _ _ _)
    | true =>
      go_wp2_with (fail)
      refine (node_y w4 n).mono ?_
      rintro e w14 ⟨rfl, hbc⟩
      have HBB14 := Lib.hid (HBB4.out.trans (hbc.mono hs4))
      have HB14 := Lib.hid (HB4.out.trans (hbc.mono (by omega)))
      have G14 := Lib.hid (blk_below hbc G4.out hl4)
      have GP14 := Lib.hid (blk_below hbc GP4.out (by omega))
      have hs14 := HBB14.out.size
      have hl14 : w.heap.size + 1 < w14.heap.size := by omega
      clear hbc d0 d1 d2 f0 f1 f2 e0 e1 e2
      obtain ⟨⟨d0, d1, d2⟩, f0, f1, f2⟩ := isv3_cells G14.out
      obtain ⟨⟨e0, e1, e2⟩, _⟩ := isv3_cells GP14.out
      cases hnb : isNodeB n with
      | false =>
        have HE := Lib.hid (show replaceErr p old n = 140 by rw [HDEF.out, if_pos]; rcases isNodeB_false.1 hnb with h | h; exact .inr (.inl h); exact .inr (.inr (.inl h)))
        have HQ := Lib.hid (show replacePl p old n = ⟨0, [], []⟩ by unfold replacePl; rw [HE.out]; rfl)
        go_wp2_with (fail)
        (try simp only [Exit.inBlock, Exit.then])
        refine bodyPost_ret (ret_cell rfl _ _ (w.heap.size + 1) 25 _ _ _ rfl (set3 G14.out) Tryz.underlying25 rfl sizeP) rfl ?_
        rw [HE.out, HQ.out]
        exact RetPl2.none (below_set3 (g := w.heap.size + 1) HB14.out (by omega) _ _ _)
      | true =>
        go_wp2_with (fail)
        refine (HHS.out w14 HBB14.out n).mono ?_
        rintro e w15 ⟨rfl, hbc⟩
        have HBB15 := Lib.hid (HBB14.out.trans (hbc.mono hs14))
        have HB15 := Lib.hid (HB14.out.trans (hbc.mono (by omega)))
        have G15 := Lib.hid (blk_below hbc G14.out hl14)
        have GP15 := Lib.hid (blk_below hbc GP14.out (by omega))
        have hs15 := HBB15.out.size
        have hl15 : w.heap.size + 1 < w15.heap.size := by omega
        clear hbc d0 d1 d2 f0 f1 f2 e0 e1 e2
        obtain ⟨⟨d0, d1, d2⟩, f0, f1, f2⟩ := isv3_cells G15.out
        obtain ⟨⟨e0, e1, e2⟩, _⟩ := isv3_cells GP15.out
        cases hh3 : has p.nodes n with
        | true =>
          have HE := Lib.hid (show replaceErr p old n = 140 by rw [HDEF.out, if_pos (.inr (.inr (.inr hh3)))])
          have HQ := Lib.hid (show replacePl p old n = ⟨0, [], []⟩ by unfold replacePl; rw [HE.out]; rfl)
          go_wp2_with (fail)
          (try simp only [Exit.inBlock, Exit.then])
          refine bodyPost_ret (ret_cell rfl _ _ (w.heap.size + 1) 25 _ _ _ rfl (set3 G15.out) Tryz.underlying25 rfl sizeP) rfl ?_
          rw [HE.out, HQ.out]
          exact RetPl2.none (below_set3 (g := w.heap.size + 1) HB15.out (by omega) _ _ _)
        | false =>
          have hnd0 : isNode n := (isNodeB_iff n).1 hnb
          have HDEF2 := Lib.hid (show replaceErr p old n = if busy p.ss = true then 141 else bumpErr p by rw [HDEF.out, if_neg (by rw [hh, hh3]; have := hnd0.1; have := hnd0.2; simp; omega)])
          go_wp2_with (fail)
          refine (HBS.out w15 HBB15.out).mono ?_
          rintro e w5 ⟨rfl, hbc⟩
          have HBB5 := Lib.hid (HBB15.out.trans (hbc.mono hs15))
          have HB5 := Lib.hid (HB15.out.trans (hbc.mono (by omega)))
          have G5 := Lib.hid (blk_below hbc G15.out hl15)
          have GP5 := Lib.hid (blk_below hbc GP15.out (by omega))
          have hs5 := HBB5.out.size
          have hl5 : w.heap.size + 1 < w5.heap.size := by omega
          clear hbc d0 d1 d2 f0 f1 f2 e0 e1 e2
          obtain ⟨⟨d0, d1, d2⟩, f0, f1, f2⟩ := isv3_cells G5.out
          obtain ⟨⟨e0, e1, e2⟩, _⟩ := isv3_cells GP5.out
          cases hbu : busy p.ss with
          | true =>
            have HE := Lib.hid (show replaceErr p old n = 141 by rw [HDEF2.out, if_pos hbu])
            have HQ := Lib.hid (show replacePl p old n = ⟨0, [], []⟩ by unfold replacePl; rw [HE.out]; rfl)
            go_wp2_with (fail)
            (try simp only [Exit.inBlock, Exit.then])
            refine bodyPost_ret (ret_cell rfl _ _ (w.heap.size + 1) 25 _ _ _ rfl (set3 G5.out) Tryz.underlying25 rfl sizeP) rfl ?_
            rw [HE.out, HQ.out]
            exact RetPl2.none (below_set3 (g := w.heap.size + 1) HB5.out (by omega) _ _ _)
          | false =>
            have HE := Lib.hid (show replaceErr p old n = bumpErr p by rw [HDEF2.out, if_neg (by rw [hbu]; simp)])
            have HMAY := Lib.hid (show MayRep p old n from ⟨hok, hh, hnd0, hh3, hok.calm hbu⟩)
            have HQ := Lib.hid (show replacePl p old n = bump ⟨p.ver, repNodes p old n, repAt old n p.ss p.ss.length⟩ by unfold replacePl; rw [HE.out]; exact bump_of p _ _)
            go_wp2_with (fail)
            refine (HCP.out w5 HBB5.out hok).mono ?_
            rintro e w6 ⟨vn, rfl, hvn, hod, hb6⟩
            have HVN := Lib.hid hvn
            have HOD := Lib.hid hod
            obtain ⟨nver, nnA, nnc, nnodes, nsA, nsc, nrs⟩ := vn
            have hs6 := hb6.size
            have HB6 := Lib.hid (HB5.out.trans (hb6.mono (by omega)))
            have G6 := Lib.hid (blk_below hb6 G5.out hl5)
            clear hvn hod d0 d1 d2 f0 f1 f2 e0 e1 e2
            obtain ⟨w7, hw7⟩ : ∃ w7, w6.alloc (.cells #[.int .i64 nver, .slice nnA nnodes.length nnc, .slice nsA nrs.length nsc] 25) = w7 := ⟨_, rfl⟩
            have hb7 : Below w6.heap.size w6 w7 := by rw [← hw7]; exact below_al _ _
            have gv7 : IsV3 25 w7 w6.heap.size (.int .i64 nver) (.slice nnA nnodes.length nnc) (.slice nsA nrs.length nsc) := by rw [← hw7]; exact alloc_new _ _
            have G7 := Lib.hid (blk_below hb7 G6.out (by omega))
            have HB7 := Lib.hid (HB6.out.trans (hb7.mono HB6.out.size))
            have hs7 := hb7.size
            have hl7 : w.heap.size + 1 < w7.heap.size := by omega
            have hl7'' : w6.heap.size < w7.heap.size := blk_lt gv7
            have hwd := (HOD.out.below hb7 (Nat.le_refl _)).wd (pb := w6.heap.size) hs6 gv7
            have hss : nrs.map (·.l) = p.ss := congrArg Pl.ss HVN.out
            have hnd : nnodes = p.nodes := congrArg Pl.nodes HVN.out
            have hver : nver = p.ver := congrArg Pl.ver HVN.out
            have hNl : nrs.length = p.ss.length := by have := congrArg List.length hss; rwa [List.length_map] at this
            have HLW := Lib.hid (show LW w7 w7 w5.heap.size w6.heap.size p.ver p.nodes p.ss ⟨nver, nnA, nnc, nnodes, nsA, nsc, nrs⟩ from ⟨hwd.wp, hver, hnd, hss, Chg.refl _ _⟩)
            have HND := Lib.hid hnd
            have HNL := Lib.hid hNl
            obtain ⟨⟨c0, c1, c2⟩, k0, k1, k2⟩ := isv3_cells gv7
            clear hwd hss hnd hver hNl gv7 hb6 hb7
            have hwn := HLW.out.wp.n
            have HWT := Lib.hid (without_y w7 w7.heap.size nnodes.length nnc nnA nnodes hwn.ls (Nat.le_refl _) (by have := hok.nl; rw [HND.out]; omega) old)
            have hww : (without nnodes old).length ≤ nnodes.length := List.length_filter_le _ _
            clear hwn
            go_wp2_with (fail)
            refine HWT.out.mono ?_
            rintro e w17 ⟨g17, cc17, rfl, hon17, hbn17⟩
            have HWI := Lib.hid (with_y w17 w17.heap.size (without nnodes old).length cc17 (some ⟨g17, 0, none⟩) (without nnodes old) hon17.ls (Nat.le_refl _) (by have := hok.nl; rw [HND.out] at hww; rw [HND.out]; omega) n)
            have HBN17 := Lib.hid hbn17
            have hs17 := hbn17.size
            obtain ⟨ml0, hml0⟩ : ∃ ml0, (without nnodes old).length = ml0 := ⟨_, rfl⟩
            rw [hml0] at HWI ⊢
            have hv17 := (HLW.out.below hbn17).wp.var
            obtain ⟨⟨v0, v1, v2⟩, v3, v4, v5⟩ := isv3_cells hv17
            have hl17 : w6.heap.size < w17.heap.size := by omega
            clear hon17 hbn17 hv17 hww hml0
            go_wp2_with (fail)
            refine HWI.out.mono ?_
            rintro e w8 ⟨g8, cc8, rfl, hon8, hbn8'⟩
            clear v0 v1 v2 v3 v4 v5
            have hbn8 := HBN17.out.trans (hbn8'.mono hs17)
            have hwp8 := (HLW.out.below hbn8).wp
            have hnew := hwp8.putNodes (hon8.base (show w5.heap.size ≤ w17.heap.size by omega))
            have hwith : with_ (without nnodes old) n 8 = repNodes p old n := by
              have hl := without_len (nodes_nodup hok.nodes.rise) hh
              have hm := hok.nodes.many
              rw [HND.out]
              exact with_srt (l := without p.nodes old) (fun x hx => hok.nodes.each x (List.mem_filter.1 hx).1) (nodes_nodup (without_rise hok.nodes.rise old)) (by omega) hnd0 (by rw [has_without, hh3]; rfl)
            obtain ⟨NN, hNN⟩ : ∃ NN, with_ (without nnodes old) n 8 = NN := ⟨_, rfl⟩
            rw [hNN] at hwith hon8 hnew ⊢
            obtain ⟨ml, hml⟩ : ∃ ml, NN.length = ml := ⟨_, rfl⟩
            obtain ⟨w9, hw9⟩ : ∃ w9, w8.setCell ⟨w6.heap.size, 1, none⟩ (.slice (some ⟨g8, 0, none⟩) ml cc8) = w9 := ⟨_, rfl⟩
            rw [hml, hw9] at hnew
            have hb89 : Chg (fun k => w5.heap.size ≤ k) w7 w9 := by
              rw [← hw9]
              exact ((Chg.of_below hbn8).mono (fun _ _ e => e.elim)).setCell (p := ⟨w6.heap.size, 1, none⟩) (fun _ => hs6) _
            have HLW9 := Lib.hid (show LW w9 w9 w5.heap.size w6.heap.size p.ver (repNodes p old n) p.ss ⟨nver, some ⟨g8, 0, none⟩, cc8, NN, nsA, nsc, nrs⟩ from
              ⟨hnew, HLW.out.ver, hwith, HLW.out.ss, Chg.refl _ _⟩)
            have hB9 := hb89.below (show w5.heap.size ≤ w7.heap.size by omega) (fun k h => h)
            have G9 := Lib.hid (blk_below hB9 G7.out (by omega))
            have HB9 := Lib.hid (HB7.out.trans (hB9.mono (by omega)))
            have hs9 := hB9.size
            have hs8 := hbn8.size
            obtain ⟨⟨y0, y1, y2⟩, u0, u1, u2⟩ := isv3_cells hwp8.var
            have hl8 : w6.heap.size < w8.heap.size := by omega
            have HW9 := Lib.hid hw9
            have HML := Lib.hid hml
            clear hnew hb89 hB9 hon8 hbn8 hbn8' c0 c1 c2 k0 k1 k2 hwp8 hwith hNN
            rw [hml]
            clear hml hw9
            go_wp2_with (fail)
            rw [HW9.out]
            clear y0 y1 y2 u0 u1 u2
            obtain ⟨S, hS⟩ : ∃ S, p.ss.length = S := ⟨_, rfl⟩
            have hS1 := hok.some_
            have hS8 := hok.few
            rw [hS] at HQ hS1 hS8
            have HS := Lib.hid hS
            clear hS
            go_loopg [9] S (fun gg s9 wr => ∃ i : Nat, s9 = .int .i64 i ∧ i ≤ S ∧ S - i ≤ gg ∧ Aside (∃ v, LW w9 wr w5.heap.size w6.heap.size p.ver (repNodes p old n) (repAt old n p.ss i) v))
            case atStart => exact ⟨0, rfl, by omega, by omega, ⟨_, HLW9.out⟩⟩
            case round =>
              obtain ⟨i, rfl, hi, hg, HR⟩ := hrel
              clear HLW9
              obtain ⟨v, hv⟩ := HR.out
              have hsr := hv.chg.size
              have hvl := hv.len
              have HF := Lib.hid (HMAY.out.half i)
              rw [HF.out.len, HS.out] at hvl
              have HRI := Lib.hid (show Rises v.pl.ss by rw [hv.ss]; exact HF.out.rises HMAY.out.calm)
              by_cases hlt : i < S
              · have hltz : (i : Int) < (S : Int) := by omega
                obtain ⟨l, hl⟩ : ∃ l, p.ss[i]? = some l := ⟨_, List.getElem?_eq_getElem (by rw [HS.out]; exact hlt)⟩
                have hX : (repAt old n p.ss i)[i]? = some l := by rw [HF.out.high i (Nat.le_refl _)]; exact hl
                have hat : at_ (repAt old n p.ss i) i = l := by unfold at_; rw [hX]; rfl
                have hcl := HMAY.out.calm l (List.mem_of_getElem? hl)
                obtain ⟨r, hr, hrl⟩ := hv.row hX
                obtain ⟨sb, hsA, hsb⟩ := hv.sA (by rw [HF.out.len, HS.out]; omega)
                have hvx : v.pl.ss[i]? = some l := by rw [hv.ss]; exact hX
                have HOW := Lib.hid ((shardAt_in hvx) ▸ rowns_y wr wr.heap.size v hv.wp.ok (Nat.le_refl _) HRI.out (i : Int) old)
                have HMV := Lib.hid (fun (u : World) (hu : Below wr.heap.size wr u) => move_y u w5.heap.size w6.heap.size sb v (hv.wp.below hu (Nat.le_refl _)) hsA i r hr (by rw [hrl, hcl.three]; omega) old n)
                have HV := Lib.hid hv
                have HAT := Lib.hid hat
                have HCL := Lib.hid hcl
                have HSB := Lib.hid hsb
                have HRL := Lib.hid hrl
                have HLI := Lib.hid (List.mem_of_getElem? hl)
                obtain ⟨vver, vnA, vnc, vnodes, vsA, vsc, vrs⟩ := v
                simp only at hvl
                obtain ⟨⟨z0, z1, z2⟩, _⟩ := isv3_cells hv.wp.var
                rw [hvl] at z2
                simp only [PV.val, hvl] at HOW HMV
                have HVC := Lib.hid (fun (u : World) (hu : Below wr.heap.size wr u) => (show u.cell? ⟨w6.heap.size, 0, none⟩ = some (.int .i64 vver) ∧ u.cell? ⟨w6.heap.size, 1, none⟩ = some (.slice vnA vnodes.length vnc) ∧ u.cell? ⟨w6.heap.size, 2, none⟩ = some (.slice vsA S vsc) from by
                  obtain ⟨a0, a1, a2⟩ := (isv3_cells (hv.wp.below hu (Nat.le_refl _)).var).1
                  simp only [hvl] at a2
                  exact ⟨a0, a1, a2⟩))
                have hpwr : w6.heap.size < wr.heap.size := hv.wp.lt
                clear hv hl hX hat hcl hr hrl hsA hsb hvx HR hvl
                go_wp2_with (fail)
                refine HOW.out.mono ?_
                rintro e wh ⟨rfl, hbh⟩
                have HBH := Lib.hid hbh
                have hsh := hbh.size
                clear hbh z0 z1 z2
                cases hh2 : holds l old with
                | false =>
                  have HZ := Lib.hid (HV.out.below HBH.out)
                  have HST := Lib.hid (show repAt old n p.ss (i + 1) = repAt old n p.ss i by show repStep _ _ _ _ = _; unfold repStep; rw [HAT.out, if_neg (by rw [hh2]; simp)])
                  go_wp2_with (fail)
                  go_roundg (S - (i + 1))
                  case measure => omega
                  case rel => exact ⟨i + 1, by go_num, by omega, by omega, ⟨_, by rw [HST.out]; exact HZ.out⟩⟩
                | true =>
                  obtain ⟨z0, z1, z2⟩ := HVC.out wh HBH.out
                  have hph : w6.heap.size < wh.heap.size := by omega
                  go_wp2_with (fail)
                  refine (HMV.out wh HBH.out).mono ?_
                  rintro e wt hret
                  obtain ⟨rfl, v2, hv2, _⟩ := (HV.out.below HBH.out).put HSB.out hret
                  have hst : (repAt old n p.ss i).set i (giveY r.l old n) = repAt old n p.ss (i + 1) := by
                    show _ = repStep _ _ _ _
                    unfold repStep
                    rw [HAT.out, if_pos hh2, HRL.out]
                    have a2 := HMAY.out.holds_new HLI.out
                    rw [give_eq (HCL.out.not a2) (fun e => by rw [e, a2] at hh2; cases hh2)]
                  rw [hst] at hv2
                  have HV2 := Lib.hid hv2
                  clear hret hv2 hst z0 z1 z2
                  go_wp2_with (fail)
                  go_roundg (S - (i + 1))
                  case measure => omega
                  case rel => exact ⟨i + 1, by go_num, by omega, by omega, ⟨_, HV2.out⟩⟩
              · obtain hie : i = S := by omega
                subst hie
                have hltz : ¬ ((i : Nat) : Int) < ((i : Nat) : Int) := by omega
                have HZ := Lib.hid hv
                obtain ⟨vver, vnA, vnc, vnodes, vsA, vsc, vrs⟩ := v
                simp only at hvl
                subst hvl
                clear HR hv
                obtain ⟨⟨z0, z1, z2⟩, _⟩ := isv3_cells HZ.out.wp.var
                have hbr := HZ.out.chg.below (show w5.heap.size ≤ w9.heap.size by omega) (fun k h => h)
                have G10 := Lib.hid (blk_below hbr G9.out (by omega))
                have HB10 := Lib.hid (HB9.out.trans (hbr.mono (by omega)))
                have hpw := HZ.out.wp.lt
                have hgw := blk_lt G10.out
                have hl10 : w.heap.size + 1 < (wr).heap.size := hgw
                have HNX := Lib.hid (next_y (wr) ⟨vver, vnA, vnc, vnodes, vsA, vsc, vrs⟩ ⟨by have := hok.lo; have := HZ.out.ver; simp only at this; show 0 ≤ vver; omega, by have := hok.hi; have := HZ.out.ver; simp only at this; show vver ≤ _; omega⟩)
                clear hbr
                go_wp2_with (fail)
                refine HNX.out.mono ?_
                rintro e w11 ⟨rfl, hb11⟩
                have hPL : (⟨vver, vnA, vnc, vnodes, vsA, vsc, vrs⟩ : PV).pl = ⟨p.ver, repNodes p old n, repAt old n p.ss vrs.length⟩ := by
                  have h1 := HZ.out.ver
                  have h2 := HZ.out.nds
                  have h3 := HZ.out.ss
                  simp only at h1 h2
                  rw [h1, h2] at h3 ⊢
                  unfold PV.pl at h3 ⊢
                  simp only at h3 ⊢
                  rw [h3]
                have HPLE := Lib.hid (show (nextV ⟨vver, vnA, vnc, vnodes, vsA, vsc, vrs⟩).pl = replacePl p old n by rw [nextV_pl, hPL, HQ.out])
                have HERE := Lib.hid (show bumpErr (⟨vver, vnA, vnc, vnodes, vsA, vsc, vrs⟩ : PV).pl = replaceErr p old n by rw [hPL, HE.out]; rfl)
                have HOKE := Lib.hid (fun (u : World) (C : Nat) (h : OP u C ⟨vver, vnA, vnc, vnodes, vsA, vsc, vrs⟩) => nextV_op h)
                have HZB := Lib.hid (HZ.out.wp.below hb11 (Nat.le_refl _))
                have G11 := Lib.hid (blk_below hb11 G10.out hl10)
                have HB11 := Lib.hid (HB10.out.trans (hb11.mono (by omega)))
                rw [HERE.out]
                obtain ⟨V, hV⟩ : ∃ V, nextV ⟨vver, vnA, vnc, vnodes, vsA, vsc, vrs⟩ = V := ⟨_, rfl⟩
                rw [hV] at HPLE HOKE ⊢
                obtain ⟨xver, xnA, xnc, xnodes, xsA, xsc, xrs⟩ := V
                have hl11 := blk_lt G11.out
                obtain ⟨⟨d0, d1, d2⟩, f0, f1, f2⟩ := isv3_cells G11.out
                have hpb := HZ.out.wp.le
                clear z0 z1 z2 hb11 hPL hV HERE
                go_wp2_with (fail)
                (try simp only [Exit.inBlock, Exit.then])
                refine bodyPost_ret (ret_cell rfl _ _ (w.heap.size + 1) 25 _ _ _ rfl (set3 G11.out) Tryz.underlying25 rfl sizeP) rfl ?_
                refine ⟨⟨xver, xnA, xnc, xnodes, xsA, xsc, xrs⟩, rfl, HPLE.out, ?_, below_set3 (g := w.heap.size + 1) HB11.out (by omega) _ _ _⟩
                exact HOKE.out _ _ ((HZB.out.apart (chg_set3 _ _ _) G11.out (by omega)).op (by omega))
  · have hc : chk p = 50 := chk_bad hok
    rw [hc] at HCK
    have HC := Lib.hid hc
    clear hc
    go_enter Tryz.func42, Tryz.ntmps42
    go_wp2_with (fail)
    rw [HW2.out]
    go_wp2_with (fail)
    refine (HCK.out).mono ?_
    rintro e w3 ⟨rfl, hbc⟩
    have HBB3 := Lib.hid (HBB2.out.trans (hbc.mono hs2))
    have HB3 := Lib.hid (HB2.out.trans (hbc.mono (by omega)))
    have G3 := Lib.hid (blk_below hbc G2.out hl2)
    have GP3 := Lib.hid (blk_below hbc GP2.out (by omega))
    have hs3 := HBB3.out.size
    have hl3 : w.heap.size + 1 < w3.heap.size := by omega
    clear hbc d0 d1 d2 f0 f1 f2 e0 e1 e2
    obtain ⟨⟨d0, d1, d2⟩, f0, f1, f2⟩ := isv3_cells G3.out
    obtain ⟨⟨e0, e1, e2⟩, _⟩ := isv3_cells GP3.out
    have HE := Lib.hid (show replaceErr p old n = 50 by unfold replaceErr; rw [HC.out]; rfl)
    have HQ := Lib.hid (show replacePl p old n = ⟨0, [], []⟩ by unfold replacePl; rw [HE.out]; rfl)
    go_wp2_with (fail)
    (try simp only [Exit.inBlock, Exit.then])
    refine bodyPost_ret (ret_cell rfl _ _ (w.heap.size + 1) 25 _ _ _ rfl (set3 G3.out) Tryz.underlying25 rfl sizeP) rfl ?_
    rw [HE.out, HQ.out]
    exact RetPl2.none (below_set3 (g := w.heap.size + 1) HB3.out (by omega) _ _ _)
end Go.Proofs.YtnjdondkggkfoaaGreat.pm
/-
  Placements: the document's Done.
-/
namespace Go.Proofs.YtnjdondkggkfoaaGreat.pm
open Go.ChangeShapes Go.WideShapes Go.ChangeAt Go.RowKit Go.Shelf plain words ord mem

set_option maxHeartbeats 4000000 in
theorem rdone_sy (w : World) (B : Nat) (v : PV) (h : PVok w B v) (hB : B ≤ w.heap.size) (s n : Int) :
    Calls Tryz.prog 43 #[v.val, .int .i64 s, .int .i64 n] w (RetPl2 w (donePl v.pl s n) (doneErr v.pl s n)) := by
  obtain ⟨w2, hw2⟩ : ∃ w2, (w.alloc (boxO v)).alloc (.cells #[.int .i64 0, .slice none 0 0, .slice none 0 0] 25) = w2 := ⟨_, rfl⟩
  have hb2 : Below w.heap.size w w2 := by rw [← hw2]; exact (below_al _ _).trans ((below_al _ _).mono (by simp))
  have gp : Boxed w2 w.heap.size v := by rw [← hw2]; exact alloc_old _ (alloc_new _ _)
  have g2 : IsV3 25 w2 (w.heap.size + 1) (.int .i64 0) (.slice none 0 0) (.slice none 0 0) := by rw [← hw2]; have := alloc_new (w.alloc (boxO v)) (.cells #[.int .i64 0, .slice none 0 0, .slice none 0 0] 25); rwa [World.size_alloc] at this
  have hl2 : w.heap.size + 1 < w2.heap.size := blk_lt g2
  have HCK := Lib.hid (rcheck_y w2 B v (h.below hb2 hB) (by omega))
  have HHS := Lib.hid (fun (u : World) (hu : Below w2.heap.size w2 u) (x : Int) => has_y u B v.nodes.length v.nc v.nA v.nodes ((h.below hb2 hB).below hu (by omega)).n (by have := hu.size; omega) h.len.2 x)
  have HBS := Lib.hid (fun (u : World) (hu : Below w2.heap.size w2 u) => rbusy_y u B v ((h.below hb2 hB).below hu (by omega)) (by have := hu.size; omega))
  have HFD := Lib.hid (fun (u : World) (hu : Below w2.heap.size w2 u) => rfind_y u B v ((h.below hb2 hB).below hu (by omega)) (by have := hu.size; omega) s n)
  have HCP := Lib.hid (fun (u : World) (hu : Below w2.heap.size w2 u) (hok : PlOk v.pl) => copied_y u B v ((h.below hb2 hB).below hu (by omega)) (by have := hu.size; omega) hok.sizes.1 hok.sizes.2.1 hok.sizes.2.2.1 hok.sizes.2.2.2.1 hok.sizes.2.2.2.2)
  have hpv : v.pl.ss.length = v.rs.length := by simp [PV.pl]
  have hpn : v.pl.nodes = v.nodes := rfl
  obtain ⟨p, hp⟩ : ∃ p, v.pl = p := ⟨_, rfl⟩
  rw [hp] at HCK HBS HCP hpv hpn ⊢
  rw [hp] at HFD
  have HPV := Lib.hid hp
  obtain ⟨ver, nA, nc, nodes, sA, sc, rs⟩ := v
  obtain ⟨N, hN⟩ : ∃ N, rs.length = N := ⟨_, rfl⟩
  obtain ⟨nl, hnl⟩ : ∃ nl, nodes.length = nl := ⟨_, rfl⟩
  have hpl : p.nodes.length = nl := by rw [hpn]; exact hnl
  simp only at hpn
  subst hpn
  simp only [PV.val, boxO, Boxed, hN, hnl] at hw2 gp HCK HHS HBS HCP HFD hpv ⊢
  have HW2 := Lib.hid hw2
  have HB2 := Lib.hid hb2
  have HBB2 := Lib.hid (Below.refl w2.heap.size w2)
  have hs2 := HBB2.out.size
  have G2 := Lib.hid g2
  have GP2 := Lib.hid gp
  have HN := Lib.hid hN
  have HPL := Lib.hid hpl
  clear h hw2 hp hN hnl hpl hb2
  obtain ⟨⟨d0, d1, d2⟩, f0, f1, f2⟩ := isv3_cells g2
  obtain ⟨⟨e0, e1, e2⟩, _⟩ := isv3_cells gp
  clear g2 gp
  by_cases hok : PlOk p
  · have hc : chk p = 0 := chk_ok hok
    have hdef : doneErr p s n = if s < 0 ∨ (p.ss.length : Int) ≤ s then 1 else if (fnd (byNode n) (shardAt p.ss s)).2.1 = 1 then bumpErr p else 140 := by unfold doneErr; rw [if_pos hc]
    rw [hc] at HCK
    have HDEF := Lib.hid hdef
    clear hc hdef
    go_enter Tryz.func43, Tryz.ntmps43
    go_wp2_with (fail)
    rw [HW2.out]
    go_wp2_with (fail)
    refine (HCK.out).mono ?_
    rintro e w3 ⟨rfl, hbc⟩
    have HBB3 := Lib.hid (HBB2.out.trans (hbc.mono hs2))
    have HB3 := Lib.hid (HB2.out.trans (hbc.mono (by omega)))
    have G3 := Lib.hid (blk_below hbc G2.out hl2)
    have GP3 := Lib.hid (blk_below hbc GP2.out (by omega))
    have hs3 := HBB3.out.size
    have hl3 : w.heap.size + 1 < w3.heap.size := by omega
    clear hbc d0 d1 d2 f0 f1 f2 e0 e1 e2
    obtain ⟨⟨d0, d1, d2⟩, f0, f1, f2⟩ := isv3_cells G3.out
    obtain ⟨⟨e0, e1, e2⟩, _⟩ := isv3_cells GP3.out
    by_cases q1 : s < 0
    · have t1 : decide (s < 0) = true := decide_eq_true q1
      have HE := Lib.hid (show doneErr p s n = 1 by rw [HDEF.out, if_pos (.inl q1)])
      have HQ := Lib.hid (show donePl p s n = ⟨0, [], []⟩ by unfold donePl; rw [HE.out]; rfl)
      go_wp2_with (fail)
      (try simp only [Exit.inBlock, Exit.then])
      refine bodyPost_ret (ret_cell rfl _ _ (w.heap.size + 1) 25 _ _ _ rfl (set3 G3.out) Tryz.underlying25 rfl sizeP) rfl ?_
      rw [HE.out, HQ.out]
      exact RetPl2.none (below_set3 (g := w.heap.size + 1) HB3.out (by omega) _ _ _)
    · have t1 : decide (s < 0) = false := decide_eq_false q1
      obtain ⟨k, rfl⟩ : ∃ k : Nat, s = (k : Int) := ⟨s.toNat, by omega⟩
      by_cases q2 : (N : Int) ≤ (k : Int)
      · have t2 : decide ((N : Int) ≤ (k : Int)) = true := decide_eq_true q2
        have HE := Lib.hid (show doneErr p (k : Int) n = 1 by rw [HDEF.out, if_pos (.inr (by omega))])
        have HQ := Lib.hid (show donePl p (k : Int) n = ⟨0, [], []⟩ by unfold donePl; rw [HE.out]; rfl)
        go_wp2_with (fail)
        (try simp only [Exit.inBlock, Exit.then])
        refine bodyPost_ret (ret_cell rfl _ _ (w.heap.size + 1) 25 _ _ _ rfl (set3 G3.out) Tryz.underlying25 rfl sizeP) rfl ?_
        rw [HE.out, HQ.out]
        exact RetPl2.none (below_set3 (g := w.heap.size + 1) HB3.out (by omega) _ _ _)
      · have t2 : decide ((N : Int) ≤ (k : Int)) = false := decide_eq_false q2
        have hkS : k < p.ss.length := by omega
        obtain ⟨l, hl⟩ : ∃ l, p.ss[k]? = some l := ⟨_, List.getElem?_eq_getElem hkS⟩
        have hsh : shardAt p.ss (k : Int) = l := shardAt_in hl
        have hrok := hok.each l (List.mem_of_getElem? hl)
        obtain ⟨o, ho⟩ : ∃ o, fnd (byNode n) l = o := ⟨_, rfl⟩
        obtain ⟨bq, hbq⟩ : ∃ bq, fis (byNode n) l = bq := ⟨_, rfl⟩
        have hfd := HFD.out w3 HBB3.out
        rw [hsh, ho, hbq] at hfd
        have HDEF2 := Lib.hid (show doneErr p (k : Int) n = if o.2.1 = 1 then bumpErr p else 140 by rw [HDEF.out, if_neg (by omega), hsh, ho])
        have HO := Lib.hid ho
        have HBQ := Lib.hid hbq
        have HSH := Lib.hid hsh
        have HROK := Lib.hid hrok
        have HL := Lib.hid hl
        have HFD2 := Lib.hid hfd
        obtain ⟨o1, o2, o3⟩ := o
        clear hl hsh hrok ho hbq hfd HFD
        go_wp2_with (fail)
        refine HFD2.out.mono ?_
        rintro e w4 ⟨rfl, hb4⟩
        obtain ⟨w5, hw5⟩ : ∃ w5, w4.alloc (.cells #[.int .i64 o1, .int .i64 o2, .int .i64 o3] 68) = w5 := ⟨_, rfl⟩
        have hb5 : Below w4.heap.size w4 w5 := by rw [← hw5]; exact below_al _ _
        have g5 : IsV3 68 w5 w4.heap.size (.int .i64 o1) (.int .i64 o2) (.int .i64 o3) := by rw [← hw5]; exact alloc_new _ _
        have hs4 := hb4.size
        have hs45 : w4.heap.size < w5.heap.size := blk_lt g5
        have HB5 := Lib.hid (HB3.out.trans ((hb4.trans (hb5.mono hs4)).mono (by omega)))
        have HBB5 := Lib.hid (HBB3.out.trans ((hb4.trans (hb5.mono hs4)).mono hs3))
        have hs5 := HBB5.out.size
        have G5 := Lib.hid (blk_below hb5 (blk_below hb4 G3.out hl3) (by omega))
        have GP5 := Lib.hid (blk_below hb5 (blk_below hb4 GP3.out (by omega)) (by omega))
        have O5 := Lib.hid g5
        clear hb4 hb5 g5 HFD2 d0 d1 d2 f0 f1 f2 e0 e1 e2
        obtain ⟨⟨d0, d1, d2⟩, f0, f1, f2⟩ := isv3_cells G5.out
        obtain ⟨⟨e0, e1, e2⟩, _⟩ := isv3_cells GP5.out
        obtain ⟨⟨o0', o1', o2'⟩, _⟩ := isv3_cells O5.out
        have hl5 : w.heap.size + 1 < w5.heap.size := by omega
        cases bq with
        | false =>
          have hz : o2 = 0 := by
            have h1 := HO.out
            have h2 := HBQ.out
            unfold fis at h2
            unfold fnd at h1
            cases hf : l.find? (byNode n) with
            | none => rw [hf] at h1; simp at h1; exact h1.2.1.symm
            | some x => rw [hf] at h2; cases h2
          have HZ0 := Lib.hid hz
          clear hz
          have HE := Lib.hid (show doneErr p (k : Int) n = 140 by rw [HDEF2.out, if_neg (by rw [HZ0.out]; decide)])
          have HQ := Lib.hid (show donePl p (k : Int) n = ⟨0, [], []⟩ by unfold donePl; rw [HE.out]; rfl)
          go_wp2_with (fail)
          (try simp only [Exit.inBlock, Exit.then])
          refine bodyPost_ret (ret_cell rfl _ _ (w.heap.size + 1) 25 _ _ _ rfl (set3 G5.out) Tryz.underlying25 rfl sizeP) rfl ?_
          rw [HE.out, HQ.out]
          exact RetPl2.none (below_set3 (g := w.heap.size + 1) HB5.out (by omega) _ _ _)
        | true =>
          by_cases q3 : o2 = 1
          · subst q3
            have t3 : ((1 : Int) != 1) = false := rfl
            have hom := fnd_mem (p := byNode n) (l := l) (by rw [HO.out])
            rw [HO.out] at hom
            have hon : o1 = n := by simpa [byNode] using hom.2
            subst hon
            have hll := HROK.out.ll
            have HE := Lib.hid (show doneErr p (k : Int) o1 = bumpErr p by rw [HDEF2.out, if_pos rfl])
            have HQ := Lib.hid (show donePl p (k : Int) o1 = bump ⟨p.ver, p.nodes, p.ss.set k (own (disown (disown l o3) o1) (o1, 2, -1))⟩ by
              unfold donePl
              rw [HE.out, HSH.out, HO.out]
              exact bump_of p _ _)
            clear hom
            go_wp2_with (fail)
            refine (HCP.out w5 HBB5.out hok).mono ?_
            rintro e w6 ⟨vn, rfl, hvn, hod, hb6⟩
            have HVN := Lib.hid hvn
            have HOD := Lib.hid hod
            obtain ⟨nver, nnA, nnc, nnodes, nsA, nsc, nrs⟩ := vn
            have hs6 := hb6.size
            have HB6 := Lib.hid (HB5.out.trans (hb6.mono (by omega)))
            have G6 := Lib.hid (blk_below hb6 G5.out hl5)
            clear hvn hod d0 d1 d2 f0 f1 f2 e0 e1 e2
            obtain ⟨w7, hw7⟩ : ∃ w7, w6.alloc (.cells #[.int .i64 nver, .slice nnA nnodes.length nnc, .slice nsA nrs.length nsc] 25) = w7 := ⟨_, rfl⟩
            have hb7 : Below w6.heap.size w6 w7 := by rw [← hw7]; exact below_al _ _
            have gv7 : IsV3 25 w7 w6.heap.size (.int .i64 nver) (.slice nnA nnodes.length nnc) (.slice nsA nrs.length nsc) := by rw [← hw7]; exact alloc_new _ _
            have G7 := Lib.hid (blk_below hb7 G6.out (by omega))
            have HB7 := Lib.hid (HB6.out.trans (hb7.mono HB6.out.size))
            have hs7 := hb7.size
            have hl7 : w.heap.size + 1 < w7.heap.size := by omega
            have hl7'' : w6.heap.size < w7.heap.size := blk_lt gv7
            have hwd := (HOD.out.below hb7 (Nat.le_refl _)).wd (pb := w6.heap.size) hs6 gv7
            have hss : nrs.map (·.l) = p.ss := congrArg Pl.ss HVN.out
            have hnd : nnodes = p.nodes := congrArg Pl.nodes HVN.out
            have hver : nver = p.ver := congrArg Pl.ver HVN.out
            have hNl : nrs.length = p.ss.length := by have := congrArg List.length hss; rwa [List.length_map] at this
            have HLW := Lib.hid (show LW w7 w7 w5.heap.size w6.heap.size p.ver p.nodes p.ss ⟨nver, nnA, nnc, nnodes, nsA, nsc, nrs⟩ from ⟨hwd.wp, hver, hnd, hss, Chg.refl _ _⟩)
            have HND := Lib.hid hnd
            have HNL := Lib.hid hNl
            obtain ⟨⟨c0, c1, c2⟩, k0, k1, k2⟩ := isv3_cells gv7
            clear hwd hss hnd hver hNl gv7
            have hO7 := blk_below (show Below w5.heap.size w5 w7 from (by
              have h1 : Below w5.heap.size w5 w6 := hb6
              exact h1.trans (hb7.mono hs6))) O5.out hs45
            obtain ⟨⟨_, _, oc⟩, _⟩ := isv3_cells hO7
            have hwp := HLW.out.wp
            obtain ⟨r, hr, hrl⟩ := HLW.out.row HL.out
            obtain ⟨sb, hsA, hsb⟩ := HLW.out.sA (by omega)
            have hkN : k < nrs.length := by rw [HNL.out]; exact hkS
            obtain ⟨b, off, eb, _, hcell, _⟩ := hwp.ok.s.at_ hr
            have hrow := hwp.each r (List.mem_of_getElem? hr)
            simp only at hsA
            subst hsA
            cases eb
            have hrok := Ow.rwok hrow rfl rfl
            have hsbl := (hwp.s.lt sb rfl).2
            have HWP := Lib.hid hwp
            have HR := Lib.hid hr
            have hcell' : w7.cell? ⟨sb, k, none⟩ = some r.val := by simpa using hcell
            have hlen : r.l.length ≤ 8 := by rw [hrl]; exact hll.2
            have HUN := Lib.hid (fun (u : World) (hu : Below w7.heap.size w7 u) => unset_y u w7.heap.size r.l.length r.c r.A r.l (hrok.ls.below hu (Nat.le_refl _)) hu.size (by omega) o3)
            obtain ⟨ra, rc, L⟩ := r
            simp only [Rw3.val] at hcell' HUN hlen
            obtain ⟨m, hm⟩ : ∃ m, L.length = m := ⟨_, rfl⟩
            rw [hm] at hcell' HUN
            have HM := Lib.hid hm
            have HRL := Lib.hid hrl
            have hkz : (k : Int) < (nrs.length : Int) := by omega
            have i0 : (0 : Int) ≤ (k : Int) := by omega
            have hl47 : w4.heap.size < w7.heap.size := by omega
            have q0 := Wb.at_ c2
            have q1 := Wb.at_ hcell'
            have q2 := Wb.at_ oc
            clear hwp hr hrow hrok hcell hm hrl hO7 hb6 hb7 c0 c1 k0 k1 k2
            go_wp2_with (fail)
            refine wp_region_plan [([0, 1, 2, 3, 4, 5, 6], some (7, false)), ([8], none)] (by kernel_rfl) (by kernel_rfl) ?_
            refine seg_act _ (by dsimp only [pick, ord.at_]) _ (by dsimp only [pick, ord.at_]) ?_
            repeat (go_big_quiet_step (fail))
            refine wpQuiet_nil ?_
            intro K1 h1 h2
            clear h2
            go_wp2_with (fail)
            refine (HUN.out w7.drew (Below.refl _ _).drew).mono ?_
            rintro e w8 ⟨g8, c8, rfl, how8, hb8⟩
            have HB8 := Lib.hid (show Below w7.heap.size w7 w8 from (Below.refl _ _).drew.trans hb8)
            have hs8 := HB8.out.size
            obtain ⟨M, hM⟩ : ∃ M, disown L o3 = M := ⟨_, rfl⟩
            have hMl : M.length ≤ 8 := by rw [← hM]; exact Nat.le_trans (List.length_filter_le _ _) hlen
            rw [hM] at how8 ⊢
            have HMM := Lib.hid hM
            have HUS := Lib.hid (fun (u : World) (hu : Below w8.heap.size w8 u) => set_y u w8.heap.size M.length c8 (some ⟨g8, 0, none⟩) M (how8.ls.below hu (Nat.le_refl _)) hu.size (by omega) (o1, 2, -1))
            obtain ⟨ml, hml⟩ : ∃ ml, M.length = ml := ⟨_, rfl⟩
            rw [hml] at HUS ⊢
            clear how8 hb8 hM hml
            go_wp2_with (fail)
            refine h1 _ _ HB8.out ?_
            clear h1
            refine seg_end _ (by dsimp only [pick, ord.at_]) ?_
            repeat (go_big_quiet_step (fail))
            refine wpQuiet_nil ?_
            refine NoPanic.normal ?_
            clear q0 q1 q2
            have HV8 := Lib.hid (HWP.out.below HB8.out (Nat.le_refl _))
            obtain ⟨⟨_, _, c8'⟩, _⟩ := isv3_cells HV8.out.var
            simp only at c8'
            have q0 := Wb.at_ c8'
            have hsb8 : sb < w8.heap.size := by omega
            have hpb8 : w6.heap.size < w8.heap.size := by omega
            go_wp2_with (fail)
            refine wp_region_plan [([0, 1, 2, 3, 4, 5], some (6, false)), ([7], some (8, true)), ([], none)] (by kernel_rfl) (by kernel_rfl) ?_
            refine seg_act _ (by dsimp only [pick, ord.at_]) _ (by dsimp only [pick, ord.at_]) ?_
            repeat (go_big_quiet_step (fail))
            refine wpQuiet_nil ?_
            intro K1 h1 h2
            clear h2
            go_wp2_with (fail)
            refine (HUS.out w8.drew (Below.refl _ _).drew).mono ?_
            rintro e w12 ⟨g12, c12, rfl, how12, hb12⟩
            have HB12 := Lib.hid (show Below w8.heap.size w8 w12 from (Below.refl _ _).drew.trans hb12)
            have hs12 := HB12.out.size
            obtain ⟨M2, hM2⟩ : ∃ M2, own (disown M o1) (o1, 2, -1) = M2 := ⟨_, rfl⟩
            simp only [hM2] at how12 ⊢
            have HO12 := Lib.hid how12
            have HM2 := Lib.hid hM2
            obtain ⟨m2, hm2⟩ : ∃ m2, M2.length = m2 := ⟨_, rfl⟩
            have HM2L := Lib.hid hm2
            rw [hm2]
            clear how12 hb12 hM2 hm2
            go_wp2_with (fail)
            refine h1 _ _ HB12.out ?_
            clear h1
            have HV12 := Lib.hid (HV8.out.below HB12.out (Nat.le_refl _))
            obtain ⟨sb2, cur2, es2, _, _, hcur2, _⟩ := HV12.out.srow hkN
            simp only [Option.some.injEq, Addr.mk.injEq, and_true, true_and] at es2
            subst es2
            have hf12 : w12.frozen? ⟨sb, k, none⟩ = false := frozen_of_row _ _ _ _ _ hcur2
            obtain ⟨b12, off12, e12, _, e12', _⟩ := HV12.out.ok.s.at_ HR.out
            have hk12 : ∃ y, w12.cell? ⟨sb, k, none⟩ = some y := ⟨_, by cases e12; simpa using e12'⟩
            obtain ⟨y12, hk12⟩ := hk12
            clear e12 e12' hcur2
            refine seg_write _ (by dsimp only [pick, ord.at_]) _ (by dsimp only [pick, ord.at_]) ?_
            repeat (go_big_quiet_step (fail))
            refine wpQuiet_nil ?_
            intro K4 h4
            go_wp2_with (fail)
            refine seg_end _ (by dsimp only [pick, ord.at_]) ?_
            refine wpQuiet_nil (NoPanic.normal ?_)
            clear q0 hk12 hf12
            have hput := HV12.out.put rfl hkN ⟨some ⟨g12, 0, none⟩, c12, M2⟩ (HO12.out.base (by show w5.heap.size ≤ w8.heap.size; omega))
            simp only [Rw3.val, HM2L.out] at hput
            have hset : (nrs.set k ⟨some ⟨g12, 0, none⟩, c12, M2⟩).length = nrs.length := List.length_set
            obtain ⟨wr, hwr⟩ : ∃ wr, w12.setCell ⟨sb, k, none⟩ (.slice (some ⟨g12, 0, none⟩) m2 c12) = wr := ⟨_, rfl⟩
            rw [hwr] at hput ⊢
            have HZ := Lib.hid (show LW w7 wr w5.heap.size w6.heap.size p.ver p.nodes (p.ss.set k M2) ⟨nver, nnA, nnc, nnodes, some ⟨sb, 0, none⟩, nsc, nrs.set k ⟨some ⟨g12, 0, none⟩, c12, M2⟩⟩ from
              ⟨hput, HLW.out.ver, HLW.out.nds, by
                show (nrs.set k _).map (·.l) = p.ss.set k M2
                rw [List.map_set, ← HLW.out.ss]; rfl, by
                rw [← hwr]
                exact ((Chg.of_below (HB8.out.trans (HB12.out.mono hs8))).mono (fun _ _ e => e.elim)).setCell (p := ⟨sb, k, none⟩) (fun _ => hsb) _⟩)
            have HMF := Lib.hid (show M2 = own (disown (disown l o3) o1) (o1, 2, -1) by rw [← HM2.out, ← HMM.out, ← HRL.out])
            clear hput hwr
            obtain ⟨⟨z0, z1, z2⟩, _⟩ := isv3_cells HZ.out.wp.var
            simp only [hset] at z2
            have hbr := HZ.out.chg.below (show w5.heap.size ≤ w7.heap.size by omega) (fun k h => h)
            have G10 := Lib.hid (blk_below hbr G7.out (by omega))
            have HB10 := Lib.hid (HB7.out.trans (hbr.mono (by omega)))
            have hpw := HZ.out.wp.lt
            have hgw := blk_lt G10.out
            have hl10 : w.heap.size + 1 < (wr).heap.size := hgw
            have HNX := Lib.hid (next_y (wr) ⟨nver, nnA, nnc, nnodes, some ⟨sb, 0, none⟩, nsc, nrs.set k ⟨some ⟨g12, 0, none⟩, c12, M2⟩⟩ ⟨by have := hok.lo; have := HZ.out.ver; simp only at this; show 0 ≤ nver; omega, by have := hok.hi; have := HZ.out.ver; simp only at this; show nver ≤ _; omega⟩)
            clear hbr
            simp only [PV.val, hset] at HNX
            go_wp2_with (fail)
            refine HNX.out.mono ?_
            rintro e w11 ⟨rfl, hb11⟩
            have hPL : (⟨nver, nnA, nnc, nnodes, some ⟨sb, 0, none⟩, nsc, nrs.set k ⟨some ⟨g12, 0, none⟩, c12, M2⟩⟩ : PV).pl = ⟨p.ver, p.nodes, p.ss.set k M2⟩ := by
              have h1 := HZ.out.ver
              have h2 := HZ.out.nds
              have h3 := HZ.out.ss
              simp only at h1 h2
              rw [h1, h2] at h3 ⊢
              unfold PV.pl at h3 ⊢
              simp only at h3 ⊢
              rw [h3]
            have HPLE := Lib.hid (show (nextV ⟨nver, nnA, nnc, nnodes, some ⟨sb, 0, none⟩, nsc, nrs.set k ⟨some ⟨g12, 0, none⟩, c12, M2⟩⟩).pl = donePl p (k : Int) o1 by rw [nextV_pl, hPL, HQ.out, HMF.out])
            have HERE := Lib.hid (show bumpErr (⟨nver, nnA, nnc, nnodes, some ⟨sb, 0, none⟩, nsc, nrs.set k ⟨some ⟨g12, 0, none⟩, c12, M2⟩⟩ : PV).pl = doneErr p (k : Int) o1 by rw [hPL, HE.out]; rfl)
            have HOKE := Lib.hid (fun (u : World) (C : Nat) (h : OP u C ⟨nver, nnA, nnc, nnodes, some ⟨sb, 0, none⟩, nsc, nrs.set k ⟨some ⟨g12, 0, none⟩, c12, M2⟩⟩) => nextV_op h)
            have HZB := Lib.hid (HZ.out.wp.below hb11 (Nat.le_refl _))
            have G11 := Lib.hid (blk_below hb11 G10.out hl10)
            have HB11 := Lib.hid (HB10.out.trans (hb11.mono (by omega)))
            rw [HERE.out]
            obtain ⟨V, hV⟩ : ∃ V, nextV ⟨nver, nnA, nnc, nnodes, some ⟨sb, 0, none⟩, nsc, nrs.set k ⟨some ⟨g12, 0, none⟩, c12, M2⟩⟩ = V := ⟨_, rfl⟩
            rw [hV] at HPLE HOKE ⊢
            obtain ⟨xver, xnA, xnc, xnodes, xsA, xsc, xrs⟩ := V
            have hl11 := blk_lt G11.out
            obtain ⟨⟨d0, d1, d2⟩, f0, f1, f2⟩ := isv3_cells G11.out
            have hpb := HZ.out.wp.le
            clear z0 z1 z2 hb11 hPL hV HERE
            go_wp2_with (fail)
            (try simp only [Exit.inBlock, Exit.then])
            refine bodyPost_ret (ret_cell rfl _ _ (w.heap.size + 1) 25 _ _ _ rfl (set3 G11.out) Tryz.underlying25 rfl sizeP) rfl ?_
            refine ⟨⟨xver, xnA, xnc, xnodes, xsA, xsc, xrs⟩, rfl, HPLE.out, ?_, below_set3 (g := w.heap.size + 1) HB11.out (by omega) _ _ _⟩
            exact HOKE.out _ _ ((HZB.out.apart (chg_set3 _ _ _) G11.out (by omega)).op (by omega))
          · have t3 : (o2 != 1) = true := by simpa using q3
            have HE := Lib.hid (show doneErr p (k : Int) n = 140 by rw [HDEF2.out, if_neg q3])
            have HQ := Lib.hid (show donePl p (k : Int) n = ⟨0, [], []⟩ by unfold donePl; rw [HE.out]; rfl)
            go_wp2_with (fail)
            (try simp only [Exit.inBlock, Exit.then])
            refine bodyPost_ret (ret_cell rfl _ _ (w.heap.size + 1) 25 _ _ _ rfl (set3 G5.out) Tryz.underlying25 rfl sizeP) rfl ?_
            rw [HE.out, HQ.out]
            exact RetPl2.none (below_set3 (g := w.heap.size + 1) HB5.out (by omega) _ _ _)
  · have hc : chk p = 50 := chk_bad hok
    rw [hc] at HCK
    have HC := Lib.hid hc
    clear hc
    go_enter Tryz.func43, Tryz.ntmps43
    go_wp2_with (fail)
    rw [HW2.out]
    go_wp2_with (fail)
    refine (HCK.out).mono ?_
    rintro e w3 ⟨rfl, hbc⟩
    have HBB3 := Lib.hid (HBB2.out.trans (hbc.mono hs2))
    have HB3 := Lib.hid (HB2.out.trans (hbc.mono (by omega)))
    have G3 := Lib.hid (blk_below hbc G2.out hl2)
    have GP3 := Lib.hid (blk_below hbc GP2.out (by omega))
    have hs3 := HBB3.out.size
    have hl3 : w.heap.size + 1 < w3.heap.size := by omega
    clear hbc d0 d1 d2 f0 f1 f2 e0 e1 e2
    obtain ⟨⟨d0, d1, d2⟩, f0, f1, f2⟩ := isv3_cells G3.out
    obtain ⟨⟨e0, e1, e2⟩, _⟩ := isv3_cells GP3.out
    have HE := Lib.hid (show doneErr p s n = 50 by unfold doneErr; rw [HC.out]; rfl)
    have HQ := Lib.hid (show donePl p s n = ⟨0, [], []⟩ by unfold donePl; rw [HE.out]; rfl)
    go_wp2_with (fail)
    (try simp only [Exit.inBlock, Exit.then])
    refine bodyPost_ret (ret_cell rfl _ _ (w.heap.size + 1) 25 _ _ _ rfl (set3 G3.out) Tryz.underlying25 rfl sizeP) rfl ?_
    rw [HE.out, HQ.out]
    exact RetPl2.none (below_set3 (g := w.heap.size + 1) HB3.out (by omega) _ _ _)
end Go.Proofs.YtnjdondkggkfoaaGreat.pm
