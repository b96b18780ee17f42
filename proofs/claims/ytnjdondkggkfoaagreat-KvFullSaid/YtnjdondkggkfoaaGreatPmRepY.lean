/-
  Placements: the document's Replace.
-/
import Derived.Test.YtnjdondkggkfoaaGreatPmLw
namespace Go.Proofs.YtnjdondkggkfoaaGreat.pm
open Go.ChangeShapes Go.WideShapes Go.ChangeAt Go.RowKit Go.Shelf plain words ord mem

set_option maxHeartbeats 4000000 in
theorem rreplace_sy (w : World) (B : Nat) (v : PV) (h : PVok w B v) (hB : B ≤ w.heap.size) (old n : Int) :
    Calls Tryz.prog 42 #[v.val, .int .i64 old, .int .i64 n] w (RetPl2 w (replacePl v.pl old n) (replaceErr v.pl old n)) := by
  obtain ⟨w2, hw2⟩ : ∃ w2, (w.alloc (boxO v)).alloc (.cells #[.int .i64 0, .slice none 0 0, .slice none 0 0] 25) = w2 := ⟨_, rfl⟩
  have hb2 : Below w.heap.size w w2 := by rw [← hw2]; exact (below_al _ _).trans ((below_al _ _).mono (by simp))
  have gp : Boxed w2 w.heap.size v := by rw [← hw2]; exact alloc_old _ (alloc_new _ _)
  have g2 : IsV3 25 w2 (w.heap.size + 1) (.int .i64 0) (.slice none 0 0) (.slice none 0 0) := by rw [← hw2]; have := alloc_new (w.alloc (boxO v)) (.cells #[.int .i64 0, .slice none 0 0, .slice none 0 0] 25); rwa [World.size_alloc] at this
  have hl2 : w.heap.size + 1 < w2.heap.size := blk_lt g2
  have HCK := Lib.hid (rcheck_y w2 B v (h.below hb2 hB) (by omega))
  have HHS := Lib.hid (fun (u : World) (hu : Below w2.heap.size w2 u) (x : Int) => has_y u B v.nodes.length v.nc v.nA v.nodes ((h.below hb2 hB).below hu (by omega)).n (by have := hu.size; omega) h.len.2 x)
  have HBS := Lib.hid (fun (u : World) (hu : Below w2.heap.size w2 u) => rbusy_y u B v ((h.below hb2 hB).below hu (by omega)) (by have := hu.size; omega))
  have HCP := Lib.hid (fun (u : World) (hu : Below w2.heap.size w2 u) (hok : PlOk v.pl) => copied_y u B v ((h.below hb2 hB).below hu (by omega)) (by have := hu.size; omega) hok.sizes.1 hok.sizes.2.1 hok.sizes.2.2.1 hok.sizes.2.2.2.1 hok.sizes.2.2.2.2)
  have hpv : v.pl.ss.length = v.rs.length := by simp [PV.pl]
  have hpn : v.pl.nodes = v.nodes := rfl
  obtain ⟨p, hp⟩ : ∃ p, v.pl = p := ⟨_, rfl⟩
  rw [hp] at HCK HBS HCP hpv hpn ⊢
  have HPV := Lib.hid hp
  obtain ⟨ver, nA, nc, nodes, sA, sc, rs⟩ := v
  obtain ⟨N, hN⟩ : ∃ N, rs.length = N := ⟨_, rfl⟩
  obtain ⟨nl, hnl⟩ : ∃ nl, nodes.length = nl := ⟨_, rfl⟩
  have hpl : p.nodes.length = nl := by rw [hpn]; exact hnl
  simp only at hpn
  subst hpn
  simp only [PV.val, boxO, Boxed, hN, hnl] at hw2 gp HCK HHS HBS HCP hpv ⊢
  have HW2 := Lib.hid hw2
  have HB2 := Lib.hid hb2
  have HBB2 := Lib.hid (Below.refl w2.heap.size w2)
  have hs2 := HBB2.out.size
  have G2 := Lib.hid g2
  have GP2 := Lib.hid gp
  have HN := Lib.hid hN
  have HPL := Lib.hid hpl
  clear h hw2 hp hN hnl hpl hb2
  obtain ⟨⟨d0, d1, d2⟩, f0, f1, f2⟩ := isv3_cells g2
  obtain ⟨⟨e0, e1, e2⟩, _⟩ := isv3_cells gp
  clear g2 gp
  by_cases hok : PlOk p
  · have hc : chk p = 0 := chk_ok hok
    have hdef : replaceErr p old n = if has p.nodes old = false ∨ n < 0 ∨ 8 ≤ n ∨ has p.nodes n = true then 140 else if busy p.ss = true then 141 else bumpErr p := by unfold replaceErr; rw [if_pos hc]
    rw [hc] at HCK
    have HDEF := Lib.hid hdef
    clear hc hdef
    go_enter Tryz.func42, Tryz.ntmps42
    go_wp2_with (fail)
    rw [HW2.out]
    go_wp2_with (fail)
    refine (HCK.out).mono ?_
    rintro e w3 ⟨rfl, hbc⟩
    have HBB3 := Lib.hid (HBB2.out.trans (hbc.mono hs2))
    have HB3 := Lib.hid (HB2.out.trans (hbc.mono (by omega)))
    have G3 := Lib.hid (blk_below hbc G2.out hl2)
    have GP3 := Lib.hid (blk_below hbc GP2.out (by omega))
    have hs3 := HBB3.out.size
    have hl3 : w.heap.size + 1 < w3.heap.size := by omega
    clear hbc d0 d1 d2 f0 f1 f2 e0 e1 e2
    obtain ⟨⟨d0, d1, d2⟩, f0, f1, f2⟩ := isv3_cells G3.out
    obtain ⟨⟨e0, e1, e2⟩, _⟩ := isv3_cells GP3.out
    go_wp2_with (fail)
    refine (HHS.out w3 HBB3.out old).mono ?_
    rintro e w4 ⟨rfl, hbc⟩
    have HBB4 := Lib.hid (HBB3.out.trans (hbc.mono hs3))
    have HB4 := Lib.hid (HB3.out.trans (hbc.mono (by omega)))
    have G4 := Lib.hid (blk_below hbc G3.out hl3)
    have GP4 := Lib.hid (blk_below hbc GP3.out (by omega))
    have hs4 := HBB4.out.size
    have hl4 : w.heap.size + 1 < w4.heap.size := by omega
    clear hbc d0 d1 d2 f0 f1 f2 e0 e1 e2
    obtain ⟨⟨d0, d1, d2⟩, f0, f1, f2⟩ := isv3_cells G4.out
    obtain ⟨⟨e0, e1, e2⟩, _⟩ := isv3_cells GP4.out
    cases hh : has p.nodes old with
    | false =>
      have HE := Lib.hid (show replaceErr p old n = 140 by rw [HDEF.out, if_pos (.inl hh)])
      have HQ := Lib.hid (show replacePl p old n = ⟨0, [], []⟩ by unfold replacePl; rw [HE.out]; rfl)
      go_wp2_with (fail)
      (try simp only [Exit.inBlock, Exit.then])
      refine bodyPost_ret (ret_cell rfl _ _ (w.heap.size + 1) 25 _ _ _ rfl (set3 G4.out) Tryz.underlying25 rfl sizeP) rfl ?_
      rw [HE.out, HQ.out]
      exact RetPl2.none (below_set3 (g := w.heap.size + 1) HB4.out (by omega) _ _ _)
    | true =>
      go_wp2_with (fail)
      refine (node_y w4 n).mono ?_
      rintro e w14 ⟨rfl, hbc⟩
      have HBB14 := Lib.hid (HBB4.out.trans (hbc.mono hs4))
      have HB14 := Lib.hid (HB4.out.trans (hbc.mono (by omega)))
      have G14 := Lib.hid (blk_below hbc G4.out hl4)
      have GP14 := Lib.hid (blk_below hbc GP4.out (by omega))
      have hs14 := HBB14.out.size
      have hl14 : w.heap.size + 1 < w14.heap.size := by omega
      clear hbc d0 d1 d2 f0 f1 f2 e0 e1 e2
      obtain ⟨⟨d0, d1, d2⟩, f0, f1, f2⟩ := isv3_cells G14.out
      obtain ⟨⟨e0, e1, e2⟩, _⟩ := isv3_cells GP14.out
      cases hnb : isNodeB n with
      | false =>
        have HE := Lib.hid (show replaceErr p old n = 140 by rw [HDEF.out, if_pos]; rcases isNodeB_false.1 hnb with h | h; exact .inr (.inl h); exact .inr (.inr (.inl h)))
        have HQ := Lib.hid (show replacePl p old n = ⟨0, [], []⟩ by unfold replacePl; rw [HE.out]; rfl)
        go_wp2_with (fail)
        (try simp only [Exit.inBlock, Exit.then])
        refine bodyPost_ret (ret_cell rfl _ _ (w.heap.size + 1) 25 _ _ _ rfl (set3 G14.out) Tryz.underlying25 rfl sizeP) rfl ?_
        rw [HE.out, HQ.out]
        exact RetPl2.none (below_set3 (g := w.heap.size + 1) HB14.out (by omega) _ _ _)
      | true =>
        go_wp2_with (fail)
        refine (HHS.out w14 HBB14.out n).mono ?_
        rintro e w15 ⟨rfl, hbc⟩
        have HBB15 := Lib.hid (HBB14.out.trans (hbc.mono hs14))
        have HB15 := Lib.hid (HB14.out.trans (hbc.mono (by omega)))
        have G15 := Lib.hid (blk_below hbc G14.out hl14)
        have GP15 := Lib.hid (blk_below hbc GP14.out (by omega))
        have hs15 := HBB15.out.size
        have hl15 : w.heap.size + 1 < w15.heap.size := by omega
        clear hbc d0 d1 d2 f0 f1 f2 e0 e1 e2
        obtain ⟨⟨d0, d1, d2⟩, f0, f1, f2⟩ := isv3_cells G15.out
        obtain ⟨⟨e0, e1, e2⟩, _⟩ := isv3_cells GP15.out
        cases hh3 : has p.nodes n with
        | true =>
          have HE := Lib.hid (show replaceErr p old n = 140 by rw [HDEF.out, if_pos (.inr (.inr (.inr hh3)))])
          have HQ := Lib.hid (show replacePl p old n = ⟨0, [], []⟩ by unfold replacePl; rw [HE.out]; rfl)
          go_wp2_with (fail)
          (try simp only [Exit.inBlock, Exit.then])
          refine bodyPost_ret (ret_cell rfl _ _ (w.heap.size + 1) 25 _ _ _ rfl (set3 G15.out) Tryz.underlying25 rfl sizeP) rfl ?_
          rw [HE.out, HQ.out]
          exact RetPl2.none (below_set3 (g := w.heap.size + 1) HB15.out (by omega) _ _ _)
        | false =>
          have hnd0 : isNode n := (isNodeB_iff n).1 hnb
          have HDEF2 := Lib.hid (show replaceErr p old n = if busy p.ss = true then 141 else bumpErr p by rw [HDEF.out, if_neg (by rw [hh, hh3]; have := hnd0.1; have := hnd0.2; simp; omega)])
          go_wp2_with (fail)
          refine (HBS.out w15 HBB15.out).mono ?_
          rintro e w5 ⟨rfl, hbc⟩
          have HBB5 := Lib.hid (HBB15.out.trans (hbc.mono hs15))
          have HB5 := Lib.hid (HB15.out.trans (hbc.mono (by omega)))
          have G5 := Lib.hid (blk_below hbc G15.out hl15)
          have GP5 := Lib.hid (blk_below hbc GP15.out (by omega))
          have hs5 := HBB5.out.size
          have hl5 : w.heap.size + 1 < w5.heap.size := by omega
          clear hbc d0 d1 d2 f0 f1 f2 e0 e1 e2
          obtain ⟨⟨d0, d1, d2⟩, f0, f1, f2⟩ := isv3_cells G5.out
          obtain ⟨⟨e0, e1, e2⟩, _⟩ := isv3_cells GP5.out
          cases hbu : busy p.ss with
          | true =>
            have HE := Lib.hid (show replaceErr p old n = 141 by rw [HDEF2.out, if_pos hbu])
            have HQ := Lib.hid (show replacePl p old n = ⟨0, [], []⟩ by unfold replacePl; rw [HE.out]; rfl)
            go_wp2_with (fail)
            (try simp only [Exit.inBlock, Exit.then])
            refine bodyPost_ret (ret_cell rfl _ _ (w.heap.size + 1) 25 _ _ _ rfl (set3 G5.out) Tryz.underlying25 rfl sizeP) rfl ?_
            rw [HE.out, HQ.out]
            exact RetPl2.none (below_set3 (g := w.heap.size + 1) HB5.out (by omega) _ _ _)
          | false =>
            have HE := Lib.hid (show replaceErr p old n = bumpErr p by rw [HDEF2.out, if_neg (by rw [hbu]; simp)])
            have HMAY := Lib.hid (show MayRep p old n from ⟨hok, hh, hnd0, hh3, hok.calm hbu⟩)
            have HQ := Lib.hid (show replacePl p old n = bump ⟨p.ver, repNodes p old n, repAt old n p.ss p.ss.length⟩ by unfold replacePl; rw [HE.out]; exact bump_of p _ _)
            go_wp2_with (fail)
            refine (HCP.out w5 HBB5.out hok).mono ?_
            rintro e w6 ⟨vn, rfl, hvn, hod, hb6⟩
            have HVN := Lib.hid hvn
            have HOD := Lib.hid hod
            obtain ⟨nver, nnA, nnc, nnodes, nsA, nsc, nrs⟩ := vn
            have hs6 := hb6.size
            have HB6 := Lib.hid (HB5.out.trans (hb6.mono (by omega)))
            have G6 := Lib.hid (blk_below hb6 G5.out hl5)
            clear hvn hod d0 d1 d2 f0 f1 f2 e0 e1 e2
            obtain ⟨w7, hw7⟩ : ∃ w7, w6.alloc (.cells #[.int .i64 nver, .slice nnA nnodes.length nnc, .slice nsA nrs.length nsc] 25) = w7 := ⟨_, rfl⟩
            have hb7 : Below w6.heap.size w6 w7 := by rw [← hw7]; exact below_al _ _
            have gv7 : IsV3 25 w7 w6.heap.size (.int .i64 nver) (.slice nnA nnodes.length nnc) (.slice nsA nrs.length nsc) := by rw [← hw7]; exact alloc_new _ _
            have G7 := Lib.hid (blk_below hb7 G6.out (by omega))
            have HB7 := Lib.hid (HB6.out.trans (hb7.mono HB6.out.size))
            have hs7 := hb7.size
            have hl7 : w.heap.size + 1 < w7.heap.size := by omega
            have hl7'' : w6.heap.size < w7.heap.size := blk_lt gv7
            have hwd := (HOD.out.below hb7 (Nat.le_refl _)).wd (pb := w6.heap.size) hs6 gv7
            have hss : nrs.map (·.l) = p.ss := congrArg Pl.ss HVN.out
            have hnd : nnodes = p.nodes := congrArg Pl.nodes HVN.out
            have hver : nver = p.ver := congrArg Pl.ver HVN.out
            have hNl : nrs.length = p.ss.length := by have := congrArg List.length hss; rwa [List.length_map] at this
            have HLW := Lib.hid (show LW w7 w7 w5.heap.size w6.heap.size p.ver p.nodes p.ss ⟨nver, nnA, nnc, nnodes, nsA, nsc, nrs⟩ from ⟨hwd.wp, hver, hnd, hss, Chg.refl _ _⟩)
            have HND := Lib.hid hnd
            have HNL := Lib.hid hNl
            obtain ⟨⟨c0, c1, c2⟩, k0, k1, k2⟩ := isv3_cells gv7
            clear hwd hss hnd hver hNl gv7 hb6 hb7
            have hwn := HLW.out.wp.n
            have HWT := Lib.hid (without_y w7 w7.heap.size nnodes.length nnc nnA nnodes hwn.ls (Nat.le_refl _) (by have := hok.nl; rw [HND.out]; omega) old)
            have hww : (without nnodes old).length ≤ nnodes.length := List.length_filter_le _ _
            clear hwn
            go_wp2_with (fail)
            refine HWT.out.mono ?_
            rintro e w17 ⟨g17, cc17, rfl, hon17, hbn17⟩
            have HWI := Lib.hid (with_y w17 w17.heap.size (without nnodes old).length cc17 (some ⟨g17, 0, none⟩) (without nnodes old) hon17.ls (Nat.le_refl _) (by have := hok.nl; rw [HND.out] at hww; rw [HND.out]; omega) n)
            have HBN17 := Lib.hid hbn17
            have hs17 := hbn17.size
            obtain ⟨ml0, hml0⟩ : ∃ ml0, (without nnodes old).length = ml0 := ⟨_, rfl⟩
            rw [hml0] at HWI ⊢
            have hv17 := (HLW.out.below hbn17).wp.var
            obtain ⟨⟨v0, v1, v2⟩, v3, v4, v5⟩ := isv3_cells hv17
            have hl17 : w6.heap.size < w17.heap.size := by omega
            clear hon17 hbn17 hv17 hww hml0
            go_wp2_with (fail)
            refine HWI.out.mono ?_
            rintro e w8 ⟨g8, cc8, rfl, hon8, hbn8'⟩
            clear v0 v1 v2 v3 v4 v5
            have hbn8 := HBN17.out.trans (hbn8'.mono hs17)
            have hwp8 := (HLW.out.below hbn8).wp
            have hnew := hwp8.putNodes (hon8.base (show w5.heap.size ≤ w17.heap.size by omega))
            have hwith : with_ (without nnodes old) n 8 = repNodes p old n := by
              have hl := without_len (nodes_nodup hok.nodes.rise) hh
              have hm := hok.nodes.many
              rw [HND.out]
              exact with_srt (l := without p.nodes old) (fun x hx => hok.nodes.each x (List.mem_filter.1 hx).1) (nodes_nodup (without_rise hok.nodes.rise old)) (by omega) hnd0 (by rw [has_without, hh3]; rfl)
            obtain ⟨NN, hNN⟩ : ∃ NN, with_ (without nnodes old) n 8 = NN := ⟨_, rfl⟩
            rw [hNN] at hwith hon8 hnew ⊢
            obtain ⟨ml, hml⟩ : ∃ ml, NN.length = ml := ⟨_, rfl⟩
            obtain ⟨w9, hw9⟩ : ∃ w9, w8.setCell ⟨w6.heap.size, 1, none⟩ (.slice (some ⟨g8, 0, none⟩) ml cc8) = w9 := ⟨_, rfl⟩
            rw [hml, hw9] at hnew
            have hb89 : Chg (fun k => w5.heap.size ≤ k) w7 w9 := by
              rw [← hw9]
              exact ((Chg.of_below hbn8).mono (fun _ _ e => e.elim)).setCell (p := ⟨w6.heap.size, 1, none⟩) (fun _ => hs6) _
            have HLW9 := Lib.hid (show LW w9 w9 w5.heap.size w6.heap.size p.ver (repNodes p old n) p.ss ⟨nver, some ⟨g8, 0, none⟩, cc8, NN, nsA, nsc, nrs⟩ from
              ⟨hnew, HLW.out.ver, hwith, HLW.out.ss, Chg.refl _ _⟩)
            have hB9 := hb89.below (show w5.heap.size ≤ w7.heap.size by omega) (fun k h => h)
            have G9 := Lib.hid (blk_below hB9 G7.out (by omega))
            have HB9 := Lib.hid (HB7.out.trans (hB9.mono (by omega)))
            have hs9 := hB9.size
            have hs8 := hbn8.size
            obtain ⟨⟨y0, y1, y2⟩, u0, u1, u2⟩ := isv3_cells hwp8.var
            have hl8 : w6.heap.size < w8.heap.size := by omega
            have HW9 := Lib.hid hw9
            have HML := Lib.hid hml
            clear hnew hb89 hB9 hon8 hbn8 hbn8' c0 c1 c2 k0 k1 k2 hwp8 hwith hNN
            rw [hml]
            clear hml hw9
            go_wp2_with (fail)
            rw [HW9.out]
            clear y0 y1 y2 u0 u1 u2
            obtain ⟨S, hS⟩ : ∃ S, p.ss.length = S := ⟨_, rfl⟩
            have hS1 := hok.some_
            have hS8 := hok.few
            rw [hS] at HQ hS1 hS8
            have HS := Lib.hid hS
            clear hS
            go_loopg [9] S (fun gg s9 wr => ∃ i : Nat, s9 = .int .i64 i ∧ i ≤ S ∧ S - i ≤ gg ∧ Aside (∃ v, LW w9 wr w5.heap.size w6.heap.size p.ver (repNodes p old n) (repAt old n p.ss i) v))
            case atStart => exact ⟨0, rfl, by omega, by omega, ⟨_, HLW9.out⟩⟩
            case round =>
              obtain ⟨i, rfl, hi, hg, HR⟩ := hrel
              clear HLW9
              obtain ⟨v, hv⟩ := HR.out
              have hsr := hv.chg.size
              have hvl := hv.len
              have HF := Lib.hid (HMAY.out.half i)
              rw [HF.out.len, HS.out] at hvl
              have HRI := Lib.hid (show Rises v.pl.ss by rw [hv.ss]; exact HF.out.rises HMAY.out.calm)
              by_cases hlt : i < S
              · have hltz : (i : Int) < (S : Int) := by omega
                obtain ⟨l, hl⟩ : ∃ l, p.ss[i]? = some l := ⟨_, List.getElem?_eq_getElem (by rw [HS.out]; exact hlt)⟩
                have hX : (repAt old n p.ss i)[i]? = some l := by rw [HF.out.high i (Nat.le_refl _)]; exact hl
                have hat : at_ (repAt old n p.ss i) i = l := by unfold at_; rw [hX]; rfl
                have hcl := HMAY.out.calm l (List.mem_of_getElem? hl)
                obtain ⟨r, hr, hrl⟩ := hv.row hX
                obtain ⟨sb, hsA, hsb⟩ := hv.sA (by rw [HF.out.len, HS.out]; omega)
                have hvx : v.pl.ss[i]? = some l := by rw [hv.ss]; exact hX
                have HOW := Lib.hid ((shardAt_in hvx) ▸ rowns_y wr wr.heap.size v hv.wp.ok (Nat.le_refl _) HRI.out (i : Int) old)
                have HMV := Lib.hid (fun (u : World) (hu : Below wr.heap.size wr u) => move_y u w5.heap.size w6.heap.size sb v (hv.wp.below hu (Nat.le_refl _)) hsA i r hr (by rw [hrl, hcl.three]; omega) old n)
                have HV := Lib.hid hv
                have HAT := Lib.hid hat
                have HCL := Lib.hid hcl
                have HSB := Lib.hid hsb
                have HRL := Lib.hid hrl
                have HLI := Lib.hid (List.mem_of_getElem? hl)
                obtain ⟨vver, vnA, vnc, vnodes, vsA, vsc, vrs⟩ := v
                simp only at hvl
                obtain ⟨⟨z0, z1, z2⟩, _⟩ := isv3_cells hv.wp.var
                rw [hvl] at z2
                simp only [PV.val, hvl] at HOW HMV
                have HVC := Lib.hid (fun (u : World) (hu : Below wr.heap.size wr u) => (show u.cell? ⟨w6.heap.size, 0, none⟩ = some (.int .i64 vver) ∧ u.cell? ⟨w6.heap.size, 1, none⟩ = some (.slice vnA vnodes.length vnc) ∧ u.cell? ⟨w6.heap.size, 2, none⟩ = some (.slice vsA S vsc) from by
                  obtain ⟨a0, a1, a2⟩ := (isv3_cells (hv.wp.below hu (Nat.le_refl _)).var).1
                  simp only [hvl] at a2
                  exact ⟨a0, a1, a2⟩))
                have hpwr : w6.heap.size < wr.heap.size := hv.wp.lt
                clear hv hl hX hat hcl hr hrl hsA hsb hvx HR hvl
                go_wp2_with (fail)
                refine HOW.out.mono ?_
                rintro e wh ⟨rfl, hbh⟩
                have HBH := Lib.hid hbh
                have hsh := hbh.size
                clear hbh z0 z1 z2
                cases hh2 : holds l old with
                | false =>
                  have HZ := Lib.hid (HV.out.below HBH.out)
                  have HST := Lib.hid (show repAt old n p.ss (i + 1) = repAt old n p.ss i by show repStep _ _ _ _ = _; unfold repStep; rw [HAT.out, if_neg (by rw [hh2]; simp)])
                  go_wp2_with (fail)
                  go_roundg (S - (i + 1))
                  case measure => omega
                  case rel => exact ⟨i + 1, by go_num, by omega, by omega, ⟨_, by rw [HST.out]; exact HZ.out⟩⟩
                | true =>
                  obtain ⟨z0, z1, z2⟩ := HVC.out wh HBH.out
                  have hph : w6.heap.size < wh.heap.size := by omega
                  go_wp2_with (fail)
                  refine (HMV.out wh HBH.out).mono ?_
                  rintro e wt hret
                  obtain ⟨rfl, v2, hv2, _⟩ := (HV.out.below HBH.out).put HSB.out hret
                  have hst : (repAt old n p.ss i).set i (giveY r.l old n) = repAt old n p.ss (i + 1) := by
                    show _ = repStep _ _ _ _
                    unfold repStep
                    rw [HAT.out, if_pos hh2, HRL.out]
                    have a2 := HMAY.out.holds_new HLI.out
                    rw [give_eq (HCL.out.not a2) (fun e => by rw [e, a2] at hh2; cases hh2)]
                  rw [hst] at hv2
                  have HV2 := Lib.hid hv2
                  clear hret hv2 hst z0 z1 z2
                  go_wp2_with (fail)
                  go_roundg (S - (i + 1))
                  case measure => omega
                  case rel => exact ⟨i + 1, by go_num, by omega, by omega, ⟨_, HV2.out⟩⟩
              · obtain hie : i = S := by omega
                subst hie
                have hltz : ¬ ((i : Nat) : Int) < ((i : Nat) : Int) := by omega
                have HZ := Lib.hid hv
                obtain ⟨vver, vnA, vnc, vnodes, vsA, vsc, vrs⟩ := v
                simp only at hvl
                subst hvl
                clear HR hv
                obtain ⟨⟨z0, z1, z2⟩, _⟩ := isv3_cells HZ.out.wp.var
                have hbr := HZ.out.chg.below (show w5.heap.size ≤ w9.heap.size by omega) (fun k h => h)
                have G10 := Lib.hid (blk_below hbr G9.out (by omega))
                have HB10 := Lib.hid (HB9.out.trans (hbr.mono (by omega)))
                have hpw := HZ.out.wp.lt
                have hgw := blk_lt G10.out
                have hl10 : w.heap.size + 1 < (wr).heap.size := hgw
                have HNX := Lib.hid (next_y (wr) ⟨vver, vnA, vnc, vnodes, vsA, vsc, vrs⟩ ⟨by have := hok.lo; have := HZ.out.ver; simp only at this; show 0 ≤ vver; omega, by have := hok.hi; have := HZ.out.ver; simp only at this; show vver ≤ _; omega⟩)
                clear hbr
                go_wp2_with (fail)
                refine HNX.out.mono ?_
                rintro e w11 ⟨rfl, hb11⟩
                have hPL : (⟨vver, vnA, vnc, vnodes, vsA, vsc, vrs⟩ : PV).pl = ⟨p.ver, repNodes p old n, repAt old n p.ss vrs.length⟩ := by
                  have h1 := HZ.out.ver
                  have h2 := HZ.out.nds
                  have h3 := HZ.out.ss
                  simp only at h1 h2
                  rw [h1, h2] at h3 ⊢
                  unfold PV.pl at h3 ⊢
                  simp only at h3 ⊢
                  rw [h3]
                have HPLE := Lib.hid (show (nextV ⟨vver, vnA, vnc, vnodes, vsA, vsc, vrs⟩).pl = replacePl p old n by rw [nextV_pl, hPL, HQ.out])
                have HERE := Lib.hid (show bumpErr (⟨vver, vnA, vnc, vnodes, vsA, vsc, vrs⟩ : PV).pl = replaceErr p old n by rw [hPL, HE.out]; rfl)
                have HOKE := Lib.hid (fun (u : World) (C : Nat) (h : OP u C ⟨vver, vnA, vnc, vnodes, vsA, vsc, vrs⟩) => nextV_op h)
                have HZB := Lib.hid (HZ.out.wp.below hb11 (Nat.le_refl _))
                have G11 := Lib.hid (blk_below hb11 G10.out hl10)
                have HB11 := Lib.hid (HB10.out.trans (hb11.mono (by omega)))
                rw [HERE.out]
                obtain ⟨V, hV⟩ : ∃ V, nextV ⟨vver, vnA, vnc, vnodes, vsA, vsc, vrs⟩ = V := ⟨_, rfl⟩
                rw [hV] at HPLE HOKE ⊢
                obtain ⟨xver, xnA, xnc, xnodes, xsA, xsc, xrs⟩ := V
                have hl11 := blk_lt G11.out
                obtain ⟨⟨d0, d1, d2⟩, f0, f1, f2⟩ := isv3_cells G11.out
                have hpb := HZ.out.wp.le
                clear z0 z1 z2 hb11 hPL hV HERE
                go_wp2_with (fail)
                (try simp only [Exit.inBlock, Exit.then])
                refine bodyPost_ret (ret_cell rfl _ _ (w.heap.size + 1) 25 _ _ _ rfl (set3 G11.out) Tryz.underlying25 rfl sizeP) rfl ?_
                refine ⟨⟨xver, xnA, xnc, xnodes, xsA, xsc, xrs⟩, rfl, HPLE.out, ?_, below_set3 (g := w.heap.size + 1) HB11.out (by omega) _ _ _⟩
                exact HOKE.out _ _ ((HZB.out.apart (chg_set3 _ _ _) G11.out (by omega)).op (by omega))
  · have hc : chk p = 50 := chk_bad hok
    rw [hc] at HCK
    have HC := Lib.hid hc
    clear hc
    go_enter Tryz.func42, Tryz.ntmps42
    go_wp2_with (fail)
    rw [HW2.out]
    go_wp2_with (fail)
    refine (HCK.out).mono ?_
    rintro e w3 ⟨rfl, hbc⟩
    have HBB3 := Lib.hid (HBB2.out.trans (hbc.mono hs2))
    have HB3 := Lib.hid (HB2.out.trans (hbc.mono (by omega)))
    have G3 := Lib.hid (blk_below hbc G2.out hl2)
    have GP3 := Lib.hid (blk_below hbc GP2.out (by omega))
    have hs3 := HBB3.out.size
    have hl3 : w.heap.size + 1 < w3.heap.size := by omega
    clear hbc d0 d1 d2 f0 f1 f2 e0 e1 e2
    obtain ⟨⟨d0, d1, d2⟩, f0, f1, f2⟩ := isv3_cells G3.out
    obtain ⟨⟨e0, e1, e2⟩, _⟩ := isv3_cells GP3.out
    have HE := Lib.hid (show replaceErr p old n = 50 by unfold replaceErr; rw [HC.out]; rfl)
    have HQ := Lib.hid (show replacePl p old n = ⟨0, [], []⟩ by unfold replacePl; rw [HE.out]; rfl)
    go_wp2_with (fail)
    (try simp only [Exit.inBlock, Exit.then])
    refine bodyPost_ret (ret_cell rfl _ _ (w.heap.size + 1) 25 _ _ _ rfl (set3 G3.out) Tryz.underlying25 rfl sizeP) rfl ?_
    rw [HE.out, HQ.out]
    exact RetPl2.none (below_set3 (g := w.heap.size + 1) HB3.out (by omega) _ _ _)
theorem rreplace_y (w : World) (B : Nat) (v : PV) (h : PVok w B v) (hB : B ≤ w.heap.size) (old n : Int) :
    Calls Tryz.prog 42 #[v.val, .int .i64 old, .int .i64 n] w (RetPl w (replacePl v.pl old n) (replaceErr v.pl old n)) :=
  (rreplace_sy w B v h hB old n).mono fun _ _ h => h.weak
end Go.Proofs.YtnjdondkggkfoaaGreat.pm
