/-
  Placements: the program's Remove.
-/
import Derived.Test.YtnpkhkhchimcnaaPmDone
import Derived.Test.YtnpkhkhchimcnaaPmC
import Derived.Test.YtnpkhkhchimcnaaPmWithout
namespace Go.Proofs.Ytnpkhkhchimcnaa.pm
open Go.ChangeShapes Go.WideShapes Go.ChangeAt Go.RowKit Go.Shelf plain words ord mem

/-- another list of nodes laid in a placement -/
theorem WD.setN {w w' : World} {B pb g m c : Nat} {A : Option Addr} {v : PV} {l : List Int} {cur : Array Value} (h : WD w B pb v) (hg : w.heap[g]? = some (.cells cur 3 (0, 0))) (hc : Chg (fun k => k = g) w w')
    (hr : Ow NE w' B (.slice A m c) m l) : WD (w'.setCell ⟨pb, 1, none⟩ (.slice A m c)) B pb { v with nA := A, nc := c, nodes := l } := by
  have hgp : pb ≠ g := fun e => blk_type h.wp.var hg (by decide) e
  have hvar := hc.blk h.wp.var hgp
  have hc2 : Chg (fun b => b = pb) w' (w'.setCell ⟨pb, 1, none⟩ (.slice A m c)) := chg_set1 _
  have hm := hr.1
  refine ⟨⟨h.wp.le, ?_, ?_, ow_other (ow_other h.wp.s hc hg (by decide)) hc2 hvar (by decide), fun q hq => ow_other (ow_other (h.wp.each q hq) hc hg (by decide)) hc2 hvar (by decide)⟩, h.apart⟩
  · have := heap_setCell_same w' pb 1 _ _ (.slice A m c) hvar
    simpa [Boxed, IsV3, hm] using this
  · simp only [hm]
    exact ow_other hr hc2 hvar (by decide)
noncomputable def remStep (nodes : List Int) (node : Int) (X : List (List O)) (i : Nat) : List (List O) := if holds (at_ X i) node = true then X.set i (give (at_ X i) node (least nodes X (at_ X i))) else X
noncomputable def remAt (nodes : List Int) (node : Int) (ss : List (List O)) : Nat → List (List O)
  | 0 => ss
  | i + 1 => remStep nodes node (remAt nodes node ss i) i
theorem remAt_high (nodes : List Int) (node : Int) (ss : List (List O)) : ∀ (i j : Nat), i ≤ j → (remAt nodes node ss i)[j]? = ss[j]?
  | 0, _, _ => rfl
  | i + 1, j, h => by
    unfold remAt remStep
    split
    · rw [List.getElem?_set_ne (by omega)]; exact remAt_high nodes node ss i j (by omega)
    · exact remAt_high nodes node ss i j (by omega)
noncomputable def removeErr (p : Pl) (n : Int) : Int :=
  if chk p = 0 then (if has p.nodes n = false ∨ p.nodes.length ≤ 3 then 140 else if busy p.ss = true then 141 else bumpErr p) else 50
noncomputable def removePl (p : Pl) (n : Int) : Pl :=
  if removeErr p n = 0 then ⟨p.ver + 1, without p.nodes n, remAt (without p.nodes n) n p.ss p.ss.length⟩ else ⟨0, [], []⟩
/-- what the loop keeps -/
structure RL (w7 wr : World) (B pb sb N : Nat) (ver : Int) (nodes : List Int) (node : Int) (ss : List (List O)) (i : Nat) (v : PV) : Prop where
  wd : WD wr B pb v
  ver : v.ver = ver
  nds : v.nodes = nodes
  sA : v.sA = some ⟨sb, 0, none⟩
  len : v.rs.length = N
  ss : v.pl.ss = remAt nodes node ss i
  chg : Chg (fun k => B ≤ k) w7 wr
theorem RL.row {w7 wr : World} {B pb sb N : Nat} {ver : Int} {nodes : List Int} {node : Int} {ss : List (List O)} {i : Nat} {v : PV} (h : RL w7 wr B pb sb N ver nodes node ss i v) (hi : i < N) :
    ∃ r, v.rs[i]? = some r ∧ ss[i]? = some r.l ∧ at_ (remAt nodes node ss i) i = r.l ∧ wr.cell? ⟨sb, i, none⟩ = some r.val ∧ RwOk wr wr.heap.size r := by
  obtain ⟨r, hr⟩ : ∃ r, v.rs[i]? = some r := ⟨_, List.getElem?_eq_getElem (by rw [h.len]; exact hi)⟩
  have h1 := pl_at hr
  rw [h.ss] at h1
  have h2 := h1
  rw [remAt_high nodes node ss i i (Nat.le_refl _)] at h2
  obtain ⟨b, off, e1, _, e2, hok⟩ := h.wd.wp.ok.s.at_ hr
  rw [h.sA] at e1; cases e1
  exact ⟨r, hr, h2, by unfold at_; rw [h1]; rfl, by simpa using e2, hok⟩
theorem RL.step {w7 wr w8 w9 : World} {B pb sb N : Nat} {ver : Int} {nodes : List Int} {node : Int} {ss : List (List O)} {i : Nat} {v : PV} {r : Rw3} {e : Ending} (h : RL w7 wr B pb sb N ver nodes node ss i v) (hr : v.rs[i]? = some r)
    (hat : at_ (remAt nodes node ss i) i = r.l) (hh : holds r.l node = true) (hb : Below wr.heap.size wr w8) (hret : RetSet w8 B pb i v (give r.l node (least v.nodes v.pl.ss r.l)) e w9) (hBw : B ≤ wr.heap.size) :
    e = .returned (.tuple #[]) ∧ ∃ v', RL w7 w9 B pb sb N ver nodes node ss (i + 1) v' := by
  obtain ⟨he, r', hl, hwd, hc⟩ := hret
  refine ⟨he, { v with rs := v.rs.set i r' }, hwd, h.ver, h.nds, h.sA, by simpa using h.len, ?_, chg_trans (chg_trans h.chg ((Chg.of_below hb).mono (fun _ _ e => e.elim))) hc⟩
  have hs : v.pl.ss = remAt nodes node ss i := h.ss
  show (v.rs.set i r').map (·.l) = remStep nodes node (remAt nodes node ss i) i
  unfold remStep
  rw [hat, if_pos hh, ← hs, List.map_set, hl, h.nds]
  rfl
theorem RL.skip {w7 wr w8 : World} {B pb sb N : Nat} {ver : Int} {nodes : List Int} {node : Int} {ss : List (List O)} {i : Nat} {v : PV} {l : List O} (h : RL w7 wr B pb sb N ver nodes node ss i v)
    (hat : at_ (remAt nodes node ss i) i = l) (hh : holds l node = false) (hb : Below wr.heap.size wr w8) : RL w7 w8 B pb sb N ver nodes node ss (i + 1) v :=
  ⟨h.wd.below hb (Nat.le_refl _), h.ver, h.nds, h.sA, h.len, by rw [h.ss]; show _ = remStep nodes node (remAt nodes node ss i) i; unfold remStep; rw [hat, if_neg (by rw [hh]; simp)], chg_trans h.chg ((Chg.of_below hb).mono (fun _ _ e => e.elim))⟩
set_option maxHeartbeats 4000000 in
theorem premove_sx (w : World) (B : Nat) (v : PV) (h : PVok w B v) (hB : B ≤ w.heap.size) (n : Int) :
    Calls Try.prog 16 #[v.val, .int .i64 n] w (RetPl2 w (removePl v.pl n) (removeErr v.pl n)) := by
  obtain ⟨w2, hw2⟩ : ∃ w2, (w.alloc (boxO v)).alloc (.cells #[.int .i64 0, .slice none 0 0, .slice none 0 0] 25) = w2 := ⟨_, rfl⟩
  have hb2 : Below w.heap.size w w2 := by rw [← hw2]; exact (below_al _ _).trans ((below_al _ _).mono (by simp))
  have gp : Boxed w2 w.heap.size v := by rw [← hw2]; exact alloc_old _ (alloc_new _ _)
  have g2 : IsV3 25 w2 (w.heap.size + 1) (.int .i64 0) (.slice none 0 0) (.slice none 0 0) := by rw [← hw2]; have := alloc_new (w.alloc (boxO v)) (.cells #[.int .i64 0, .slice none 0 0, .slice none 0 0] 25); rwa [World.size_alloc] at this
  have hs2 : w.heap.size + 1 < w2.heap.size := blk_lt g2
  have HCK := Lib.hid (pcheck_x w2 B v (h.below hb2 hB) (by omega))
  have HCT := Lib.hid (fun (u : World) (hu : Below w2.heap.size w2 u) => contains_x u B v.nodes.length v.nc v.nA v.nodes ((h.below hb2 hB).below hu (by omega)).n (by have := hu.size; omega) h.len.2 n)
  have HBS := Lib.hid (fun (u : World) (hu : Below w2.heap.size w2 u) => busy_x u B v ((h.below hb2 hB).below hu (by omega)) (by have := hu.size; omega))
  have HNX := Lib.hid (fun (u : World) (hu : Below w2.heap.size w2 u) (hok : PlOk v.pl) => next_x u B v ((h.below hb2 hB).below hu (by omega)) (by have := hu.size; omega) (by have := hok.nl.1; simp only [PV.pl] at this; omega) (by have := hok.nl.2; simp only [PV.pl] at this; omega)
    (by have := hok.some_; simp only [PV.pl, List.length_map] at this; omega) (by have := hok.few; simp only [PV.pl, List.length_map] at this; omega)
    (fun r hr => by have := (hok.each r.l (List.mem_map_of_mem hr)).ll; omega) ⟨by have := hok.lo; simp only [PV.pl] at this; omega, hok.hi⟩)
  have hpv : v.pl.ss.length = v.rs.length := by simp [PV.pl]
  have hpn : v.pl.nodes = v.nodes := rfl
  obtain ⟨p, hp⟩ : ∃ p, v.pl = p := ⟨_, rfl⟩
  rw [hp] at HCK HBS HNX hpv hpn ⊢
  have HPV := Lib.hid hp
  obtain ⟨ver, nA, nc, nodes, sA, sc, rs⟩ := v
  obtain ⟨N, hN⟩ : ∃ N, rs.length = N := ⟨_, rfl⟩
  obtain ⟨nl, hnl⟩ : ∃ nl, nodes.length = nl := ⟨_, rfl⟩
  have hpl : p.nodes.length = nl := by rw [hpn]; exact hnl
  simp only at hpn
  subst hpn
  simp only [PV.val, boxO, Boxed, hN, hnl] at hw2 gp HCK HCT HBS HNX hpv ⊢
  have HW2 := Lib.hid hw2
  have HB2 := Lib.hid hb2
  have G2 := Lib.hid g2
  have GP := Lib.hid gp
  have HN := Lib.hid hN
  have HPL := Lib.hid hpl
  clear h hw2 hp hN hnl hpl
  obtain ⟨⟨d0, d1, d2⟩, f0, f1, f2⟩ := isv3_cells g2
  obtain ⟨⟨e0, e1, e2⟩, _⟩ := isv3_cells gp
  by_cases hok : PlOk p
  · have hc : chk p = 0 := chk_ok hok
    have hdef : removeErr p n = if has p.nodes n = false ∨ p.nodes.length ≤ 3 then 140 else if busy p.ss = true then 141 else bumpErr p := by unfold removeErr; rw [if_pos hc]
    rw [hc] at HCK
    have HDEF := Lib.hid hdef
    clear hc hdef
    go_enter Try.func16, Try.ntmps16
    go_wp2_with (fail)
    rw [HW2.out]
    go_wp2_with (fail)
    refine HCK.out.mono ?_
    rintro e w3 ⟨rfl, hb3⟩
    have HB23 := Lib.hid hb3
    have HB3 := Lib.hid (HB2.out.trans (hb3.mono (by omega)))
    have G3 := Lib.hid (blk_below hb3 G2.out hs2)
    have GP3 := Lib.hid (blk_below hb3 GP.out (by omega))
    have hs3 := hb3.size
    clear hb3 d0 d1 d2 f0 f1 f2 e0 e1 e2 HCK
    obtain ⟨⟨d0, d1, d2⟩, f0, f1, f2⟩ := isv3_cells G3.out
    obtain ⟨⟨e0, e1, e2⟩, _⟩ := isv3_cells GP3.out
    have hl3 : w.heap.size + 1 < w3.heap.size := by omega
    go_wp2_with (fail)
    refine (HCT.out w3 HB23.out).mono ?_
    rintro e w4 ⟨rfl, hb4⟩
    have HB24 := Lib.hid (HB23.out.trans (hb4.mono hs3))
    have HB4 := Lib.hid (HB3.out.trans (hb4.mono (by omega)))
    have G4 := Lib.hid (blk_below hb4 G3.out hl3)
    have GP4 := Lib.hid (blk_below hb4 GP3.out (by omega))
    have hs4 := HB24.out.size
    have hl4 : w.heap.size + 1 < w4.heap.size := by omega
    clear hb4 d0 d1 d2 f0 f1 f2 e0 e1 e2
    obtain ⟨⟨d0, d1, d2⟩, f0, f1, f2⟩ := isv3_cells G4.out
    obtain ⟨⟨e0, e1, e2⟩, _⟩ := isv3_cells GP4.out
    cases hh : has p.nodes n with
    | false =>
      have HE := Lib.hid (show removeErr p n = 140 by rw [HDEF.out, if_pos (.inl hh)])
      have HQ := Lib.hid (show removePl p n = ⟨0, [], []⟩ by unfold removePl; rw [HE.out]; rfl)
      go_wp2_with (fail)
      (try simp only [Exit.inBlock, Exit.then])
      refine bodyPost_ret (ret_cell rfl _ _ (w.heap.size + 1) 25 _ _ _ rfl (set3 G4.out) Try.underlying25 rfl sizeP) rfl ?_
      rw [HE.out, HQ.out]
      exact RetPl2.none (below_set3 (g := w.heap.size + 1) HB4.out (by omega) _ _ _)
    | true =>
      by_cases q1 : nl ≤ 3
      · have q1z : (nl : Int) ≤ 3 := by omega
        have t1 : decide ((nl : Int) ≤ 3) = true := decide_eq_true q1z
        have HE := Lib.hid (show removeErr p n = 140 by rw [HDEF.out, if_pos (.inr (by rw [HPL.out]; exact q1))])
        have HQ := Lib.hid (show removePl p n = ⟨0, [], []⟩ by unfold removePl; rw [HE.out]; rfl)
        go_wp2_with (fail)
        (try simp only [Exit.inBlock, Exit.then])
        refine bodyPost_ret (ret_cell rfl _ _ (w.heap.size + 1) 25 _ _ _ rfl (set3 G4.out) Try.underlying25 rfl sizeP) rfl ?_
        rw [HE.out, HQ.out]
        exact RetPl2.none (below_set3 (g := w.heap.size + 1) HB4.out (by omega) _ _ _)
      · have q1z : ¬ (nl : Int) ≤ 3 := by omega
        have t1 : decide ((nl : Int) ≤ 3) = false := decide_eq_false q1z
        have HDEF2 := Lib.hid (show removeErr p n = if busy p.ss = true then 141 else bumpErr p by rw [HDEF.out, if_neg (by rw [hh, HPL.out]; simp; omega)])
        go_wp2_with (fail)
        refine (HBS.out w4 HB24.out).mono ?_
        rintro e w5 ⟨rfl, hb5⟩
        have HB25 := Lib.hid (HB24.out.trans (hb5.mono hs4))
        have HB5 := Lib.hid (HB4.out.trans (hb5.mono (by omega)))
        have G5 := Lib.hid (blk_below hb5 G4.out hl4)
        have GP5 := Lib.hid (blk_below hb5 GP4.out (by omega))
        have hs5 := HB25.out.size
        have hl5 : w.heap.size + 1 < w5.heap.size := by omega
        clear hb5 d0 d1 d2 f0 f1 f2 e0 e1 e2
        obtain ⟨⟨d0, d1, d2⟩, f0, f1, f2⟩ := isv3_cells G5.out
        obtain ⟨⟨e0, e1, e2⟩, _⟩ := isv3_cells GP5.out
        cases hbu : busy p.ss with
        | true =>
          have HE := Lib.hid (show removeErr p n = 141 by rw [HDEF2.out, if_pos hbu])
          have HQ := Lib.hid (show removePl p n = ⟨0, [], []⟩ by unfold removePl; rw [HE.out]; rfl)
          go_wp2_with (fail)
          (try simp only [Exit.inBlock, Exit.then])
          refine bodyPost_ret (ret_cell rfl _ _ (w.heap.size + 1) 25 _ _ _ rfl (set3 G5.out) Try.underlying25 rfl sizeP) rfl ?_
          rw [HE.out, HQ.out]
          exact RetPl2.none (below_set3 (g := w.heap.size + 1) HB5.out (by omega) _ _ _)
        | false =>
          have HD1 := Lib.hid (show removeErr p n = bumpErr p by rw [HDEF2.out, if_neg (by rw [hbu]; simp)])
          have hnx := HNX.out w5 HB25.out hok
          by_cases hmx : p.ver = 1099511627776
          · have hbe : bumpErr p = 1 := if_pos hmx
            have HE := Lib.hid (show removeErr p n = 1 by rw [HD1.out, hbe])
            have HQ := Lib.hid (show removePl p n = ⟨0, [], []⟩ by unfold removePl; rw [HE.out]; rfl)
            rw [hbe] at hnx
            have HNX2 := Lib.hid hnx
            clear hnx hbe
            go_wp2_with (fail)
            refine HNX2.out.mono ?_
            rintro e w6 ⟨vn, rfl, _, _, hb6⟩
            obtain ⟨nver, nnA, nnc, nnodes, nsA, nsc, nrs⟩ := vn
            have hs6 := hb6.size
            have HB6 := Lib.hid (HB5.out.trans (hb6.mono (by omega)))
            have G6 := Lib.hid (blk_below hb6 G5.out hl5)
            clear HNX2 d0 d1 d2 f0 f1 f2 e0 e1 e2
            obtain ⟨w7, hw7⟩ : ∃ w7, w6.alloc (.cells #[.int .i64 nver, .slice nnA nnodes.length nnc, .slice nsA nrs.length nsc] 25) = w7 := ⟨_, rfl⟩
            have hb7 : Below w6.heap.size w6 w7 := by rw [← hw7]; exact below_al _ _
            have gv7 : IsV3 25 w7 w6.heap.size (.int .i64 nver) (.slice nnA nnodes.length nnc) (.slice nsA nrs.length nsc) := by rw [← hw7]; exact alloc_new _ _
            have G7 := Lib.hid (blk_below hb7 G6.out (by omega))
            have HB7 := Lib.hid (HB6.out.trans (hb7.mono HB6.out.size))
            have hs7 := hb7.size
            obtain ⟨⟨d0, d1, d2⟩, f0, f1, f2⟩ := isv3_cells G7.out
            have hl7 : w.heap.size + 1 < w7.heap.size := by omega
            have hl7'' : w6.heap.size < w7.heap.size := blk_lt gv7
            clear hb7 hb6 gv7
            go_wp2_with (fail)
            (try simp only [Exit.inBlock, Exit.then])
            refine bodyPost_ret (ret_cell rfl _ _ (w.heap.size + 1) 25 _ _ _ rfl (set3 G7.out) Try.underlying25 rfl sizeP) rfl ?_
            rw [HE.out, HQ.out]
            exact RetPl2.none (below_set3 (g := w.heap.size + 1) HB7.out (by omega) _ _ _)
          · have hbe : bumpErr p = 0 := if_neg hmx
            have hbp : bump p = ⟨p.ver + 1, p.nodes, p.ss⟩ := if_neg hmx
            have HE := Lib.hid (show removeErr p n = 0 by rw [HD1.out, hbe])
            have HQ := Lib.hid (show removePl p n = ⟨p.ver + 1, without p.nodes n, remAt (without p.nodes n) n p.ss p.ss.length⟩ by unfold removePl; rw [HE.out, if_pos rfl])
            rw [hbe, hbp] at hnx
            have HNX2 := Lib.hid hnx
            clear hnx hbe hbp
            go_wp2_with (fail)
            refine HNX2.out.mono ?_
            rintro e w6 ⟨vn, rfl, hvn, hod, hb6⟩
            have HVN := Lib.hid hvn
            have HOD := Lib.hid hod
            obtain ⟨nver, nnA, nnc, nnodes, nsA, nsc, nrs⟩ := vn
            have hs6 := hb6.size
            have HB6 := Lib.hid (HB5.out.trans (hb6.mono (by omega)))
            have G6 := Lib.hid (blk_below hb6 G5.out hl5)
            clear HNX2 hvn hod d0 d1 d2 f0 f1 f2 e0 e1 e2
            obtain ⟨w7, hw7⟩ : ∃ w7, w6.alloc (.cells #[.int .i64 nver, .slice nnA nnodes.length nnc, .slice nsA nrs.length nsc] 25) = w7 := ⟨_, rfl⟩
            have hb7 : Below w6.heap.size w6 w7 := by rw [← hw7]; exact below_al _ _
            have gv7 : IsV3 25 w7 w6.heap.size (.int .i64 nver) (.slice nnA nnodes.length nnc) (.slice nsA nrs.length nsc) := by rw [← hw7]; exact alloc_new _ _
            have G7 := Lib.hid (blk_below hb7 G6.out (by omega))
            have HB7 := Lib.hid (HB6.out.trans (hb7.mono HB6.out.size))
            have hs7 := hb7.size
            obtain ⟨⟨d0, d1, d2⟩, f0, f1, f2⟩ := isv3_cells G7.out
            have hl7 : w.heap.size + 1 < w7.heap.size := by omega
            have hl7'' : w6.heap.size < w7.heap.size := blk_lt gv7
            have hwd := (HOD.out.below hb7 (Nat.le_refl _)).wd (pb := w6.heap.size) hs6 gv7
            have hss : nrs.map (·.l) = p.ss := congrArg Pl.ss HVN.out
            have hnd : nnodes = p.nodes := congrArg Pl.nodes HVN.out
            have hnl2 : nnodes.length = nl := by rw [hnd]; exact HPL.out
            have hNl : nrs.length = p.ss.length := by have := congrArg List.length hss; rwa [List.length_map] at this
            have hN0 : 0 < nrs.length := by have := hok.some_; omega
            have hN8 : nrs.length ≤ 8 := by have := hok.few; omega
            obtain ⟨sb, _, hsA0, _, _, _, _⟩ := hwd.wp.srow (i := 0) hN0
            obtain rfl : nsA = some ⟨sb, 0, none⟩ := hsA0
            obtain ⟨g, gc, hge, hgB, hgl, _⟩ := hwd.wp.n.some_ (by show 0 < nnodes.length; omega)
            obtain ⟨rfl, _, rfl⟩ := Value.slice.inj hge
            have hnown := hwd.wp.n
            obtain ⟨cur, hcur⟩ := own_blk hnown.2
            have HWT := Lib.hid (without_x w7 w5.heap.size g nnodes.length nnc nnodes hnown (by have := hok.nl; have := HPL.out; omega) n)
            have HSS := Lib.hid hss
            have HVER := Lib.hid (show nver = p.ver + 1 from congrArg Pl.ver HVN.out)
            have HND := Lib.hid hnd
            have HNL2 := Lib.hid hNl
            have HWD := Lib.hid hwd
            have HCUR := Lib.hid hcur
            obtain ⟨⟨_, y1, _⟩, _⟩ := isv3_cells gv7
            clear hb7 hb6 gv7 hwd hss hnd hnl2 hNl hge hnown hcur
            go_wp2_with (fail)
            refine HWT.out.mono ?_
            rintro e w8 ⟨m, rfl, hown8, hc8⟩
            have hpg : w6.heap.size ≠ g := fun e => blk_type HWD.out.wp.var HCUR.out (by decide) e
            have hv8 := hc8.blk HWD.out.wp.var hpg
            obtain ⟨⟨_, c1, _⟩, _, k1, _⟩ := isv3_cells hv8
            have hwd9 := HWD.out.setN HCUR.out hc8 hown8
            obtain ⟨w9, hw9⟩ : ∃ w9, w8.setCell ⟨w6.heap.size, 1, none⟩ (.slice (some ⟨g, 0, none⟩) m nnc) = w9 := ⟨_, rfl⟩
            rw [hw9] at hwd9
            have hc9 : Chg (fun k => w5.heap.size ≤ k) w7 w9 := by
              rw [← hw9]
              exact (hc8.mono (S' := fun k => w5.heap.size ≤ k) (fun _ _ e => by subst e; exact hgB)).setCell (p := ⟨w6.heap.size, 1, none⟩) (fun _ => by show w5.heap.size ≤ w6.heap.size; omega) _
            have HRL0 := Lib.hid (show RL w9 w9 w5.heap.size w6.heap.size sb nrs.length nver (without nnodes n) n p.ss 0 ⟨nver, some ⟨g, 0, none⟩, nnc, without nnodes n, some ⟨sb, 0, none⟩, nsc, nrs⟩ from
              ⟨hwd9, rfl, rfl, rfl, rfl, HSS.out, Chg.refl _ _⟩)
            have hB9 := hc9.below (show w5.heap.size ≤ w7.heap.size by omega) (fun k h => h)
            have G9 := Lib.hid (blk_below hB9 G7.out (by omega))
            have HB9 := Lib.hid (HB7.out.trans (hB9.mono (by omega)))
            have hs9 := hB9.size
            obtain ⟨⟨_, _, x2⟩, _⟩ := isv3_cells hwd9.wp.var
            simp only at x2
            have HW9 := Lib.hid hw9
            clear hown8 hc8 hv8 hwd9 hc9 hB9 d0 d1 d2 f0 f1 f2 hw9
            have hl9 : w6.heap.size < w9.heap.size := by omega
            go_wp2_with (fail)
            rw [HW9.out]
            go_wp2_with (fail)
            clear x2 c1 k1 y1
            go_loopg [8, 9, 46] nrs.length (fun gg s8 s9 s46 wr => ∃ i : Nat, s46 = .int .i64 i ∧ i ≤ nrs.length ∧ nrs.length - i ≤ gg ∧ Aside (∃ v, RL w9 wr w5.heap.size w6.heap.size sb nrs.length nver (without nnodes n) n p.ss i v))
            case atStart => exact ⟨0, rfl, by omega, by omega, ⟨_, HRL0.out⟩⟩
            case round =>
              obtain ⟨i, rfl, hi, hg, HR⟩ := hrel
              clear HRL0
              obtain ⟨v, hv⟩ := HR.out
              have hsr := hv.chg.size
              by_cases hlt : i < nrs.length
              · have hltz : (i : Int) < (nrs.length : Int) := by omega
                obtain ⟨r, hr, hps, hat, hcell, hrk⟩ := hv.row hlt
                have hll := (hok.each r.l (List.mem_of_getElem? hps)).ll
                obtain ⟨vver, vnA, vnc, vnodes, vsA, vsc, vrs⟩ := v
                have hvd : vnodes = without nnodes n := hv.nds
                obtain rfl : vver = nver := hv.ver
                obtain rfl : vsA = some ⟨sb, 0, none⟩ := hv.sA
                have hvo := hv.wd.wp.ok
                have HLE := Lib.hid (fun (u : World) (hu : Below wr.heap.size wr u) => pleast_x u wr.heap.size _ (hvo.below hu (Nat.le_refl _)) hu.size i r.l (pl_at hr))
                have HTR := Lib.hid (fun (u : World) (hu : Below wr.heap.size wr u) (t : Int) => transfer_x u w5.heap.size w6.heap.size sb _ (hv.wd.below hu (Nat.le_refl _)) rfl i r hr (by omega) (by omega) n t)
                have HVC := Lib.hid (fun (u : World) (hu : Below wr.heap.size wr u) => (isv3_cells (hv.wd.below hu (Nat.le_refl _)).wp.var).1)
                have HHX := Lib.hid (holds_x wr wr.heap.size r.l.length r.c r.A r.l hrk.ls (Nat.le_refl _) hrk.len n)
                obtain ⟨ra, rc, L⟩ := r
                simp only [Rw3.val] at hcell HHX hat hll
                obtain ⟨lm, hlm⟩ : ∃ lm, L.length = lm := ⟨_, rfl⟩
                rw [hlm] at hcell HHX
                have HV := Lib.hid hv
                have HRR := Lib.hid hr
                have HAT := Lib.hid hat
                have HVD := Lib.hid hvd
                have hsb := hv.wd.wp.s.lt sb rfl
                have hsbw : sb < wr.heap.size := hsb.2
                clear hv hr hat hvd hrk hll hlm hps HR hvo hsb
                go_wp2_with (fail)
                refine HHX.out.mono ?_
                rintro e wh ⟨rfl, hbh⟩
                have HBH := Lib.hid hbh
                clear hbh hcell
                cases hh2 : holds L n with
                | false =>
                  have HS := Lib.hid (HV.out.skip HAT.out hh2 HBH.out)
                  go_wp2_with (fail)
                  go_roundg (nrs.length - (i + 1))
                  case measure => omega
                  case rel => exact ⟨i + 1, by go_num, by omega, by omega, ⟨_, HS.out⟩⟩
                | true =>
                  obtain ⟨z0, z1, z2⟩ := HVC.out wh HBH.out
                  have hsh := HBH.out.size
                  have hpw : w6.heap.size < wh.heap.size := by omega
                  go_wp2_with (fail)
                  refine (HLE.out wh HBH.out).mono ?_
                  rintro e wl ⟨rfl, hbl⟩
                  have HBL := Lib.hid (HBH.out.trans (hbl.mono hsh))
                  clear hbl z0 z1 z2
                  go_wp2_with (fail)
                  refine (HTR.out wl HBL.out _).mono ?_
                  rintro e wt hret
                  obtain ⟨rfl, v2, hv2⟩ := HV.out.step HRR.out HAT.out hh2 HBL.out hret (by omega)
                  have HV2 := Lib.hid hv2
                  clear hret hv2
                  go_wp2_with (fail)
                  go_roundg (nrs.length - (i + 1))
                  case measure => omega
                  case rel => exact ⟨i + 1, by go_num, by omega, by omega, ⟨_, HV2.out⟩⟩
              · obtain hie : i = nrs.length := by omega
                subst hie
                have hltz : ¬ ((nrs.length : Nat) : Int) < ((nrs.length : Nat) : Int) := by omega
                obtain ⟨⟨c0, c1, c2⟩, _⟩ := isv3_cells hv.wd.wp.var
                have hbr := hv.chg.below (show w5.heap.size ≤ w9.heap.size by omega) (fun k h => h)
                have G10 := Lib.hid (blk_below hbr G9.out (by omega))
                have HB10 := Lib.hid (HB9.out.trans (hbr.mono (by omega)))
                obtain ⟨⟨d0, d1, d2⟩, f0, f1, f2⟩ := isv3_cells G10.out
                have hpw := hv.wd.wp.lt
                have hgw := blk_lt G10.out
                have HV := Lib.hid hv
                clear hv HR hbr
                go_wp2_with (fail)
                (try simp only [Exit.inBlock, Exit.then])
                refine bodyPost_ret (ret_cell rfl _ _ (w.heap.size + 1) 25 _ _ _ rfl (set3 G10.out) Try.underlying25 rfl sizeP) rfl ?_
                rw [HE.out, HQ.out]
                refine ⟨v, rfl, ?_, ?_, below_set3 (g := w.heap.size + 1) HB10.out (by omega) _ _ _⟩
                · have h9 := HV.out.ss
                  unfold PV.pl at h9 ⊢
                  simp only at h9
                  rw [HV.out.ver, HV.out.nds, h9, HND.out, HVER.out, ← HNL2.out]
                · exact (HV.out.wd.wp.apart (chg_set3 _ _ _) G10.out (by omega)).op (by omega)
  · have hc : chk p = 50 := chk_bad hok
    have HE := Lib.hid (show removeErr p n = 50 by unfold removeErr; rw [hc]; rfl)
    have HQ := Lib.hid (show removePl p n = ⟨0, [], []⟩ by unfold removePl; rw [HE.out]; rfl)
    rw [hc] at HCK
    clear hc
    go_enter Try.func16, Try.ntmps16
    go_wp2_with (fail)
    rw [HW2.out]
    go_wp2_with (fail)
    refine HCK.out.mono ?_
    rintro e w3 ⟨rfl, hb3⟩
    have HB3 := Lib.hid (HB2.out.trans (hb3.mono (by omega)))
    have G3 := Lib.hid (blk_below hb3 G2.out hs2)
    clear hb3 d0 d1 d2 f0 f1 f2 e0 e1 e2
    obtain ⟨⟨d0, d1, d2⟩, f0, f1, f2⟩ := isv3_cells G3.out
    go_wp2_with (fail)
    (try simp only [Exit.inBlock, Exit.then])
    refine bodyPost_ret (ret_cell rfl _ _ (w.heap.size + 1) 25 _ _ _ rfl (set3 G3.out) Try.underlying25 rfl sizeP) rfl ?_
    rw [HE.out, HQ.out]
    exact RetPl2.none (below_set3 (g := w.heap.size + 1) HB3.out (by omega) _ _ _)
theorem premove_x (w : World) (B : Nat) (v : PV) (h : PVok w B v) (hB : B ≤ w.heap.size) (n : Int) :
    Calls Try.prog 16 #[v.val, .int .i64 n] w (RetPl w (removePl v.pl n) (removeErr v.pl n)) :=
  (premove_sx w B v h hB n).mono fun _ _ h => h.weak
end Go.Proofs.Ytnpkhkhchimcnaa.pm
