/-
  Placements: the program's Add.
-/
import Derived.Test.YtnpkhkhchimcnaaPmReplace
import Derived.Test.YtnpkhkhchimcnaaPmG
import Derived.Test.YtnpkhkhchimcnaaPmGiver
namespace Go.Proofs.Ytnpkhkhchimcnaa.pm
open Go.ChangeShapes Go.WideShapes Go.ChangeAt Go.RowKit Go.Shelf plain words ord mem

/-- what the loop keeps -/
structure RA (w7 wr : World) (B pb sb N : Nat) (ver : Int) (nodes : List Int) (n : Int) (part : Nat) (ss fin : List (List O)) (g : Nat) (v : PV) : Prop where
  wd : WD wr B pb v
  ver : v.ver = ver
  nds : v.nodes = nodes
  sA : v.sA = some ⟨sb, 0, none⟩
  len : v.rs.length = N
  inv : AddInv ss n v.pl.ss
  fuel : part ≤ g + load v.pl.ss n
  go : addGo nodes n part g v.pl.ss = fin
  chg : Chg (fun k => B ≤ k) w7 wr
theorem RA.below {w7 wr w8 : World} {B pb sb N : Nat} {ver : Int} {nodes : List Int} {n : Int} {part : Nat} {ss fin : List (List O)} {g : Nat} {v : PV} (h : RA w7 wr B pb sb N ver nodes n part ss fin g v) (hb : Below wr.heap.size wr w8) : RA w7 w8 B pb sb N ver nodes n part ss fin g v :=
  ⟨h.wd.below hb (Nat.le_refl _), h.ver, h.nds, h.sA, h.len, h.inv, h.fuel, h.go, chg_trans h.chg ((Chg.of_below hb).mono (fun _ _ e => e.elim))⟩
theorem RA.row {w7 wr : World} {B pb sb N : Nat} {ver : Int} {nodes : List Int} {n : Int} {part : Nat} {ss fin : List (List O)} {g k : Nat} {v : PV} {l : List O} (h : RA w7 wr B pb sb N ver nodes n part ss fin g v) (hX : v.pl.ss[k]? = some l) : ∃ r, v.rs[k]? = some r ∧ r.l = l := by
  unfold PV.pl at hX
  simp only [List.getElem?_map] at hX
  cases hr : v.rs[k]? with
  | none => rw [hr] at hX; cases hX
  | some r => rw [hr] at hX; cases hX; exact ⟨r, rfl, rfl⟩
theorem RA.step {w7 wr w9 : World} {B pb sb N : Nat} {ver : Int} {nodes : List Int} {n f : Int} {part : Nat} {ss fin : List (List O)} {g k : Nat} {v : PV} {r : Rw3} {e : Ending} (h : RA w7 wr B pb sb N ver nodes n part ss fin g v)
    (h1 : load v.pl.ss n < part) (he : givers nodes v.pl.ss n = (f, (k : Int))) (hr : v.rs[k]? = some r) (hf : holds r.l f = true) (hn : holds r.l n = false) (hret : RetSet wr B pb k v (give r.l f n) e w9) :
    e = .returned (.tuple #[]) ∧ ∃ g' v', RA w7 w9 B pb sb N ver nodes n part ss fin g' v' ∧ load v'.pl.ss n = load v.pl.ss n + 1 := by
  obtain ⟨he2, r', hl, hwd, hc⟩ := hret
  have hX : v.pl.ss[k]? = some r.l := pl_at hr
  obtain ⟨g', rfl, hgo⟩ := addGo_step h1 h.fuel he hX
  have hs : ({ v with rs := v.rs.set k r' } : PV).pl.ss = v.pl.ss.set k (give r.l f n) := by
    show (v.rs.set k r').map (·.l) = (v.rs.map (·.l)).set k (give r.l f n)
    rw [List.map_set, hl]
  have hld : load ({ v with rs := v.rs.set k r' } : PV).pl.ss n = load v.pl.ss n + 1 := by rw [hs, load_give hX hn]
  refine ⟨he2, g', { v with rs := v.rs.set k r' }, ⟨hwd, h.ver, h.nds, h.sA, by simpa using h.len, ?_, ?_, ?_, chg_trans h.chg hc⟩, hld⟩
  · rw [hs]; exact h.inv.step hX hn hf
  · rw [hld]; have := h.fuel; omega
  · rw [hs, ← hgo]; exact h.go
set_option maxHeartbeats 4000000 in
theorem padd_sx (w : World) (B : Nat) (v : PV) (h : PVok w B v) (hB : B ≤ w.heap.size) (n : Int) :
    Calls Try.prog 13 #[v.val, .int .i64 n] w (RetPl2 w (addPl v.pl n) (addErr v.pl n)) := by
  obtain ⟨w2, hw2⟩ : ∃ w2, (w.alloc (boxO v)).alloc (.cells #[.int .i64 0, .slice none 0 0, .slice none 0 0] 25) = w2 := ⟨_, rfl⟩
  have hb2 : Below w.heap.size w w2 := by rw [← hw2]; exact (below_al _ _).trans ((below_al _ _).mono (by simp))
  have gp : Boxed w2 w.heap.size v := by rw [← hw2]; exact alloc_old _ (alloc_new _ _)
  have g2 : IsV3 25 w2 (w.heap.size + 1) (.int .i64 0) (.slice none 0 0) (.slice none 0 0) := by rw [← hw2]; have := alloc_new (w.alloc (boxO v)) (.cells #[.int .i64 0, .slice none 0 0, .slice none 0 0] 25); rwa [World.size_alloc] at this
  have hs2 : w.heap.size + 1 < w2.heap.size := blk_lt g2
  have HCK := Lib.hid (pcheck_x w2 B v (h.below hb2 hB) (by omega))
  have HCT := Lib.hid (fun (u : World) (hu : Below w2.heap.size w2 u) (x : Int) => contains_x u B v.nodes.length v.nc v.nA v.nodes ((h.below hb2 hB).below hu (by omega)).n (by have := hu.size; omega) h.len.2 x)
  have HBS := Lib.hid (fun (u : World) (hu : Below w2.heap.size w2 u) => busy_x u B v ((h.below hb2 hB).below hu (by omega)) (by have := hu.size; omega))
  have HNX := Lib.hid (fun (u : World) (hu : Below w2.heap.size w2 u) (hok : PlOk v.pl) => next_x u B v ((h.below hb2 hB).below hu (by omega)) (by have := hu.size; omega) (by have := hok.nl.1; simp only [PV.pl] at this; omega) (by have := hok.nl.2; simp only [PV.pl] at this; omega)
    (by have := hok.some_; simp only [PV.pl, List.length_map] at this; omega) (by have := hok.few; simp only [PV.pl, List.length_map] at this; omega)
    (fun r hr => by have := (hok.each r.l (List.mem_map_of_mem hr)).ll; omega) ⟨by have := hok.lo; simp only [PV.pl] at this; omega, hok.hi⟩)
  have hpv : v.pl.ss.length = v.rs.length := by simp [PV.pl]
  have hpn : v.pl.nodes = v.nodes := rfl
  obtain ⟨p, hp⟩ : ∃ p, v.pl = p := ⟨_, rfl⟩
  rw [hp] at HCK HBS HNX hpv hpn ⊢
  have HPV := Lib.hid hp
  obtain ⟨ver, nA, nc, nodes, sA, sc, rs⟩ := v
  obtain ⟨N, hN⟩ : ∃ N, rs.length = N := ⟨_, rfl⟩
  obtain ⟨nl, hnl⟩ : ∃ nl, nodes.length = nl := ⟨_, rfl⟩
  have hpl : p.nodes.length = nl := by rw [hpn]; exact hnl
  simp only at hpn
  subst hpn
  simp only [PV.val, boxO, Boxed, hN, hnl] at hw2 gp HCK HCT HBS HNX hpv ⊢
  have HW2 := Lib.hid hw2
  have HB2 := Lib.hid hb2
  have G2 := Lib.hid g2
  have GP := Lib.hid gp
  have HN := Lib.hid hN
  have HPL := Lib.hid hpl
  clear h hw2 hp hN hnl hpl
  obtain ⟨⟨d0, d1, d2⟩, f0, f1, f2⟩ := isv3_cells g2
  obtain ⟨⟨e0, e1, e2⟩, _⟩ := isv3_cells gp
  by_cases hok : PlOk p
  · have hc : chk p = 0 := chk_ok hok
    have hdef : addErr p n = if n < 0 ∨ 8 ≤ n ∨ has p.nodes n = true then 140 else if busy p.ss = true then 141 else bumpErr p := by unfold addErr; rw [if_pos hc]
    rw [hc] at HCK
    have HDEF := Lib.hid hdef
    clear hc hdef
    go_enter Try.func13, Try.ntmps13
    go_wp2_with (fail)
    rw [HW2.out]
    go_wp2_with (fail)
    refine HCK.out.mono ?_
    rintro e w3 ⟨rfl, hb3⟩
    have HB23 := Lib.hid hb3
    have HB3 := Lib.hid (HB2.out.trans (hb3.mono (by omega)))
    have G3 := Lib.hid (blk_below hb3 G2.out hs2)
    have GP3 := Lib.hid (blk_below hb3 GP.out (by omega))
    have hs3 := hb3.size
    clear hb3 d0 d1 d2 f0 f1 f2 e0 e1 e2 HCK
    obtain ⟨⟨d0, d1, d2⟩, f0, f1, f2⟩ := isv3_cells G3.out
    obtain ⟨⟨e0, e1, e2⟩, _⟩ := isv3_cells GP3.out
    have hl3 : w.heap.size + 1 < w3.heap.size := by omega
    by_cases q1 : n < 0
    · have t1 : decide (n < 0) = true := decide_eq_true q1
      have HE := Lib.hid (show addErr p n = 140 by rw [HDEF.out, if_pos (.inl q1)])
      have HQ := Lib.hid (show addPl p n = ⟨0, [], []⟩ by unfold addPl; rw [HE.out]; rfl)
      go_wp2_with (fail)
      (try simp only [Exit.inBlock, Exit.then])
      refine bodyPost_ret (ret_cell rfl _ _ (w.heap.size + 1) 25 _ _ _ rfl (set3 G3.out) Try.underlying25 rfl sizeP) rfl ?_
      rw [HE.out, HQ.out]
      exact RetPl2.none (below_set3 (g := w.heap.size + 1) HB3.out (by omega) _ _ _)
    · have t1 : decide (n < 0) = false := decide_eq_false q1
      by_cases q2 : 8 ≤ n
      · have t2 : decide (8 ≤ n) = true := decide_eq_true q2
        have HE := Lib.hid (show addErr p n = 140 by rw [HDEF.out, if_pos (.inr (.inl q2))])
        have HQ := Lib.hid (show addPl p n = ⟨0, [], []⟩ by unfold addPl; rw [HE.out]; rfl)
        go_wp2_with (fail)
        (try simp only [Exit.inBlock, Exit.then])
        refine bodyPost_ret (ret_cell rfl _ _ (w.heap.size + 1) 25 _ _ _ rfl (set3 G3.out) Try.underlying25 rfl sizeP) rfl ?_
        rw [HE.out, HQ.out]
        exact RetPl2.none (below_set3 (g := w.heap.size + 1) HB3.out (by omega) _ _ _)
      have t2 : decide (8 ≤ n) = false := decide_eq_false q2
      go_wp2_with (fail)
      refine (HCT.out w3 HB23.out n).mono ?_
      rintro e w4' ⟨rfl, hb4⟩
      have HB24' := Lib.hid (HB23.out.trans (hb4.mono hs3))
      have HB4' := Lib.hid (HB3.out.trans (hb4.mono (by omega)))
      have G4' := Lib.hid (blk_below hb4 G3.out hl3)
      have GP4' := Lib.hid (blk_below hb4 GP3.out (by omega))
      have hs4' := HB24'.out.size
      have hl4' : w.heap.size + 1 < w4'.heap.size := by omega
      clear hb4 d0 d1 d2 f0 f1 f2 e0 e1 e2
      obtain ⟨⟨d0, d1, d2⟩, f0, f1, f2⟩ := isv3_cells G4'.out
      obtain ⟨⟨e0, e1, e2⟩, _⟩ := isv3_cells GP4'.out
      cases hh3 : has p.nodes n with
      | true =>
        have HE := Lib.hid (show addErr p n = 140 by rw [HDEF.out, if_pos (.inr (.inr hh3))])
        have HQ := Lib.hid (show addPl p n = ⟨0, [], []⟩ by unfold addPl; rw [HE.out]; rfl)
        go_wp2_with (fail)
        (try simp only [Exit.inBlock, Exit.then])
        refine bodyPost_ret (ret_cell rfl _ _ (w.heap.size + 1) 25 _ _ _ rfl (set3 G4'.out) Try.underlying25 rfl sizeP) rfl ?_
        rw [HE.out, HQ.out]
        exact RetPl2.none (below_set3 (g := w.heap.size + 1) HB4'.out (by omega) _ _ _)
      | false =>
      have HDEF2 := Lib.hid (show addErr p n = if busy p.ss = true then 141 else bumpErr p by rw [HDEF.out, if_neg (by rw [hh3]; simp; omega)])
      go_wp2_with (fail)
      refine (HBS.out w4' HB24'.out).mono ?_
      rintro e w5 ⟨rfl, hb5⟩
      have HB25 := Lib.hid (HB24'.out.trans (hb5.mono hs4'))
      have HB5 := Lib.hid (HB4'.out.trans (hb5.mono (by omega)))
      have G5 := Lib.hid (blk_below hb5 G4'.out hl4')
      have GP5 := Lib.hid (blk_below hb5 GP4'.out (by omega))
      have hs5 := HB25.out.size
      have hl5 : w.heap.size + 1 < w5.heap.size := by omega
      clear hb5 d0 d1 d2 f0 f1 f2 e0 e1 e2
      obtain ⟨⟨d0, d1, d2⟩, f0, f1, f2⟩ := isv3_cells G5.out
      obtain ⟨⟨e0, e1, e2⟩, _⟩ := isv3_cells GP5.out
      cases hbu : busy p.ss with
      | true =>
        have HE := Lib.hid (show addErr p n = 141 by rw [HDEF2.out, if_pos hbu])
        have HQ := Lib.hid (show addPl p n = ⟨0, [], []⟩ by unfold addPl; rw [HE.out]; rfl)
        go_wp2_with (fail)
        (try simp only [Exit.inBlock, Exit.then])
        refine bodyPost_ret (ret_cell rfl _ _ (w.heap.size + 1) 25 _ _ _ rfl (set3 G5.out) Try.underlying25 rfl sizeP) rfl ?_
        rw [HE.out, HQ.out]
        exact RetPl2.none (below_set3 (g := w.heap.size + 1) HB5.out (by omega) _ _ _)
      | false =>
        have HD1 := Lib.hid (show addErr p n = bumpErr p by rw [HDEF2.out, if_neg (by rw [hbu]; simp)])
        have hnx := HNX.out w5 HB25.out hok
        by_cases hmx : p.ver = 1099511627776
        · have hbe : bumpErr p = 1 := if_pos hmx
          have HE := Lib.hid (show addErr p n = 1 by rw [HD1.out, hbe])
          have HQ := Lib.hid (show addPl p n = ⟨0, [], []⟩ by unfold addPl; rw [HE.out]; rfl)
          rw [hbe] at hnx
          have HNX2 := Lib.hid hnx
          clear hnx hbe
          go_wp2_with (fail)
          refine HNX2.out.mono ?_
          rintro e w6 ⟨vn, rfl, _, _, hb6⟩
          obtain ⟨nver, nnA, nnc, nnodes, nsA, nsc, nrs⟩ := vn
          have hs6 := hb6.size
          have HB6 := Lib.hid (HB5.out.trans (hb6.mono (by omega)))
          have G6 := Lib.hid (blk_below hb6 G5.out hl5)
          clear HNX2 d0 d1 d2 f0 f1 f2 e0 e1 e2
          obtain ⟨w7, hw7⟩ : ∃ w7, w6.alloc (.cells #[.int .i64 nver, .slice nnA nnodes.length nnc, .slice nsA nrs.length nsc] 25) = w7 := ⟨_, rfl⟩
          have hb7 : Below w6.heap.size w6 w7 := by rw [← hw7]; exact below_al _ _
          have gv7 : IsV3 25 w7 w6.heap.size (.int .i64 nver) (.slice nnA nnodes.length nnc) (.slice nsA nrs.length nsc) := by rw [← hw7]; exact alloc_new _ _
          have G7 := Lib.hid (blk_below hb7 G6.out (by omega))
          have HB7 := Lib.hid (HB6.out.trans (hb7.mono HB6.out.size))
          have hs7 := hb7.size
          obtain ⟨⟨d0, d1, d2⟩, f0, f1, f2⟩ := isv3_cells G7.out
          have hl7 : w.heap.size + 1 < w7.heap.size := by omega
          have hl7'' : w6.heap.size < w7.heap.size := blk_lt gv7
          clear hb7 hb6 gv7
          go_wp2_with (fail)
          (try simp only [Exit.inBlock, Exit.then])
          refine bodyPost_ret (ret_cell rfl _ _ (w.heap.size + 1) 25 _ _ _ rfl (set3 G7.out) Try.underlying25 rfl sizeP) rfl ?_
          rw [HE.out, HQ.out]
          exact RetPl2.none (below_set3 (g := w.heap.size + 1) HB7.out (by omega) _ _ _)
        · have hbe : bumpErr p = 0 := if_neg hmx
          have hbp : bump p = ⟨p.ver + 1, p.nodes, p.ss⟩ := if_neg hmx
          have HE := Lib.hid (show addErr p n = 0 by rw [HD1.out, hbe])
          have HQ := Lib.hid (show addPl p n = ⟨p.ver + 1, addNodes p n, addGo (addNodes p n) n (addPart p n) (addPart p n) p.ss⟩ by unfold addPl; rw [HE.out, if_pos rfl])
          rw [hbe, hbp] at hnx
          have HNX2 := Lib.hid hnx
          clear hnx hbe hbp
          go_wp2_with (fail)
          refine HNX2.out.mono ?_
          rintro e w6 ⟨vn, rfl, hvn, hod, hb6⟩
          have HVN := Lib.hid hvn
          have HOD := Lib.hid hod
          obtain ⟨nver, nnA, nnc, nnodes, nsA, nsc, nrs⟩ := vn
          have hs6 := hb6.size
          have HB6 := Lib.hid (HB5.out.trans (hb6.mono (by omega)))
          have G6 := Lib.hid (blk_below hb6 G5.out hl5)
          clear HNX2 hvn hod d0 d1 d2 f0 f1 f2 e0 e1 e2
          obtain ⟨w7, hw7⟩ : ∃ w7, w6.alloc (.cells #[.int .i64 nver, .slice nnA nnodes.length nnc, .slice nsA nrs.length nsc] 25) = w7 := ⟨_, rfl⟩
          have hb7 : Below w6.heap.size w6 w7 := by rw [← hw7]; exact below_al _ _
          have gv7 : IsV3 25 w7 w6.heap.size (.int .i64 nver) (.slice nnA nnodes.length nnc) (.slice nsA nrs.length nsc) := by rw [← hw7]; exact alloc_new _ _
          have G7 := Lib.hid (blk_below hb7 G6.out (by omega))
          have HB7 := Lib.hid (HB6.out.trans (hb7.mono HB6.out.size))
          have hs7 := hb7.size
          obtain ⟨⟨d0, d1, d2⟩, f0, f1, f2⟩ := isv3_cells G7.out
          have hl7 : w.heap.size + 1 < w7.heap.size := by omega
          have hl7'' : w6.heap.size < w7.heap.size := blk_lt gv7
          have hwd := (HOD.out.below hb7 (Nat.le_refl _)).wd (pb := w6.heap.size) hs6 gv7
          have hss : nrs.map (·.l) = p.ss := congrArg Pl.ss HVN.out
          have hnd : nnodes = p.nodes := congrArg Pl.nodes HVN.out
          have hnl2 : nnodes.length = nl := by rw [hnd]; exact HPL.out
          have hNl : nrs.length = p.ss.length := by have := congrArg List.length hss; rwa [List.length_map] at this
          have hN0 : 0 < nrs.length := by have := hok.some_; omega
          have hN8 : nrs.length ≤ 8 := by have := hok.few; omega
          obtain ⟨sb, _, hsA0, _, _, _, _⟩ := hwd.wp.srow (i := 0) hN0
          obtain rfl : nsA = some ⟨sb, 0, none⟩ := hsA0
          obtain ⟨g, gc, hge, hgB, hgl, _⟩ := hwd.wp.n.some_ (by show 0 < nnodes.length; have := hok.nl.1; rw [← hnd] at this; omega)
          obtain ⟨rfl, _, rfl⟩ := Value.slice.inj hge
          have hnown := hwd.wp.n
          obtain ⟨cur, hcur⟩ := own_blk hnown.2
          have HSS := Lib.hid hss
          have HVER := Lib.hid (show nver = p.ver + 1 from congrArg Pl.ver HVN.out)
          have HND := Lib.hid hnd
          have HNL2 := Lib.hid hNl
          have HWD := Lib.hid hwd
          have HCUR := Lib.hid hcur
          have HOWN := Lib.hid hnown
          have hn10 : nnodes.length ≤ 8 := by rw [hnd]; exact hok.nl.2
          have hpg : w6.heap.size ≠ g := fun e => blk_type HWD.out.wp.var HCUR.out (by decide) e
          obtain ⟨wA, hwA⟩ : ∃ wA, w7.alloc (.cells #[.int .i64 n] 3) = wA := ⟨_, rfl⟩
          have hbA : Below w7.heap.size w7 wA := by rw [← hwA]; exact below_al _ _
          have HLA := Lib.hid (show Ls NE wA (w7.heap.size + 1) (some ⟨w7.heap.size, 0, none⟩) 1 [n] by rw [← hwA]; exact ls_new (E := NE) (w := w7) 3 n)
          have HOA := Lib.hid (HOWN.out.below hbA (Nat.le_refl _))
          have HCA := Lib.hid ((Chg.of_below hbA).mono (S' := fun k => k = g) (fun _ _ e => e.elim))
          have hszA := hbA.size
          obtain ⟨⟨_, y1, _⟩, _⟩ := isv3_cells gv7
          clear hb7 hb6 gv7 hwd hss hnd hnl2 hNl hge hnown hcur hbA
          clear d0 d1 d2 f0 f1 f2
          go_wp2_with (at_builtin; refine app_n rfl (.tmp 41) (.tmp 43) rfl w5.heap.size _ nnodes.length nnodes rfl HOA.out (w7.heap.size + 1) (some ⟨w7.heap.size, 0, none⟩) 1 1 (fun e => by cases e) [n] (by rfl) HLA.out (by omega) (by omega) ?_; intro A9 c9 wB hown9 hg9 _ h9a h9b hs9; have HO9 := Lib.hid hown9; have HC9 := Lib.hid (HCA.out.grown hg9 (fun k hk _ => by cases hk; rfl)); clear hown9 hg9; have hvB := HC9.out.blk HWD.out.wp.var hpg; obtain ⟨⟨_, c1, _⟩, _, k1, _⟩ := isv3_cells hvB; have hwdC := HWD.out.setN HCUR.out HC9.out HO9.out; obtain ⟨wC, hwC⟩ : ∃ wC, wB.setCell ⟨w6.heap.size, 1, none⟩ (.slice A9 (nnodes.length + 1) c9) = wC := ⟨_, rfl⟩; rw [hwC] at hwdC; have HWDC := Lib.hid hwdC; have hlC : (nnodes ++ [n]).length = nnodes.length + 1 := HO9.out.1; obtain ⟨⟨_, x1, _⟩, _⟩ := isv3_cells hwdC.wp.var; simp only [hlC] at x1; have HLC := Lib.hid hlC; have hlwC := hwdC.wp.lt; clear hvB hwdC hlC)
          have hno := HWDC.out.wp.n
          simp only [HLC.out] at hno
          refine (sort_x wC w5.heap.size (nnodes.length + 1) c9 A9 _ hno (by omega)).mono ?_
          rintro e w9 ⟨rfl, hownD, o, hoD, hgD⟩
          have hsrl : (srt (nnodes ++ [n])).length = nnodes.length + 1 := by rw [srt_len, HLC.out]
          obtain ⟨hwd9, hcD⟩ := HWDC.out.srt (l := srt (nnodes ++ [n])) (by rw [hsrl]; exact HLC.out.symm) (by simp only [HLC.out]; exact hownD) hoD hgD
          have hcC : Chg (fun k => w5.heap.size ≤ k) w7 wC := by
            rw [← hwC]
            exact (HC9.out.mono (S' := fun k => w5.heap.size ≤ k) (fun _ _ e => by subst e; exact hgB)).setCell (p := ⟨w6.heap.size, 1, none⟩) (fun _ => by show w5.heap.size ≤ w6.heap.size; omega) _
          have hc9 := chg_trans hcC hcD
          obtain ⟨P, hP⟩ : ∃ P, addPart p n = P := ⟨_, rfl⟩
          obtain ⟨FIN, hFIN⟩ : ∃ FIN, addGo (addNodes p n) n P P p.ss = FIN := ⟨_, rfl⟩
          have hnn : srt (nnodes ++ [n]) = addNodes p n := by unfold addNodes; rw [HND.out]
          have HP := Lib.hid hP
          have HFIN := Lib.hid (show addGo (addNodes p n) n (addPart p n) (addPart p n) p.ss = FIN by rw [hP]; exact hFIN)
          have HNN := Lib.hid hnn
          have HRL0 := Lib.hid (show RA w9 w9 w5.heap.size w6.heap.size sb nrs.length nver (addNodes p n) n P p.ss FIN P ⟨nver, A9, c9, srt (nnodes ++ [n]), some ⟨sb, 0, none⟩, nsc, nrs⟩ from
            ⟨hwd9, rfl, hnn, rfl, rfl, by show AddInv p.ss n (nrs.map (·.l)); rw [HSS.out]; exact AddInv.start _ _, Nat.le_add_right _ _, by show addGo _ _ _ _ (nrs.map (·.l)) = _; rw [HSS.out]; exact hFIN, Chg.refl _ _⟩)
          have hpart : ((3 * (nrs.length : Int)).tdiv ((nnodes.length : Int) + 1)) = (P : Int) := by
            rw [← hP]
            unfold addPart addNodes
            rw [srt_len, List.length_append, ← HND.out, ← HNL2.out, Int.tdiv_eq_ediv_of_nonneg (by omega)]
            simp
          have hpart2 : ((3 * (nrs.length : Int)).tdiv ((nnodes.length + 1 : Nat) : Int)) = (P : Int) := by rw [← hpart]; rfl
          have hP24 : P ≤ 24 := by
            have : P = 3 * p.ss.length / (addNodes p n).length := hP.symm
            rw [this]
            exact Nat.le_trans (Nat.div_le_self _ _) (by have := HNL2.out; omega)
          have hnz : ¬ ((nnodes.length : Int) + 1 = 0) := by omega
          have hB9 := hc9.below (show w5.heap.size ≤ w7.heap.size by omega) (fun k h => h)
          have G9 := Lib.hid (blk_below hB9 G7.out (by omega))
          have HB9 := Lib.hid (HB7.out.trans (hB9.mono (by omega)))
          have hs9b := hB9.size
          obtain ⟨⟨_, x1', x2⟩, _⟩ := isv3_cells hwd9.wp.var
          simp only [hsrl] at x1' x2
          have HPA := Lib.hid hpart
          clear hownD hoD hgD hcD hcC hc9 hwd9 hB9 hno hsrl x1 c1 k1 y1 hwC hP hFIN hnn
          have hl9 : w6.heap.size < w9.heap.size := by omega
          go_wp2_with (fail)
          clear x2 x1'
          go_loopg [9, 10] P (fun gg s9 s10 wr => Aside (∃ (gf : Nat) (v : PV), RA w9 wr w5.heap.size w6.heap.size sb nrs.length nver (addNodes p n) n P p.ss FIN gf v ∧ P - load v.pl.ss n ≤ gg))
          case atStart => exact ⟨P, _, HRL0.out, Nat.sub_le _ _⟩
          case round =>
            obtain ⟨gf, v, hv, hgg⟩ := hrel.out
            clear HRL0 hrel
            have hsr := hv.chg.size
            obtain ⟨vver, vnA, vnc, vnodes, vsA, vsc, vrs⟩ := v
            have hvd : vnodes = addNodes p n := hv.nds
            obtain rfl : vver = nver := hv.ver
            obtain rfl : vsA = some ⟨sb, 0, none⟩ := hv.sA
            have hvo := hv.wd.wp.ok
            have HLD := Lib.hid (pload_x wr wr.heap.size _ hvo (Nat.le_refl _) n)
            have HGV := Lib.hid (fun (u : World) (hu : Below wr.heap.size wr u) => giver_x u wr.heap.size _ (hvo.below hu (Nat.le_refl _)) hu.size n)
            have HVC := Lib.hid (fun (u : World) (hu : Below wr.heap.size wr u) => (isv3_cells (hv.wd.below hu (Nat.le_refl _)).wp.var).1)
            obtain ⟨X, hX⟩ : ∃ X, (⟨vver, vnA, vnc, vnodes, some ⟨sb, 0, none⟩, vsc, vrs⟩ : PV).pl.ss = X := ⟨_, rfl⟩
            have hXm : vrs.map (·.l) = X := hX
            simp only [hX] at HLD HGV hgg
            obtain ⟨ld, hld⟩ : ∃ ld, load X n = ld := ⟨_, rfl⟩
            rw [hld] at HLD hgg
            have HV := Lib.hid hv
            have HX := Lib.hid hX
            have HXM := Lib.hid hXm
            have HLDE := Lib.hid hld
            have HVD := Lib.hid hvd
            have hsb := hv.wd.wp.s.lt sb rfl
            have hsbw : sb < wr.heap.size := hsb.2
            obtain ⟨⟨z0, z1, z2⟩, _⟩ := isv3_cells hv.wd.wp.var
            clear hv hvo hX hXm hld hvd hsb
            go_wp2_with (fail)
            refine HLD.out.mono ?_
            rintro e wh ⟨rfl, hbh⟩
            have HBH := Lib.hid hbh
            have hsh := hbh.size
            clear hbh z0 z1 z2
            by_cases hlt : ld < P
            · have hltz : decide ((ld : Int) < (P : Int)) = true := decide_eq_true (by omega)
              obtain ⟨z0, z1, z2⟩ := HVC.out wh HBH.out
              have hpw : w6.heap.size < wh.heap.size := by omega
              rcases givers_spec X n (nodes := vnodes) (fun x hx => by have := HVD.out; rw [this] at hx; exact ((addErr_zero HE.out).nodes.1.each x hx).1) with ⟨eg, hall⟩ | ⟨f, k, l, eg, hf0, hfm, hXk, hh1, hh2⟩
              · have HZ := Lib.hid (HV.out.below HBH.out)
                have HFE := Lib.hid eg
                have hgv := HGV.out wh HBH.out
                rw [eg] at hgv
                have HGV2 := Lib.hid hgv
                clear hgv eg hall
                go_wp2_with (fail)
                refine HGV2.out.mono ?_
                rintro e wl ⟨rfl, hbl⟩
                have HBL := Lib.hid (HBH.out.trans (hbl.mono hsh))
                clear hbl z0 z1 z2
                have HZ := Lib.hid (HV.out.below HBL.out)
                have HFIN := Lib.hid (show addGo (addNodes p n) n (addPart p n) (addPart p n) p.ss = vrs.map (·.l) by
                  rw [HFIN.out, ← HV.out.go, addGo_stop (.inr (by rw [HX.out, ← HVD.out, HFE.out]; decide))]; rfl)
                have hsl := HBL.out.size
                obtain ⟨⟨c0, c1, c2⟩, _⟩ := isv3_cells HZ.out.wd.wp.var
                have hbr := HZ.out.chg.below (show w5.heap.size ≤ w9.heap.size by omega) (fun k h => h)
                have G10 := Lib.hid (blk_below hbr G9.out (by omega))
                have HB10 := Lib.hid (HB9.out.trans (hbr.mono (by omega)))
                obtain ⟨⟨d0, d1, d2⟩, f0, f1, f2⟩ := isv3_cells G10.out
                have hpw := HZ.out.wd.wp.lt
                have hgw := blk_lt G10.out
                clear hbr
                go_wp2_with (fail)
                (try simp only [Exit.inBlock, Exit.then])
                refine bodyPost_ret (ret_cell rfl _ _ (w.heap.size + 1) 25 _ _ _ rfl (set3 G10.out) Try.underlying25 rfl sizeP) rfl ?_
                rw [HE.out, HQ.out]
                refine ⟨⟨vver, vnA, vnc, vnodes, some ⟨sb, 0, none⟩, vsc, vrs⟩, rfl, ?_, ?_, below_set3 (g := w.heap.size + 1) HB10.out (by omega) _ _ _⟩
                · show (⟨vver, vnodes, vrs.map (·.l)⟩ : Pl) = _
                  rw [HVD.out, HVER.out, ← HFIN.out]
                · exact (HZ.out.wd.wp.apart (chg_set3 _ _ _) G10.out (by omega)).op (by omega)
              · have hgv := HGV.out wh HBH.out
                rw [eg] at hgv
                have HGV2 := Lib.hid hgv
                have HEG := Lib.hid eg
                have HXK := Lib.hid hXk
                have HH1 := Lib.hid hh1
                have HH2 := Lib.hid hh2
                clear hgv eg hXk hh1 hh2 hfm
                have hk0 : ¬ ((k : Int) < 0) := by omega
                go_wp2_with (fail)
                refine HGV2.out.mono ?_
                rintro e wl ⟨rfl, hbl⟩
                have HBL := Lib.hid (HBH.out.trans (hbl.mono hsh))
                clear hbl z0 z1 z2
                have hZ := HV.out.below HBL.out
                obtain ⟨r, hr, hrl⟩ := hZ.row (k := k) (l := l) (by rw [HX.out]; exact HXK.out)
                subst hrl
                have hss1 := HV.out.inv.fresh (k := k) (by rw [HX.out]; exact HXK.out) HH2.out
                have hll := ((addErr_zero HE.out).calm r.l (List.mem_of_getElem? hss1)).three
                have HTR := Lib.hid (transfer_x wl w5.heap.size w6.heap.size sb _ hZ.wd rfl k r hr (by omega) (by omega) f n)
                have HZ := Lib.hid hZ
                have HR := Lib.hid hr
                clear hZ hr hss1 hll
                go_wp2_with (fail)
                refine HTR.out.mono ?_
                rintro e wt hret
                obtain ⟨rfl, g2, v2, hv2, hl2⟩ := HZ.out.step (by rw [HX.out, HLDE.out]; exact hlt) (by rw [HX.out, ← HVD.out]; exact HEG.out) HR.out HH1.out HH2.out hret
                rw [HX.out, HLDE.out] at hl2
                have HV2 := Lib.hid hv2
                clear hret hv2
                go_wp2_with (fail)
                go_roundg (P - (ld + 1))
                case measure => omega
                case rel => exact ⟨g2, v2, HV2.out, by omega⟩
            · have hltz : decide ((ld : Int) < (P : Int)) = false := decide_eq_false (by omega)
              have HZ := Lib.hid (HV.out.below HBH.out)
              have HFIN := Lib.hid (show addGo (addNodes p n) n (addPart p n) (addPart p n) p.ss = vrs.map (·.l) by
                rw [HFIN.out, ← HV.out.go, addGo_stop (.inl (by rw [HX.out, HLDE.out]; exact hlt))]; rfl)
              have hsl := HBH.out.size
              obtain ⟨⟨c0, c1, c2⟩, _⟩ := isv3_cells HZ.out.wd.wp.var
              have hbr := HZ.out.chg.below (show w5.heap.size ≤ w9.heap.size by omega) (fun k h => h)
              have G10 := Lib.hid (blk_below hbr G9.out (by omega))
              have HB10 := Lib.hid (HB9.out.trans (hbr.mono (by omega)))
              obtain ⟨⟨d0, d1, d2⟩, f0, f1, f2⟩ := isv3_cells G10.out
              have hpw := HZ.out.wd.wp.lt
              have hgw := blk_lt G10.out
              clear hbr
              go_wp2_with (fail)
              (try simp only [Exit.inBlock, Exit.then])
              refine bodyPost_ret (ret_cell rfl _ _ (w.heap.size + 1) 25 _ _ _ rfl (set3 G10.out) Try.underlying25 rfl sizeP) rfl ?_
              rw [HE.out, HQ.out]
              refine ⟨⟨vver, vnA, vnc, vnodes, some ⟨sb, 0, none⟩, vsc, vrs⟩, rfl, ?_, ?_, below_set3 (g := w.heap.size + 1) HB10.out (by omega) _ _ _⟩
              · show (⟨vver, vnodes, vrs.map (·.l)⟩ : Pl) = _
                rw [HVD.out, HVER.out, ← HFIN.out]
              · exact (HZ.out.wd.wp.apart (chg_set3 _ _ _) G10.out (by omega)).op (by omega)
  · have hc : chk p = 50 := chk_bad hok
    have HE := Lib.hid (show addErr p n = 50 by unfold addErr; rw [hc]; rfl)
    have HQ := Lib.hid (show addPl p n = ⟨0, [], []⟩ by unfold addPl; rw [HE.out]; rfl)
    rw [hc] at HCK
    clear hc
    go_enter Try.func13, Try.ntmps13
    go_wp2_with (fail)
    rw [HW2.out]
    go_wp2_with (fail)
    refine HCK.out.mono ?_
    rintro e w3 ⟨rfl, hb3⟩
    have HB3 := Lib.hid (HB2.out.trans (hb3.mono (by omega)))
    have G3 := Lib.hid (blk_below hb3 G2.out hs2)
    clear hb3 d0 d1 d2 f0 f1 f2 e0 e1 e2
    obtain ⟨⟨d0, d1, d2⟩, f0, f1, f2⟩ := isv3_cells G3.out
    go_wp2_with (fail)
    (try simp only [Exit.inBlock, Exit.then])
    refine bodyPost_ret (ret_cell rfl _ _ (w.heap.size + 1) 25 _ _ _ rfl (set3 G3.out) Try.underlying25 rfl sizeP) rfl ?_
    rw [HE.out, HQ.out]
    exact RetPl2.none (below_set3 (g := w.heap.size + 1) HB3.out (by omega) _ _ _)
theorem padd_x (w : World) (B : Nat) (v : PV) (h : PVok w B v) (hB : B ≤ w.heap.size) (n : Int) :
    Calls Try.prog 13 #[v.val, .int .i64 n] w (RetPl w (addPl v.pl n) (addErr v.pl n)) :=
  (padd_sx w B v h hB n).mono fun _ _ h => h.weak
end Go.Proofs.Ytnpkhkhchimcnaa.pm
