/-
  Placements: the program's Done.
-/
import Derived.Test.YtnpkhkhchimcnaaPmE
import Derived.Test.YtnpkhkhchimcnaaPmBusy
import Derived.Test.YtnpkhkhchimcnaaPmC
namespace Go.Proofs.Ytnpkhkhchimcnaa.pm
open Go.ChangeShapes Go.WideShapes Go.ChangeAt Go.RowKit Go.Shelf plain words ord mem

theorem rise_len {α : Type} {f : α → Int} : ∀ (l : List α) (a : Int), Rise f l → (∀ x ∈ l, a ≤ f x ∧ f x < 8) → a ≤ 8 → (l.length : Int) ≤ 8 - a
  | [], a, _, _, h => by simp; omega
  | x :: l, a, hr, hb, h => by
    have hp := List.pairwise_cons.1 hr
    have hx := hb x (by simp)
    have := rise_len l (f x + 1) hp.2 (fun y hy => ⟨by have := hp.1 y hy; omega, (hb y (by simp [hy])).2⟩) (by omega)
    simp only [List.length_cons]
    omega
theorem PlOk.nl {p : Pl} (h : PlOk p) : 3 ≤ p.nodes.length ∧ p.nodes.length ≤ 8 := by
  have := rise_len p.nodes 0 h.nodes.rise (fun x hx => h.nodes.each x hx) (by omega)
  exact ⟨h.nodes.many, by omega⟩
theorem ShardBy.ll {val : List O → O → Prop} {nodes : List Int} {l : List O} (h : ShardBy val nodes l) : 3 ≤ l.length ∧ l.length ≤ 8 := by
  have h1 := rise_len l 0 h.rise (fun x hx => (h.each x hx).1) (by omega)
  have h2 : stay l ≤ l.length := List.countP_le_length
  rw [h.three] at h2
  exact ⟨h2, by omega⟩
/-- whence an owner comes is another node, and an owner -/
theorem ShardBy.source {nodes : List Int} {l : List O} (h : ShardOk nodes l) {o : O} (ho : o ∈ l) (h1 : o.2.1 = 1) : o.2.2 ≠ o.1 ∧ ∃ x ∈ l, x.1 = o.2.2 := by
  rcases (h.each o ho).2.1 with ⟨e, _⟩ | ⟨_, x, hx, e⟩ | ⟨e, _⟩
  · omega
  · obtain ⟨hm, hn⟩ := (find_iff h.rise _ x).1 hx
    refine ⟨fun e2 => ?_, x, hm, hn⟩
    have := rise_inj h.rise hm ho (by omega)
    subst this; omega
  · omega
theorem fnd_mem {p : O → Bool} {l : List O} (h : (fnd p l).2.1 = 1) : fnd p l ∈ l ∧ p (fnd p l) = true := by
  unfold fnd at h ⊢
  cases hf : l.find? p with
  | none => rw [hf] at h; simp at h
  | some x => exact ⟨List.mem_of_find?_eq_some hf, List.find?_some hf⟩
noncomputable def doneErr (p : Pl) (s n : Int) : Int :=
  if chk p = 0 then (if s < 0 ∨ (p.ss.length : Int) ≤ s then 1 else if (fnd (byNode n) (shardAt p.ss s)).2.1 = 1 then bumpErr p else 140) else 50
noncomputable def donePl (p : Pl) (s n : Int) : Pl :=
  if doneErr p s n = 0 then ⟨p.ver + 1, p.nodes, p.ss.set s.toNat (own (disown (disown (shardAt p.ss s) (fnd (byNode n) (shardAt p.ss s)).2.2) n) (n, 2, -1))⟩ else ⟨0, [], []⟩
set_option maxHeartbeats 4000000 in
theorem pdone_sx (w : World) (B : Nat) (v : PV) (h : PVok w B v) (hB : B ≤ w.heap.size) (s n : Int) :
    Calls Try.prog 28 #[v.val, .int .i64 s, .int .i64 n] w (RetPl2 w (donePl v.pl s n) (doneErr v.pl s n)) := by
  obtain ⟨w2, hw2⟩ : ∃ w2, (w.alloc (boxO v)).alloc (.cells #[.int .i64 0, .slice none 0 0, .slice none 0 0] 25) = w2 := ⟨_, rfl⟩
  have hb2 : Below w.heap.size w w2 := by rw [← hw2]; exact (below_al _ _).trans ((below_al _ _).mono (by simp))
  have gp : Boxed w2 w.heap.size v := by rw [← hw2]; exact alloc_old _ (alloc_new _ _)
  have g2 : IsV3 25 w2 (w.heap.size + 1) (.int .i64 0) (.slice none 0 0) (.slice none 0 0) := by rw [← hw2]; have := alloc_new (w.alloc (boxO v)) (.cells #[.int .i64 0, .slice none 0 0, .slice none 0 0] 25); rwa [World.size_alloc] at this
  have hs2 : w.heap.size + 1 < w2.heap.size := blk_lt g2
  have HCK := Lib.hid (pcheck_x w2 B v (h.below hb2 hB) (by omega))
  have HFD := Lib.hid (fun (u : World) (hu : Below w2.heap.size w2 u) => pfind_x u B v ((h.below hb2 hB).below hu (by omega)) (by have := hu.size; omega) s n)
  have HNX := Lib.hid (fun (u : World) (hu : Below w2.heap.size w2 u) (hok : PlOk v.pl) => next_x u B v ((h.below hb2 hB).below hu (by omega)) (by have := hu.size; omega) (by have := hok.nl.1; simp only [PV.pl] at this; omega) (by have := hok.nl.2; simp only [PV.pl] at this; omega)
    (by have := hok.some_; simp only [PV.pl, List.length_map] at this; omega) (by have := hok.few; simp only [PV.pl, List.length_map] at this; omega)
    (fun r hr => by have := (hok.each r.l (List.mem_map_of_mem hr)).ll; omega) ⟨by have := hok.lo; simp only [PV.pl] at this; omega, hok.hi⟩)
  have HRL := Lib.hid (show ∀ (k : Nat) (r : Rw3), v.rs[k]? = some r → v.pl.ss[k]? = some r.l from fun k r hr => pl_at hr)
  have hpv : v.pl.ss.length = v.rs.length := by simp [PV.pl]
  obtain ⟨p, hp⟩ : ∃ p, v.pl = p := ⟨_, rfl⟩
  rw [hp] at HCK HFD HNX HRL hpv ⊢
  have HPV := Lib.hid hp
  obtain ⟨ver, nA, nc, nodes, sA, sc, rs⟩ := v
  obtain ⟨N, hN⟩ : ∃ N, rs.length = N := ⟨_, rfl⟩
  obtain ⟨nl, hnl⟩ : ∃ nl, nodes.length = nl := ⟨_, rfl⟩
  simp only [PV.val, boxO, Boxed, hN, hnl] at hw2 gp HCK HFD HNX hpv ⊢
  have HW2 := Lib.hid hw2
  have HB2 := Lib.hid hb2
  have G2 := Lib.hid g2
  have GP := Lib.hid gp
  have HN := Lib.hid hN
  clear h hw2 hp hN hnl
  obtain ⟨⟨d0, d1, d2⟩, f0, f1, f2⟩ := isv3_cells g2
  obtain ⟨⟨e0, e1, e2⟩, _⟩ := isv3_cells gp
  by_cases hok : PlOk p
  · have hc : chk p = 0 := chk_ok hok
    have hdef : doneErr p s n = if s < 0 ∨ (p.ss.length : Int) ≤ s then 1 else if (fnd (byNode n) (shardAt p.ss s)).2.1 = 1 then bumpErr p else 140 := by unfold doneErr; rw [if_pos hc]
    rw [hc] at HCK
    have HDEF := Lib.hid hdef
    clear hc hdef
    go_enter Try.func28, Try.ntmps28
    go_wp2_with (fail)
    rw [HW2.out]
    go_wp2_with (fail)
    refine HCK.out.mono ?_
    rintro e w3 ⟨rfl, hb3⟩
    have HB23 := Lib.hid hb3
    have HB3 := Lib.hid (HB2.out.trans (hb3.mono (by omega)))
    have G3 := Lib.hid (blk_below hb3 G2.out hs2)
    have GP3 := Lib.hid (blk_below hb3 GP.out (by omega))
    have hs3 := hb3.size
    clear hb3 d0 d1 d2 f0 f1 f2 e0 e1 e2 HCK
    obtain ⟨⟨d0, d1, d2⟩, f0, f1, f2⟩ := isv3_cells G3.out
    obtain ⟨⟨e0, e1, e2⟩, _⟩ := isv3_cells GP3.out
    have hl3 : w.heap.size + 1 < w3.heap.size := by omega
    by_cases q1 : s < 0
    · have t1 : decide (s < 0) = true := decide_eq_true q1
      have HE := Lib.hid (show doneErr p s n = 1 by rw [HDEF.out, if_pos (.inl q1)])
      have HQ := Lib.hid (show donePl p s n = ⟨0, [], []⟩ by unfold donePl; rw [HE.out]; rfl)
      go_wp2_with (fail)
      (try simp only [Exit.inBlock, Exit.then])
      refine bodyPost_ret (ret_cell rfl _ _ (w.heap.size + 1) 25 _ _ _ rfl (set3 G3.out) Try.underlying25 rfl sizeP) rfl ?_
      rw [HE.out, HQ.out]
      exact RetPl2.none (below_set3 (g := w.heap.size + 1) HB3.out (by omega) _ _ _)
    · have t1 : decide (s < 0) = false := decide_eq_false q1
      obtain ⟨k, rfl⟩ : ∃ k : Nat, s = (k : Int) := ⟨s.toNat, by omega⟩
      by_cases q2 : (N : Int) ≤ (k : Int)
      · have t2 : decide ((N : Int) ≤ (k : Int)) = true := decide_eq_true q2
        have HE := Lib.hid (show doneErr p (k : Int) n = 1 by rw [HDEF.out, if_pos (.inr (by omega))])
        have HQ := Lib.hid (show donePl p (k : Int) n = ⟨0, [], []⟩ by unfold donePl; rw [HE.out]; rfl)
        go_wp2_with (fail)
        (try simp only [Exit.inBlock, Exit.then])
        refine bodyPost_ret (ret_cell rfl _ _ (w.heap.size + 1) 25 _ _ _ rfl (set3 G3.out) Try.underlying25 rfl sizeP) rfl ?_
        rw [HE.out, HQ.out]
        exact RetPl2.none (below_set3 (g := w.heap.size + 1) HB3.out (by omega) _ _ _)
      · have t2 : decide ((N : Int) ≤ (k : Int)) = false := decide_eq_false q2
        have hkN : k < rs.length := by have := HN.out; omega
        obtain ⟨r, hr⟩ : ∃ r, rs[k]? = some r := ⟨_, List.getElem?_eq_getElem hkN⟩
        have hps := HRL.out k r hr
        have hsh : shardAt p.ss (k : Int) = r.l := shardAt_in hps
        have hrok := hok.each r.l (List.mem_of_getElem? hps)
        have hfd := HFD.out w3 HB23.out
        obtain ⟨o, ho⟩ : ∃ o, fnd (byNode n) (shardAt p.ss (k : Int)) = o := ⟨_, rfl⟩
        have hdef2 : doneErr p (k : Int) n = if o.2.1 = 1 then bumpErr p else 140 := by rw [HDEF.out, if_neg (by omega), ho]
        rw [ho] at hfd
        have HDEF2 := Lib.hid hdef2
        have HO := Lib.hid (show fnd (byNode n) r.l = o by rw [← hsh]; exact ho)
        have HSH := Lib.hid hsh
        have HROK := Lib.hid hrok
        have HR := Lib.hid hr
        have HPS := Lib.hid hps
        have HFD2 := Lib.hid hfd
        obtain ⟨o1, o2, o3⟩ := o
        clear hr hps hsh hrok hfd ho hdef2 HFD
        go_wp2_with (fail)
        refine HFD2.out.mono ?_
        rintro e w4 ⟨rfl, hb4⟩
        obtain ⟨w5, hw5⟩ : ∃ w5, w4.alloc (.cells #[.int .i64 o1, .int .i64 o2, .int .i64 o3] 44) = w5 := ⟨_, rfl⟩
        have hb5 : Below w4.heap.size w4 w5 := by rw [← hw5]; exact below_al _ _
        have g5 : IsV3 44 w5 w4.heap.size (.int .i64 o1) (.int .i64 o2) (.int .i64 o3) := by rw [← hw5]; exact alloc_new _ _
        have hs4 := hb4.size
        have hs5 : w4.heap.size < w5.heap.size := blk_lt g5
        have HB5 := Lib.hid (HB3.out.trans ((hb4.trans (hb5.mono hs4)).mono (by omega)))
        have HB25 := Lib.hid (HB23.out.trans ((hb4.trans (hb5.mono hs4)).mono hs3))
        have G5 := Lib.hid (blk_below hb5 (blk_below hb4 G3.out hl3) (by omega))
        have GP5 := Lib.hid (blk_below hb5 (blk_below hb4 GP3.out (by omega)) (by omega))
        have O5 := Lib.hid g5
        clear hb4 hb5 g5 HFD2 d0 d1 d2 f0 f1 f2 e0 e1 e2
        obtain ⟨⟨d0, d1, d2⟩, f0, f1, f2⟩ := isv3_cells G5.out
        obtain ⟨⟨e0, e1, e2⟩, _⟩ := isv3_cells GP5.out
        obtain ⟨⟨o0', o1', o2'⟩, _⟩ := isv3_cells O5.out
        have hl5 : w.heap.size + 1 < w5.heap.size := by omega
        by_cases q3 : o2 = 1
        · subst q3
          have t3 : ((1 : Int) != 1) = false := rfl
          have hom := fnd_mem (p := byNode n) (l := r.l) (by rw [HO.out])
          rw [HO.out] at hom
          have hon : o1 = n := by simpa [byNode] using hom.2
          subst hon
          have hsrc := HROK.out.source hom.1 rfl
          have hll := HROK.out.ll
          have HD1 := Lib.hid (show doneErr p (k : Int) o1 = bumpErr p by rw [HDEF2.out, if_pos rfl])
          have HMEM := Lib.hid hom.1
          have HSRC := Lib.hid hsrc
          have HLL := Lib.hid hll
          have hnx := HNX.out w5 HB25.out hok
          clear hom hsrc hll
          by_cases hmx : p.ver = 1099511627776
          · have hbe : bumpErr p = 1 := if_pos hmx
            have HE := Lib.hid (show doneErr p (k : Int) o1 = 1 by rw [HD1.out, hbe])
            have HQ := Lib.hid (show donePl p (k : Int) o1 = ⟨0, [], []⟩ by unfold donePl; rw [HE.out]; rfl)
            rw [hbe] at hnx
            have HNX2 := Lib.hid hnx
            clear hnx hbe
            go_wp2_with (fail)
            refine HNX2.out.mono ?_
            rintro e w6 ⟨vn, rfl, _, _, hb6⟩
            obtain ⟨nver, nnA, nnc, nnodes, nsA, nsc, nrs⟩ := vn
            have hs6 := hb6.size
            have HB6 := Lib.hid (HB5.out.trans (hb6.mono (by omega)))
            have G6 := Lib.hid (blk_below hb6 G5.out hl5)
            clear HNX2 d0 d1 d2 f0 f1 f2 e0 e1 e2 o0' o1' o2'
            obtain ⟨w7, hw7⟩ : ∃ w7, w6.alloc (.cells #[.int .i64 nver, .slice nnA nnodes.length nnc, .slice nsA nrs.length nsc] 25) = w7 := ⟨_, rfl⟩
            have hb7 : Below w6.heap.size w6 w7 := by rw [← hw7]; exact below_al _ _
            have gv7 : IsV3 25 w7 w6.heap.size (.int .i64 nver) (.slice nnA nnodes.length nnc) (.slice nsA nrs.length nsc) := by rw [← hw7]; exact alloc_new _ _
            have G7 := Lib.hid (blk_below hb7 G6.out (by omega))
            have O7 := Lib.hid (blk_below hb7 (blk_below hb6 O5.out hs5) (by omega))
            have HB7 := Lib.hid (HB6.out.trans (hb7.mono HB6.out.size))
            have hs7 := hb7.size
            obtain ⟨⟨d0, d1, d2⟩, f0, f1, f2⟩ := isv3_cells G7.out
            obtain ⟨⟨o0', o1', o2'⟩, _⟩ := isv3_cells O7.out
            have hl7 : w.heap.size + 1 < w7.heap.size := by omega
            have hl7' : w4.heap.size < w7.heap.size := by omega
            have hl7'' : w6.heap.size < w7.heap.size := blk_lt gv7
            clear hb7 hb6 gv7
            go_wp2_with (fail)
            (try simp only [Exit.inBlock, Exit.then])
            refine bodyPost_ret (ret_cell rfl _ _ (w.heap.size + 1) 25 _ _ _ rfl (set3 G7.out) Try.underlying25 rfl sizeP) rfl ?_
            rw [HE.out, HQ.out]
            exact RetPl2.none (below_set3 (g := w.heap.size + 1) HB7.out (by omega) _ _ _)
          · have hbe : bumpErr p = 0 := if_neg hmx
            have hbp : bump p = ⟨p.ver + 1, p.nodes, p.ss⟩ := if_neg hmx
            have HE := Lib.hid (show doneErr p (k : Int) o1 = 0 by rw [HD1.out, hbe])
            have HQ := Lib.hid (show donePl p (k : Int) o1 = ⟨p.ver + 1, p.nodes, p.ss.set k (own (disown (disown r.l o3) o1) (o1, 2, -1))⟩ by unfold donePl; rw [HE.out, if_pos rfl, HSH.out, HO.out]; rfl)
            rw [hbe, hbp] at hnx
            have HNX2 := Lib.hid hnx
            clear hnx hbe hbp
            go_wp2_with (fail)
            refine HNX2.out.mono ?_
            rintro e w6 ⟨vn, rfl, hvn, hod, hb6⟩
            have HVN := Lib.hid hvn
            have HOD := Lib.hid hod
            obtain ⟨nver, nnA, nnc, nnodes, nsA, nsc, nrs⟩ := vn
            have hs6 := hb6.size
            have HB6 := Lib.hid (HB5.out.trans (hb6.mono (by omega)))
            have G6 := Lib.hid (blk_below hb6 G5.out hl5)
            clear HNX2 hvn hod d0 d1 d2 f0 f1 f2 e0 e1 e2 o0' o1' o2'
            obtain ⟨w7, hw7⟩ : ∃ w7, w6.alloc (.cells #[.int .i64 nver, .slice nnA nnodes.length nnc, .slice nsA nrs.length nsc] 25) = w7 := ⟨_, rfl⟩
            have hb7 : Below w6.heap.size w6 w7 := by rw [← hw7]; exact below_al _ _
            have gv7 : IsV3 25 w7 w6.heap.size (.int .i64 nver) (.slice nnA nnodes.length nnc) (.slice nsA nrs.length nsc) := by rw [← hw7]; exact alloc_new _ _
            have G7 := Lib.hid (blk_below hb7 G6.out (by omega))
            have O7 := Lib.hid (blk_below hb7 (blk_below hb6 O5.out hs5) (by omega))
            have HB7 := Lib.hid (HB6.out.trans (hb7.mono HB6.out.size))
            have hs7 := hb7.size
            obtain ⟨⟨d0, d1, d2⟩, f0, f1, f2⟩ := isv3_cells G7.out
            obtain ⟨⟨o0', o1', o2'⟩, _⟩ := isv3_cells O7.out
            have hl7 : w.heap.size + 1 < w7.heap.size := by omega
            have hl7' : w4.heap.size < w7.heap.size := by omega
            have hl7'' : w6.heap.size < w7.heap.size := blk_lt gv7
            have hwd := (HOD.out.below hb7 (Nat.le_refl _)).wd (pb := w6.heap.size) hs6 gv7
            have hss : nrs.map (·.l) = p.ss := congrArg Pl.ss HVN.out
            have hkn : k < nrs.length := by have := congrArg List.length hss; rw [List.length_map] at this; have h2 := (List.getElem?_eq_some_iff.1 HPS.out).1; omega
            obtain ⟨rn, hrn⟩ : ∃ rn, nrs[k]? = some rn := ⟨_, List.getElem?_eq_getElem hkn⟩
            have hrl : rn.l = r.l := by
              have h1 := congrArg (fun l => l[k]?) hss
              simp only [List.getElem?_map, hrn, Option.map_some, HPS.out] at h1
              exact Option.some.inj h1
            obtain ⟨sb, _, hsA0, _, _, _, _⟩ := hwd.wp.srow hkn
            obtain rfl : nsA = some ⟨sb, 0, none⟩ := hsA0
            have hdl : (disown r.l o3).length ≤ r.l.length := List.length_filter_le _ _
            have hdl0 : 0 < (disown r.l o3).length := by
              have hm : (o1, 1, o3) ∈ disown r.l o3 := by
                unfold disown
                rw [List.mem_filter]
                exact ⟨HMEM.out, by have := HSRC.out.1; simp; omega⟩
              exact List.length_pos_of_mem hm
            have hdl2 : (disown (disown r.l o3) o1).length ≤ (disown r.l o3).length := List.length_filter_le _ _
            have H1 := Lib.hid (disown_x w7 w5.heap.size w6.heap.size sb _ hwd rfl k rn hrn (by rw [hrl]; have := HLL.out; omega) (by rw [hrl]; have := HLL.out; omega) o3)
            rw [hrl] at H1
            have HSS := Lib.hid hss
            have HVER := Lib.hid (show nver = p.ver + 1 from congrArg Pl.ver HVN.out)
            have HND := Lib.hid (show nnodes = p.nodes from congrArg Pl.nodes HVN.out)
            have HLL2 := Lib.hid (And.intro hdl (And.intro hdl0 hdl2))
            clear hb7 hb6 gv7 hwd hss hrl hdl hdl0 hdl2
            go_wp2_with (fail)
            refine H1.out.mono ?_
            rintro e w8 ⟨rfl, r1, hl1, hwd1, hc1⟩
            have hrn1 : (nrs.set k r1)[k]? = some r1 := List.getElem?_set_self hkn
            have H2 := Lib.hid (disown_x w8 w5.heap.size w6.heap.size sb _ hwd1 rfl k r1 hrn1 (by rw [hl1]; have := HLL.out; have := HLL2.out; omega) (by rw [hl1]; exact HLL2.out.2.1) o1)
            have HC1 := Lib.hid hc1
            have HL1 := Lib.hid hl1
            rw [hl1] at H2
            clear hwd1 hc1 hl1 H1 hrn1
            go_wp2_with (fail)
            refine H2.out.mono ?_
            rintro e w9 ⟨rfl, r2, hl2, hwd2, hc2⟩
            simp only [List.set_set] at hwd2
            have hrn2 : (nrs.set k r2)[k]? = some r2 := List.getElem?_set_self hkn
            have H3 := Lib.hid (own_w w9 w5.heap.size w6.heap.size sb _ hwd2 rfl k r2 hrn2 (by rw [hl2]; have := HLL.out; have := HLL2.out; omega) (o1, 2, -1))
            have HC2 := Lib.hid hc2
            rw [hl2] at H3
            clear hwd2 hc2 hl2 H2 hrn2
            go_wp2_with (fail)
            refine H3.out.mono ?_
            rintro e w10 ⟨rfl, r3, hl3, hwd3, hc3⟩
            simp only [List.set_set] at hwd3
            have hball := (chg_trans (chg_trans HC1.out HC2.out) hc3).below (show w5.heap.size ≤ w7.heap.size by omega) (fun k h => h)
            have G10 := Lib.hid (blk_below hball G7.out (by omega))
            have HB10 := Lib.hid (HB7.out.trans (hball.mono (by omega)))
            have HWD := Lib.hid hwd3
            have HL3 := Lib.hid hl3
            clear d0 d1 d2 f0 f1 f2 o0' o1' o2' hball hc3 hl3 H3
            obtain ⟨⟨d0, d1, d2⟩, f0, f1, f2⟩ := isv3_cells G10.out
            obtain ⟨⟨c0, c1, c2⟩, _⟩ := isv3_cells hwd3.wp.var
            simp only [List.length_set] at c2
            have hpl := hwd3.wp.lt
            have hs10 := HB10.out.size
            have hg10 := blk_lt G10.out
            clear hwd3
            go_wp2_with (fail)
            (try simp only [Exit.inBlock, Exit.then])
            refine bodyPost_ret (ret_cell rfl _ _ (w.heap.size + 1) 25 _ _ _ rfl (set3 G10.out) Try.underlying25 rfl sizeP) rfl ?_
            rw [HE.out, HQ.out]
            refine ⟨⟨nver, nnA, nnc, nnodes, some ⟨sb, 0, none⟩, nsc, nrs.set k r3⟩, by simp only [PV.val, List.length_set]; rfl, ?_, ?_, below_set3 (g := w.heap.size + 1) HB10.out (by omega) _ _ _⟩
            · unfold PV.pl
              simp only [List.map_set, HSS.out, HVER.out, HND.out, HL3.out]
            · exact (HWD.out.wp.apart (chg_set3 _ _ _) G10.out (by omega)).op (by omega)
        · have t3 : (o2 != 1) = true := by simpa using q3
          have t3' : (o2 == 1) = false := by simpa using q3
          have HE := Lib.hid (show doneErr p (k : Int) n = 140 by rw [HDEF2.out, if_neg q3])
          have HQ := Lib.hid (show donePl p (k : Int) n = ⟨0, [], []⟩ by unfold donePl; rw [HE.out]; rfl)
          go_wp2_with (fail)
          (try simp only [Exit.inBlock, Exit.then])
          refine bodyPost_ret (ret_cell rfl _ _ (w.heap.size + 1) 25 _ _ _ rfl (set3 G5.out) Try.underlying25 rfl sizeP) rfl ?_
          rw [HE.out, HQ.out]
          exact RetPl2.none (below_set3 (g := w.heap.size + 1) HB5.out (by omega) _ _ _)
  · have hc : chk p = 50 := chk_bad hok
    have HE := Lib.hid (show doneErr p s n = 50 by unfold doneErr; rw [hc]; rfl)
    have HQ := Lib.hid (show donePl p s n = ⟨0, [], []⟩ by unfold donePl; rw [HE.out]; rfl)
    rw [hc] at HCK
    rw [HE.out, HQ.out]
    clear hc
    go_enter Try.func28, Try.ntmps28
    go_wp2_with (fail)
    rw [HW2.out]
    go_wp2_with (fail)
    refine HCK.out.mono ?_
    rintro e w3 ⟨rfl, hb3⟩
    have HB3 := Lib.hid (HB2.out.trans (hb3.mono (by omega)))
    have G3 := Lib.hid (blk_below hb3 G2.out hs2)
    clear hb3 d0 d1 d2 f0 f1 f2 e0 e1 e2
    obtain ⟨⟨d0, d1, d2⟩, f0, f1, f2⟩ := isv3_cells G3.out
    go_wp2_with (fail)
    (try simp only [Exit.inBlock, Exit.then])
    refine bodyPost_ret (ret_cell rfl _ _ (w.heap.size + 1) 25 _ _ _ rfl (set3 G3.out) Try.underlying25 rfl sizeP) rfl ?_
    exact RetPl2.none (below_set3 (g := w.heap.size + 1) HB3.out (by omega) _ _ _)
theorem pdone_x (w : World) (B : Nat) (v : PV) (h : PVok w B v) (hB : B ≤ w.heap.size) (s n : Int) :
    Calls Try.prog 28 #[v.val, .int .i64 s, .int .i64 n] w (RetPl w (donePl v.pl s n) (doneErr v.pl s n)) :=
  (pdone_sx w B v h hB s n).mono fun _ _ h => h.weak
end Go.Proofs.Ytnpkhkhchimcnaa.pm
