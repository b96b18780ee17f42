/-
  Boots: the document's New.
-/
import Derived.Test.YtheanpcbjjogfaaBtN
import Derived.Test.YtheanpcbjjogfaaPmLM
import Derived.Test.YtheanpcbjjogfaaPmCheckY
namespace Go.Proofs.Ytheanpcbjjogfaa.bt
open Go.ChangeShapes Go.WideShapes Go.ChangeAt Go.RowKit Go.Shelf plain words ord mem pm Go.Maps

/-- while the others are gathered -/
structure NY (W wr : World) (g : Nat) (o1 o2 o3 f t : Int) (oA : Option Addr) (m oc : Nat) (l : List Int) : Prop where
  box : wr.heap[g]? = some (.cells #[.int .i64 o1, .int .i64 o2, .int .i64 o3, .slice oA m oc, .slice none 0 0, .int .i64 f, .int .i64 t, .slice none 0 0, .slice none 0 0] 63 (0, 0))
  ow : Ow NE wr W.heap.size (.slice oA m oc) m l
  ch : Chg (fun k => k = g) W wr
section
variable {W wr w' : World} {g : Nat} {o1 o2 o3 f t : Int} {oA : Option Addr} {m oc : Nat} {l : List Int}
theorem NY.below (h : NY W wr g o1 o2 o3 f t oA m oc l) (hb : Below wr.heap.size wr w') : NY W w' g o1 o2 o3 f t oA m oc l :=
  ⟨blk_below hb h.box (blk_lt h.box), h.ow.below hb (Nat.le_refl _), h.ch.then_below hb⟩
theorem NY.cell (h : NY W wr g o1 o2 o3 f t oA m oc l) : wr.cell? ⟨g, 3, none⟩ = some (.slice oA m oc) ∧ wr.frozen? ⟨g, 3, none⟩ = false ∧ g < wr.heap.size :=
  ⟨by rw [cell_of_row _ _ _ _ _ _ h.box]; rfl, frozen_of_row _ _ 3 _ _ h.box, blk_lt h.box⟩
theorem NY.app {oA' : Option Addr} {m' oc' : Nat} {l' : List Int} (h : NY W wr g o1 o2 o3 f t oA m oc l) (hW : g < W.heap.size) (ho : Ow NE w' W.heap.size (.slice oA' m' oc') m' l') (hg : wr.grownBy w' (Value.slice oA m oc).ownBlock) :
    NY W (w'.setCell ⟨g, 3, none⟩ (.slice oA' m' oc')) g o1 o2 o3 f t oA' m' oc' l' ∧ w'.cell? ⟨g, 3, none⟩ = some (.slice oA m oc) ∧ w'.frozen? ⟨g, 3, none⟩ = false ∧ g < w'.heap.size := by
  have hgl := blk_lt h.box
  have hb' : w'.heap[g]? = some (.cells #[.int .i64 o1, .int .i64 o2, .int .i64 o3, .slice oA m oc, .slice none 0 0, .int .i64 f, .int .i64 t, .slice none 0 0, .slice none 0 0] 63 (0, 0)) :=
    (hg.block g hgl (fun e => by have := (h.ow.lt g e.symm).1; omega)).trans h.box
  refine ⟨⟨by rw [heap_setCell_same _ _ _ _ _ _ hb']; rfl, ho.chg (chg_set w' g 3 _) (fun k hk e => by have := (ho.lt k hk).1; omega), ?_⟩, by rw [cell_of_row _ _ _ _ _ _ hb']; rfl, frozen_of_row _ _ 3 _ _ hb', blk_lt hb'⟩
  exact (h.ch.grown hg (fun k hk hlt => by have := (h.ow.lt k hk).1; omega)).setCell (p := ⟨g, 3, none⟩) (fun _ => rfl) _
end
def RetNewY (w : World) (p : Pl) (s n : Int) (e : Ending) (w' : World) : Prop := ∃ q, e = .returned (.tuple #[.pointer q, .int .i64 (newE p s n)]) ∧ Below w.heap.size w w'
set_option maxHeartbeats 4000000 in
set_option maxRecDepth 100000 in
theorem new_y (w : World) (B : Nat) (v : PV) (h : PVok w B v) (hB : B ≤ w.heap.size) (s n f t : Int) :
    Calls Try.prog 7 #[v.val, .int .i64 s, .int .i64 n, .agg #[.int .i64 f, .int .i64 t]] w (RetNewY w v.pl s n) := by
  obtain ⟨w3, hw3⟩ : ∃ w3, (w.alloc (boxO v)).alloc (.cells #[.int .i64 f, .int .i64 t] 27) = w3 := ⟨_, rfl⟩
  have hb3 : Below w.heap.size w w3 := by rw [← hw3]; exact (below_al _ _).trans ((below_al _ _).mono (by simp))
  have gp : pm.Boxed w3 w.heap.size v := by rw [← hw3]; exact alloc_old _ (alloc_new _ _)
  have gr : w3.heap[w.heap.size + 1]? = some (.cells #[.int .i64 f, .int .i64 t] 27 (0, 0)) := by
    rw [← hw3]; have := alloc_new (w.alloc (boxO v)) (.cells #[.int .i64 f, .int .i64 t] 27); rwa [World.size_alloc] at this
  have hl3 : w.heap.size + 1 < w3.heap.size := blk_lt gr
  have HOK := Lib.hid (fun (u : World) (hu : Below w3.heap.size w3 u) => ((h.below hb3 hB).below hu (by omega)))
  have HCK := Lib.hid (rcheck_y w3 B v (HOK.out w3 (Below.refl _ _)) (by omega))
  have HOW := Lib.hid (fun (u : World) (hu : Below w3.heap.size w3 u) => owns_y u B v (HOK.out u hu) (by have := hu.size; omega) s n)
  have HFP := Lib.hid (fun (u : World) (hu : Below w3.heap.size w3 u) => rfind_y u B v (HOK.out u hu) (by have := hu.size; omega) s n)
  have HB3 := Lib.hid hb3
  have HGP := Lib.hid gp
  have HGR := Lib.hid gr
  have HW3 := Lib.hid hw3
  obtain ⟨p, hp⟩ : ∃ p, v.pl = p := ⟨_, rfl⟩
  rw [hp] at HCK HFP HOW ⊢
  have HPV := Lib.hid hp
  have HNE := Lib.hid (show newE p s n = if chk p ≠ 0 then 50 else if (!fis (byNode n) (shardAt p.ss s) || (fnd (byNode n) (shardAt p.ss s)).2.1 == 3) = true then 140 else 0 from rfl)
  obtain ⟨ne, hne⟩ : ∃ ne, newE p s n = ne := ⟨_, rfl⟩
  have HRET := Lib.hid (show RetNewY w p s n = fun e w' => ∃ q, e = .returned (.tuple #[.pointer q, .int .i64 ne]) ∧ Below w.heap.size w w' by rw [← hne]; rfl)
  rw [hne] at HNE
  obtain ⟨ck, hck⟩ : ∃ ck, chk p = ck := ⟨_, rfl⟩
  rw [hck] at HCK HNE
  have HCKE := Lib.hid hck
  obtain ⟨o, ho⟩ : ∃ o, fnd (byNode n) (shardAt p.ss s) = o := ⟨_, rfl⟩
  obtain ⟨q, hq⟩ : ∃ q, fis (byNode n) (shardAt p.ss s) = q := ⟨_, rfl⟩
  rw [ho, hq] at HFP HNE
  have HOE := Lib.hid (show owns (shardAt p.ss s) n = (q && o.2.1 != 3) by unfold owns; rw [ho, hq])
  rw [HOE.out] at HOW
  have HFO := Lib.hid ho
  have HFQ := Lib.hid hq
  obtain ⟨o1, o2, o3⟩ := o
  obtain ⟨ver, nA, nc, nodes, sA, sc, rs⟩ := v
  obtain ⟨N, hN⟩ : ∃ N, rs.length = N := ⟨_, rfl⟩
  have HN := Lib.hid hN
  simp only [PV.val, boxO, pm.Boxed, hN] at HCK HFP HOW HW3 HGP ⊢
  have HVC := Lib.hid (fun (u : World) (hu : Below w3.heap.size w3 u) => (isv3_cells (blk_below hu HGP.out (by omega))).1)
  have HRC := Lib.hid (fun (u : World) (hu : Below w3.heap.size w3 u) => (show u.cell? ⟨w.heap.size + 1, 0, none⟩ = some (.int .i64 f) ∧ u.cell? ⟨w.heap.size + 1, 1, none⟩ = some (.int .i64 t) from ⟨by rw [cell_of_row _ _ _ _ _ _ (blk_below hu HGR.out (by omega))]; rfl, by rw [cell_of_row _ _ _ _ _ _ (blk_below hu HGR.out (by omega))]; rfl⟩))
  obtain ⟨c0, c1, c2⟩ := HVC.out w3 (Below.refl _ _)
  clear h hw3 hb3 gp gr hp hck ho hq hne hN
  go_enter Try.func7, Try.ntmps7
  go_wp2_with (fail)
  rw [HW3.out]
  go_wp2_with (fail)
  refine HCK.out.mono ?_
  rintro e w4 ⟨rfl, hb4⟩
  have HB4 := Lib.hid hb4
  have hs4 := hb4.size
  clear hb4 c0 c1 c2
  obtain ⟨c0, c1, c2⟩ := HVC.out w4 HB4.out
  have hl4 : w.heap.size < w4.heap.size := by omega
  by_cases hk0 : ck = 0
  · subst hk0
    go_wp2_with (fail)
    refine (HOW.out w4 HB4.out).mono ?_
    rintro e w5 ⟨rfl, hb5⟩
    have hs5 := hb5.size
    have HB5 := Lib.hid (HB4.out.trans (hb5.mono hs4))
    clear hb5 c0 c1 c2
    cases q with
    | false =>
      have HE := Lib.hid (show ne = 140 by rw [HNE.out]; simp)
      go_wp2_with (fail)
      go_ret2
      rw [HRET.out]
      exact ⟨none, by rw [HE.out]; rfl, HB3.out.trans (HB5.out.mono (by omega))⟩
    | true =>
      by_cases h3 : o2 = 3
      · subst h3
        have HE := Lib.hid (show ne = 140 by rw [HNE.out]; simp)
        go_wp2_with (fail)
        go_ret2
        rw [HRET.out]
        exact ⟨none, by rw [HE.out]; rfl, HB3.out.trans (HB5.out.mono (by omega))⟩
      · have h3z : (o2 != 3) = true := by simp [h3]
        have HE := Lib.hid (show ne = 0 by rw [HNE.out]; simp [h3])
        clear h3
        have r5 := HRC.out w5 HB5.out
        obtain ⟨r50, r51⟩ := r5
        have hlr : w.heap.size + 1 < w5.heap.size := by have := HB5.out.size; omega
        obtain ⟨w6, hw6⟩ : ∃ w6, w5.alloc (.cells #[.int .i64 0, .int .i64 0, .int .i64 0, .slice none 0 0, .slice none 0 0, .int .i64 f, .int .i64 t, .slice none 0 0, .slice none 0 0] 63) = w6 := ⟨_, rfl⟩
        have hb6 : Below w5.heap.size w5 w6 := by rw [← hw6]; exact below_al _ _
        have g6 : w6.heap[w5.heap.size]? = some (.cells #[.int .i64 0, .int .i64 0, .int .i64 0, .slice none 0 0, .slice none 0 0, .int .i64 f, .int .i64 t, .slice none 0 0, .slice none 0 0] 63 (0, 0)) := by rw [← hw6]; exact alloc_new _ _
        have hs6 : w6.heap.size = w5.heap.size + 1 := by rw [← hw6]; simp
        obtain ⟨g, hg⟩ : ∃ g, w5.heap.size = g := ⟨_, rfl⟩
        have HB6 := Lib.hid (HB5.out.trans (hb6.mono HB5.out.size))
        rw [hg] at g6 hs6
        have HG := Lib.hid hg
        have HG6 := Lib.hid g6
        have HF6 := Lib.hid (HFP.out w6 HB6.out)
        obtain ⟨c0, c1, c2⟩ := HVC.out w6 HB6.out
        have hl6 : w.heap.size < w6.heap.size := by omega
        have hs56 : w3.heap.size ≤ w5.heap.size := HB5.out.size
        clear hb6 g6
        go_wp2_with (fail)
        refine HF6.out.mono ?_
        rintro e w7 ⟨rfl, hb7⟩
        have hs7 := hb7.size
        have gx := blk_below hb7 HG6.out (by omega)
        have hgl := blk_lt gx
        have d0 : w7.cell? ⟨g, 0, none⟩ = some (.int .i64 0) := by rw [cell_of_row _ _ _ _ _ _ gx]; rfl
        have d1 : w7.cell? ⟨g, 1, none⟩ = some (.int .i64 0) := by rw [cell_of_row _ _ _ _ _ _ gx]; rfl
        have d2 : w7.cell? ⟨g, 2, none⟩ = some (.int .i64 0) := by rw [cell_of_row _ _ _ _ _ _ gx]; rfl
        have f0 : w7.frozen? ⟨g, 0, none⟩ = false := frozen_of_row _ _ 0 _ _ gx
        have f1 : w7.frozen? ⟨g, 1, none⟩ = false := frozen_of_row _ _ 1 _ _ gx
        have f2 : w7.frozen? ⟨g, 2, none⟩ = false := frozen_of_row _ _ 2 _ _ gx
        obtain ⟨w8, hw8⟩ : ∃ w8, ((w7.setCell ⟨g, 0, none⟩ (.int .i64 o1)).setCell ⟨g, 1, none⟩ (.int .i64 o2)).setCell ⟨g, 2, none⟩ (.int .i64 o3) = w8 := ⟨_, rfl⟩
        have gx8 : w8.heap[g]? = some (.cells #[.int .i64 o1, .int .i64 o2, .int .i64 o3, .slice none 0 0, .slice none 0 0, .int .i64 f, .int .i64 t, .slice none 0 0, .slice none 0 0] 63 (0, 0)) := by
          rw [← hw8]
          have h1 := heap_setCell_same w7 g 0 _ _ (.int .i64 o1) gx
          have h2 := heap_setCell_same _ g 1 _ _ (.int .i64 o2) h1
          have h3 := heap_setCell_same _ g 2 _ _ (.int .i64 o3) h2
          exact h3
        have hs8 : w8.heap.size = w7.heap.size := by rw [← hw8]; simp [World.setCell]
        have ch8 : Chg (fun k => k = g) w7 w8 := by rw [← hw8]; exact chg_set3 _ _ _
        obtain ⟨w9, hw9⟩ : ∃ w9, w8 = w9 := ⟨_, rfl⟩
        rw [hw9] at hw8 gx8 hs8 ch8
        have KNB := Lib.hid (show NY w9 w9 g o1 o2 o3 f t none 0 0 [] from ⟨gx8, Ow.nil _ _, Chg.refl _ _⟩)
        have HB39 := Lib.hid (show Below w3.heap.size w3 w9 from HB6.out.trans ((hb7.mono (by omega)).trans (ch8.below (by omega) (fun k e => by omega))))
        have hk6 := HB39.out.size
        have hgw9 : g < w9.heap.size := blk_lt gx8
        clear hb7 gx gx8 hs8 ch8 hw9 c0 c1 c2
        have hcc := HVC.out w9 HB39.out
        obtain ⟨k, hsk, hkN⟩ := shard_idx HFQ.out
        rw [← HPV.out] at hkN
        have hkN2 : k < N := by rw [← HN.out]; simpa [PV.pl] using hkN
        obtain ⟨r, hr⟩ : ∃ r, rs[k]? = some r := ⟨_, List.getElem?_eq_getElem (by rw [HN.out]; exact hkN2)⟩
        have hli : p.ss[k]? = some r.l := by rw [← HPV.out]; simp [PV.pl, hr]
        have hsh : shardAt p.ss s = r.l := by rw [hsk]; exact shardAt_in hli
        have HW8 := Lib.hid hw8
        clear hw8
        obtain ⟨b, off, hA, hb, l0, ho⟩ := ((HOK.out w9 HB39.out).s).at_ hr
        simp only at hA
        subst hA
        have HO := Lib.hid ho.ls
        have hol := ho.len
        obtain ⟨rA, rc, L⟩ := r
        obtain ⟨m, hm⟩ : ∃ m, L.length = m := ⟨_, rfl⟩
        simp only [Rw3.val, hm] at l0 HO hol
        simp only at hsh
        have HM := Lib.hid hm
        have HSH := Lib.hid hsh
        have hsok : ShardOk p.nodes L := (chk_iff.1 HCKE.out).each L (List.mem_of_getElem? hli)
        have hm8 : m ≤ 8 := by rw [← hm]; exact ok_ll hsok
        have HSOK := Lib.hid hsok
        have hbw : b < w9.heap.size := by omega
        have i0 : (0 : Int) ≤ (k : Int) := by omega
        have hltz : (k : Int) < (N : Int) := by omega
        obtain ⟨e0, e1, e2⟩ := hcc
        have hl9 : w.heap.size < w9.heap.size := by omega
        have HL0 := Lib.hid l0
        clear hr hli hsh ho hm hkN hsok l0 e0 e1 e2
        subst hsk
        go_wp2_with (fail)
        rw [HW8.out]
        clear d0 d1 d2 f0 f1 f2
        go_loopg [11, 12] m (fun gg s11 s12 wr => ∃ (i : Nat) (oA : Option Addr) (M oc : Nat), s11 = .int .i64 i ∧ i ≤ m ∧ m - i ≤ gg ∧ M ≤ i ∧ Aside (NY w9 wr g o1 o2 o3 f t oA M oc (othersOf n (L.take i))))
        case atStart => exact ⟨0, none, 0, 0, rfl, by omega, by omega, by omega, KNB.out⟩
        case round =>
          obtain ⟨i, oA, M, oc, rfl, hi, hgk, hMi, HNB⟩ := hrel
          obtain ⟨wv, hwv⟩ : ∃ wv, wv = wr := ⟨wr, rfl⟩
          obtain rfl := hwv
          have hsv := HNB.out.ch.size
          have hbB := HNB.out.ch.below (B := B) (by omega) (fun k e => by omega)
          have HB3v := Lib.hid (HB39.out.trans (HNB.out.ch.below (B := w3.heap.size) (by omega) (fun k e => by omega)))
          have l1 := (hbB.cell (p := ⟨b, off + k, none⟩) hb).trans HL0.out
          obtain ⟨e0, e1, e2⟩ := HVC.out wv HB3v.out
          have hlv : w.heap.size < wv.heap.size := by omega
          have hbv : b < wv.heap.size := by omega
          clear hbB
          by_cases hlt : i < m
          · have hltm : (i : Int) < (m : Int) := by omega
            have j0 : (0 : Int) ≤ (i : Int) := by omega
            obtain ⟨x, hx⟩ : ∃ x, L[i]? = some x := ⟨_, List.getElem?_eq_getElem (by rw [HM.out]; exact hlt)⟩
            obtain ⟨b3, off3, hA3, hb3, y0, y1, y2⟩ := own_at (HO.out.below (HNB.out.ch.below (B := B) (by omega) (fun k e => by omega)) (Nat.le_refl B)) hx
            subst hA3
            have HSN := Lib.hid (othersOf_snoc (n := n) hx)
            obtain ⟨x1, x2, x3⟩ := x
            simp only at y0 y1 y2 HSN
            have hbw3 : b3 < wv.heap.size := by omega
            obtain ⟨wa, hwa⟩ : ∃ wa, wv.alloc (.cells #[.int .i64 x1, .int .i64 x2, .int .i64 x3] 42) = wa := ⟨_, rfl⟩
            have hba : Below wv.heap.size wv wa := by rw [← hwa]; exact below_al _ _
            have ga : IsV3 42 wa wv.heap.size (.int .i64 x1) (.int .i64 x2) (.int .i64 x3) := by rw [← hwa]; exact alloc_new _ _
            have hla : wv.heap.size < wa.heap.size := blk_lt ga
            obtain ⟨⟨a0, a1, a2⟩, _⟩ := isv3_cells ga
            have HNA := Lib.hid (HNB.out.below hba)
            have HWA := Lib.hid hwa
            have hsa := hba.size
            obtain ⟨bx, hbx⟩ : ∃ bx, (x1 != n && x2 == 2) = bx := ⟨_, rfl⟩
            rw [hbx] at HSN
            clear hx hba ga
            obtain ⟨bn, hbn⟩ : ∃ bn, (x1 != n) = bn := ⟨_, rfl⟩
            cases bn with
            | false =>
              have hbf : bx = false := by rw [← hbx, hbn]; rfl
              subst hbf
              clear hbx
              go_wp2_with (fail)
              go_roundg (m - (i + 1))
              case measure => omega
              case rel => exact ⟨i + 1, oA, M, oc, by go_num, by omega, by omega, by omega, (show NY w9 wa g o1 o2 o3 f t oA M oc (othersOf n (L.take (i + 1))) by rw [HSN.out]; simpa using HNA.out)⟩
            | true =>
              obtain ⟨b2, hb2⟩ : ∃ b2, (x2 == 2) = b2 := ⟨_, rfl⟩
              have hbf : bx = b2 := by rw [← hbx, hbn, hb2]; rfl
              rw [hbf] at HSN
              clear hbx hbf
              cases b2 with
              | false =>
                go_wp2_with (fail)
                go_roundg (m - (i + 1))
                case measure => omega
                case rel => exact ⟨i + 1, oA, M, oc, by go_num, by omega, by omega, by omega, (show NY w9 wa g o1 o2 o3 f t oA M oc (othersOf n (L.take (i + 1))) by rw [HSN.out]; simpa using HNA.out)⟩
              | true =>
                obtain ⟨n0, n1, n2⟩ := HNA.out.cell
                have q0 := Wb.at_ n0
                have q1 := Wb.at_ a0
                go_wp2_with (fail)
                clear y0 y1 y2 e0 e1 e2 l1
                refine wp_region_plan [([0, 1, 2, 3, 4, 5, 6], some (7, false)), ([], some (8, true)), ([9, 10], some (11, true)), ([], none)] (by kernel_rfl) (by kernel_rfl) ?_
                refine seg_act _ (by dsimp only [pick, ord.at_]) _ (by dsimp only [pick, ord.at_]) ?_
                repeat (go_big_quiet_step (fail))
                refine wpQuiet_nil ?_
                intro K1 h1 h2
                clear h1
                go_wp2_with (fail)
                obtain ⟨wb, hwb⟩ : ∃ wb, (wa.alloc (.cells #[.int .i64 x1] 3)).drew = wb := ⟨_, rfl⟩
                have hbb : Below wa.heap.size wa wb := by rw [← hwb]; exact (below_al _ _).drew
                have HLb := Lib.hid (show Ls NE wb (wa.heap.size + 1) (some ⟨wa.heap.size, 0, none⟩) 1 [x1] by rw [← hwb]; exact (ls_new (E := NE) (w := wa) 3 x1).drew)
                have HNb := Lib.hid (HNA.out.below hbb)
                have hsb := hbb.size
                have HBb := Lib.hid hbb
                rw [hwb]
                clear hwb hbb
                refine h2 _ _ HBb.out ?_
                clear h2
                refine seg_write _ (by dsimp only [pick, ord.at_]) _ (by dsimp only [pick, ord.at_]) ?_
                repeat (go_big_quiet_step (fail))
                refine wpQuiet_nil ?_
                intro K2 g2
                go_wp2_with (at_builtin; refine app_n rfl (.tmp 65) (.tmp 68) rfl w9.heap.size _ M _ rfl HNb.out.ow (wa.heap.size + 1) (some ⟨wa.heap.size, 0, none⟩) 1 1 (fun e => by cases e) [x1] (by rfl) HLb.out (by omega) (by omega) ?_; intro A9 c9 w10 hown9 hg9 _ h9a h9b hs9; have HNN := Lib.hid (HNb.out.app hgw9 hown9 hg9); clear hown9 hg9)
                obtain ⟨HNC, n0, n1, n2⟩ := HNN.out
                have HNF := Lib.hid HNC
                clear HNC
                refine seg_write _ (by dsimp only [pick, ord.at_]) _ (by dsimp only [pick, ord.at_]) ?_
                repeat (go_big_quiet_step (fail))
                refine wpQuiet_nil ?_
                intro K3 g3
                go_wp2_with (fail)
                refine seg_end _ (by dsimp only [pick, ord.at_]) ?_
                repeat (go_big_quiet_step (fail))
                refine wpQuiet_nil ?_
                refine NoPanic.normal ?_
                go_wp2_with (fail)
                go_roundg (m - (i + 1))
                case measure => omega
                case rel => exact ⟨i + 1, A9, M + 1, c9, by go_num, by omega, by omega, by omega, (show NY w9 (w10.setCell ⟨g, 3, none⟩ (.slice A9 (M + 1) c9)) g o1 o2 o3 f t A9 (M + 1) c9 (othersOf n (L.take (i + 1))) by rw [HSN.out]; exact HNF.out)⟩
          · obtain rfl : i = m := by omega
            have hltm : ¬ (i : Int) < (i : Int) := by omega
            have HBW := Lib.hid (HB3.out.trans (HB3v.out.mono (by omega)))
            go_wp2_with (fail)
            go_ret2
            rw [HRET.out]
            exact ⟨some ⟨g, 0, none⟩, by rw [HE.out]; rfl, HBW.out⟩
  · have hkz : (ck != 0) = true := by simp [hk0]
    have HE := Lib.hid (show ne = 50 by rw [HNE.out, if_pos hk0])
    clear hk0
    go_wp2_with (fail)
    go_ret2
    rw [HRET.out]
    exact ⟨none, by rw [HE.out]; rfl, HB3.out.trans (HB4.out.mono (by omega))⟩
end Go.Proofs.Ytheanpcbjjogfaa.bt
