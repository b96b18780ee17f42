/-
  The walk of the law MergeViews.
-/
import Derived.Test.YtemmfcinpkfoiaaMgSame
import Derived.Test.YtemmfcinpkfoiaaMgSized
import Derived.Test.YtemmfcinpkfoiaaMgCopied
import Derived.Test.YtemmfcinpkfoiaaMgCutY
namespace Go.Proofs.Ytemmfcinpkfoiaa.lawMergeViews
open Go.ChangeShapes Go.WideShapes Go.ChangeAt Go.RowKit Go.Shelf plain words ord mem rg mg

theorem pts_map {l m : List It} (h : l.map It.l = m.map It.l) : pts l = pts m := by
  unfold pts
  rw [List.flatMap_def, List.flatMap_def, h]
theorem map_at {l m : List It} (h : l.map It.l = m.map It.l) {i : Nat} {x y : It} (hx : l[i]? = some x) (hy : m[i]? = some y) : x.l = y.l := by
  have := congrArg (fun z => z[i]?) h
  simp only [List.getElem?_map, hx, hy, Option.map_some] at this
  injection this
set_option maxHeartbeats 8000000 in
set_option maxRecDepth 100000 in
theorem walk_ok (A : Option Addr) (n c : Nat) (f t : Int) (w : World) (h0 : IsListsS w A n c) (hf : (Lit.int .i64 f).wf = true) (ht : (Lit.int .i64 t).wf = true) :
    Calls Try.prog 5 #[.slice A n c, .agg #[.int .i64 f, .int .i64 t]] w fun e w' => e = .returned (.bool true) ∧ Below w.heap.size w w' := by
  obtain ⟨ls, h, hn, hx⟩ := h0
  have hb01 : Below w.heap.size w (w.alloc (.cells #[.int .i64 f, .int .i64 t] 34)) := (Below.refl _ _).alloc (Nat.le_refl _) _
  have hrg : (w.alloc (.cells #[.int .i64 f, .int .i64 t] 34)).heap[w.heap.size]? = some (.cells #[.int .i64 f, .int .i64 t] 34 (0, 0)) := alloc_new _ _
  have HV := Lib.hid (heavy_x (w.alloc (.cells #[.int .i64 f, .int .i64 t] 34)) w.heap.size n c A ls (h.row.below hb01 (Nat.le_refl _)) hn hx)
  have H := Lib.hid h
  have HLN := Lib.hid h.row.row.1
  have B01 := Lib.hid hb01
  have RG := Lib.hid hrg
  clear h hn hx hf ht hb01 hrg
  go_enter Try.func5, Try.ntmps5
  go_wp2_with fail
  refine HV.out.mono ?_
  rintro e w1 ⟨bb, rfl, hb, hw1⟩
  have B1 := B01.out
  rw [hw1] at B1
  have R1 := RG.out
  rw [hw1] at R1
  have B1 := Lib.hid B1
  have R1 := Lib.hid R1
  clear HV RG B01 hw1
  cases bb with
  | true =>
    go_wp2_with fail
    go_ret
    exact ⟨rfl, B1.out⟩
  | false =>
    have hb8 := hb rfl
    rw [HLN.out] at hb8
    clear hb
    have hs01 : w.heap.size ≤ w1.heap.size := B1.out.size
    have HC := Lib.hid (copied_x w1 w.heap.size n c A ls (H.out.row.below B1.out (Nat.le_refl _)) hs01 (by omega) (by omega))
    go_wp2_with fail
    refine HC.out.mono ?_
    rintro e w2 ⟨A2, c2, its, rfl, hcop⟩
    have hmap : its.map It.l = ls.map It.l := by rw [hcop.map, List.take_of_length_le (by rw [HLN.out]; exact Nat.le_refl _)]
    have hpt : pts its = pts ls := pts_map hmap
    have hback : Lists w2 w2.heap.size n A2 its := ⟨hcop.row.ls, fun x hx => by
      have h1 := hcop.ok x hx
      obtain ⟨A', c', e1, e2, e3, e4⟩ := h1.form
      cases e1
      exact ⟨h1.ls, e3, e4, e2⟩⟩
    have hs12 : w1.heap.size ≤ w2.heap.size := hcop.bel.size
    have hbw2 : Below w.heap.size w w2 := B1.out.trans (hcop.bel.mono hs01)
    have BK := Lib.hid hback
    have HMAP := Lib.hid hmap
    have HPT := Lib.hid hpt
    have B2 := Lib.hid hbw2
    have R2 := Lib.hid (blk_below hcop.bel R1.out (blk_lt R1.out))
    have HM := Lib.hid (merge_x w2 w2.heap.size n c2 A2 its hback (Nat.le_refl _) (by omega) (by rw [hpt]; omega))
    clear hcop hmap hpt hback hbw2 HC
    go_wp2_with fail
    refine HM.out.mono ?_
    rintro e w3 ⟨A3, c3, o, rfl, ho3, hv3, hl3, hb3⟩
    rw [HPT.out] at hv3 hl3
    have hs23 : w2.heap.size ≤ w3.heap.size := hb3.size
    have hsw3 : w.heap.size ≤ w3.heap.size := by omega
    obtain ⟨m, hm⟩ : ∃ m, o.length = m := ⟨_, rfl⟩
    have hm8 : m ≤ 8192 := by omega
    have hL3 : Ls PE w3 w3.heap.size A3 m o := by have := ho3.row.ls; rwa [hm] at this
    have h3B : Below w.heap.size w w3 := B2.out.trans (hb3.mono (by omega))
    have hgl : w.heap.size < w3.heap.size := by have := blk_lt R1.out; omega
    have hR3 : w3.heap[w.heap.size]? = some (.cells #[.int .i64 f, .int .i64 t] 34 (0, 0)) := blk_below hb3 R2.out (blk_lt R2.out)
    rw [hm]
    have L3 := Lib.hid hL3
    have V3 := Lib.hid hv3
    have HMM := Lib.hid hm
    have B3 := Lib.hid h3B
    have BK3 := Lib.hid (BK.out.below hb3 (Nat.le_refl _))
    have LS3 := Lib.hid (H.out.row.below h3B (Nat.le_refl _))
    have R3 := Lib.hid hR3
    have hbd : Below w3.heap.size w3 w3.drew := (Below.refl _ _).drew
    have HBD := Lib.hid hbd
    have HMY := Lib.hid (merge_y w3.drew w.heap.size n c A ls (LS3.out.below hbd hsw3) hsw3 (by omega) (by omega))
    clear ho3 hv3 hl3 hb3 hm hL3 h3B hR3 hbd HM B2 R2 BK
    go_wp2_with fail
    refine wp_region_plan [([0, 1], some (2, false)), ([], some (3, false)), ([4, 5, 6, 7, 9, 10], some (8, false)), ([], some (11, false)), ([], some (12, false)), ([13, 14], none)] (by kernel_rfl) (by kernel_rfl) ?_
    refine seg_act _ (by dsimp only [pick, at_]) _ (by dsimp only [pick, at_]) ?_
    repeat (go_big_quiet_step (fail))
    refine wpQuiet_nil ?_
    intro K1 g1 g2
    clear g1
    go_wp2_with (fail)
    refine HMY.out.mono ?_
    rintro e w4 ⟨A4, c4, o4, rfl, ho4, hv4, hl4, hb4⟩
    obtain rfl : o4 = o := hv4.unique V3.out (fun _ => Iff.rfl)
    have hb34 : Below w3.heap.size w3 w4 := HBD.out.trans hb4
    have hs34 : w3.heap.size ≤ w4.heap.size := hb34.size
    have B34 := Lib.hid hb34
    rw [HMM.out]
    have hL4 : Ls PE w4 w4.heap.size A4 m o4 := by have := ho4.row.ls; rwa [HMM.out] at this
    have HS4 := Lib.hid (same_y w4 w4.heap.size m c3 c4 A3 A4 o4 ((L3.out.below hb34 (Nat.le_refl _)).more hs34) hL4 (Nat.le_refl _) (by omega))
    clear ho4 hv4 hl4 hb4 hb34 hL4 HMY
    go_wp2_with (fail)
    refine g2 _ _ B34.out ?_
    clear g2
    refine seg_act _ (by dsimp only [pick, at_]) _ (by dsimp only [pick, at_]) ?_
    refine wpQuiet_nil ?_
    intro K2 g1 g2
    clear g1
    go_wp2_with (fail)
    refine HS4.out.mono ?_
    rintro e w5 ⟨rfl, hb45⟩
    have B45 := Lib.hid hb45
    have B35 := Lib.hid (B34.out.trans (hb45.mono hs34))
    have hs45 : w4.heap.size ≤ w5.heap.size := hb45.size
    clear hb45 HS4
    go_wp2_with (fail)
    refine g2 _ _ (by first | exact B35.out | exact B45.out) ?_
    clear g2
    have hR5 := blk_below B35.out R3.out hgl
    have c0 : w5.cell? ⟨w.heap.size, 0, none⟩ = some (.int .i64 f) := by rw [cell_of_row _ _ _ _ _ _ hR5]; rfl
    have c1 : w5.cell? ⟨w.heap.size, 1, none⟩ = some (.int .i64 t) := by rw [cell_of_row _ _ _ _ _ _ hR5]; rfl
    have hg5 : w.heap.size < w5.heap.size := blk_lt hR5
    have q0 := Wb.at_ c0
    have q1 := Wb.at_ c1
    have CX := Lib.hid (cut_x w5 w5.heap.size m c3 A3 o4 f t ((L3.out.below B35.out (Nat.le_refl _)).more (by omega)) (Nat.le_refl _) (by omega))
    clear c0 c1 hR5
    refine seg_act _ (by dsimp only [pick, at_]) _ (by dsimp only [pick, at_]) ?_
    repeat (go_big_quiet_step (fail))
    refine wpQuiet_nil ?_
    intro K3 g1 g2
    clear g1 q0 q1
    go_wp2_with (fail)
    refine CX.out.mono ?_
    rintro e w6 ⟨A6, c6, rfl, ho6, hb56⟩
    obtain ⟨y, hy⟩ : ∃ y, cut f t o4 = y := ⟨_, rfl⟩
    rw [hy] at ho6 ⊢
    obtain ⟨ky, hky⟩ : ∃ ky, y.length = ky := ⟨_, rfl⟩
    have hyl : y.length ≤ m := by rw [← hy, ← HMM.out]; exact List.length_filter_le _ _
    rw [hky] at hyl ⊢
    have HY := Lib.hid hy
    have HKY := Lib.hid hky
    have O6 := Lib.hid ho6
    have hs56 : w5.heap.size ≤ w6.heap.size := hb56.size
    have B56 := Lib.hid hb56
    have B36 := Lib.hid (B35.out.trans (hb56.mono (by omega)))
    have CY := Lib.hid (cut_y w6 w6.heap.size m c3 A3 o4 f t ((L3.out.below B36.out (Nat.le_refl _)).more (by omega)) (Nat.le_refl _) (by omega))
    clear ho6 hb56 CX hy hky
    go_wp2_with (fail)
    refine g2 _ _ (by first | exact B36.out | exact B56.out) ?_
    clear g2
    refine seg_act _ (by dsimp only [pick, at_]) _ (by dsimp only [pick, at_]) ?_
    refine wpQuiet_nil ?_
    intro K4 g1 g2
    clear g1
    go_wp2_with (fail)
    refine CY.out.mono ?_
    rintro e w7 ⟨A7, c7, rfl, ho7, hb67⟩
    rw [HY.out] at ho7 ⊢
    rw [HKY.out]
    have hs67 : w6.heap.size ≤ w7.heap.size := hb67.size
    have B67 := Lib.hid hb67
    have B37 := Lib.hid (B36.out.trans (hb67.mono (by omega)))
    have hL6 : Ls PE w7 w7.heap.size A6 ky y := by have := O6.out.row.ls; rw [HKY.out] at this; exact (this.below hb67 (Nat.le_refl _)).more hs67
    have hL7 : Ls PE w7 w7.heap.size A7 ky y := by have := ho7.row.ls; rwa [HKY.out] at this
    have HS7 := Lib.hid (same_y w7 w7.heap.size ky c6 c7 A6 A7 y hL6 hL7 (Nat.le_refl _) (by omega))
    clear ho7 hb67 CY hL6 hL7
    go_wp2_with (fail)
    refine g2 _ _ (by first | exact B37.out | exact B67.out) ?_
    clear g2
    refine seg_act _ (by dsimp only [pick, at_]) _ (by dsimp only [pick, at_]) ?_
    refine wpQuiet_nil ?_
    intro K5 g1 g2
    clear g1
    go_wp2_with (fail)
    refine HS7.out.mono ?_
    rintro e w8 ⟨rfl, hb78⟩
    have hs78 : w7.heap.size ≤ w8.heap.size := hb78.size
    have B78 := Lib.hid hb78
    have B38 := Lib.hid (B37.out.trans (hb78.mono (by omega)))
    clear hb78 HS7
    go_wp2_with (fail)
    refine g2 _ _ (by first | exact B38.out | exact B78.out) ?_
    clear g2
    refine seg_end _ (by dsimp only [pick, at_]) ?_
    repeat (go_big_quiet_step (fail))
    refine wpQuiet_nil (NoPanic.normal ?_)
    go_wp2_with (fail)
    clear O6 HY HKY B56 B67 B78 B45 B34 hyl
    go_loopg [7] n (fun gg s7 wr => ∃ (i : Nat), s7 = .int .i64 i ∧ i ≤ n ∧ n - i ≤ gg ∧ Aside (Below w3.heap.size w3 wr))
    case atStart => exact ⟨0, rfl, Nat.zero_le _, by omega, B38.out⟩
    case round =>
      clear B38
      obtain ⟨i, rfl, hi, hgg, W⟩ := hrel
      obtain ⟨wv, rfl⟩ : ∃ wv, wv = wr := ⟨wr, rfl⟩
      have hs3v : w3.heap.size ≤ wv.heap.size := W.out.size
      by_cases hlt : i < n
      · have hbv := BK3.out.below W.out hs23
        have hlv := LS3.out.below W.out hsw3
        obtain ⟨x, hx⟩ := hlv.row.get hlt
        obtain ⟨z, hz⟩ := hbv.row.get hlt
        obtain ⟨bx, ox, eX, _, hcx⟩ := hlv.row.at_ hx
        obtain ⟨bz, oz, eZ, _, hcz⟩ := hbv.row.at_ hz
        have hzx : z.l = x.l := map_at HMAP.out hz hx
        have hx0 := hcx 0 (by decide)
        have hz0 := hcz 0 (by decide)
        simp only [HE, Nat.mul_one, Nat.add_zero, itE, It.val, List.getElem?_cons_zero] at hx0 hz0
        have hxi := (hlv.ok x (List.mem_of_getElem? hx)).ls
        have hzi := (hbv.ok z (List.mem_of_getElem? hz)).ls
        have hxn := pts_at hx
        rw [hzx] at hz0 hzi
        obtain ⟨K, hK⟩ : ∃ K, x.l.length = K := ⟨_, rfl⟩
        rw [hK] at hx0 hz0 hxi hzi hxn
        have i1 : (i : Int) < (n : Int) := by omega
        have i0 : (0 : Int) ≤ (i : Int) := by omega
        have hbx : bx < wv.heap.size := World.block_lt_of_cell? wv _ hx0
        have hbz : bz < wv.heap.size := World.block_lt_of_cell? wv _ hz0
        have p0 := Wb.at_ hx0
        have p1 := Wb.at_ hz0
        have HSI := Lib.hid (same_y wv.drew wv.heap.size K z.c x.c z.A x.A x.l ((hzi.more (by omega)).drew) ((hxi.more (by omega)).drew) (Nat.le_refl _) (by omega))
        subst eX eZ
        clear hx hz hcx hcz hzx hx0 hz0 hxi hzi hxn hbv hlv hK
        go_wp2_with fail
        refine wp_region_plan [([0, 1, 2, 3, 4, 5, 6, 7], some (8, false)), ([9], none)] (by kernel_rfl) (by kernel_rfl) ?_
        refine seg_act _ (by dsimp only [pick, at_]) _ (by dsimp only [pick, at_]) ?_
        repeat (go_big_quiet_step (fail))
        refine wpQuiet_nil ?_
        intro K6 g1 g2
        clear g1 p0 p1
        go_wp2_with (fail)
        refine HSI.out.mono ?_
        rintro e w9 ⟨rfl, hb9⟩
        have B9 := Lib.hid (show Below wv.heap.size wv w9 from ((Below.refl _ _).drew).trans hb9)
        clear hb9 HSI
        go_wp2_with (fail)
        refine g2 _ _ B9.out ?_
        clear g2
        refine seg_end _ (by dsimp only [pick, at_]) ?_
        repeat (go_big_quiet_step (fail))
        refine wpQuiet_nil (NoPanic.normal ?_)
        go_wp2_with (fail)
        go_roundg (n - (i + 1))
        case measure => omega
        case rel => exact ⟨i + 1, by go_num, by omega, by omega, W.out.trans (B9.out.mono hs3v)⟩
      · have i1 : ¬ (i : Int) < (n : Int) := by omega
        go_wp2_with fail
        have W9 := Lib.hid W.out
        clear W
        go_loopg [8] m (fun gg s8 wr => ∃ (i : Nat), s8 = .int .i64 i ∧ i ≤ m ∧ m - i ≤ gg ∧ Aside (Below w3.heap.size w3 wr))
        case atStart => exact ⟨0, rfl, Nat.zero_le _, by omega, W9.out⟩
        case round =>
          clear W9
          obtain ⟨k, rfl, hk, hgk, W⟩ := hrel
          obtain ⟨wz, rfl⟩ : ∃ wz, wz = wr := ⟨wr, rfl⟩
          have hs3z : w3.heap.size ≤ wz.heap.size := W.out.size
          by_cases hlt2 : k + 1 < m
          · have hlz := L3.out.below W.out (Nat.le_refl _)
            obtain ⟨x, hx⟩ := hlz.get (show k < m by omega)
            obtain ⟨y, hy⟩ := hlz.get hlt2
            obtain ⟨ba, oa, eA, _, xa0, xa1, xa2⟩ := Ls.pt hlz hx
            obtain ⟨bb, ob, eB, _, ya0, ya1, ya2⟩ := Ls.pt hlz hy
            subst eA
            cases eB
            have k1 : (k : Int) + 1 < (m : Int) := by omega
            have k2 : (k : Int) < (m : Int) := by omega
            have k0 : (0 : Int) ≤ (k : Int) := by omega
            have k3 : (0 : Int) ≤ (k : Int) + 1 := by omega
            have kw : IntKind.i64.wrap ((k : Int) + 1) = (k : Int) + 1 := by go_arith
            have hbl : ba < wz.heap.size := World.block_lt_of_cell? wz _ xa0
            have p0 := Wb.at_ xa0
            have p1 := Wb.at_ xa1
            have p2 := Wb.at_ xa2
            have p3 := Wb.at_ ya0
            have p4 := Wb.at_ ya1
            have p5 := Wb.at_ ya2
            have HW := Lib.hid (wins_x x y wz.drew)
            clear hx hy xa0 xa1 xa2 ya0 ya1 ya2 hlz
            go_wp2_with fail
            refine wp_region_plan [([0, 1, 2, 3, 4, 5, 6, 7, 8, 10, 11, 12, 13, 14, 15, 16, 17, 18], some (9, false)), ([], some (19, false)), ([20], none)] (by kernel_rfl) (by kernel_rfl) ?_
            refine seg_act _ (by dsimp only [pick, at_]) _ (by dsimp only [pick, at_]) ?_
            repeat (go_big_quiet_step (fail))
            refine wpQuiet_nil ?_
            intro K7 g1 g2
            clear g1 p0 p1 p2 p3 p4 p5
            go_wp2_with (fail)
            refine HW.out.mono ?_
            rintro e wa ⟨rfl, hba⟩
            have BA := Lib.hid (show Below wz.heap.size wz wa from ((Below.refl _ _).drew).trans hba)
            have HW2 := Lib.hid (winsr_x x y wa)
            obtain ⟨bv, hbv⟩ : ∃ bv, wins x y = bv := ⟨_, rfl⟩
            rw [hbv]
            have HBV := Lib.hid hbv
            have hsz : wz.heap.size ≤ wa.heap.size := BA.out.size
            clear hba HW hbv
            go_wp2_with (fail)
            refine g2 _ _ BA.out ?_
            clear g2
            refine seg_act _ (by dsimp only [pick, at_]) _ (by dsimp only [pick, at_]) ?_
            refine wpQuiet_nil ?_
            intro K8 g1 g2
            clear g1
            go_wp2_with (fail)
            refine HW2.out.mono ?_
            rintro e wb ⟨rfl, hbb⟩
            rw [HBV.out]
            have BB := Lib.hid (BA.out.trans (hbb.mono hsz))
            have BB2 := Lib.hid hbb
            have hq : (bv == bv) = true := by cases bv <;> rfl
            have hq' : (bv != bv) = false := by cases bv <;> rfl
            clear hbb HW2
            go_wp2_with (fail)
            refine g2 _ _ (by first | exact BB.out | exact BB2.out) ?_
            clear g2
            refine seg_end _ (by dsimp only [pick, at_]) ?_
            repeat (go_big_quiet_step (fail))
            refine wpQuiet_nil (NoPanic.normal ?_)
            go_wp2_with (fail)
            go_roundg (m - (k + 1))
            case measure => omega
            case rel => exact ⟨k + 1, by go_num, by omega, by omega, W.out.trans (BB.out.mono hs3z)⟩
          · have k1 : ¬ (k : Int) + 1 < (m : Int) := by omega
            have kw : IntKind.i64.wrap ((k : Int) + 1) = (k : Int) + 1 := by go_arith
            have W2 := Lib.hid W.out
            clear W
            go_wp2_with fail
            go_ret
            exact ⟨rfl, B3.out.trans (W2.out.mono hsw3)⟩
end Go.Proofs.Ytemmfcinpkfoiaa.lawMergeViews
