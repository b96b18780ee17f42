/-
  Placements: the document's check of a shard.
-/
import Derived.Test.YtheanpcbjjogfaaPmC
namespace Go.Proofs.Ytheanpcbjjogfaa.pm
open Go.ChangeShapes Go.WideShapes Go.ChangeAt Go.RowKit Go.Shelf plain words ord mem

theorem sources_succ {l : List O} {i : Nat} {o : O} (n : Int) (h : l[i]? = some o) : sources (l.take (i + 1)) n = sources (l.take i) n + (if o.2.1 == 3 && o.1 == n then 1 else 0) := by
  unfold sources
  rw [List.take_add_one, h, List.countP_append]
  simp [List.countP_cons]
set_option maxHeartbeats 8000000 in
set_option maxRecDepth 100000 in
theorem rshard_y (w : World) (B : Nat) (v : PV) (h : PVok w B v) (hB : B ≤ w.heap.size) (n c : Nat) (A : Option Addr) (l : List O) (hls : Ls OE w B A n l) (hn : n ≤ 9223372036854775807) :
    Calls Try.prog 34 #[v.val, .slice A n c] w fun e w' => e = .returned (.bool (tb (ShardBy rval v.nodes l))) ∧ Below w.heap.size w w' := by
  obtain ⟨wa, hwa⟩ : ∃ wa, w.alloc (boxO v) = wa := ⟨_, rfl⟩
  have hba : Below w.heap.size w wa := by rw [← hwa]; exact below_al _ _
  have gp : Boxed wa w.heap.size v := by rw [← hwa]; exact alloc_new _ _
  have HHAS := Lib.hid (fun (u : World) (hu : Below w.heap.size w u) (k : Int) => has_y u B v.nodes.length v.nc v.nA v.nodes (h.n.below hu hB) (by have := hu.size; omega) h.len.2 k)
  clear h
  obtain ⟨ver, nA, nc, nodes, sA, sc, rs⟩ := v
  obtain ⟨N, hN⟩ : ∃ N, rs.length = N := ⟨_, rfl⟩
  obtain ⟨nl, hnl⟩ : ∃ nl, nodes.length = nl := ⟨_, rfl⟩
  simp only [PV.val, boxO, Boxed, hN, hnl] at hwa gp HHAS ⊢
  have HWA := Lib.hid hwa
  have HBA := Lib.hid hba
  have GP := Lib.hid gp
  have HH := Lib.hid hls
  have HL := Lib.hid hls.1
  clear hls hwa hba gp hN hnl
  go_enter Try.func34, Try.ntmps34
  go_wp2_with (fail)
  rw [HWA.out]
  go_loopg [4, 5, 6, 7, 8, 9, 10] n (fun gg s4 s5 s6 s7 s8 s9 s10 wr => ∃ i : Nat, s6 = .int .i64 i ∧ i ≤ n ∧ n - i ≤ gg ∧ s4 = .bool false ∧ (∃ k : Nat, s5 = .int .i64 k ∧ k ≤ i ∧ Aside (stay (l.take i) = k)) ∧ Aside (OUp rval nodes l i) ∧ Aside (Below w.heap.size w wr) ∧ Aside (IsV3 25 wr w.heap.size (.int .i64 ver) (.slice nA nl nc) (.slice sA N sc)))
  case atStart => exact ⟨0, rfl, by omega, by omega, rfl, ⟨0, rfl, by omega, by show stay _ = _; simp [stay]⟩, Upto.zero _ _ _, HBA.out, GP.out⟩
  case round =>
    obtain ⟨i, rfl, hi, hg, rfl, ⟨k, rfl, hk, HK⟩, HU, HB, HPB⟩ := hrel
    clear HBA GP
    have hs := HB.out.size
    by_cases hlt : i < n
    · have hltz : (i : Int) < (n : Int) := by omega
      obtain ⟨x, hx⟩ := HH.out.get hlt
      obtain ⟨b, off, rfl, hb, l0, l1, l2⟩ := own_at (HH.out.below HB.out hB) hx
      have hbw : b < wr.heap.size := by omega
      have HX := Lib.hid hx
      have HST := Lib.hid (stay_succ hx)
      obtain ⟨x1, x2, x3⟩ := x
      simp only at l0 l1 l2 HST
      obtain ⟨wb, hwb⟩ : ∃ wb, wr.alloc (.cells #[.int .i64 x1, .int .i64 x2, .int .i64 x3] 42) = wb := ⟨_, rfl⟩
      have hbb : Below wr.heap.size wr wb := by rw [← hwb]; exact below_al _ _
      have gx : IsV3 42 wb wr.heap.size (.int .i64 x1) (.int .i64 x2) (.int .i64 x3) := by rw [← hwb]; exact alloc_new _ _
      have hsb : wr.heap.size < wb.heap.size := blk_lt gx
      have HBB := Lib.hid hbb
      have GX := Lib.hid gx
      have HWB := Lib.hid hwb
      have hpr : w.heap.size < wr.heap.size := blk_lt HPB.out
      have HPB2 := Lib.hid (blk_below hbb HPB.out hpr)
      have HB2 := Lib.hid (HB.out.trans (hbb.mono (by omega)))
      clear hx hbb gx hwb
      go_wp2_with (fail)
      rw [HWB.out]
      clear l0 l1 l2
      obtain ⟨⟨c0, c1, c2⟩, _⟩ := isv3_cells GX.out
      have q0 := Wb.at_ c0
      have q1 := Wb.at_ c1
      have q2 := Wb.at_ c2
      by_cases g0 : isNode x1
      · have HND := Lib.hid g0
        clear g0
        by_cases h0 : i = 0
        · subst h0
          have HI := Lib.hid (show (0 : Nat) = 0 from rfl)
          by_cases s1 : x2 < 1
          · have v1 : decide (x2 < 1) = true := decide_eq_true s1
            have HQ := Lib.hid (shard_bad (val := rval) (nodes := nodes) HX.out (fun h => by have := h.2.1.1.1; simp only at this; omega))
            refine wp_region_plan [([0, 1], some (2, false)), ([3, 4, 5, 6, 7, 8, 9, 10, 11, 12, 13, 14, 15, 16, 17, 18, 19, 20, 21, 22, 23, 24, 25, 26, 27, 28], none)] (by kernel_rfl) (by kernel_rfl) ?_
            refine seg_act _ (by dsimp only [pick, at_]) _ (by dsimp only [pick, at_]) ?_
            repeat (go_big_quiet_step (fail))
            refine wpQuiet_nil ?_
            intro K1 h1 h2
            clear h2
            go_wp2_with (fail)
            refine (node_y wb.drew x1).mono ?_
            rintro e w3 ⟨rfl, hb3⟩
            have HB3 := Lib.hid (show Below wb.heap.size wb w3 from (Below.refl _ _).drew.trans hb3)
            have HBW := Lib.hid (HB2.out.trans (HB3.out.mono HB2.out.size))
            have GX3 := Lib.hid (blk_below HB3.out GX.out hsb)
            have HPB3 := Lib.hid (blk_below HB3.out HPB2.out (by omega))
            clear hb3
            rw [(isNodeB_iff x1).2 HND.out]
            go_wp2_with (fail)
            refine h1 _ _ HB3.out ?_
            clear h1
            refine seg_end _ (by dsimp only [pick, at_]) ?_
            repeat (go_big_quiet_step (fail))
            refine wpQuiet_nil ?_
            refine NoPanic.normal ?_
            clear q0 q1 q2 c0 c1 c2
            go_wp2_with (fail)
            go_ret
            rw [HQ.out]
            exact ⟨rfl, HBW.out⟩
          · have v1 : decide (x2 < 1) = false := decide_eq_false s1
            by_cases s2 : (3 : Int) < x2
            · have v2 : decide ((3 : Int) < x2) = true := decide_eq_true s2
              have HQ := Lib.hid (shard_bad (val := rval) (nodes := nodes) HX.out (fun h => by have := h.2.1.1.2; simp only at this; omega))
              refine wp_region_plan [([0, 1], some (2, false)), ([3, 4, 5, 6, 7, 8, 9, 10, 11, 12, 13, 14, 15, 16, 17, 18, 19, 20, 21, 22, 23, 24, 25, 26, 27, 28], none)] (by kernel_rfl) (by kernel_rfl) ?_
              refine seg_act _ (by dsimp only [pick, at_]) _ (by dsimp only [pick, at_]) ?_
              repeat (go_big_quiet_step (fail))
              refine wpQuiet_nil ?_
              intro K1 h1 h2
              clear h2
              go_wp2_with (fail)
              refine (node_y wb.drew x1).mono ?_
              rintro e w3 ⟨rfl, hb3⟩
              have HB3 := Lib.hid (show Below wb.heap.size wb w3 from (Below.refl _ _).drew.trans hb3)
              have HBW := Lib.hid (HB2.out.trans (HB3.out.mono HB2.out.size))
              have GX3 := Lib.hid (blk_below HB3.out GX.out hsb)
              have HPB3 := Lib.hid (blk_below HB3.out HPB2.out (by omega))
              clear hb3
              rw [(isNodeB_iff x1).2 HND.out]
              go_wp2_with (fail)
              refine h1 _ _ HB3.out ?_
              clear h1
              refine seg_end _ (by dsimp only [pick, at_]) ?_
              repeat (go_big_quiet_step (fail))
              refine wpQuiet_nil ?_
              refine NoPanic.normal ?_
              clear q0 q1 q2 c0 c1 c2
              go_wp2_with (fail)
              go_ret
              rw [HQ.out]
              exact ⟨rfl, HBW.out⟩
            · have v2 : decide ((3 : Int) < x2) = false := decide_eq_false s2
              have HRG := Lib.hid (show 1 ≤ x2 ∧ x2 ≤ 3 by omega)
              refine wp_region_plan [([0, 1], some (2, false)), ([3, 4, 5, 6, 7, 8, 9, 10, 11, 12, 13, 14, 15, 16, 17, 18, 19, 20, 21, 22, 23, 24, 25, 26, 27, 28], none)] (by kernel_rfl) (by kernel_rfl) ?_
              refine seg_act _ (by dsimp only [pick, at_]) _ (by dsimp only [pick, at_]) ?_
              repeat (go_big_quiet_step (fail))
              refine wpQuiet_nil ?_
              intro K1 h1 h2
              clear h2
              go_wp2_with (fail)
              refine (node_y wb.drew x1).mono ?_
              rintro e w3 ⟨rfl, hb3⟩
              have HB3 := Lib.hid (show Below wb.heap.size wb w3 from (Below.refl _ _).drew.trans hb3)
              have HBW := Lib.hid (HB2.out.trans (HB3.out.mono HB2.out.size))
              have GX3 := Lib.hid (blk_below HB3.out GX.out hsb)
              have HPB3 := Lib.hid (blk_below HB3.out HPB2.out (by omega))
              clear hb3
              rw [(isNodeB_iff x1).2 HND.out]
              go_wp2_with (fail)
              refine h1 _ _ HB3.out ?_
              clear h1
              refine seg_end _ (by dsimp only [pick, at_]) ?_
              repeat (go_big_quiet_step (fail))
              refine wpQuiet_nil ?_
              refine NoPanic.normal ?_
              clear q0 q1 q2 c0 c1 c2
              go_wp2_with (fail)
              obtain ⟨wv, rfl⟩ : ∃ wv, wv = wr := ⟨wr, rfl⟩
              go_loopg [8, 9, 10] n (fun gg2 s8 s9 s10 wq => ∃ m : Nat, s10 = .int .i64 m ∧ m ≤ n ∧ n - m ≤ gg2 ∧ (∃ a : Nat, s8 = .int .i64 a ∧ a ≤ m ∧ Aside (sources (l.take m) x3 = a)) ∧ (∃ z : Nat, s9 = .int .i64 z ∧ z ≤ m ∧ Aside (heirs (l.take m) x1 = z)) ∧ Aside (Below w.heap.size w wq) ∧ Aside (IsV3 25 wq w.heap.size (.int .i64 ver) (.slice nA nl nc) (.slice sA N sc)) ∧ Aside (IsV3 42 wq wv.heap.size (.int .i64 x1) (.int .i64 x2) (.int .i64 x3)))
              case atStart => exact ⟨0, rfl, by omega, by omega, ⟨0, rfl, by omega, by show sources _ _ = _; simp [sources]⟩, ⟨0, rfl, by omega, by show heirs _ _ = _; simp [heirs]⟩, HBW.out, HPB3.out, GX3.out⟩
              case round =>
                obtain ⟨m, rfl, hm, hg2, ⟨a, rfl, ha, HSA⟩, ⟨z, rfl, hz, HHE⟩, HBQ, HPQ, HXQ⟩ := hrel
                have hsq := HBQ.out.size
                have hxq : wv.heap.size < wr.heap.size := blk_lt HXQ.out
                have hpq : w.heap.size < wr.heap.size := blk_lt HPQ.out
                obtain ⟨⟨d0, d1, d2⟩, _⟩ := isv3_cells HXQ.out
                by_cases hltm : m < n
                · have hltmz : (m : Int) < (n : Int) := by omega
                  obtain ⟨y, hy⟩ := HH.out.get hltm
                  obtain ⟨b', off', he, hb', m0, m1, m2⟩ := own_at (HH.out.below HBQ.out hB) hy
                  cases he
                  have HSS := Lib.hid (sources_succ x3 hy)
                  have HHS := Lib.hid (heirs_succ x1 hy)
                  obtain ⟨y1, y2, y3⟩ := y
                  simp only at m0 m1 m2 HSS HHS
                  clear hy
                  have hbq : b < wr.heap.size := by omega
                  by_cases e3 : y2 = 3
                  · have t3 : (y2 == 3) = true := by simp [e3]
                    have t1 : (y2 == 1) = false := by simp [e3]
                    by_cases e4 : y1 = x3
                    · have t4 : (y1 == x3) = true := by simp [e4]
                      have HS2 := Lib.hid (show sources (l.take (m + 1)) x3 = a + 1 by rw [HSS.out, HSA.out]; simp [t3, t4])
                      have HH2 := Lib.hid (show heirs (l.take (m + 1)) x1 = z by rw [HHS.out, HHE.out]; simp [t1])
                      clear e3 e4
                      go_wp2_with (fail)
                      have r0 := Wb.at_ (show wr.cell? _ = _ from d0)
                      have r1 := Wb.at_ (show wr.cell? _ = _ from d1)
                      have r2 := Wb.at_ (show wr.cell? _ = _ from d2)
                      have r3 := Wb.at_ (show wr.cell? _ = _ from m0)
                      have r4 := Wb.at_ (show wr.cell? _ = _ from m1)
                      have r5 := Wb.at_ (show wr.cell? _ = _ from m2)
                      refine wp_region_plan [([0, 1, 2, 3, 4, 5, 6, 7, 8, 9, 10, 11, 12, 13, 14, 15], none)] (by kernel_rfl) (by kernel_rfl) ?_
                      refine seg_end _ (by dsimp only [pick, at_]) ?_
                      repeat (go_big_quiet_step (fail))
                      refine wpQuiet_nil ?_
                      refine NoPanic.normal ?_
                      clear r0 r1 r2 r3 r4 r5
                      go_wp2_with (fail)
                      have r0 := Wb.at_ (show wr.drew.cell? _ = _ from d0)
                      have r1 := Wb.at_ (show wr.drew.cell? _ = _ from d1)
                      have r2 := Wb.at_ (show wr.drew.cell? _ = _ from d2)
                      have r3 := Wb.at_ (show wr.drew.cell? _ = _ from m0)
                      have r4 := Wb.at_ (show wr.drew.cell? _ = _ from m1)
                      have r5 := Wb.at_ (show wr.drew.cell? _ = _ from m2)
                      refine wp_region_plan [([0, 1, 2, 3, 4, 5, 6, 7, 8, 9, 10, 11, 12, 13, 14, 15], none)] (by kernel_rfl) (by kernel_rfl) ?_
                      refine seg_end _ (by dsimp only [pick, at_]) ?_
                      repeat (go_big_quiet_step (fail))
                      refine wpQuiet_nil ?_
                      refine NoPanic.normal ?_
                      clear r0 r1 r2 r3 r4 r5
                      go_wp2_with (fail)
                      go_roundg (n - (m + 1))
                      case measure => omega
                      case rel => exact ⟨m + 1, by go_num, by omega, by omega, ⟨a + 1, by go_num, by omega, HS2.out⟩, ⟨z, by go_num, by omega, HH2.out⟩, HBQ.out.drew.drew, HPQ.out, HXQ.out⟩
                    · have t4 : (y1 == x3) = false := by simp [e4]
                      have HS2 := Lib.hid (show sources (l.take (m + 1)) x3 = a by rw [HSS.out, HSA.out]; simp [t4])
                      have HH2 := Lib.hid (show heirs (l.take (m + 1)) x1 = z by rw [HHS.out, HHE.out]; simp [t1])
                      clear e3 e4
                      go_wp2_with (fail)
                      have r0 := Wb.at_ (show wr.cell? _ = _ from d0)
                      have r1 := Wb.at_ (show wr.cell? _ = _ from d1)
                      have r2 := Wb.at_ (show wr.cell? _ = _ from d2)
                      have r3 := Wb.at_ (show wr.cell? _ = _ from m0)
                      have r4 := Wb.at_ (show wr.cell? _ = _ from m1)
                      have r5 := Wb.at_ (show wr.cell? _ = _ from m2)
                      refine wp_region_plan [([0, 1, 2, 3, 4, 5, 6, 7, 8, 9, 10, 11, 12, 13, 14, 15], none)] (by kernel_rfl) (by kernel_rfl) ?_
                      refine seg_end _ (by dsimp only [pick, at_]) ?_
                      repeat (go_big_quiet_step (fail))
                      refine wpQuiet_nil ?_
                      refine NoPanic.normal ?_
                      clear r0 r1 r2 r3 r4 r5
                      go_wp2_with (fail)
                      have r0 := Wb.at_ (show wr.drew.cell? _ = _ from d0)
                      have r1 := Wb.at_ (show wr.drew.cell? _ = _ from d1)
                      have r2 := Wb.at_ (show wr.drew.cell? _ = _ from d2)
                      have r3 := Wb.at_ (show wr.drew.cell? _ = _ from m0)
                      have r4 := Wb.at_ (show wr.drew.cell? _ = _ from m1)
                      have r5 := Wb.at_ (show wr.drew.cell? _ = _ from m2)
                      refine wp_region_plan [([0, 1, 2, 3, 4, 5, 6, 7, 8, 9, 10, 11, 12, 13, 14, 15], none)] (by kernel_rfl) (by kernel_rfl) ?_
                      refine seg_end _ (by dsimp only [pick, at_]) ?_
                      repeat (go_big_quiet_step (fail))
                      refine wpQuiet_nil ?_
                      refine NoPanic.normal ?_
                      clear r0 r1 r2 r3 r4 r5
                      go_wp2_with (fail)
                      go_roundg (n - (m + 1))
                      case measure => omega
                      case rel => exact ⟨m + 1, by go_num, by omega, by omega, ⟨a, by go_num, by omega, HS2.out⟩, ⟨z, by go_num, by omega, HH2.out⟩, HBQ.out.drew.drew, HPQ.out, HXQ.out⟩
                  · have t3 : (y2 == 3) = false := by simp [e3]
                    by_cases e1 : y2 = 1
                    · have t1 : (y2 == 1) = true := by simp [e1]
                      by_cases e4 : y3 = x1
                      · have t4 : (y3 == x1) = true := by simp [e4]
                        have HS2 := Lib.hid (show sources (l.take (m + 1)) x3 = a by rw [HSS.out, HSA.out]; simp [t3])
                        have HH2 := Lib.hid (show heirs (l.take (m + 1)) x1 = z + 1 by rw [HHS.out, HHE.out]; simp [t1, t4])
                        clear e3 e1 e4
                        go_wp2_with (fail)
                        have r0 := Wb.at_ (show wr.cell? _ = _ from d0)
                        have r1 := Wb.at_ (show wr.cell? _ = _ from d1)
                        have r2 := Wb.at_ (show wr.cell? _ = _ from d2)
                        have r3 := Wb.at_ (show wr.cell? _ = _ from m0)
                        have r4 := Wb.at_ (show wr.cell? _ = _ from m1)
                        have r5 := Wb.at_ (show wr.cell? _ = _ from m2)
                        refine wp_region_plan [([0, 1, 2, 3, 4, 5, 6, 7, 8, 9, 10, 11, 12, 13, 14, 15], none)] (by kernel_rfl) (by kernel_rfl) ?_
                        refine seg_end _ (by dsimp only [pick, at_]) ?_
                        repeat (go_big_quiet_step (fail))
                        refine wpQuiet_nil ?_
                        refine NoPanic.normal ?_
                        clear r0 r1 r2 r3 r4 r5
                        go_wp2_with (fail)
                        have r0 := Wb.at_ (show wr.drew.cell? _ = _ from d0)
                        have r1 := Wb.at_ (show wr.drew.cell? _ = _ from d1)
                        have r2 := Wb.at_ (show wr.drew.cell? _ = _ from d2)
                        have r3 := Wb.at_ (show wr.drew.cell? _ = _ from m0)
                        have r4 := Wb.at_ (show wr.drew.cell? _ = _ from m1)
                        have r5 := Wb.at_ (show wr.drew.cell? _ = _ from m2)
                        refine wp_region_plan [([0, 1, 2, 3, 4, 5, 6, 7, 8, 9, 10, 11, 12, 13, 14, 15], none)] (by kernel_rfl) (by kernel_rfl) ?_
                        refine seg_end _ (by dsimp only [pick, at_]) ?_
                        repeat (go_big_quiet_step (fail))
                        refine wpQuiet_nil ?_
                        refine NoPanic.normal ?_
                        clear r0 r1 r2 r3 r4 r5
                        go_wp2_with (fail)
                        go_roundg (n - (m + 1))
                        case measure => omega
                        case rel => exact ⟨m + 1, by go_num, by omega, by omega, ⟨a, by go_num, by omega, HS2.out⟩, ⟨z + 1, by go_num, by omega, HH2.out⟩, HBQ.out.drew.drew, HPQ.out, HXQ.out⟩
                      · have t4 : (y3 == x1) = false := by simp [e4]
                        have HS2 := Lib.hid (show sources (l.take (m + 1)) x3 = a by rw [HSS.out, HSA.out]; simp [t3])
                        have HH2 := Lib.hid (show heirs (l.take (m + 1)) x1 = z by rw [HHS.out, HHE.out]; simp [t4])
                        clear e3 e1 e4
                        go_wp2_with (fail)
                        have r0 := Wb.at_ (show wr.cell? _ = _ from d0)
                        have r1 := Wb.at_ (show wr.cell? _ = _ from d1)
                        have r2 := Wb.at_ (show wr.cell? _ = _ from d2)
                        have r3 := Wb.at_ (show wr.cell? _ = _ from m0)
                        have r4 := Wb.at_ (show wr.cell? _ = _ from m1)
                        have r5 := Wb.at_ (show wr.cell? _ = _ from m2)
                        refine wp_region_plan [([0, 1, 2, 3, 4, 5, 6, 7, 8, 9, 10, 11, 12, 13, 14, 15], none)] (by kernel_rfl) (by kernel_rfl) ?_
                        refine seg_end _ (by dsimp only [pick, at_]) ?_
                        repeat (go_big_quiet_step (fail))
                        refine wpQuiet_nil ?_
                        refine NoPanic.normal ?_
                        clear r0 r1 r2 r3 r4 r5
                        go_wp2_with (fail)
                        have r0 := Wb.at_ (show wr.drew.cell? _ = _ from d0)
                        have r1 := Wb.at_ (show wr.drew.cell? _ = _ from d1)
                        have r2 := Wb.at_ (show wr.drew.cell? _ = _ from d2)
                        have r3 := Wb.at_ (show wr.drew.cell? _ = _ from m0)
                        have r4 := Wb.at_ (show wr.drew.cell? _ = _ from m1)
                        have r5 := Wb.at_ (show wr.drew.cell? _ = _ from m2)
                        refine wp_region_plan [([0, 1, 2, 3, 4, 5, 6, 7, 8, 9, 10, 11, 12, 13, 14, 15], none)] (by kernel_rfl) (by kernel_rfl) ?_
                        refine seg_end _ (by dsimp only [pick, at_]) ?_
                        repeat (go_big_quiet_step (fail))
                        refine wpQuiet_nil ?_
                        refine NoPanic.normal ?_
                        clear r0 r1 r2 r3 r4 r5
                        go_wp2_with (fail)
                        go_roundg (n - (m + 1))
                        case measure => omega
                        case rel => exact ⟨m + 1, by go_num, by omega, by omega, ⟨a, by go_num, by omega, HS2.out⟩, ⟨z, by go_num, by omega, HH2.out⟩, HBQ.out.drew.drew, HPQ.out, HXQ.out⟩
                    · have t1 : (y2 == 1) = false := by simp [e1]
                      have HS2 := Lib.hid (show sources (l.take (m + 1)) x3 = a by rw [HSS.out, HSA.out]; simp [t3])
                      have HH2 := Lib.hid (show heirs (l.take (m + 1)) x1 = z by rw [HHS.out, HHE.out]; simp [t1])
                      clear e3 e1
                      go_wp2_with (fail)
                      have r0 := Wb.at_ (show wr.cell? _ = _ from d0)
                      have r1 := Wb.at_ (show wr.cell? _ = _ from d1)
                      have r2 := Wb.at_ (show wr.cell? _ = _ from d2)
                      have r3 := Wb.at_ (show wr.cell? _ = _ from m0)
                      have r4 := Wb.at_ (show wr.cell? _ = _ from m1)
                      have r5 := Wb.at_ (show wr.cell? _ = _ from m2)
                      refine wp_region_plan [([0, 1, 2, 3, 4, 5, 6, 7, 8, 9, 10, 11, 12, 13, 14, 15], none)] (by kernel_rfl) (by kernel_rfl) ?_
                      refine seg_end _ (by dsimp only [pick, at_]) ?_
                      repeat (go_big_quiet_step (fail))
                      refine wpQuiet_nil ?_
                      refine NoPanic.normal ?_
                      clear r0 r1 r2 r3 r4 r5
                      go_wp2_with (fail)
                      have r0 := Wb.at_ (show wr.drew.cell? _ = _ from d0)
                      have r1 := Wb.at_ (show wr.drew.cell? _ = _ from d1)
                      have r2 := Wb.at_ (show wr.drew.cell? _ = _ from d2)
                      have r3 := Wb.at_ (show wr.drew.cell? _ = _ from m0)
                      have r4 := Wb.at_ (show wr.drew.cell? _ = _ from m1)
                      have r5 := Wb.at_ (show wr.drew.cell? _ = _ from m2)
                      refine wp_region_plan [([0, 1, 2, 3, 4, 5, 6, 7, 8, 9, 10, 11, 12, 13, 14, 15], none)] (by kernel_rfl) (by kernel_rfl) ?_
                      refine seg_end _ (by dsimp only [pick, at_]) ?_
                      repeat (go_big_quiet_step (fail))
                      refine wpQuiet_nil ?_
                      refine NoPanic.normal ?_
                      clear r0 r1 r2 r3 r4 r5
                      go_wp2_with (fail)
                      go_roundg (n - (m + 1))
                      case measure => omega
                      case rel => exact ⟨m + 1, by go_num, by omega, by omega, ⟨a, by go_num, by omega, HS2.out⟩, ⟨z, by go_num, by omega, HH2.out⟩, HBQ.out.drew.drew, HPQ.out, HXQ.out⟩
                · obtain rfl : m = n := by omega
                  have hltmz : ¬ (m : Int) < (m : Int) := by omega
                  have HSA2 := Lib.hid (show sources l x3 = a by have := HSA.out; rwa [List.take_of_length_le (by rw [HL.out]; omega)] at this)
                  have HHE2 := Lib.hid (show heirs l x1 = z by have := HHE.out; rwa [List.take_of_length_le (by rw [HL.out]; omega)] at this)
                  clear HSA HHE
                  obtain ⟨⟨p0, p1, p2⟩, _⟩ := isv3_cells HPQ.out
                  by_cases g1 : x2 = 1
                  · have u1 : (x2 == 1) = true := by simp [g1]
                    have u1n : (x2 != 1) = false := by rw [bne, u1]; rfl
                    have u3 : (x2 == 3) = false := by simp [g1]
                    have u3n : (x2 != 3) = true := by rw [bne, u3]; rfl
                    have NE3 : x2 ≠ 3 := by omega
                    go_wp2_with (fail)
                    refine (HHAS.out wr HBQ.out x1).mono ?_
                    rintro e w5 ⟨rfl, hb5⟩
                    have HBL := Lib.hid (HBQ.out.trans (hb5.mono hsq))
                    have HPL := Lib.hid (blk_below hb5 HPQ.out hpq)
                    have gx5 := blk_below hb5 HXQ.out hxq
                    have hx5 : wv.heap.size < w5.heap.size := blk_lt gx5
                    obtain ⟨⟨f0, f1, f2⟩, _⟩ := isv3_cells gx5
                    clear hb5 d0 d1 d2 p0 p1 p2 gx5
                    cases hh : has nodes x1 with
                    | false =>
                      have HQ := Lib.hid (shard_bad (val := rval) (nodes := nodes) HX.out (fun h => by have := h.2.2 (show x2 ≠ 3 by omega); rw [hh] at this; cases this))
                      go_wp2_with (fail)
                      go_ret
                      rw [HQ.out]
                      exact ⟨rfl, HBL.out⟩
                    | true =>
                      by_cases g2 : a = 1
                      · have u2 : ((a : Int) == 1) = true := by simp [g2]
                        have u2n : ((a : Int) != 1) = false := by rw [bne, u2]; rfl
                        have HST2 := Lib.hid (show stay (l.take (0 + 1)) = k + 1 by rw [HST.out, HK.out]; simp [g1])
                        have HUP := Lib.hid (show OUp rval nodes l (0 + 1) from HU.out.succ HX.out ⟨HND.out, ⟨show 1 ≤ x2 ∧ x2 ≤ 3 from HRG.out, fun _ => by show sources l x3 = 1; rw [HSA2.out]; exact g2, fun h => absurd g1 h, fun h => absurd h (show x2 ≠ 3 by omega)⟩, fun _ => hh⟩ (fun j y hj _ => by have := HI.out; omega))
                        clear g1 g2 NE3
                        go_wp2_with (fail)
                        go_roundg (m - (0 + 1))
                        case measure => omega
                        case rel => exact ⟨0 + 1, by go_num, by omega, by omega, rfl, ⟨k + 1, by go_num, by omega, HST2.out⟩, HUP.out, HBL.out, HPL.out⟩
                      · have u2 : ((a : Int) == 1) = false := by simp; omega
                        have u2n : ((a : Int) != 1) = true := by rw [bne, u2]; rfl
                        have HQ := Lib.hid (shard_bad (val := rval) (nodes := nodes) HX.out (fun h => g2 (by have := h.2.1.2.1 g1; simp only at this; rw [HSA2.out] at this; exact this)))
                        clear g1 g2 NE3
                        go_wp2_with (fail)
                        go_ret
                        rw [HQ.out]
                        exact ⟨rfl, HBL.out⟩
                  · have u1 : (x2 == 1) = false := by simp [g1]
                    have u1n : (x2 != 1) = true := by rw [bne, u1]; rfl
                    by_cases g3 : x2 = 3
                    · have u3 : (x2 == 3) = true := by simp [g3]
                      have u3n : (x2 != 3) = false := by rw [bne, u3]; rfl
                      have HBL := Lib.hid HBQ.out
                      have HPL := Lib.hid HPQ.out
                      by_cases g2 : x3 = -1
                      · have u2 : (x3 == -1) = true := by simp [g2]
                        have u2n : (x3 != -1) = false := by rw [bne, u2]; rfl
                        by_cases g4 : z = 1
                        · have u4 : ((z : Int) == 1) = true := by simp [g4]
                          have u4n : ((z : Int) != 1) = false := by rw [bne, u4]; rfl
                          have HST2 := Lib.hid (show stay (l.take (0 + 1)) = k by rw [HST.out, HK.out]; simp [g3])
                          have HUP := Lib.hid (show OUp rval nodes l (0 + 1) from HU.out.succ HX.out ⟨HND.out, ⟨show 1 ≤ x2 ∧ x2 ≤ 3 from HRG.out, fun h => absurd h g1, fun _ => g2, fun _ => by show heirs l x1 = 1; rw [HHE2.out]; exact g4⟩, fun h => absurd g3 h⟩ (fun j y hj _ => by have := HI.out; omega))
                          clear g1 g2 g3 g4
                          go_wp2_with (fail)
                          go_roundg (m - (0 + 1))
                          case measure => omega
                          case rel => exact ⟨0 + 1, by go_num, by omega, by omega, rfl, ⟨k, by go_num, by omega, HST2.out⟩, HUP.out, HBL.out, HPL.out⟩
                        · have u4 : ((z : Int) == 1) = false := by simp; omega
                          have u4n : ((z : Int) != 1) = true := by rw [bne, u4]; rfl
                          have HQ := Lib.hid (shard_bad (val := rval) (nodes := nodes) HX.out (fun h => g4 (by have := h.2.1.2.2.2 g3; simp only at this; rw [HHE2.out] at this; exact this)))
                          clear g1 g2 g3 g4
                          go_wp2_with (fail)
                          go_ret
                          rw [HQ.out]
                          exact ⟨rfl, HBL.out⟩
                      · have u2 : (x3 == -1) = false := by simp [g2]
                        have u2n : (x3 != -1) = true := by rw [bne, u2]; rfl
                        have HQ := Lib.hid (shard_bad (val := rval) (nodes := nodes) HX.out (fun h => g2 (h.2.1.2.2.1 g1)))
                        clear g1 g2 g3
                        go_wp2_with (fail)
                        go_ret
                        rw [HQ.out]
                        exact ⟨rfl, HBL.out⟩
                    · have u3 : (x2 == 3) = false := by simp [g3]
                      have u3n : (x2 != 3) = true := by rw [bne, u3]; rfl
                      go_wp2_with (fail)
                      refine (HHAS.out wr HBQ.out x1).mono ?_
                      rintro e w5 ⟨rfl, hb5⟩
                      have HBL := Lib.hid (HBQ.out.trans (hb5.mono hsq))
                      have HPL := Lib.hid (blk_below hb5 HPQ.out hpq)
                      have gx5 := blk_below hb5 HXQ.out hxq
                      have hx5 : wv.heap.size < w5.heap.size := blk_lt gx5
                      obtain ⟨⟨f0, f1, f2⟩, _⟩ := isv3_cells gx5
                      clear hb5 d0 d1 d2 p0 p1 p2 gx5
                      cases hh : has nodes x1 with
                      | false =>
                        have HQ := Lib.hid (shard_bad (val := rval) (nodes := nodes) HX.out (fun h => by have := h.2.2 g3; rw [hh] at this; cases this))
                        go_wp2_with (fail)
                        go_ret
                        rw [HQ.out]
                        exact ⟨rfl, HBL.out⟩
                      | true =>
                        by_cases g2 : x3 = -1
                        · have u2 : (x3 == -1) = true := by simp [g2]
                          have u2n : (x3 != -1) = false := by rw [bne, u2]; rfl
                          have HST2 := Lib.hid (show stay (l.take (0 + 1)) = k + 1 by rw [HST.out, HK.out]; simp [g3])
                          have HUP := Lib.hid (show OUp rval nodes l (0 + 1) from HU.out.succ HX.out ⟨HND.out, ⟨show 1 ≤ x2 ∧ x2 ≤ 3 from HRG.out, fun h => absurd h g1, fun _ => g2, fun h => absurd h g3⟩, fun _ => hh⟩ (fun j y hj _ => by have := HI.out; omega))
                          clear g1 g2 g3
                          go_wp2_with (fail)
                          go_roundg (m - (0 + 1))
                          case measure => omega
                          case rel => exact ⟨0 + 1, by go_num, by omega, by omega, rfl, ⟨k + 1, by go_num, by omega, HST2.out⟩, HUP.out, HBL.out, HPL.out⟩
                        · have u2 : (x3 == -1) = false := by simp [g2]
                          have u2n : (x3 != -1) = true := by rw [bne, u2]; rfl
                          have HQ := Lib.hid (shard_bad (val := rval) (nodes := nodes) HX.out (fun h => g2 (h.2.1.2.2.1 g1)))
                          clear g1 g2 g3
                          go_wp2_with (fail)
                          go_ret
                          rw [HQ.out]
                          exact ⟨rfl, HBL.out⟩
        · obtain ⟨j, hj⟩ : ∃ j, i = j + 1 := ⟨i - 1, by omega⟩
          have h0z : (0 : Int) < (i : Int) := by omega
          have t3 : decide ((0 : Int) < (i : Int)) = true := decide_eq_true h0z
          have t3n : 0 < i := by omega
          have t3b : decide (0 < i) = true := decide_eq_true t3n
          obtain ⟨y, hy⟩ := HH.out.get (show j < n by omega)
          obtain ⟨b', off', he, hb', m0, _, _⟩ := own_at (HH.out.below HB2.out hB) hy
          cases he
          have q3 := Wb.at_ m0
          have hw : IntKind.i64.wrap ((i : Int) - 1) = (j : Int) := by rw [IntWalk.i64_in _ (by omega)]; omega
          have hjn : (j : Int) < (n : Int) := by omega
          have HY := Lib.hid hy
          have HJ := Lib.hid hj
          clear hy hj h0
          obtain ⟨y1, y2, y3⟩ := y
          simp only at m0 q3
          by_cases g3 : x1 ≤ y1
          · have t4 : decide (x1 ≤ y1) = true := by simp [g3]
            have HQ := Lib.hid (shard_down (val := rval) (nodes := nodes) HY.out (by rw [← HJ.out]; exact HX.out) g3)
            refine wp_region_plan [([0, 1], some (2, false)), ([3, 4, 5, 6, 7, 8, 9, 10, 11, 12, 13, 14, 15, 16, 17, 18, 19, 20, 21, 22, 23, 24, 25, 26, 27, 28], none)] (by kernel_rfl) (by kernel_rfl) ?_
            refine seg_act _ (by dsimp only [pick, at_]) _ (by dsimp only [pick, at_]) ?_
            repeat (go_big_quiet_step (fail))
            refine wpQuiet_nil ?_
            intro K1 h1 h2
            clear h2
            go_wp2_with (fail)
            refine (node_y wb.drew x1).mono ?_
            rintro e w3 ⟨rfl, hb3⟩
            have HB3 := Lib.hid (show Below wb.heap.size wb w3 from (Below.refl _ _).drew.trans hb3)
            have HBW := Lib.hid (HB2.out.trans (HB3.out.mono HB2.out.size))
            have GX3 := Lib.hid (blk_below HB3.out GX.out hsb)
            have HPB3 := Lib.hid (blk_below HB3.out HPB2.out (by omega))
            clear hb3
            rw [(isNodeB_iff x1).2 HND.out]
            go_wp2_with (fail)
            refine h1 _ _ HB3.out ?_
            clear h1
            refine seg_end _ (by dsimp only [pick, at_]) ?_
            repeat (go_big_quiet_step (fail))
            refine wpQuiet_nil ?_
            refine NoPanic.normal ?_
            clear q0 q1 q2 c0 c1 c2
            go_wp2_with (fail)
            go_ret
            rw [HQ.out]
            exact ⟨rfl, HBW.out⟩
          · have t4 : decide (x1 ≤ y1) = false := by simp; omega
            have HLT := Lib.hid (show y1 < x1 by omega)
            by_cases s1 : x2 < 1
            · have v1 : decide (x2 < 1) = true := decide_eq_true s1
              have HQ := Lib.hid (shard_bad (val := rval) (nodes := nodes) HX.out (fun h => by have := h.2.1.1.1; simp only at this; omega))
              refine wp_region_plan [([0, 1], some (2, false)), ([3, 4, 5, 6, 7, 8, 9, 10, 11, 12, 13, 14, 15, 16, 17, 18, 19, 20, 21, 22, 23, 24, 25, 26, 27, 28], none)] (by kernel_rfl) (by kernel_rfl) ?_
              refine seg_act _ (by dsimp only [pick, at_]) _ (by dsimp only [pick, at_]) ?_
              repeat (go_big_quiet_step (fail))
              refine wpQuiet_nil ?_
              intro K1 h1 h2
              clear h2
              go_wp2_with (fail)
              refine (node_y wb.drew x1).mono ?_
              rintro e w3 ⟨rfl, hb3⟩
              have HB3 := Lib.hid (show Below wb.heap.size wb w3 from (Below.refl _ _).drew.trans hb3)
              have HBW := Lib.hid (HB2.out.trans (HB3.out.mono HB2.out.size))
              have GX3 := Lib.hid (blk_below HB3.out GX.out hsb)
              have HPB3 := Lib.hid (blk_below HB3.out HPB2.out (by omega))
              clear hb3
              rw [(isNodeB_iff x1).2 HND.out]
              go_wp2_with (fail)
              refine h1 _ _ HB3.out ?_
              clear h1
              refine seg_end _ (by dsimp only [pick, at_]) ?_
              repeat (go_big_quiet_step (fail))
              refine wpQuiet_nil ?_
              refine NoPanic.normal ?_
              clear q3 m0 t3 t3n t3b t4 hw hjn h0z q0 q1 q2 c0 c1 c2
              go_wp2_with (fail)
              go_ret
              rw [HQ.out]
              exact ⟨rfl, HBW.out⟩
            · have v1 : decide (x2 < 1) = false := decide_eq_false s1
              by_cases s2 : (3 : Int) < x2
              · have v2 : decide ((3 : Int) < x2) = true := decide_eq_true s2
                have HQ := Lib.hid (shard_bad (val := rval) (nodes := nodes) HX.out (fun h => by have := h.2.1.1.2; simp only at this; omega))
                refine wp_region_plan [([0, 1], some (2, false)), ([3, 4, 5, 6, 7, 8, 9, 10, 11, 12, 13, 14, 15, 16, 17, 18, 19, 20, 21, 22, 23, 24, 25, 26, 27, 28], none)] (by kernel_rfl) (by kernel_rfl) ?_
                refine seg_act _ (by dsimp only [pick, at_]) _ (by dsimp only [pick, at_]) ?_
                repeat (go_big_quiet_step (fail))
                refine wpQuiet_nil ?_
                intro K1 h1 h2
                clear h2
                go_wp2_with (fail)
                refine (node_y wb.drew x1).mono ?_
                rintro e w3 ⟨rfl, hb3⟩
                have HB3 := Lib.hid (show Below wb.heap.size wb w3 from (Below.refl _ _).drew.trans hb3)
                have HBW := Lib.hid (HB2.out.trans (HB3.out.mono HB2.out.size))
                have GX3 := Lib.hid (blk_below HB3.out GX.out hsb)
                have HPB3 := Lib.hid (blk_below HB3.out HPB2.out (by omega))
                clear hb3
                rw [(isNodeB_iff x1).2 HND.out]
                go_wp2_with (fail)
                refine h1 _ _ HB3.out ?_
                clear h1
                refine seg_end _ (by dsimp only [pick, at_]) ?_
                repeat (go_big_quiet_step (fail))
                refine wpQuiet_nil ?_
                refine NoPanic.normal ?_
                clear q3 m0 t3 t3n t3b t4 hw hjn h0z q0 q1 q2 c0 c1 c2
                go_wp2_with (fail)
                go_ret
                rw [HQ.out]
                exact ⟨rfl, HBW.out⟩
              · have v2 : decide ((3 : Int) < x2) = false := decide_eq_false s2
                have HRG := Lib.hid (show 1 ≤ x2 ∧ x2 ≤ 3 by omega)
                refine wp_region_plan [([0, 1], some (2, false)), ([3, 4, 5, 6, 7, 8, 9, 10, 11, 12, 13, 14, 15, 16, 17, 18, 19, 20, 21, 22, 23, 24, 25, 26, 27, 28], none)] (by kernel_rfl) (by kernel_rfl) ?_
                refine seg_act _ (by dsimp only [pick, at_]) _ (by dsimp only [pick, at_]) ?_
                repeat (go_big_quiet_step (fail))
                refine wpQuiet_nil ?_
                intro K1 h1 h2
                clear h2
                go_wp2_with (fail)
                refine (node_y wb.drew x1).mono ?_
                rintro e w3 ⟨rfl, hb3⟩
                have HB3 := Lib.hid (show Below wb.heap.size wb w3 from (Below.refl _ _).drew.trans hb3)
                have HBW := Lib.hid (HB2.out.trans (HB3.out.mono HB2.out.size))
                have GX3 := Lib.hid (blk_below HB3.out GX.out hsb)
                have HPB3 := Lib.hid (blk_below HB3.out HPB2.out (by omega))
                clear hb3
                rw [(isNodeB_iff x1).2 HND.out]
                go_wp2_with (fail)
                refine h1 _ _ HB3.out ?_
                clear h1
                refine seg_end _ (by dsimp only [pick, at_]) ?_
                repeat (go_big_quiet_step (fail))
                refine wpQuiet_nil ?_
                refine NoPanic.normal ?_
                clear q3 m0 t3 t3n t3b t4 hw hjn h0z q0 q1 q2 c0 c1 c2
                go_wp2_with (fail)
                obtain ⟨wv, rfl⟩ : ∃ wv, wv = wr := ⟨wr, rfl⟩
                go_loopg [8, 9, 10] n (fun gg2 s8 s9 s10 wq => ∃ m : Nat, s10 = .int .i64 m ∧ m ≤ n ∧ n - m ≤ gg2 ∧ (∃ a : Nat, s8 = .int .i64 a ∧ a ≤ m ∧ Aside (sources (l.take m) x3 = a)) ∧ (∃ z : Nat, s9 = .int .i64 z ∧ z ≤ m ∧ Aside (heirs (l.take m) x1 = z)) ∧ Aside (Below w.heap.size w wq) ∧ Aside (IsV3 25 wq w.heap.size (.int .i64 ver) (.slice nA nl nc) (.slice sA N sc)) ∧ Aside (IsV3 42 wq wv.heap.size (.int .i64 x1) (.int .i64 x2) (.int .i64 x3)))
                case atStart => exact ⟨0, rfl, by omega, by omega, ⟨0, rfl, by omega, by show sources _ _ = _; simp [sources]⟩, ⟨0, rfl, by omega, by show heirs _ _ = _; simp [heirs]⟩, HBW.out, HPB3.out, GX3.out⟩
                case round =>
                  obtain ⟨m, rfl, hm, hg2, ⟨a, rfl, ha, HSA⟩, ⟨z, rfl, hz, HHE⟩, HBQ, HPQ, HXQ⟩ := hrel
                  have hsq := HBQ.out.size
                  have hxq : wv.heap.size < wr.heap.size := blk_lt HXQ.out
                  have hpq : w.heap.size < wr.heap.size := blk_lt HPQ.out
                  obtain ⟨⟨d0, d1, d2⟩, _⟩ := isv3_cells HXQ.out
                  by_cases hltm : m < n
                  · have hltmz : (m : Int) < (n : Int) := by omega
                    obtain ⟨y, hy⟩ := HH.out.get hltm
                    obtain ⟨b', off', he, hb', m0, m1, m2⟩ := own_at (HH.out.below HBQ.out hB) hy
                    cases he
                    have HSS := Lib.hid (sources_succ x3 hy)
                    have HHS := Lib.hid (heirs_succ x1 hy)
                    obtain ⟨y1, y2, y3⟩ := y
                    simp only at m0 m1 m2 HSS HHS
                    clear hy
                    have hbq : b < wr.heap.size := by omega
                    by_cases e3 : y2 = 3
                    · have t3 : (y2 == 3) = true := by simp [e3]
                      have t1 : (y2 == 1) = false := by simp [e3]
                      by_cases e4 : y1 = x3
                      · have t4 : (y1 == x3) = true := by simp [e4]
                        have HS2 := Lib.hid (show sources (l.take (m + 1)) x3 = a + 1 by rw [HSS.out, HSA.out]; simp [t3, t4])
                        have HH2 := Lib.hid (show heirs (l.take (m + 1)) x1 = z by rw [HHS.out, HHE.out]; simp [t1])
                        clear e3 e4
                        go_wp2_with (fail)
                        have r0 := Wb.at_ (show wr.cell? _ = _ from d0)
                        have r1 := Wb.at_ (show wr.cell? _ = _ from d1)
                        have r2 := Wb.at_ (show wr.cell? _ = _ from d2)
                        have r3 := Wb.at_ (show wr.cell? _ = _ from m0)
                        have r4 := Wb.at_ (show wr.cell? _ = _ from m1)
                        have r5 := Wb.at_ (show wr.cell? _ = _ from m2)
                        refine wp_region_plan [([0, 1, 2, 3, 4, 5, 6, 7, 8, 9, 10, 11, 12, 13, 14, 15], none)] (by kernel_rfl) (by kernel_rfl) ?_
                        refine seg_end _ (by dsimp only [pick, at_]) ?_
                        repeat (go_big_quiet_step (fail))
                        refine wpQuiet_nil ?_
                        refine NoPanic.normal ?_
                        clear r0 r1 r2 r3 r4 r5
                        go_wp2_with (fail)
                        have r0 := Wb.at_ (show wr.drew.cell? _ = _ from d0)
                        have r1 := Wb.at_ (show wr.drew.cell? _ = _ from d1)
                        have r2 := Wb.at_ (show wr.drew.cell? _ = _ from d2)
                        have r3 := Wb.at_ (show wr.drew.cell? _ = _ from m0)
                        have r4 := Wb.at_ (show wr.drew.cell? _ = _ from m1)
                        have r5 := Wb.at_ (show wr.drew.cell? _ = _ from m2)
                        refine wp_region_plan [([0, 1, 2, 3, 4, 5, 6, 7, 8, 9, 10, 11, 12, 13, 14, 15], none)] (by kernel_rfl) (by kernel_rfl) ?_
                        refine seg_end _ (by dsimp only [pick, at_]) ?_
                        repeat (go_big_quiet_step (fail))
                        refine wpQuiet_nil ?_
                        refine NoPanic.normal ?_
                        clear r0 r1 r2 r3 r4 r5
                        go_wp2_with (fail)
                        go_roundg (n - (m + 1))
                        case measure => omega
                        case rel => exact ⟨m + 1, by go_num, by omega, by omega, ⟨a + 1, by go_num, by omega, HS2.out⟩, ⟨z, by go_num, by omega, HH2.out⟩, HBQ.out.drew.drew, HPQ.out, HXQ.out⟩
                      · have t4 : (y1 == x3) = false := by simp [e4]
                        have HS2 := Lib.hid (show sources (l.take (m + 1)) x3 = a by rw [HSS.out, HSA.out]; simp [t4])
                        have HH2 := Lib.hid (show heirs (l.take (m + 1)) x1 = z by rw [HHS.out, HHE.out]; simp [t1])
                        clear e3 e4
                        go_wp2_with (fail)
                        have r0 := Wb.at_ (show wr.cell? _ = _ from d0)
                        have r1 := Wb.at_ (show wr.cell? _ = _ from d1)
                        have r2 := Wb.at_ (show wr.cell? _ = _ from d2)
                        have r3 := Wb.at_ (show wr.cell? _ = _ from m0)
                        have r4 := Wb.at_ (show wr.cell? _ = _ from m1)
                        have r5 := Wb.at_ (show wr.cell? _ = _ from m2)
                        refine wp_region_plan [([0, 1, 2, 3, 4, 5, 6, 7, 8, 9, 10, 11, 12, 13, 14, 15], none)] (by kernel_rfl) (by kernel_rfl) ?_
                        refine seg_end _ (by dsimp only [pick, at_]) ?_
                        repeat (go_big_quiet_step (fail))
                        refine wpQuiet_nil ?_
                        refine NoPanic.normal ?_
                        clear r0 r1 r2 r3 r4 r5
                        go_wp2_with (fail)
                        have r0 := Wb.at_ (show wr.drew.cell? _ = _ from d0)
                        have r1 := Wb.at_ (show wr.drew.cell? _ = _ from d1)
                        have r2 := Wb.at_ (show wr.drew.cell? _ = _ from d2)
                        have r3 := Wb.at_ (show wr.drew.cell? _ = _ from m0)
                        have r4 := Wb.at_ (show wr.drew.cell? _ = _ from m1)
                        have r5 := Wb.at_ (show wr.drew.cell? _ = _ from m2)
                        refine wp_region_plan [([0, 1, 2, 3, 4, 5, 6, 7, 8, 9, 10, 11, 12, 13, 14, 15], none)] (by kernel_rfl) (by kernel_rfl) ?_
                        refine seg_end _ (by dsimp only [pick, at_]) ?_
                        repeat (go_big_quiet_step (fail))
                        refine wpQuiet_nil ?_
                        refine NoPanic.normal ?_
                        clear r0 r1 r2 r3 r4 r5
                        go_wp2_with (fail)
                        go_roundg (n - (m + 1))
                        case measure => omega
                        case rel => exact ⟨m + 1, by go_num, by omega, by omega, ⟨a, by go_num, by omega, HS2.out⟩, ⟨z, by go_num, by omega, HH2.out⟩, HBQ.out.drew.drew, HPQ.out, HXQ.out⟩
                    · have t3 : (y2 == 3) = false := by simp [e3]
                      by_cases e1 : y2 = 1
                      · have t1 : (y2 == 1) = true := by simp [e1]
                        by_cases e4 : y3 = x1
                        · have t4 : (y3 == x1) = true := by simp [e4]
                          have HS2 := Lib.hid (show sources (l.take (m + 1)) x3 = a by rw [HSS.out, HSA.out]; simp [t3])
                          have HH2 := Lib.hid (show heirs (l.take (m + 1)) x1 = z + 1 by rw [HHS.out, HHE.out]; simp [t1, t4])
                          clear e3 e1 e4
                          go_wp2_with (fail)
                          have r0 := Wb.at_ (show wr.cell? _ = _ from d0)
                          have r1 := Wb.at_ (show wr.cell? _ = _ from d1)
                          have r2 := Wb.at_ (show wr.cell? _ = _ from d2)
                          have r3 := Wb.at_ (show wr.cell? _ = _ from m0)
                          have r4 := Wb.at_ (show wr.cell? _ = _ from m1)
                          have r5 := Wb.at_ (show wr.cell? _ = _ from m2)
                          refine wp_region_plan [([0, 1, 2, 3, 4, 5, 6, 7, 8, 9, 10, 11, 12, 13, 14, 15], none)] (by kernel_rfl) (by kernel_rfl) ?_
                          refine seg_end _ (by dsimp only [pick, at_]) ?_
                          repeat (go_big_quiet_step (fail))
                          refine wpQuiet_nil ?_
                          refine NoPanic.normal ?_
                          clear r0 r1 r2 r3 r4 r5
                          go_wp2_with (fail)
                          have r0 := Wb.at_ (show wr.drew.cell? _ = _ from d0)
                          have r1 := Wb.at_ (show wr.drew.cell? _ = _ from d1)
                          have r2 := Wb.at_ (show wr.drew.cell? _ = _ from d2)
                          have r3 := Wb.at_ (show wr.drew.cell? _ = _ from m0)
                          have r4 := Wb.at_ (show wr.drew.cell? _ = _ from m1)
                          have r5 := Wb.at_ (show wr.drew.cell? _ = _ from m2)
                          refine wp_region_plan [([0, 1, 2, 3, 4, 5, 6, 7, 8, 9, 10, 11, 12, 13, 14, 15], none)] (by kernel_rfl) (by kernel_rfl) ?_
                          refine seg_end _ (by dsimp only [pick, at_]) ?_
                          repeat (go_big_quiet_step (fail))
                          refine wpQuiet_nil ?_
                          refine NoPanic.normal ?_
                          clear r0 r1 r2 r3 r4 r5
                          go_wp2_with (fail)
                          go_roundg (n - (m + 1))
                          case measure => omega
                          case rel => exact ⟨m + 1, by go_num, by omega, by omega, ⟨a, by go_num, by omega, HS2.out⟩, ⟨z + 1, by go_num, by omega, HH2.out⟩, HBQ.out.drew.drew, HPQ.out, HXQ.out⟩
                        · have t4 : (y3 == x1) = false := by simp [e4]
                          have HS2 := Lib.hid (show sources (l.take (m + 1)) x3 = a by rw [HSS.out, HSA.out]; simp [t3])
                          have HH2 := Lib.hid (show heirs (l.take (m + 1)) x1 = z by rw [HHS.out, HHE.out]; simp [t4])
                          clear e3 e1 e4
                          go_wp2_with (fail)
                          have r0 := Wb.at_ (show wr.cell? _ = _ from d0)
                          have r1 := Wb.at_ (show wr.cell? _ = _ from d1)
                          have r2 := Wb.at_ (show wr.cell? _ = _ from d2)
                          have r3 := Wb.at_ (show wr.cell? _ = _ from m0)
                          have r4 := Wb.at_ (show wr.cell? _ = _ from m1)
                          have r5 := Wb.at_ (show wr.cell? _ = _ from m2)
                          refine wp_region_plan [([0, 1, 2, 3, 4, 5, 6, 7, 8, 9, 10, 11, 12, 13, 14, 15], none)] (by kernel_rfl) (by kernel_rfl) ?_
                          refine seg_end _ (by dsimp only [pick, at_]) ?_
                          repeat (go_big_quiet_step (fail))
                          refine wpQuiet_nil ?_
                          refine NoPanic.normal ?_
                          clear r0 r1 r2 r3 r4 r5
                          go_wp2_with (fail)
                          have r0 := Wb.at_ (show wr.drew.cell? _ = _ from d0)
                          have r1 := Wb.at_ (show wr.drew.cell? _ = _ from d1)
                          have r2 := Wb.at_ (show wr.drew.cell? _ = _ from d2)
                          have r3 := Wb.at_ (show wr.drew.cell? _ = _ from m0)
                          have r4 := Wb.at_ (show wr.drew.cell? _ = _ from m1)
                          have r5 := Wb.at_ (show wr.drew.cell? _ = _ from m2)
                          refine wp_region_plan [([0, 1, 2, 3, 4, 5, 6, 7, 8, 9, 10, 11, 12, 13, 14, 15], none)] (by kernel_rfl) (by kernel_rfl) ?_
                          refine seg_end _ (by dsimp only [pick, at_]) ?_
                          repeat (go_big_quiet_step (fail))
                          refine wpQuiet_nil ?_
                          refine NoPanic.normal ?_
                          clear r0 r1 r2 r3 r4 r5
                          go_wp2_with (fail)
                          go_roundg (n - (m + 1))
                          case measure => omega
                          case rel => exact ⟨m + 1, by go_num, by omega, by omega, ⟨a, by go_num, by omega, HS2.out⟩, ⟨z, by go_num, by omega, HH2.out⟩, HBQ.out.drew.drew, HPQ.out, HXQ.out⟩
                      · have t1 : (y2 == 1) = false := by simp [e1]
                        have HS2 := Lib.hid (show sources (l.take (m + 1)) x3 = a by rw [HSS.out, HSA.out]; simp [t3])
                        have HH2 := Lib.hid (show heirs (l.take (m + 1)) x1 = z by rw [HHS.out, HHE.out]; simp [t1])
                        clear e3 e1
                        go_wp2_with (fail)
                        have r0 := Wb.at_ (show wr.cell? _ = _ from d0)
                        have r1 := Wb.at_ (show wr.cell? _ = _ from d1)
                        have r2 := Wb.at_ (show wr.cell? _ = _ from d2)
                        have r3 := Wb.at_ (show wr.cell? _ = _ from m0)
                        have r4 := Wb.at_ (show wr.cell? _ = _ from m1)
                        have r5 := Wb.at_ (show wr.cell? _ = _ from m2)
                        refine wp_region_plan [([0, 1, 2, 3, 4, 5, 6, 7, 8, 9, 10, 11, 12, 13, 14, 15], none)] (by kernel_rfl) (by kernel_rfl) ?_
                        refine seg_end _ (by dsimp only [pick, at_]) ?_
                        repeat (go_big_quiet_step (fail))
                        refine wpQuiet_nil ?_
                        refine NoPanic.normal ?_
                        clear r0 r1 r2 r3 r4 r5
                        go_wp2_with (fail)
                        have r0 := Wb.at_ (show wr.drew.cell? _ = _ from d0)
                        have r1 := Wb.at_ (show wr.drew.cell? _ = _ from d1)
                        have r2 := Wb.at_ (show wr.drew.cell? _ = _ from d2)
                        have r3 := Wb.at_ (show wr.drew.cell? _ = _ from m0)
                        have r4 := Wb.at_ (show wr.drew.cell? _ = _ from m1)
                        have r5 := Wb.at_ (show wr.drew.cell? _ = _ from m2)
                        refine wp_region_plan [([0, 1, 2, 3, 4, 5, 6, 7, 8, 9, 10, 11, 12, 13, 14, 15], none)] (by kernel_rfl) (by kernel_rfl) ?_
                        refine seg_end _ (by dsimp only [pick, at_]) ?_
                        repeat (go_big_quiet_step (fail))
                        refine wpQuiet_nil ?_
                        refine NoPanic.normal ?_
                        clear r0 r1 r2 r3 r4 r5
                        go_wp2_with (fail)
                        go_roundg (n - (m + 1))
                        case measure => omega
                        case rel => exact ⟨m + 1, by go_num, by omega, by omega, ⟨a, by go_num, by omega, HS2.out⟩, ⟨z, by go_num, by omega, HH2.out⟩, HBQ.out.drew.drew, HPQ.out, HXQ.out⟩
                  · obtain rfl : m = n := by omega
                    have hltmz : ¬ (m : Int) < (m : Int) := by omega
                    have HSA2 := Lib.hid (show sources l x3 = a by have := HSA.out; rwa [List.take_of_length_le (by rw [HL.out]; omega)] at this)
                    have HHE2 := Lib.hid (show heirs l x1 = z by have := HHE.out; rwa [List.take_of_length_le (by rw [HL.out]; omega)] at this)
                    clear HSA HHE
                    obtain ⟨⟨p0, p1, p2⟩, _⟩ := isv3_cells HPQ.out
                    by_cases g1 : x2 = 1
                    · have u1 : (x2 == 1) = true := by simp [g1]
                      have u1n : (x2 != 1) = false := by rw [bne, u1]; rfl
                      have u3 : (x2 == 3) = false := by simp [g1]
                      have u3n : (x2 != 3) = true := by rw [bne, u3]; rfl
                      have NE3 : x2 ≠ 3 := by omega
                      go_wp2_with (fail)
                      refine (HHAS.out wr HBQ.out x1).mono ?_
                      rintro e w5 ⟨rfl, hb5⟩
                      have HBL := Lib.hid (HBQ.out.trans (hb5.mono hsq))
                      have HPL := Lib.hid (blk_below hb5 HPQ.out hpq)
                      have gx5 := blk_below hb5 HXQ.out hxq
                      have hx5 : wv.heap.size < w5.heap.size := blk_lt gx5
                      obtain ⟨⟨f0, f1, f2⟩, _⟩ := isv3_cells gx5
                      clear hb5 d0 d1 d2 p0 p1 p2 gx5
                      cases hh : has nodes x1 with
                      | false =>
                        have HQ := Lib.hid (shard_bad (val := rval) (nodes := nodes) HX.out (fun h => by have := h.2.2 (show x2 ≠ 3 by omega); rw [hh] at this; cases this))
                        go_wp2_with (fail)
                        go_ret
                        rw [HQ.out]
                        exact ⟨rfl, HBL.out⟩
                      | true =>
                        by_cases g2 : a = 1
                        · have u2 : ((a : Int) == 1) = true := by simp [g2]
                          have u2n : ((a : Int) != 1) = false := by rw [bne, u2]; rfl
                          have HST2 := Lib.hid (show stay (l.take (i + 1)) = k + 1 by rw [HST.out, HK.out]; simp [g1])
                          have HUP := Lib.hid (show OUp rval nodes l (i + 1) from HU.out.succ HX.out ⟨HND.out, ⟨show 1 ≤ x2 ∧ x2 ≤ 3 from HRG.out, fun _ => by show sources l x3 = 1; rw [HSA2.out]; exact g2, fun h => absurd g1 h, fun h => absurd h (show x2 ≠ 3 by omega)⟩, fun _ => hh⟩ (fun q z hq hz => by
                                have e0 := HJ.out
                                obtain rfl : q = j := by omega
                                have e := HY.out
                                rw [hz] at e; cases e
                                exact HLT.out))
                          clear g1 g2 NE3
                          go_wp2_with (fail)
                          go_roundg (m - (i + 1))
                          case measure => omega
                          case rel => exact ⟨i + 1, by go_num, by omega, by omega, rfl, ⟨k + 1, by go_num, by omega, HST2.out⟩, HUP.out, HBL.out, HPL.out⟩
                        · have u2 : ((a : Int) == 1) = false := by simp; omega
                          have u2n : ((a : Int) != 1) = true := by rw [bne, u2]; rfl
                          have HQ := Lib.hid (shard_bad (val := rval) (nodes := nodes) HX.out (fun h => g2 (by have := h.2.1.2.1 g1; simp only at this; rw [HSA2.out] at this; exact this)))
                          clear g1 g2 NE3
                          go_wp2_with (fail)
                          go_ret
                          rw [HQ.out]
                          exact ⟨rfl, HBL.out⟩
                    · have u1 : (x2 == 1) = false := by simp [g1]
                      have u1n : (x2 != 1) = true := by rw [bne, u1]; rfl
                      by_cases g3 : x2 = 3
                      · have u3 : (x2 == 3) = true := by simp [g3]
                        have u3n : (x2 != 3) = false := by rw [bne, u3]; rfl
                        have HBL := Lib.hid HBQ.out
                        have HPL := Lib.hid HPQ.out
                        by_cases g2 : x3 = -1
                        · have u2 : (x3 == -1) = true := by simp [g2]
                          have u2n : (x3 != -1) = false := by rw [bne, u2]; rfl
                          by_cases g4 : z = 1
                          · have u4 : ((z : Int) == 1) = true := by simp [g4]
                            have u4n : ((z : Int) != 1) = false := by rw [bne, u4]; rfl
                            have HST2 := Lib.hid (show stay (l.take (i + 1)) = k by rw [HST.out, HK.out]; simp [g3])
                            have HUP := Lib.hid (show OUp rval nodes l (i + 1) from HU.out.succ HX.out ⟨HND.out, ⟨show 1 ≤ x2 ∧ x2 ≤ 3 from HRG.out, fun h => absurd h g1, fun _ => g2, fun _ => by show heirs l x1 = 1; rw [HHE2.out]; exact g4⟩, fun h => absurd g3 h⟩ (fun q z hq hz => by
                                  have e0 := HJ.out
                                  obtain rfl : q = j := by omega
                                  have e := HY.out
                                  rw [hz] at e; cases e
                                  exact HLT.out))
                            clear g1 g2 g3 g4
                            go_wp2_with (fail)
                            go_roundg (m - (i + 1))
                            case measure => omega
                            case rel => exact ⟨i + 1, by go_num, by omega, by omega, rfl, ⟨k, by go_num, by omega, HST2.out⟩, HUP.out, HBL.out, HPL.out⟩
                          · have u4 : ((z : Int) == 1) = false := by simp; omega
                            have u4n : ((z : Int) != 1) = true := by rw [bne, u4]; rfl
                            have HQ := Lib.hid (shard_bad (val := rval) (nodes := nodes) HX.out (fun h => g4 (by have := h.2.1.2.2.2 g3; simp only at this; rw [HHE2.out] at this; exact this)))
                            clear g1 g2 g3 g4
                            go_wp2_with (fail)
                            go_ret
                            rw [HQ.out]
                            exact ⟨rfl, HBL.out⟩
                        · have u2 : (x3 == -1) = false := by simp [g2]
                          have u2n : (x3 != -1) = true := by rw [bne, u2]; rfl
                          have HQ := Lib.hid (shard_bad (val := rval) (nodes := nodes) HX.out (fun h => g2 (h.2.1.2.2.1 g1)))
                          clear g1 g2 g3
                          go_wp2_with (fail)
                          go_ret
                          rw [HQ.out]
                          exact ⟨rfl, HBL.out⟩
                      · have u3 : (x2 == 3) = false := by simp [g3]
                        have u3n : (x2 != 3) = true := by rw [bne, u3]; rfl
                        go_wp2_with (fail)
                        refine (HHAS.out wr HBQ.out x1).mono ?_
                        rintro e w5 ⟨rfl, hb5⟩
                        have HBL := Lib.hid (HBQ.out.trans (hb5.mono hsq))
                        have HPL := Lib.hid (blk_below hb5 HPQ.out hpq)
                        have gx5 := blk_below hb5 HXQ.out hxq
                        have hx5 : wv.heap.size < w5.heap.size := blk_lt gx5
                        obtain ⟨⟨f0, f1, f2⟩, _⟩ := isv3_cells gx5
                        clear hb5 d0 d1 d2 p0 p1 p2 gx5
                        cases hh : has nodes x1 with
                        | false =>
                          have HQ := Lib.hid (shard_bad (val := rval) (nodes := nodes) HX.out (fun h => by have := h.2.2 g3; rw [hh] at this; cases this))
                          go_wp2_with (fail)
                          go_ret
                          rw [HQ.out]
                          exact ⟨rfl, HBL.out⟩
                        | true =>
                          by_cases g2 : x3 = -1
                          · have u2 : (x3 == -1) = true := by simp [g2]
                            have u2n : (x3 != -1) = false := by rw [bne, u2]; rfl
                            have HST2 := Lib.hid (show stay (l.take (i + 1)) = k + 1 by rw [HST.out, HK.out]; simp [g3])
                            have HUP := Lib.hid (show OUp rval nodes l (i + 1) from HU.out.succ HX.out ⟨HND.out, ⟨show 1 ≤ x2 ∧ x2 ≤ 3 from HRG.out, fun h => absurd h g1, fun _ => g2, fun h => absurd h g3⟩, fun _ => hh⟩ (fun q z hq hz => by
                                  have e0 := HJ.out
                                  obtain rfl : q = j := by omega
                                  have e := HY.out
                                  rw [hz] at e; cases e
                                  exact HLT.out))
                            clear g1 g2 g3
                            go_wp2_with (fail)
                            go_roundg (m - (i + 1))
                            case measure => omega
                            case rel => exact ⟨i + 1, by go_num, by omega, by omega, rfl, ⟨k + 1, by go_num, by omega, HST2.out⟩, HUP.out, HBL.out, HPL.out⟩
                          · have u2 : (x3 == -1) = false := by simp [g2]
                            have u2n : (x3 != -1) = true := by rw [bne, u2]; rfl
                            have HQ := Lib.hid (shard_bad (val := rval) (nodes := nodes) HX.out (fun h => g2 (h.2.1.2.2.1 g1)))
                            clear g1 g2 g3
                            go_wp2_with (fail)
                            go_ret
                            rw [HQ.out]
                            exact ⟨rfl, HBL.out⟩
      · have HQ := Lib.hid (shard_bad (val := rval) (nodes := nodes) HX.out (fun h => g0 h.1))
        have hnb : isNodeB x1 = false := by
          cases hq : isNodeB x1 with
          | false => rfl
          | true => exact absurd ((isNodeB_iff x1).1 hq) g0
        refine wp_region_plan [([0, 1], some (2, false)), ([3, 4, 5, 6, 7, 8, 9, 10, 11, 12, 13, 14, 15, 16, 17, 18, 19, 20, 21, 22, 23, 24, 25, 26, 27, 28], none)] (by kernel_rfl) (by kernel_rfl) ?_
        refine seg_act _ (by dsimp only [pick, at_]) _ (by dsimp only [pick, at_]) ?_
        repeat (go_big_quiet_step (fail))
        refine wpQuiet_nil ?_
        intro K1 h1 h2
        clear h2
        go_wp2_with (fail)
        refine (node_y wb.drew x1).mono ?_
        rintro e w3 ⟨rfl, hb3⟩
        have HB3 := Lib.hid (show Below wb.heap.size wb w3 from (Below.refl _ _).drew.trans hb3)
        have HBW := Lib.hid (HB2.out.trans (HB3.out.mono HB2.out.size))
        have GX3 := Lib.hid (blk_below HB3.out GX.out hsb)
        have HPB3 := Lib.hid (blk_below HB3.out HPB2.out (by omega))
        clear hb3
        rw [hnb]
        go_wp2_with (fail)
        refine h1 _ _ HB3.out ?_
        clear h1
        refine seg_end _ (by dsimp only [pick, at_]) ?_
        repeat (go_big_quiet_step (fail))
        refine wpQuiet_nil ?_
        refine NoPanic.normal ?_
        clear q0 q1 q2 c0 c1 c2
        go_wp2_with (fail)
        go_ret
        rw [HQ.out]
        exact ⟨rfl, HBW.out⟩
    · obtain rfl : i = n := by omega
      have hltz : ¬ (i : Int) < (i : Int) := by omega
      have HQ := Lib.hid (shard_up HU.out HL.out HK.out)
      go_wp2_with (fail)
      go_ret
      rw [HQ.out]
      exact ⟨rfl, HB.out⟩
end Go.Proofs.Ytheanpcbjjogfaa.pm
