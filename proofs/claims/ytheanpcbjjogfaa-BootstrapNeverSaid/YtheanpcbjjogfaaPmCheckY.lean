/-
  Placements: the document's Check.
-/
import Derived.Test.YtheanpcbjjogfaaPmShardY
import Derived.Test.YtheanpcbjjogfaaPmC
namespace Go.Proofs.Ytheanpcbjjogfaa.pm
open Go.ChangeShapes Go.WideShapes Go.ChangeAt Go.RowKit Go.Shelf plain words ord mem

set_option maxHeartbeats 4000000 in
theorem rcheck_y (w : World) (B : Nat) (v : PV) (h : PVok w B v) (hB : B ≤ w.heap.size) :
    Calls Try.prog 16 #[v.val] w fun e w' => e = .returned (.int .i64 (chk v.pl)) ∧ Below w.heap.size w w' := by
  obtain ⟨wa, hwa⟩ : ∃ wa, w.alloc (boxO v) = wa := ⟨_, rfl⟩
  have hba : Below w.heap.size w wa := by rw [← hwa]; exact below_al _ _
  have gp : Boxed wa w.heap.size v := by rw [← hwa]; exact alloc_new _ _
  have hsa : w.heap.size < wa.heap.size := blk_lt gp
  have hl := h.len
  have CB := Lib.hid (chk_bad (p := v.pl))
  have CO := Lib.hid (chk_ok (p := v.pl))
  have HOV := Lib.hid (fun (u : World) (hu : Below w.heap.size w u) (r : Rw3) (hr : RwOk u B r) => rshard_y u B v (h.below hu hB) (by have := hu.size; omega) r.l.length r.c r.A r.l hr.ls hr.len)
  have hP : v.pl.ss = v.rs.map (·.l) := rfl
  have hP1 : v.pl.ver = v.ver := rfl
  have hP2 : v.pl.nodes = v.nodes := rfl
  have hs := h.s
  have hnn := h.n
  obtain ⟨p, hp⟩ : ∃ p, v.pl = p := ⟨_, rfl⟩
  rw [hp] at CB CO hP hP1 hP2 ⊢
  clear h
  obtain ⟨ver, nA, nc, nodes, sA, sc, rs⟩ := v
  obtain ⟨N, hN⟩ : ∃ N, rs.length = N := ⟨_, rfl⟩
  obtain ⟨nl, hnl⟩ : ∃ nl, nodes.length = nl := ⟨_, rfl⟩
  have hsl : p.ss.length = N := by rw [hP, List.length_map, hN]
  simp only [PV.val, boxO, Boxed, hN, hnl] at hl hwa hs hnn gp HOV hP hP1 hP2 ⊢
  have HWA := Lib.hid hwa
  have HBA := Lib.hid hba
  have GP := Lib.hid gp
  have HH := Lib.hid hs
  have HNN := Lib.hid hnn
  have HN := Lib.hid hN
  have HNL := Lib.hid hnl
  have HP := Lib.hid (And.intro hP (And.intro hP1 hP2))
  have HSL := Lib.hid hsl
  clear hwa hba hN hs hnl gp hP hP1 hP2 hsl hp hnn
  by_cases g1 : ver < 1
  · have t1 : decide (ver < 1) = true := decide_eq_true g1
    have HQ := Lib.hid (show ¬ PlOk p from fun h => by have := h.lo; rw [HP.out.2.1] at this; omega)
    go_enter Try.func16, Try.ntmps16
    go_wp2_with (fail)
    rw [HWA.out]
    go_ret
    rw [CB.out HQ.out]
    exact ⟨rfl, HBA.out⟩
  · have t1 : decide (ver < 1) = false := decide_eq_false g1
    by_cases g2 : (1099511627776 : Int) < ver
    · have t2 : decide ((1099511627776 : Int) < ver) = true := decide_eq_true g2
      have HQ := Lib.hid (show ¬ PlOk p from fun h => by have := h.hi; rw [HP.out.2.1] at this; omega)
      go_enter Try.func16, Try.ntmps16
      go_wp2_with (fail)
      rw [HWA.out]
      go_ret
      rw [CB.out HQ.out]
      exact ⟨rfl, HBA.out⟩
    · have t2 : decide ((1099511627776 : Int) < ver) = false := decide_eq_false g2
      have HV := Lib.hid (show 1 ≤ p.ver ∧ p.ver ≤ 1099511627776 by rw [HP.out.2.1]; omega)
      by_cases g3 : nl < 3
      · have t3 : (nl : Int) < 3 := by omega
        have HQ := Lib.hid (show ¬ PlOk p from fun h => by have := h.nodes.many; rw [HP.out.2.2, HNL.out] at this; omega)
        go_enter Try.func16, Try.ntmps16
        go_wp2_with (fail)
        rw [HWA.out]
        go_ret
        rw [CB.out HQ.out]
        exact ⟨rfl, HBA.out⟩
      · have t3 : ¬ (nl : Int) < 3 := by omega
        by_cases g4 : N < 1
        · have t4 : (N : Int) < 1 := by omega
          have HQ := Lib.hid (show ¬ PlOk p from fun h => by have := h.some_; rw [HSL.out] at this; omega)
          go_enter Try.func16, Try.ntmps16
          go_wp2_with (fail)
          rw [HWA.out]
          go_ret
          rw [CB.out HQ.out]
          exact ⟨rfl, HBA.out⟩
        · have t4 : ¬ (N : Int) < 1 := by omega
          by_cases g5 : 8 < N
          · have t5 : (8 : Int) < (N : Int) := by omega
            have HQ := Lib.hid (show ¬ PlOk p from fun h => by have := h.few; rw [HSL.out] at this; omega)
            go_enter Try.func16, Try.ntmps16
            go_wp2_with (fail)
            rw [HWA.out]
            go_ret
            rw [CB.out HQ.out]
            exact ⟨rfl, HBA.out⟩
          · have t5 : ¬ (8 : Int) < (N : Int) := by omega
            go_enter Try.func16, Try.ntmps16
            go_wp2_with (fail)
            rw [HWA.out]
            go_loopg [2, 3] nl (fun gg s2 s3 wr => ∃ i : Nat, s3 = .int .i64 i ∧ i ≤ nl ∧ nl - i ≤ gg ∧ s2 = .int .i64 0 ∧ Aside (NodesUp nodes i) ∧ Aside (Below w.heap.size w wr) ∧ Aside (IsV3 25 wr w.heap.size (.int .i64 ver) (.slice nA nl nc) (.slice sA N sc)))
            case atStart => exact ⟨0, rfl, by omega, by omega, rfl, Upto.zero _ _ _, HBA.out, GP.out⟩
            case round =>
              obtain ⟨i, rfl, hi, hg, rfl, HU, HB, HV3⟩ := hrel
              clear HBA GP
              have hs := HB.out.size
              have hpw : w.heap.size < wr.heap.size := blk_lt HV3.out
              obtain ⟨⟨c0, c1, c2⟩, _⟩ := isv3_cells HV3.out
              by_cases hlt : i < nl
              · have hltz : (i : Int) < (nl : Int) := by omega
                obtain ⟨x, hx⟩ := HNN.out.get hlt
                obtain ⟨b, off, rfl, hb, l0⟩ := num_at (HNN.out.below HB.out hB) hx
                have hbw : b < wr.heap.size := by omega
                have HX := Lib.hid hx
                clear hx c0 c2
                by_cases g1 : isNode x
                · have HND := Lib.hid g1
                  clear g1
                  by_cases h0 : i = 0
                  · subst h0
                    have HUP := Lib.hid (HU.out.succ HX.out HND.out (fun j y hj _ => by omega))
                    simp only [Nat.add_zero] at l0
                    go_wp2_with (fail)
                    have q0 := Wb.at_ l0
                    have q1 := Wb.at_ c1
                    refine wp_region_plan [([0, 1, 2, 3, 4], some (5, false)), ([6, 7, 8, 9, 10, 11, 12, 13, 14, 15, 16, 17, 18, 19, 20, 21, 22, 23, 24], none)] (by kernel_rfl) (by kernel_rfl) ?_
                    refine seg_act _ (by dsimp only [pick, at_]) _ (by dsimp only [pick, at_]) ?_
                    repeat (go_big_quiet_step (fail))
                    refine wpQuiet_nil ?_
                    intro K h1 h2
                    clear h2
                    go_wp2_with (fail)
                    refine (node_y wr.drew x).mono ?_
                    rintro e w3 ⟨rfl, hb3⟩
                    have HB3 := Lib.hid (show Below wr.heap.size wr w3 from (Below.refl _ _).drew.trans hb3)
                    clear hb3
                    rw [(isNodeB_iff x).2 HND.out]
                    go_wp2_with (fail)
                    refine h1 _ _ HB3.out ?_
                    clear h1
                    refine seg_end _ (by dsimp only [pick, at_]) ?_
                    repeat (go_big_quiet_step (fail))
                    refine wpQuiet_nil ?_
                    refine NoPanic.normal ?_
                    clear q0 q1 c1 l0
                    go_wp2_with (fail)
                    go_roundg (nl - (0 + 1))
                    case measure => omega
                    case rel => exact ⟨0 + 1, by go_num, by omega, by omega, rfl, HUP.out, HB.out.trans (HB3.out.mono hs), blk_below HB3.out HV3.out hpw⟩
                  · obtain ⟨j, hj⟩ : ∃ j, i = j + 1 := ⟨i - 1, by omega⟩
                    have h0z : (0 : Int) < (i : Int) := by omega
                    have t3 : decide ((0 : Int) < (i : Int)) = true := decide_eq_true h0z
                    have t3n : 0 < i := by omega
                    have t3b : decide (0 < i) = true := decide_eq_true t3n
                    obtain ⟨y, hy⟩ := HNN.out.get (show j < nl by omega)
                    obtain ⟨b', off', he, hb', m0⟩ := num_at (HNN.out.below HB.out hB) hy
                    cases he
                    have q3 := Wb.at_ m0
                    have hw : IntKind.i64.wrap ((i : Int) - 1) = (j : Int) := by rw [IntWalk.i64_in _ (by omega)]; omega
                    have hjn : (j : Int) < (nl : Int) := by omega
                    have HY := Lib.hid hy
                    have HJ := Lib.hid hj
                    clear hy hj h0
                    by_cases g3 : x ≤ y
                    · have t4 : decide (x ≤ y) = true := by simp [g3]
                      have HQ := Lib.hid (show ¬ PlOk p from fun h => by
                        have h1 := h.nodes
                        rw [HP.out.2.2] at h1
                        have h2 := nodes_down HY.out (by rw [← HJ.out]; exact HX.out) g3
                        rw [tb_true h1] at h2; cases h2)
                      go_wp2_with (fail)
                      have q0 := Wb.at_ l0
                      have q1 := Wb.at_ c1
                      refine wp_region_plan [([0, 1, 2, 3, 4], some (5, false)), ([6, 7, 8, 9, 10, 11, 12, 13, 14, 15, 16, 17, 18, 19, 20, 21, 22, 23, 24], none)] (by kernel_rfl) (by kernel_rfl) ?_
                      refine seg_act _ (by dsimp only [pick, at_]) _ (by dsimp only [pick, at_]) ?_
                      repeat (go_big_quiet_step (fail))
                      refine wpQuiet_nil ?_
                      intro K h1 h2
                      clear h2
                      go_wp2_with (fail)
                      refine (node_y wr.drew x).mono ?_
                      rintro e w3 ⟨rfl, hb3⟩
                      have HB3 := Lib.hid (show Below wr.heap.size wr w3 from (Below.refl _ _).drew.trans hb3)
                      clear hb3
                      rw [(isNodeB_iff x).2 HND.out]
                      go_wp2_with (fail)
                      refine h1 _ _ HB3.out ?_
                      clear h1
                      refine seg_end _ (by dsimp only [pick, at_]) ?_
                      repeat (go_big_quiet_step (fail))
                      refine wpQuiet_nil ?_
                      refine NoPanic.normal ?_
                      clear q0 q1 c1 l0
                      go_wp2_with (fail)
                      go_ret
                      rw [CB.out HQ.out]
                      exact ⟨rfl, HB.out.trans (HB3.out.mono hs)⟩
                    · have t4 : decide (x ≤ y) = false := by simp; omega
                      have HLT := Lib.hid (show y < x by omega)
                      have HUP := Lib.hid (HU.out.succ HX.out HND.out (fun q z hq hz => by
                        have e0 := HJ.out
                        obtain rfl : q = j := by omega
                        have e := HY.out
                        rw [hz] at e; cases e
                        exact HLT.out))
                      go_wp2_with (fail)
                      have q0 := Wb.at_ l0
                      have q1 := Wb.at_ c1
                      refine wp_region_plan [([0, 1, 2, 3, 4], some (5, false)), ([6, 7, 8, 9, 10, 11, 12, 13, 14, 15, 16, 17, 18, 19, 20, 21, 22, 23, 24], none)] (by kernel_rfl) (by kernel_rfl) ?_
                      refine seg_act _ (by dsimp only [pick, at_]) _ (by dsimp only [pick, at_]) ?_
                      repeat (go_big_quiet_step (fail))
                      refine wpQuiet_nil ?_
                      intro K h1 h2
                      clear h2
                      go_wp2_with (fail)
                      refine (node_y wr.drew x).mono ?_
                      rintro e w3 ⟨rfl, hb3⟩
                      have HB3 := Lib.hid (show Below wr.heap.size wr w3 from (Below.refl _ _).drew.trans hb3)
                      clear hb3
                      rw [(isNodeB_iff x).2 HND.out]
                      go_wp2_with (fail)
                      refine h1 _ _ HB3.out ?_
                      clear h1
                      refine seg_end _ (by dsimp only [pick, at_]) ?_
                      repeat (go_big_quiet_step (fail))
                      refine wpQuiet_nil ?_
                      refine NoPanic.normal ?_
                      clear q3 m0 q0 q1 c1 l0
                      go_wp2_with (fail)
                      go_roundg (nl - (i + 1))
                      case measure => omega
                      case rel => exact ⟨i + 1, by go_num, by omega, by omega, rfl, HUP.out, HB.out.trans (HB3.out.mono hs), blk_below HB3.out HV3.out hpw⟩
                · have HQ := Lib.hid (show ¬ PlOk p from fun h => g1 (by have h1 := h.nodes; rw [HP.out.2.2] at h1; exact h1.each x (List.mem_of_getElem? HX.out)))
                  have hnb : isNodeB x = false := by
                    cases hq : isNodeB x with
                    | false => rfl
                    | true => exact absurd ((isNodeB_iff x).1 hq) g1
                  go_wp2_with (fail)
                  have q0 := Wb.at_ l0
                  have q1 := Wb.at_ c1
                  refine wp_region_plan [([0, 1, 2, 3, 4], some (5, false)), ([6, 7, 8, 9, 10, 11, 12, 13, 14, 15, 16, 17, 18, 19, 20, 21, 22, 23, 24], none)] (by kernel_rfl) (by kernel_rfl) ?_
                  refine seg_act _ (by dsimp only [pick, at_]) _ (by dsimp only [pick, at_]) ?_
                  repeat (go_big_quiet_step (fail))
                  refine wpQuiet_nil ?_
                  intro K h1 h2
                  clear h2
                  go_wp2_with (fail)
                  refine (node_y wr.drew x).mono ?_
                  rintro e w3 ⟨rfl, hb3⟩
                  have HB3 := Lib.hid (show Below wr.heap.size wr w3 from (Below.refl _ _).drew.trans hb3)
                  clear hb3
                  rw [hnb]
                  go_wp2_with (fail)
                  refine h1 _ _ HB3.out ?_
                  clear h1
                  refine seg_end _ (by dsimp only [pick, at_]) ?_
                  repeat (go_big_quiet_step (fail))
                  refine wpQuiet_nil ?_
                  refine NoPanic.normal ?_
                  clear q0 q1 c1 l0
                  go_wp2_with (fail)
                  go_ret
                  rw [CB.out HQ.out]
                  exact ⟨rfl, HB.out.trans (HB3.out.mono hs)⟩
              · obtain rfl : i = nl := by omega
                have hltz : ¬ (i : Int) < (i : Int) := by omega
                have HNO := Lib.hid (show NodesOk nodes from by
                  obtain ⟨h1, h2⟩ := HU.out.all HNL.out
                  exact ⟨h1, h2, by rw [HNL.out]; omega⟩)
                go_wp2_with (fail)
                go_loopg [2, 4] N (fun gg s2 s4 wr => ∃ k : Nat, s4 = .int .i64 k ∧ k ≤ N ∧ N - k ≤ gg ∧ s2 = .int .i64 0 ∧ Aside (∀ (j : Nat) (l : List O), j < k → p.ss[j]? = some l → ShardOk p.nodes l) ∧ Aside (Below w.heap.size w wr) ∧ Aside (IsV3 25 wr w.heap.size (.int .i64 ver) (.slice nA i nc) (.slice sA N sc)))
                case atStart => exact ⟨0, rfl, by omega, by omega, rfl, fun j l hj => by omega, HB.out, HV3.out⟩
                case round =>
                  obtain ⟨k, rfl, hk, hg2, rfl, HU2, HB9, HV9⟩ := hrel
                  clear c0 c1 c2
                  have hs9 := HB9.out.size
                  have hpw9 : w.heap.size < wr.heap.size := blk_lt HV9.out
                  obtain ⟨⟨c0, c1, c2⟩, _⟩ := isv3_cells HV9.out
                  by_cases hlt2 : k < N
                  · have hltz2 : (k : Int) < (N : Int) := by omega
                    obtain ⟨r, hr⟩ : ∃ r, rs[k]? = some r := ⟨_, List.getElem?_eq_getElem (by rw [HN.out]; exact hlt2)⟩
                    obtain ⟨b, off, rfl, hb, l0, ho⟩ := (HH.out.below HB9.out hB).at_ hr
                    have hbw : b < wr.heap.size := by omega
                    have HS := Lib.hid (fun (u : World) (hu : Below wr.heap.size wr u) => HOV.out u (HB9.out.trans (hu.mono hs9)) r (ho.below hu (by omega)))
                    have HL := Lib.hid (show p.ss[k]? = some r.l by rw [HP.out.1]; simp [hr])
                    rw [show r.val = .slice r.A r.l.length r.c from rfl] at l0
                    clear hr ho
                    go_wp2_with (fail)
                    have q0 := Wb.at_ c0
                    have q1 := Wb.at_ c1
                    have q2 := Wb.at_ c2
                    have q3 := Wb.at_ l0
                    clear c0 c1 c2 l0
                    refine wp_region_plan [([0, 1, 2, 3, 4, 5], some (6, false)), ([7], none)] (by kernel_rfl) (by kernel_rfl) ?_
                    refine seg_act _ (by dsimp only [pick, at_]) _ (by dsimp only [pick, at_]) ?_
                    repeat (go_big_quiet_step (fail))
                    refine wpQuiet_nil ?_
                    intro K h1 h2
                    clear h2
                    go_wp2_with (fail)
                    refine (HS.out wr.drew (Below.refl _ _).drew).mono ?_
                    rintro e w3 ⟨rfl, hb3⟩
                    have HB3 := Lib.hid (show Below wr.heap.size wr w3 from (Below.refl _ _).drew.trans hb3)
                    clear hb3 HS
                    by_cases hv : ShardBy rval nodes r.l
                    · rw [tb_true hv]
                      have HU3 := Lib.hid (pl_more HU2.out HL.out (by rw [HP.out.2.2]; exact (shardBy_iff _ _).2 hv))
                      clear hv
                      go_wp2_with (fail)
                      refine h1 _ _ HB3.out ?_
                      clear h1
                      refine seg_end _ (by dsimp only [pick, at_]) ?_
                      repeat (go_big_quiet_step (fail))
                      refine wpQuiet_nil ?_
                      refine NoPanic.normal ?_
                      clear q0 q1 q2 q3
                      go_wp2_with (fail)
                      go_roundg (N - (k + 1))
                      case measure => omega
                      case rel => exact ⟨k + 1, by go_num, by omega, by omega, rfl, HU3.out, HB9.out.trans (HB3.out.mono hs9), blk_below HB3.out HV9.out hpw9⟩
                    · rw [tb_false hv]
                      have HQ := Lib.hid (show ¬ PlOk p from fun h => hv ((shardBy_iff _ _).1 (by have := h.each _ (List.mem_of_getElem? HL.out); rw [HP.out.2.2] at this; exact this)))
                      clear hv
                      go_wp2_with (fail)
                      refine h1 _ _ HB3.out ?_
                      clear h1
                      refine seg_end _ (by dsimp only [pick, at_]) ?_
                      repeat (go_big_quiet_step (fail))
                      refine wpQuiet_nil ?_
                      refine NoPanic.normal ?_
                      clear q0 q1 q2 q3
                      go_wp2_with (fail)
                      go_ret
                      rw [CB.out HQ.out]
                      exact ⟨rfl, HB9.out.trans (HB3.out.mono hs9)⟩
                  · obtain rfl : k = N := by omega
                    have hltz2 : ¬ (k : Int) < (k : Int) := by omega
                    have HQ := Lib.hid (show PlOk p from ⟨HV.out.1, HV.out.2, by rw [HP.out.2.2]; exact HNO.out, by rw [HSL.out]; omega, by rw [HSL.out]; omega, fun l hl => by
                      obtain ⟨j, hj, rfl⟩ := List.getElem_of_mem hl
                      exact HU2.out j _ (by rw [← HSL.out]; exact hj) (List.getElem?_eq_getElem hj)⟩)
                    go_wp2_with (fail)
                    go_ret
                    rw [CO.out HQ.out]
                    exact ⟨rfl, HB9.out⟩
end Go.Proofs.Ytheanpcbjjogfaa.pm
