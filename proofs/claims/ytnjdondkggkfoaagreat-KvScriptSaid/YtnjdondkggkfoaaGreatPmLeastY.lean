/-
  Placements: the document's least.
-/
import Derived.Test.YtnjdondkggkfoaaGreatPmC
import Derived.Test.YtnjdondkggkfoaaGreatPmGv
namespace Go.Proofs.YtnjdondkggkfoaaGreat.pm
open Go.ChangeShapes Go.WideShapes Go.ChangeAt Go.RowKit Go.Shelf plain words ord mem

set_option maxHeartbeats 2000000 in
theorem rleast_y (w : World) (B : Nat) (v : PV) (h : PVok w B v) (hB : B ≤ w.heap.size) (hR : Rises v.pl.ss) (k : Nat) (q : List O) (hq : v.pl.ss[k]? = some q) :
    Calls Tryz.prog 31 #[v.val, .int .i64 k] w fun e w' => e = .returned (.int .i64 (least v.nodes v.pl.ss q)) ∧ Below w.heap.size w w' := by
  have hv := h
  have hvv : v.val = v.val := rfl
  obtain ⟨V, hV⟩ : ∃ V, v = V := ⟨v, rfl⟩
  obtain ⟨wa, hwa⟩ : ∃ wa, w.alloc (boxO v) = wa := ⟨_, rfl⟩
  have hba : Below w.heap.size w wa := by rw [← hwa]; exact below_al _ _
  have gp : Boxed wa w.heap.size v := by rw [← hwa]; exact alloc_new _ _
  have hsa : w.heap.size < wa.heap.size := blk_lt gp
  have HLD := Lib.hid (fun (u : World) (hu : Below w.heap.size w u) (n : Int) => rload_y u B v (hv.below hu hB) (by have := hu.size; omega) hR n)
  have HQ := Lib.hid (fun (u : World) (hu : Below w.heap.size w u) (n : Int) => (shardAt_in hq) ▸ rowns_y u B v (hv.below hu hB) (by have := hu.size; omega) hR (k : Int) n)
  clear hV V hvv hv hR
  obtain ⟨ver, nA, nc, nodes, sA, sc, rs⟩ := v
  obtain ⟨N, hN⟩ : ∃ N, rs.length = N := ⟨_, rfl⟩
  obtain ⟨ss, hss⟩ : ∃ ss, rs.map (·.l) = ss := ⟨_, rfl⟩
  obtain ⟨nl, hnl⟩ : ∃ nl, nodes.length = nl := ⟨_, rfl⟩
  have hl := h.len.2
  have hnn := h.n
  simp only [PV.pl, PV.val, boxO, Boxed, hN, hss, hnl] at hl hwa gp HLD HQ hnn ⊢
  have HWA := Lib.hid hwa
  have HBA := Lib.hid hba
  have GP := Lib.hid gp
  have HNN := Lib.hid hnn
  have HNL := Lib.hid hnl
  clear h hwa hba hN hss hnl hq gp hnn
  go_enter Tryz.func31, Tryz.ntmps31
  go_wp2_with (fail)
  rw [HWA.out]
  go_loopg [5, 6, 7] nl (fun gg s5 s6 s7 wr => ∃ i : Nat, s6 = .int .i64 i ∧ i ≤ nl ∧ nl - i ≤ gg ∧ (∃ best : Int, s5 = .int .i64 best ∧ Aside ((nodes.take i).foldl (leastStep ss q) (-1) = best)) ∧ Aside (Below w.heap.size w wr) ∧ Aside (IsV3 25 wr w.heap.size (.int .i64 ver) (.slice nA nl nc) (.slice sA N sc)))
  case atStart => exact ⟨0, rfl, by omega, by omega, ⟨-1, rfl, rfl⟩, HBA.out, GP.out⟩
  case round =>
    obtain ⟨i, rfl, hi, hg, ⟨best, rfl, HF⟩, HB, HV⟩ := hrel
    clear HBA GP
    have hs := HB.out.size
    by_cases hlt : i < nl
    · have hltz : (i : Int) < (nl : Int) := by omega
      obtain ⟨x, hx⟩ := HNN.out.get hlt
      obtain ⟨b2, off2, rfl, hb2, l1⟩ := num_at (HNN.out.below HB.out hB) hx
      have hbw2 : b2 < wr.heap.size := by omega
      have HX := Lib.hid (fold_succ (leastStep ss q) (-1) hx)
      clear hx
      have hpw : w.heap.size < wr.heap.size := blk_lt HV.out
      obtain ⟨⟨c0, c1, c2⟩, _⟩ := isv3_cells HV.out
      go_wp2_with (fail)
      have q0 := Wb.at_ c0
      have q1 := Wb.at_ c1
      have q2 := Wb.at_ c2
      clear l1
      refine wp_region_plan [([0, 1, 2], some (3, false)), ([4, 5, 6, 7, 8, 9, 10, 12, 13], some (11, false)), ([], some (14, false)), ([15, 16, 17], none)] (by kernel_rfl) (by kernel_rfl) ?_
      refine seg_act _ (by dsimp only [pick, at_]) _ (by dsimp only [pick, at_]) ?_
      repeat (go_big_quiet_step (fail))
      refine wpQuiet_nil ?_
      intro K1 h1 h2
      clear h2
      go_wp2_with (fail)
      refine (HQ.out wr.drew HB.out.drew x).mono ?_
      rintro e w3 ⟨rfl, hb3⟩
      have HB3 := Lib.hid (show Below wr.heap.size wr w3 from (Below.refl _ _).drew.trans hb3)
      clear hb3
      have HBW := Lib.hid (HB.out.trans (HB3.out.mono hs))
      have HV3 := Lib.hid (blk_below HB3.out HV.out hpw)
      cases hq : holds q x with
      | true =>
        have hbn : True := trivial
        go_wp2_with (fail)
        refine h1 _ _ HB3.out ?_
        clear h1
        refine seg_act _ (by dsimp only [pick, at_]) _ (by dsimp only [pick, at_]) ?_
        repeat (go_big_quiet_step (fail))
        refine wpQuiet_nil ?_
        intro K2 h1 h2
        clear h2
        go_wp2_with (fail)
        refine h1 _ _ HB3.out ?_
        clear h1
        refine seg_act _ (by dsimp only [pick, at_]) _ (by dsimp only [pick, at_]) ?_
        repeat (go_big_quiet_step (fail))
        refine wpQuiet_nil ?_
        intro K3 h1 h2
        clear h2
        go_wp2_with (fail)
        refine h1 _ _ HB3.out ?_
        clear h1
        refine seg_end _ (by dsimp only [pick, at_]) ?_
        repeat (go_big_quiet_step (fail))
        refine wpQuiet_nil ?_
        refine NoPanic.normal ?_
        clear q0 q1 q2 c0 c1 c2
        go_wp2_with (fail)
        go_roundg (nl - (i + 1))
        case measure => omega
        case rel => exact ⟨i + 1, by go_num, by omega, by omega, ⟨_, rfl, by show _ = _; rw [HX.out, HF.out]; simp [leastStep, hq, hbn]⟩, HBW.out, HV3.out⟩
      | false =>
        by_cases hbn : best < 0
        · have hbz : decide (best < 0) = true := by simp [hbn]
          go_wp2_with (fail)
          refine h1 _ _ HB3.out ?_
          clear h1
          refine seg_act _ (by dsimp only [pick, at_]) _ (by dsimp only [pick, at_]) ?_
          repeat (go_big_quiet_step (fail))
          refine wpQuiet_nil ?_
          intro K2 h1 h2
          clear h2
          go_wp2_with (fail)
          refine h1 _ _ HB3.out ?_
          clear h1
          refine seg_act _ (by dsimp only [pick, at_]) _ (by dsimp only [pick, at_]) ?_
          repeat (go_big_quiet_step (fail))
          refine wpQuiet_nil ?_
          intro K3 h1 h2
          clear h2
          go_wp2_with (fail)
          refine h1 _ _ HB3.out ?_
          clear h1
          refine seg_end _ (by dsimp only [pick, at_]) ?_
          repeat (go_big_quiet_step (fail))
          refine wpQuiet_nil ?_
          refine NoPanic.normal ?_
          clear q0 q1 q2 c0 c1 c2
          go_wp2_with (fail)
          go_roundg (nl - (i + 1))
          case measure => omega
          case rel => exact ⟨i + 1, by go_num, by omega, by omega, ⟨_, rfl, by show _ = _; rw [HX.out, HF.out]; simp [leastStep, hq, hbn]⟩, HBW.out, HV3.out⟩
        · have hbz : decide (best < 0) = false := by simp; omega
          go_wp2_with (fail)
          refine h1 _ _ HB3.out ?_
          clear h1
          refine seg_act _ (by dsimp only [pick, at_]) _ (by dsimp only [pick, at_]) ?_
          repeat (go_big_quiet_step (fail))
          refine wpQuiet_nil ?_
          intro K2 h1 h2
          clear h2
          go_wp2_with (fail)
          refine (HLD.out w3 HBW.out x).mono ?_
          rintro e w4 ⟨rfl, hb4⟩
          have HB4 := Lib.hid (HB3.out.trans (hb4.mono HB3.out.size))
          have HBW4 := Lib.hid (HBW.out.trans (hb4.mono HBW.out.size))
          clear hb4
          go_wp2_with (fail)
          refine h1 _ _ HB4.out ?_
          clear h1
          refine seg_act _ (by dsimp only [pick, at_]) _ (by dsimp only [pick, at_]) ?_
          repeat (go_big_quiet_step (fail))
          refine wpQuiet_nil ?_
          intro K3 h1 h2
          clear h2
          go_wp2_with (fail)
          refine (HLD.out w4 HBW4.out best).mono ?_
          rintro e w5 ⟨rfl, hb5⟩
          have HB5 := Lib.hid (HB4.out.trans (hb5.mono HB4.out.size))
          have HBW5 := Lib.hid (HBW4.out.trans (hb5.mono HBW4.out.size))
          have HV5 := Lib.hid (blk_below (HB5.out) HV.out hpw)
          clear hb5
          go_wp2_with (fail)
          refine h1 _ _ HB5.out ?_
          clear h1
          by_cases hld : load ss x < load ss best
          · have hldz : ((load ss x : Nat) : Int) < ((load ss best : Nat) : Int) := by omega
            refine seg_end _ (by dsimp only [pick, at_]) ?_
            repeat (go_big_quiet_step (fail))
            refine wpQuiet_nil ?_
            refine NoPanic.normal ?_
            clear q0 q1 q2 c0 c1 c2
            go_wp2_with (fail)
            go_roundg (nl - (i + 1))
            case measure => omega
            case rel => exact ⟨i + 1, by go_num, by omega, by omega, ⟨_, rfl, by show _ = _; rw [HX.out, HF.out]; simp [leastStep, hq, hld]⟩, HBW5.out, HV5.out⟩
          · have hldz : ¬ ((load ss x : Nat) : Int) < ((load ss best : Nat) : Int) := by omega
            refine seg_end _ (by dsimp only [pick, at_]) ?_
            repeat (go_big_quiet_step (fail))
            refine wpQuiet_nil ?_
            refine NoPanic.normal ?_
            clear q0 q1 q2 c0 c1 c2
            go_wp2_with (fail)
            go_roundg (nl - (i + 1))
            case measure => omega
            case rel => exact ⟨i + 1, by go_num, by omega, by omega, ⟨_, rfl, by show _ = _; rw [HX.out, HF.out]; simp [leastStep, hq, hld]; omega⟩, HBW5.out, HV5.out⟩
    · obtain rfl : i = nl := by omega
      have hpw : w.heap.size < wr.heap.size := blk_lt HV.out
      obtain ⟨⟨c0, c1, c2⟩, _⟩ := isv3_cells HV.out
      have hltz : ¬ (i : Int) < (i : Int) := by omega
      have hfin := HF.out
      rw [fold_all _ _ HNL.out] at hfin
      have HFN := Lib.hid (show least nodes ss q = best from hfin)
      clear hfin
      go_wp2_with (fail)
      go_ret
      rw [HFN.out]
      exact ⟨rfl, HB.out⟩
end Go.Proofs.YtnjdondkggkfoaaGreat.pm
