/-
  Placements: the program's least.
-/
import Derived.Test.YtnpkhkhchimcnaaPmFind
import Derived.Test.YtnpkhkhchimcnaaOrd
import Derived.Deep.QuietTactic
namespace Go.Proofs.Ytnpkhkhchimcnaa.pm
open Go.ChangeShapes Go.WideShapes Go.ChangeAt Go.RowKit Go.Shelf plain words ord mem

def leastStep (ss : List (List O)) (l : List O) (best n : Int) : Int := if !holds l n && (decide (best < 0) || decide (load ss n < load ss best)) then n else best
def least (nodes : List Int) (ss : List (List O)) (l : List O) : Int := nodes.foldl (leastStep ss l) (-1)
theorem fold_succ {α β : Type} {l : List α} {i : Nat} {x : α} (f : β → α → β) (b : β) (h : l[i]? = some x) : (l.take (i + 1)).foldl f b = f ((l.take i).foldl f b) x := by
  rw [List.take_add_one, h, List.foldl_append]; rfl
theorem fold_all {α β : Type} {l : List α} {n : Nat} (f : β → α → β) (b : β) (h : l.length = n) : (l.take n).foldl f b = l.foldl f b := by rw [List.take_of_length_le (by omega)]
set_option maxHeartbeats 2000000 in
theorem pleast_x (w : World) (B : Nat) (v : PV) (h : PVok w B v) (hB : B ≤ w.heap.size) (k : Nat) (q : List O) (hq : v.pl.ss[k]? = some q) :
    Calls Try.prog 33 #[v.val, .int .i64 k] w fun e w' => e = .returned (.int .i64 (least v.nodes v.pl.ss q)) ∧ Below w.heap.size w w' := by
  have hv := h
  have hvv : v.val = v.val := rfl
  obtain ⟨V, hV⟩ : ∃ V, v = V := ⟨v, rfl⟩
  obtain ⟨wa, hwa⟩ : ∃ wa, w.alloc (boxO v) = wa := ⟨_, rfl⟩
  have hba : Below w.heap.size w wa := by rw [← hwa]; exact below_al _ _
  have gp : Boxed wa w.heap.size v := by rw [← hwa]; exact alloc_new _ _
  have hsa : w.heap.size < wa.heap.size := blk_lt gp
  have HLD := Lib.hid (fun (u : World) (hu : Below w.heap.size w u) (n : Int) => pload_x u B v (hv.below hu hB) (by have := hu.size; omega) n)
  obtain ⟨r, hr⟩ : ∃ r, v.rs[k]? = some r := by
    simp only [PV.pl, List.getElem?_map, Option.map_eq_some_iff] at hq
    obtain ⟨r, h1, _⟩ := hq; exact ⟨r, h1⟩
  have hqr : r.l = q := by have := pl_at hr; rw [hq] at this; exact (Option.some.inj this).symm
  obtain ⟨b, off, hAe, hb, l0, ho⟩ := h.s.at_ hr
  rw [show r.val = .slice r.A r.l.length r.c from rfl, hqr] at l0
  have HQ := Lib.hid (fun (u : World) (hu : Below w.heap.size w u) (n : Int) => holds_x u B q.length r.c r.A q ((hqr ▸ ho.ls).below hu hB) (by have := hu.size; omega) (by have := ho.len; rw [hqr] at this; exact this) n)
  obtain ⟨qn, hqn⟩ : ∃ qn, q.length = qn := ⟨_, rfl⟩
  rw [hqn] at l0 HQ
  have hkN : k < v.rs.length := (List.getElem?_eq_some_iff.1 hr).1
  clear hV V hvv hv
  obtain ⟨ver, nA, nc, nodes, sA, sc, rs⟩ := v
  simp only at hAe
  subst hAe
  obtain ⟨N, hN⟩ : ∃ N, rs.length = N := ⟨_, rfl⟩
  obtain ⟨ss, hss⟩ : ∃ ss, rs.map (·.l) = ss := ⟨_, rfl⟩
  obtain ⟨nl, hnl⟩ : ∃ nl, nodes.length = nl := ⟨_, rfl⟩
  have hl := h.len.2
  have hnn := h.n
  simp only [PV.pl, PV.val, boxO, Boxed, hN, hss, hnl] at hl hwa gp HLD hkN hnn ⊢
  have HWA := Lib.hid hwa
  have HBA := Lib.hid hba
  have GP := Lib.hid gp
  have HNN := Lib.hid hnn
  have HNL := Lib.hid hnl
  have HL0 := Lib.hid l0
  clear h hwa hba hN hss hnl hq hqr hr ho hqn gp hnn l0
  go_enter Try.func33, Try.ntmps33
  go_wp2_with (fail)
  rw [HWA.out]
  go_loopg [5, 7, 11] nl (fun gg s5 s7 s11 wr => ∃ i : Nat, s11 = .int .i64 i ∧ i ≤ nl ∧ nl - i ≤ gg ∧ (∃ best : Int, s5 = .int .i64 best ∧ Aside ((nodes.take i).foldl (leastStep ss q) (-1) = best)) ∧ Aside (Below w.heap.size w wr) ∧ Aside (IsV3 25 wr w.heap.size (.int .i64 ver) (.slice nA nl nc) (.slice (some ⟨b, off, none⟩) N sc)))
  case atStart => exact ⟨0, rfl, by omega, by omega, ⟨-1, rfl, rfl⟩, HBA.out, GP.out⟩
  case round =>
    obtain ⟨i, rfl, hi, hg, ⟨best, rfl, HF⟩, HB, HV⟩ := hrel
    clear HBA GP
    have hs := HB.out.size
    by_cases hlt : i < nl
    · have hltz : (i : Int) < (nl : Int) := by omega
      obtain ⟨x, hx⟩ := HNN.out.get hlt
      obtain ⟨b2, off2, rfl, hb2, l1⟩ := num_at (HNN.out.below HB.out hB) hx
      have hbw2 : b2 < wr.heap.size := by omega
      have HX := Lib.hid (fold_succ (leastStep ss q) (-1) hx)
      clear hx
      have hpw : w.heap.size < wr.heap.size := blk_lt HV.out
      go_wp2_with (fail)
      obtain ⟨⟨c0, c1, c2⟩, _⟩ := isv3_cells HV.out
      have q0 := Wb.at_ c0
      have q1 := Wb.at_ c1
      have q2 := Wb.at_ c2
      have cl : wr.cell? ⟨b, off + k, none⟩ = some (.slice r.A qn r.c) := (HB.out.cell (p := ⟨b, off + k, none⟩) (show b < w.heap.size by omega)).trans HL0.out
      have q3 := Wb.at_ cl
      have hkz : (k : Int) < (N : Int) := by omega
      clear l1
      refine wp_region_plan [([0, 1, 2, 3, 4, 5], some (6, false)), ([7, 8, 9, 10, 11, 12, 13, 15, 16], some (14, false)), ([], some (17, false)), ([18, 19, 20], none)] (by kernel_rfl) (by kernel_rfl) ?_
      refine seg_act _ (by dsimp only [pick, at_]) _ (by dsimp only [pick, at_]) ?_
      repeat (go_big_quiet_step (fail))
      refine wpQuiet_nil ?_
      intro K1 h1 h2
      clear h2
      go_wp2_with (fail)
      refine (HQ.out wr.drew HB.out.drew x).mono ?_
      rintro e w3 ⟨rfl, hb3⟩
      have HB3 := Lib.hid (show Below wr.heap.size wr w3 from (Below.refl _ _).drew.trans hb3)
      clear hb3
      have HBW := Lib.hid (HB.out.trans (HB3.out.mono hs))
      have HV3 := Lib.hid (blk_below HB3.out HV.out hpw)
      cases hq : holds q x with
      | true =>
        have hbn : True := trivial
        go_wp2_with (fail)
        refine h1 _ _ HB3.out ?_
        clear h1
        refine seg_act _ (by dsimp only [pick, at_]) _ (by dsimp only [pick, at_]) ?_
        repeat (go_big_quiet_step (fail))
        refine wpQuiet_nil ?_
        intro K2 h1 h2
        clear h2
        go_wp2_with (fail)
        refine h1 _ _ HB3.out ?_
        clear h1
        refine seg_act _ (by dsimp only [pick, at_]) _ (by dsimp only [pick, at_]) ?_
        repeat (go_big_quiet_step (fail))
        refine wpQuiet_nil ?_
        intro K3 h1 h2
        clear h2
        go_wp2_with (fail)
        refine h1 _ _ HB3.out ?_
        clear h1
        refine seg_end _ (by dsimp only [pick, at_]) ?_
        repeat (go_big_quiet_step (fail))
        refine wpQuiet_nil ?_
        refine NoPanic.normal ?_
        clear q0 q1 q2 q3
        go_wp2_with (fail)
        go_roundg (nl - (i + 1))
        case measure => omega
        case rel => exact ⟨i + 1, by go_num, by omega, by omega, ⟨_, rfl, by show _ = _; rw [HX.out, HF.out]; simp [leastStep, hq, hbn]⟩, HBW.out, HV3.out⟩
      | false =>
        by_cases hbn : best < 0
        · have hbz : decide (best < 0) = true := by simp [hbn]
          go_wp2_with (fail)
          refine h1 _ _ HB3.out ?_
          clear h1
          refine seg_act _ (by dsimp only [pick, at_]) _ (by dsimp only [pick, at_]) ?_
          repeat (go_big_quiet_step (fail))
          refine wpQuiet_nil ?_
          intro K2 h1 h2
          clear h2
          go_wp2_with (fail)
          refine h1 _ _ HB3.out ?_
          clear h1
          refine seg_act _ (by dsimp only [pick, at_]) _ (by dsimp only [pick, at_]) ?_
          repeat (go_big_quiet_step (fail))
          refine wpQuiet_nil ?_
          intro K3 h1 h2
          clear h2
          go_wp2_with (fail)
          refine h1 _ _ HB3.out ?_
          clear h1
          refine seg_end _ (by dsimp only [pick, at_]) ?_
          repeat (go_big_quiet_step (fail))
          refine wpQuiet_nil ?_
          refine NoPanic.normal ?_
          clear q0 q1 q2 q3
          go_wp2_with (fail)
          go_roundg (nl - (i + 1))
          case measure => omega
          case rel => exact ⟨i + 1, by go_num, by omega, by omega, ⟨_, rfl, by show _ = _; rw [HX.out, HF.out]; simp [leastStep, hq, hbn]⟩, HBW.out, HV3.out⟩
        · have hbz : decide (best < 0) = false := by simp; omega
          go_wp2_with (fail)
          refine h1 _ _ HB3.out ?_
          clear h1
          refine seg_act _ (by dsimp only [pick, at_]) _ (by dsimp only [pick, at_]) ?_
          repeat (go_big_quiet_step (fail))
          refine wpQuiet_nil ?_
          intro K2 h1 h2
          clear h2
          go_wp2_with (fail)
          refine (HLD.out w3 HBW.out x).mono ?_
          rintro e w4 ⟨rfl, hb4⟩
          have HB4 := Lib.hid (HB3.out.trans (hb4.mono HB3.out.size))
          have HBW4 := Lib.hid (HBW.out.trans (hb4.mono HBW.out.size))
          clear hb4
          go_wp2_with (fail)
          refine h1 _ _ HB4.out ?_
          clear h1
          refine seg_act _ (by dsimp only [pick, at_]) _ (by dsimp only [pick, at_]) ?_
          repeat (go_big_quiet_step (fail))
          refine wpQuiet_nil ?_
          intro K3 h1 h2
          clear h2
          go_wp2_with (fail)
          refine (HLD.out w4 HBW4.out best).mono ?_
          rintro e w5 ⟨rfl, hb5⟩
          have HB5 := Lib.hid (HB4.out.trans (hb5.mono HB4.out.size))
          have HBW5 := Lib.hid (HBW4.out.trans (hb5.mono HBW4.out.size))
          have HV5 := Lib.hid (blk_below (HB5.out) HV.out hpw)
          clear hb5
          go_wp2_with (fail)
          refine h1 _ _ HB5.out ?_
          clear h1
          by_cases hld : load ss x < load ss best
          · have hldz : ((load ss x : Nat) : Int) < ((load ss best : Nat) : Int) := by omega
            refine seg_end _ (by dsimp only [pick, at_]) ?_
            repeat (go_big_quiet_step (fail))
            refine wpQuiet_nil ?_
            refine NoPanic.normal ?_
            clear q0 q1 q2 q3
            go_wp2_with (fail)
            go_roundg (nl - (i + 1))
            case measure => omega
            case rel => exact ⟨i + 1, by go_num, by omega, by omega, ⟨_, rfl, by show _ = _; rw [HX.out, HF.out]; simp [leastStep, hq, hld]⟩, HBW5.out, HV5.out⟩
          · have hldz : ¬ ((load ss x : Nat) : Int) < ((load ss best : Nat) : Int) := by omega
            refine seg_end _ (by dsimp only [pick, at_]) ?_
            repeat (go_big_quiet_step (fail))
            refine wpQuiet_nil ?_
            refine NoPanic.normal ?_
            clear q0 q1 q2 q3
            go_wp2_with (fail)
            go_roundg (nl - (i + 1))
            case measure => omega
            case rel => exact ⟨i + 1, by go_num, by omega, by omega, ⟨_, rfl, by show _ = _; rw [HX.out, HF.out]; simp [leastStep, hq, hld]; omega⟩, HBW5.out, HV5.out⟩
    · obtain rfl : i = nl := by omega
      have hltz : ¬ (i : Int) < (i : Int) := by omega
      have hfin := HF.out
      rw [fold_all _ _ HNL.out] at hfin
      have HFN := Lib.hid (show least nodes ss q = best from hfin)
      clear hfin
      go_wp2_with (fail)
      go_ret
      rw [HFN.out]
      exact ⟨rfl, HB.out⟩
end Go.Proofs.Ytnpkhkhchimcnaa.pm
