/-
  Placements: the document's giver.
-/
import Derived.Test.YtnjdondkggkfoaaGreatPmG
import Derived.Test.YtnjdondkggkfoaaGreatPmLeastY
namespace Go.Proofs.YtnjdondkggkfoaaGreat.pm
open Go.ChangeShapes Go.WideShapes Go.ChangeAt Go.RowKit Go.Shelf plain words ord mem

/-- the first of the shards from m on that may be given, with who gives it -/
def fromIdx (ss : List (List O)) (p : List O → Bool) (x : Int) (b : Int × Int) (m : Nat) : Int × Int := if (ss.drop m).any p then (x, ((m + (ss.drop m).findIdx p : Nat) : Int)) else b
theorem fromIdx_end {ss : List (List O)} {p : List O → Bool} {x : Int} {b : Int × Int} {m : Nat} (h : ss.length ≤ m) : fromIdx ss p x b m = b := by
  unfold fromIdx; rw [List.drop_eq_nil_of_le h]; rfl
theorem fromIdx_hit {ss : List (List O)} {p : List O → Bool} {x : Int} {b : Int × Int} {m : Nat} {l : List O} (h : ss[m]? = some l) (hp : p l = true) : fromIdx ss p x b m = (x, (m : Int)) := by
  obtain ⟨hm, rfl⟩ := List.getElem?_eq_some_iff.1 h
  unfold fromIdx
  rw [List.drop_eq_getElem_cons hm, List.any_cons, hp, Bool.true_or, if_pos rfl, List.findIdx_cons, hp]; simp
theorem fromIdx_miss {ss : List (List O)} {p : List O → Bool} {x : Int} {b : Int × Int} {m : Nat} {l : List O} (h : ss[m]? = some l) (hp : p l = false) : fromIdx ss p x b m = fromIdx ss p x b (m + 1) := by
  obtain ⟨hm, rfl⟩ := List.getElem?_eq_some_iff.1 h
  unfold fromIdx
  rw [List.drop_eq_getElem_cons hm, List.any_cons, hp, Bool.false_or, List.findIdx_cons, hp]
  split
  · simp; omega
  · rfl
theorem fromIdx_zero (ss : List (List O)) (p : List O → Bool) (x : Int) (b : Int × Int) : fromIdx ss p x b 0 = if 0 ≤ gidx ss p then (x, gidx ss p) else b := by
  unfold fromIdx gidx
  rw [List.drop_zero]
  split <;> simp
theorem rgivers_eq (nodes : List Int) (ss : List (List O)) (node : Int) : nodes.foldl (rgiveStep ss node) (-1, -1) = givers nodes ss node := by
  unfold givers
  have : rgiveStep ss node = giveStep ss node := by funext b x; exact rgiveStep_eq ss node b x
  rw [this]
set_option maxHeartbeats 4000000 in
theorem rgiver_y (w : World) (B : Nat) (v : PV) (h : PVok w B v) (hB : B ≤ w.heap.size) (hR : Rises v.pl.ss) (node : Int) :
    Calls Tryz.prog 74 #[v.val, .int .i64 node] w fun e w' => e = .returned (.tuple #[.int .i64 (givers v.nodes v.pl.ss node).1, .int .i64 (givers v.nodes v.pl.ss node).2]) ∧ Below w.heap.size w w' := by
  rw [← rgivers_eq]
  obtain ⟨wa, hwa⟩ : ∃ wa, w.alloc (boxO v) = wa := ⟨_, rfl⟩
  have hba : Below w.heap.size w wa := by rw [← hwa]; exact below_al _ _
  have gp0 : Boxed wa w.heap.size v := by rw [← hwa]; exact alloc_new _ _
  have HLD := Lib.hid (fun (u : World) (hu : Below w.heap.size w u) (n : Int) => rload_y u B v (h.below hu hB) (by have := hu.size; omega) hR n)
  have HOW := Lib.hid (fun (u : World) (hu : Below w.heap.size w u) (k : Nat) (l : List O) (hl : v.pl.ss[k]? = some l) (n : Int) => (shardAt_in hl) ▸ rowns_y u B v (h.below hu hB) (by have := hu.size; omega) hR (k : Int) n)
  obtain ⟨ver, nA, nc, nodes, sA, sc, rs⟩ := v
  obtain ⟨N, hN⟩ : ∃ N, rs.length = N := ⟨_, rfl⟩
  obtain ⟨ss, hss⟩ : ∃ ss, rs.map (·.l) = ss := ⟨_, rfl⟩
  obtain ⟨nl, hnl⟩ : ∃ nl, nodes.length = nl := ⟨_, rfl⟩
  have hl := h.len.2
  have hl2 := h.len.1
  have hnn := h.n
  have hsl : ss.length = N := by rw [← hss, List.length_map, hN]
  simp only [PV.pl, PV.val, boxO, Boxed, hN, hss, hnl] at hl hl2 hwa gp0 HLD HOW hnn ⊢
  have HWA := Lib.hid hwa
  have HBA := Lib.hid hba
  have GP := Lib.hid gp0
  have HNN := Lib.hid hnn
  have HNL := Lib.hid hnl
  have HSL := Lib.hid hsl
  clear h hwa hba hN hss hnl gp0 hnn hR hsl
  go_enter Tryz.func74, Tryz.ntmps74
  go_wp2_with (fail)
  rw [HWA.out]
  go_loopg [6, 7, 8, 9, 10] nl (fun gg s6 s7 s8 s9 s10 wr => ∃ i : Nat, s8 = .int .i64 i ∧ i ≤ nl ∧ nl - i ≤ gg ∧ (∃ b g : Int, s6 = .int .i64 b ∧ s7 = .int .i64 g ∧ Aside ((nodes.take i).foldl (rgiveStep ss node) (-1, -1) = (b, g))) ∧ Aside (Below w.heap.size w wr) ∧ Aside (IsV3 25 wr w.heap.size (.int .i64 ver) (.slice nA nl nc) (.slice sA N sc)))
  case atStart => exact ⟨0, rfl, by omega, by omega, ⟨-1, -1, rfl, rfl, rfl⟩, HBA.out, GP.out⟩
  case round =>
    obtain ⟨i, rfl, hi, hg, ⟨best, gift, rfl, rfl, HF⟩, HB, HV⟩ := hrel
    clear HBA GP
    have hs := HB.out.size
    have hpw : w.heap.size < wr.heap.size := blk_lt HV.out
    obtain ⟨⟨c0, c1, c2⟩, _⟩ := isv3_cells HV.out
    by_cases hlt : i < nl
    · have hltz : (i : Int) < (nl : Int) := by omega
      obtain ⟨x, hx⟩ := HNN.out.get hlt
      obtain ⟨b2, off2, rfl, hb2, l1⟩ := num_at (HNN.out.below HB.out hB) hx
      have hbw2 : b2 < wr.heap.size := by omega
      have HX := Lib.hid (fold_succ (rgiveStep ss node) (-1, -1) hx)
      clear hx
      obtain ⟨wv, hwv⟩ : ∃ wv, wr = wv := ⟨wr, rfl⟩
      subst hwv
      by_cases hxn : x = node
      · subst hxn
        have hxz : ((x : Int) == x) = true := by simp
        have HSame := Lib.hid (show (nodes.take (i + 1)).foldl (rgiveStep ss x) (-1, -1) = (best, gift) by rw [HX.out, HF.out]; unfold rgiveStep; rw [if_pos (.inl rfl)])
        go_wp2_with (fail)
        have q0 := Wb.at_ c0
        have q1 := Wb.at_ c1
        have q2 := Wb.at_ c2
        clear l1
        refine wp_region_plan [([0, 1, 2, 3, 4, 5, 6, 7, 8, 10, 11], some (9, false)), ([], some (12, false)), ([13, 14, 15], none)] (by kernel_rfl) (by kernel_rfl) ?_
        refine seg_act _ (by dsimp only [pick, ord.at_]) _ (by dsimp only [pick, ord.at_]) ?_
        repeat (go_big_quiet_step (fail))
        refine wpQuiet_nil ?_
        intro K2 h1 h2
        clear h2
        go_wp2_with (fail)
        refine h1 _ _ (Below.refl _ _).drew ?_
        clear h1
        refine seg_act _ (by dsimp only [pick, ord.at_]) _ (by dsimp only [pick, ord.at_]) ?_
        repeat (go_big_quiet_step (fail))
        refine wpQuiet_nil ?_
        intro K3 h1 h2
        clear h2
        go_wp2_with (fail)
        refine h1 _ _ (Below.refl _ _).drew ?_
        clear h1
        refine seg_end _ (by dsimp only [pick, ord.at_]) ?_
        repeat (go_big_quiet_step (fail))
        refine wpQuiet_nil ?_
        refine NoPanic.normal ?_
        clear q0 q1 q2 c0 c1 c2
        go_wp2_with (fail)
        go_roundg (nl - (i + 1))
        case measure => omega
        case rel => exact ⟨i + 1, by go_num, by omega, by omega, ⟨_, _, rfl, rfl, HSame.out⟩, HB.out.drew, HV.out⟩
      · have hxz : (x == node) = false := by simpa using hxn
        by_cases hb0 : 0 ≤ best
        · have hbz : decide ((0 : Int) ≤ best) = true := decide_eq_true hb0
          go_wp2_with (fail)
          have q0 := Wb.at_ c0
          have q1 := Wb.at_ c1
          have q2 := Wb.at_ c2
          clear l1
          refine wp_region_plan [([0, 1, 2, 3, 4, 5, 6, 7, 8, 10, 11], some (9, false)), ([], some (12, false)), ([13, 14, 15], none)] (by kernel_rfl) (by kernel_rfl) ?_
          refine seg_act _ (by dsimp only [pick, ord.at_]) _ (by dsimp only [pick, ord.at_]) ?_
          repeat (go_big_quiet_step (fail))
          refine wpQuiet_nil ?_
          intro K2 h1 h2
          clear h2
          go_wp2_with (fail)
          refine (HLD.out wr.drew HB.out.drew x).mono ?_
          rintro e w4 ⟨rfl, hb4⟩
          have HB4 := Lib.hid (show Below wr.heap.size wr w4 from (Below.refl _ _).drew.trans hb4)
          have HBW4 := Lib.hid (HB.out.trans (HB4.out.mono hs))
          clear hb4
          go_wp2_with (fail)
          refine h1 _ _ HB4.out ?_
          clear h1
          refine seg_act _ (by dsimp only [pick, ord.at_]) _ (by dsimp only [pick, ord.at_]) ?_
          repeat (go_big_quiet_step (fail))
          refine wpQuiet_nil ?_
          intro K3 h1 h2
          clear h2
          go_wp2_with (fail)
          refine (HLD.out w4 HBW4.out best).mono ?_
          rintro e w5 ⟨rfl, hb5⟩
          have HB5 := Lib.hid (HB4.out.trans (hb5.mono HB4.out.size))
          have HBW5 := Lib.hid (HBW4.out.trans (hb5.mono HBW4.out.size))
          have HV5 := Lib.hid (blk_below (HB5.out) HV.out hpw)
          clear hb5
          go_wp2_with (fail)
          refine h1 _ _ HB5.out ?_
          clear h1
          by_cases hld : load ss x ≤ load ss best
          · have hldz : ((load ss x : Nat) : Int) ≤ ((load ss best : Nat) : Int) := by omega
            have HSame := Lib.hid (show (nodes.take (i + 1)).foldl (rgiveStep ss node) (-1, -1) = (best, gift) by rw [HX.out, HF.out]; unfold rgiveStep; rw [if_pos (.inr ⟨hb0, hld⟩)])
            refine seg_end _ (by dsimp only [pick, ord.at_]) ?_
            repeat (go_big_quiet_step (fail))
            refine wpQuiet_nil ?_
            refine NoPanic.normal ?_
            clear q0 q1 q2 c0 c1 c2
            go_wp2_with (fail)
            go_roundg (nl - (i + 1))
            case measure => omega
            case rel => exact ⟨i + 1, by go_num, by omega, by omega, ⟨_, _, rfl, rfl, HSame.out⟩, HBW5.out, HV5.out⟩
          · have hldz : ¬ ((load ss x : Nat) : Int) ≤ ((load ss best : Nat) : Int) := by omega
            have HNew := Lib.hid (show (nodes.take (i + 1)).foldl (rgiveStep ss node) (-1, -1) = fromIdx ss (gp x node) x (best, gift) 0 by rw [HX.out, HF.out, fromIdx_zero]; unfold rgiveStep; rw [if_neg (by rintro (h | ⟨_, h⟩); exact hxn h; exact hld h)])
            refine seg_end _ (by dsimp only [pick, ord.at_]) ?_
            repeat (go_big_quiet_step (fail))
            refine wpQuiet_nil ?_
            refine NoPanic.normal ?_
            clear q0 q1 q2 c0 c1 c2
            have HZB := HBW5
            have HZV := HV5
            obtain ⟨wz, hwz⟩ : ∃ wz, w5 = wz := ⟨w5, rfl⟩
            subst hwz
            have hN1 : IntKind.i64.wrap ((N : Int) - 1) = (N : Int) - 1 := by rw [IntWalk.i64_in _ (by omega)]
            obtain ⟨⟨c0, c1, c2⟩, _⟩ := isv3_cells HZV.out
            have hpz : w.heap.size < (w5).heap.size := blk_lt HZV.out
            go_wp2_with (fail)
            clear c0 c1 c2 hN1
            go_loopg [6, 7, 10] N (fun gg s6 s7 s10 wi => ∃ m : Nat, s10 = .int .i64 ((m : Int) - 1) ∧ m ≤ N ∧ m ≤ gg ∧ (∃ b g : Int, s6 = .int .i64 b ∧ s7 = .int .i64 g ∧ Aside (fromIdx ss (gp x node) x (best, gift) m = (b, g))) ∧ Aside (Below w.heap.size w wi) ∧ Aside (IsV3 25 wi w.heap.size (.int .i64 ver) (.slice (some ⟨b2, off2, none⟩) nl nc) (.slice sA N sc)))
            case atStart => exact ⟨N, rfl, by omega, by omega, ⟨_, _, rfl, rfl, fromIdx_end (by rw [HSL.out]; omega)⟩, HZB.out, HZV.out⟩
            case round =>
              obtain ⟨m, rfl, hm, hgm, ⟨bb, gg2, rfl, rfl, HFI⟩, HBI, HVI⟩ := hrel
              clear HZB HZV
              have hsi := HBI.out.size
              have hpi : w.heap.size < wr.heap.size := blk_lt HVI.out
              obtain ⟨⟨c0, c1, c2⟩, _⟩ := isv3_cells HVI.out
              cases m with
              | zero =>
                have hmz : decide ((0 : Int) ≤ ((0 : Nat) : Int) - 1) = false := rfl
                go_wp2_with (fail)
                go_roundg (nl - (i + 1))
                case measure => omega
                case rel => exact ⟨i + 1, by go_num, by omega, by omega, ⟨_, _, rfl, rfl, by show _ = _; rw [HNew.out, HFI.out]⟩, HBI.out, HVI.out⟩
              | succ m =>
                have hmc : ((m + 1 : Nat) : Int) - 1 = (m : Int) := by omega
                rw [hmc]
                have hmz : decide ((0 : Int) ≤ (m : Int)) = true := decide_eq_true (by omega)
                have hwm : IntKind.i64.wrap ((m : Int) - 1) = (m : Int) - 1 := by rw [IntWalk.i64_in _ (by omega)]
                obtain ⟨l, hl3⟩ : ∃ l, ss[m]? = some l := ⟨_, List.getElem?_eq_getElem (by rw [HSL.out]; omega)⟩
                have HL3 := Lib.hid hl3
                clear hl3 hmc
                go_wp2_with (fail)
                refine (HOW.out wr HBI.out m l HL3.out x).mono ?_
                rintro e w6 ⟨rfl, hb6⟩
                have HB6 := Lib.hid (HBI.out.trans (hb6.mono hsi))
                have HV6 := Lib.hid (blk_below hb6 HVI.out hpi)
                have hp6 : w.heap.size < w6.heap.size := blk_lt HV6.out
                clear hb6 c0 c1 c2
                cases hq : holds l x with
                | false =>
                  have HFM := Lib.hid (fromIdx_miss (p := gp x node) (x := x) (b := (best, gift)) HL3.out (by unfold gp; rw [hq]; rfl))
                  go_wp2_with (fail)
                  go_roundg m
                  case measure => omega
                  case rel => exact ⟨m, rfl, by omega, by omega, ⟨_, _, rfl, rfl, by show _ = _; rw [HFM.out, HFI.out]⟩, HB6.out, HV6.out⟩
                | true =>
                  obtain ⟨⟨c0, c1, c2⟩, _⟩ := isv3_cells HV6.out
                  go_wp2_with (fail)
                  refine (HOW.out w6 HB6.out m l HL3.out node).mono ?_
                  rintro e w7 ⟨rfl, hb7⟩
                  have HB7 := Lib.hid (HB6.out.trans (hb7.mono HB6.out.size))
                  have HV7 := Lib.hid (blk_below hb7 HV6.out hp6)
                  clear hb7 c0 c1 c2
                  cases hq2 : holds l node with
                  | true =>
                    have HFM := Lib.hid (fromIdx_miss (p := gp x node) (x := x) (b := (best, gift)) HL3.out (by unfold gp; rw [hq, hq2]; rfl))
                    go_wp2_with (fail)
                    go_roundg m
                    case measure => omega
                    case rel => exact ⟨m, rfl, by omega, by omega, ⟨_, _, rfl, rfl, by show _ = _; rw [HFM.out, HFI.out]⟩, HB7.out, HV7.out⟩
                  | false =>
                    have HFM := Lib.hid (fromIdx_hit (p := gp x node) (x := x) (b := (best, gift)) HL3.out (by unfold gp; rw [hq, hq2]; rfl))
                    go_wp2_with (fail)
                    go_roundg m
                    case measure => omega
                    case rel => exact ⟨m, rfl, by omega, by omega, ⟨_, _, rfl, rfl, HFM.out⟩, HB7.out, HV7.out⟩
        · have hbz : decide ((0 : Int) ≤ best) = false := decide_eq_false hb0
          have HNew := Lib.hid (show (nodes.take (i + 1)).foldl (rgiveStep ss node) (-1, -1) = fromIdx ss (gp x node) x (best, gift) 0 by rw [HX.out, HF.out, fromIdx_zero]; unfold rgiveStep; rw [if_neg (by rintro (h | ⟨h, _⟩); exact hxn h; exact hb0 h)])
          go_wp2_with (fail)
          have q0 := Wb.at_ c0
          have q1 := Wb.at_ c1
          have q2 := Wb.at_ c2
          clear l1
          refine wp_region_plan [([0, 1, 2, 3, 4, 5, 6, 7, 8, 10, 11], some (9, false)), ([], some (12, false)), ([13, 14, 15], none)] (by kernel_rfl) (by kernel_rfl) ?_
          refine seg_act _ (by dsimp only [pick, ord.at_]) _ (by dsimp only [pick, ord.at_]) ?_
          repeat (go_big_quiet_step (fail))
          refine wpQuiet_nil ?_
          intro K2 h1 h2
          clear h2
          go_wp2_with (fail)
          refine h1 _ _ (Below.refl _ _).drew ?_
          clear h1
          refine seg_act _ (by dsimp only [pick, ord.at_]) _ (by dsimp only [pick, ord.at_]) ?_
          repeat (go_big_quiet_step (fail))
          refine wpQuiet_nil ?_
          intro K3 h1 h2
          clear h2
          go_wp2_with (fail)
          refine h1 _ _ (Below.refl _ _).drew ?_
          clear h1
          refine seg_end _ (by dsimp only [pick, ord.at_]) ?_
          repeat (go_big_quiet_step (fail))
          refine wpQuiet_nil ?_
          refine NoPanic.normal ?_
          clear q0 q1 q2 c0 c1 c2
          have HZB := Lib.hid HB.out.drew
          have HZV := Lib.hid (show IsV3 25 wr.drew w.heap.size (.int .i64 ver) (.slice (some ⟨b2, off2, none⟩) nl nc) (.slice sA N sc) from HV.out)
          have hN1 : IntKind.i64.wrap ((N : Int) - 1) = (N : Int) - 1 := by rw [IntWalk.i64_in _ (by omega)]
          obtain ⟨⟨c0, c1, c2⟩, _⟩ := isv3_cells HZV.out
          have hpz : w.heap.size < (wr.drew).heap.size := blk_lt HZV.out
          go_wp2_with (fail)
          clear c0 c1 c2 hN1
          go_loopg [6, 7, 10] N (fun gg s6 s7 s10 wi => ∃ m : Nat, s10 = .int .i64 ((m : Int) - 1) ∧ m ≤ N ∧ m ≤ gg ∧ (∃ b g : Int, s6 = .int .i64 b ∧ s7 = .int .i64 g ∧ Aside (fromIdx ss (gp x node) x (best, gift) m = (b, g))) ∧ Aside (Below w.heap.size w wi) ∧ Aside (IsV3 25 wi w.heap.size (.int .i64 ver) (.slice (some ⟨b2, off2, none⟩) nl nc) (.slice sA N sc)))
          case atStart => exact ⟨N, rfl, by omega, by omega, ⟨_, _, rfl, rfl, fromIdx_end (by rw [HSL.out]; omega)⟩, HZB.out, HZV.out⟩
          case round =>
            obtain ⟨m, rfl, hm, hgm, ⟨bb, gg2, rfl, rfl, HFI⟩, HBI, HVI⟩ := hrel
            clear HZB HZV
            have hsi := HBI.out.size
            have hpi : w.heap.size < wr.heap.size := blk_lt HVI.out
            obtain ⟨⟨c0, c1, c2⟩, _⟩ := isv3_cells HVI.out
            cases m with
            | zero =>
              have hmz : decide ((0 : Int) ≤ ((0 : Nat) : Int) - 1) = false := rfl
              go_wp2_with (fail)
              go_roundg (nl - (i + 1))
              case measure => omega
              case rel => exact ⟨i + 1, by go_num, by omega, by omega, ⟨_, _, rfl, rfl, by show _ = _; rw [HNew.out, HFI.out]⟩, HBI.out, HVI.out⟩
            | succ m =>
              have hmc : ((m + 1 : Nat) : Int) - 1 = (m : Int) := by omega
              rw [hmc]
              have hmz : decide ((0 : Int) ≤ (m : Int)) = true := decide_eq_true (by omega)
              have hwm : IntKind.i64.wrap ((m : Int) - 1) = (m : Int) - 1 := by rw [IntWalk.i64_in _ (by omega)]
              obtain ⟨l, hl3⟩ : ∃ l, ss[m]? = some l := ⟨_, List.getElem?_eq_getElem (by rw [HSL.out]; omega)⟩
              have HL3 := Lib.hid hl3
              clear hl3 hmc
              go_wp2_with (fail)
              refine (HOW.out wr HBI.out m l HL3.out x).mono ?_
              rintro e w6 ⟨rfl, hb6⟩
              have HB6 := Lib.hid (HBI.out.trans (hb6.mono hsi))
              have HV6 := Lib.hid (blk_below hb6 HVI.out hpi)
              have hp6 : w.heap.size < w6.heap.size := blk_lt HV6.out
              clear hb6 c0 c1 c2
              cases hq : holds l x with
              | false =>
                have HFM := Lib.hid (fromIdx_miss (p := gp x node) (x := x) (b := (best, gift)) HL3.out (by unfold gp; rw [hq]; rfl))
                go_wp2_with (fail)
                go_roundg m
                case measure => omega
                case rel => exact ⟨m, rfl, by omega, by omega, ⟨_, _, rfl, rfl, by show _ = _; rw [HFM.out, HFI.out]⟩, HB6.out, HV6.out⟩
              | true =>
                obtain ⟨⟨c0, c1, c2⟩, _⟩ := isv3_cells HV6.out
                go_wp2_with (fail)
                refine (HOW.out w6 HB6.out m l HL3.out node).mono ?_
                rintro e w7 ⟨rfl, hb7⟩
                have HB7 := Lib.hid (HB6.out.trans (hb7.mono HB6.out.size))
                have HV7 := Lib.hid (blk_below hb7 HV6.out hp6)
                clear hb7 c0 c1 c2
                cases hq2 : holds l node with
                | true =>
                  have HFM := Lib.hid (fromIdx_miss (p := gp x node) (x := x) (b := (best, gift)) HL3.out (by unfold gp; rw [hq, hq2]; rfl))
                  go_wp2_with (fail)
                  go_roundg m
                  case measure => omega
                  case rel => exact ⟨m, rfl, by omega, by omega, ⟨_, _, rfl, rfl, by show _ = _; rw [HFM.out, HFI.out]⟩, HB7.out, HV7.out⟩
                | false =>
                  have HFM := Lib.hid (fromIdx_hit (p := gp x node) (x := x) (b := (best, gift)) HL3.out (by unfold gp; rw [hq, hq2]; rfl))
                  go_wp2_with (fail)
                  go_roundg m
                  case measure => omega
                  case rel => exact ⟨m, rfl, by omega, by omega, ⟨_, _, rfl, rfl, HFM.out⟩, HB7.out, HV7.out⟩
    · obtain rfl : i = nl := by omega
      have hltz : ¬ (i : Int) < (i : Int) := by omega
      have HFIN := Lib.hid (show nodes.foldl (rgiveStep ss node) (-1, -1) = (best, gift) by rw [← HF.out, fold_all _ _ HNL.out])
      go_wp2_with (fail)
      (try simp only [Exit.inBlock, Exit.then])
      refine bodyPost_ret (results_tmp2 rfl _ _ _) rfl ?_
      rw [HFIN.out]
      exact ⟨rfl, HB.out⟩
end Go.Proofs.YtnjdondkggkfoaaGreat.pm
