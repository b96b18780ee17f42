/-
  Placements: the program's giver.
-/
import Derived.Test.YtnpkhkhchimcnaaPmBusy
import Derived.Test.YtnpkhkhchimcnaaPmC
namespace Go.Proofs.Ytnpkhkhchimcnaa.pm
open Go.ChangeShapes Go.WideShapes Go.ChangeAt Go.RowKit Go.Shelf plain words ord mem

def gp (n node : Int) (l : List O) : Bool := holds l n && !holds l node
def gidx (ss : List (List O)) (p : List O → Bool) : Int := if ss.any p then (ss.findIdx p : Int) else -1
theorem IxL.idx {p : List O → Bool} {l : List (List O)} {z : Int} (h : IxL p l z) : z = gidx l p := by
  unfold gidx
  rcases h with ⟨rfl, h⟩ | ⟨k, rfl, x, hx, hp, hl⟩
  · rw [any_of_none h]; rfl
  · rw [any_of_some hx hp, if_pos rfl]
    obtain ⟨hk, rfl⟩ := List.getElem?_eq_some_iff.1 hx
    have : l.findIdx p = k := (List.findIdx_eq hk).2 ⟨hp, fun j hj => hl j _ hj (List.getElem?_eq_getElem (by omega))⟩
    rw [this]
def giveStep (ss : List (List O)) (node : Int) (b : Int × Int) (n : Int) : Int × Int := if 0 ≤ gidx ss (gp n node) ∧ (b.1 < 0 ∨ load ss b.1 < load ss n) then (n, gidx ss (gp n node)) else b
def givers (nodes : List Int) (ss : List (List O)) (node : Int) : Int × Int := nodes.foldl (giveStep ss node) (-1, -1)
theorem giver1_x (W : World) (B : Nat) (r : Rw3) (h : RwOk W B r) (hB : B ≤ W.heap.size) (a b : Nat) (n node : Int) (ha : W.cell? ⟨a, 0, none⟩ = some (.int .i64 n)) (hb : W.cell? ⟨b, 0, none⟩ = some (.int .i64 node)) (hbl : b < W.heap.size) :
    Calls Try.prog 71 #[r.val, .pointer (some ⟨a, 0, none⟩), .pointer (some ⟨b, 0, none⟩)] W fun e w' => e = .returned (.bool (gp n node r.l)) ∧ Below W.heap.size W w' := by
  have hm : r.l.length ≤ 9223372036854775807 := by have := h.cap; have := h.most; omega
  have H1 := Lib.hid (holds_x W B r.l.length r.c r.A r.l h.ls hB hm n)
  have H2 := Lib.hid (fun (u : World) (hu : Below W.heap.size W u) => holds_x u B r.l.length r.c r.A r.l (h.ls.below hu hB) (by have := hu.size; omega) hm node)
  have HB := Lib.hid (fun (u : World) (hu : Below W.heap.size W u) => (hu.cell (p := ⟨b, 0, none⟩) hbl).trans hb)
  obtain ⟨ra, rc, L⟩ := r
  simp only [Rw3.val] at H1 H2 ⊢
  clear h hb
  go_enter Try.func71, Try.ntmps71
  go_wp2_with (fail)
  refine H1.out.mono ?_
  rintro e w2 ⟨rfl, hb2⟩
  have HB2 := Lib.hid hb2
  have l2 := HB.out w2 hb2
  clear hb2
  cases hq : holds L n with
  | false =>
    go_wp2_with (fail)
    go_ret
    exact ⟨by simp [gp, hq], HB2.out⟩
  | true =>
    go_wp2_with (fail)
    refine (H2.out w2 HB2.out).mono ?_
    rintro e w3 ⟨rfl, hb3⟩
    have HB3 := Lib.hid (HB2.out.trans (hb3.mono HB2.out.size))
    clear hb3
    go_wp2_with (fail)
    go_ret
    exact ⟨by simp [gp, hq], HB3.out⟩
set_option maxHeartbeats 2000000 in
theorem giver_x (w : World) (B : Nat) (v : PV) (h : PVok w B v) (hB : B ≤ w.heap.size) (node : Int) :
    Calls Try.prog 43 #[v.val, .int .i64 node] w fun e w' => e = .returned (.tuple #[.int .i64 (givers v.nodes v.pl.ss node).1, .int .i64 (givers v.nodes v.pl.ss node).2]) ∧ Below w.heap.size w w' := by
  have eg : ∀ args w, (callFunc 71 args).run Try.prog w = .ok (.enter 71 args) w := enters_of Try.func71 (by kernel_rfl) rfl
  obtain ⟨wa, hwa⟩ : ∃ wa, (w.alloc (boxO v)).alloc (.cells #[.int .i64 node] 3) = wa := ⟨_, rfl⟩
  have hba : Below w.heap.size w wa := by rw [← hwa]; exact (below_al _ _).trans ((below_al _ _).mono (by simp))
  have gp0 : Boxed wa w.heap.size v := by rw [← hwa]; exact alloc_old _ (alloc_new _ _)
  have gn : wa.heap[w.heap.size + 1]? = some (.cells #[.int .i64 node] 3 (0, 0)) := by rw [← hwa]; have := alloc_new (w.alloc (boxO v)) (.cells #[.int .i64 node] 3); rwa [World.size_alloc] at this
  have hsa : w.heap.size + 1 < wa.heap.size := blk_lt gn
  have HLD := Lib.hid (fun (u : World) (hu : Below w.heap.size w u) (n : Int) => pload_x u B v (h.below hu hB) (by have := hu.size; omega) n)
  have HIX := Lib.hid (fun (u : World) (hu : Below w.heap.size w u) (a : Nat) (n : Int) (hal : a < u.heap.size) (ha : u.cell? ⟨a, 0, none⟩ = some (.int .i64 n)) (hbl : w.heap.size + 1 < u.heap.size) (hb : u.cell? ⟨w.heap.size + 1, 0, none⟩ = some (.int .i64 node)) =>
    indexR_x u B v.rs.length v.sc v.sA v.rs (h.s.below hu hB) (by have := hu.size; omega) (by have := h.sc; have := h.sm; omega) 71 #[.pointer (some ⟨a, 0, none⟩), .pointer (some ⟨w.heap.size + 1, 0, none⟩)] (gp n node) eg
      (fun W r _ hr hW => giver1_x W B r hr (by have := hW.size; have := hu.size; omega) a (w.heap.size + 1) n node ((hW.cell (p := ⟨a, 0, none⟩) hal).trans ha) ((hW.cell (p := ⟨w.heap.size + 1, 0, none⟩) hbl).trans hb) (by have := hW.size; omega)))
  obtain ⟨ver, nA, nc, nodes, sA, sc, rs⟩ := v
  obtain ⟨N, hN⟩ : ∃ N, rs.length = N := ⟨_, rfl⟩
  obtain ⟨ss, hss⟩ : ∃ ss, rs.map (·.l) = ss := ⟨_, rfl⟩
  obtain ⟨nl, hnl⟩ : ∃ nl, nodes.length = nl := ⟨_, rfl⟩
  have hl := h.len.2
  have hnn := h.n
  simp only [PV.pl, PV.val, boxO, Boxed, hN, hss, hnl] at hl hwa gp0 HLD HIX hnn ⊢
  have HWA := Lib.hid hwa
  have HBA := Lib.hid hba
  have GP := Lib.hid gp0
  have GN := Lib.hid gn
  have HNN := Lib.hid hnn
  have HNL := Lib.hid hnl
  clear h hwa hba hN hss hnl gp0 gn hnn
  go_enter Try.func43, Try.ntmps43
  go_wp2_with (fail)
  rw [HWA.out]
  go_loopg [6, 7, 9, 10, 14] nl (fun gg s6 s7 s9 s10 s14 wr => ∃ i : Nat, s14 = .int .i64 i ∧ i ≤ nl ∧ nl - i ≤ gg ∧ (∃ b g : Int, s6 = .int .i64 b ∧ s7 = .int .i64 g ∧ Aside ((nodes.take i).foldl (giveStep ss node) (-1, -1) = (b, g))) ∧ Aside (Below w.heap.size w wr) ∧ Aside (IsV3 25 wr w.heap.size (.int .i64 ver) (.slice nA nl nc) (.slice sA N sc)) ∧ Aside (wr.heap[w.heap.size + 1]? = some (.cells #[.int .i64 node] 3 (0, 0))))
  case atStart => exact ⟨0, rfl, by omega, by omega, ⟨-1, -1, rfl, rfl, rfl⟩, HBA.out, GP.out, GN.out⟩
  case round =>
    obtain ⟨i, rfl, hi, hg, ⟨best, gift, rfl, rfl, HF⟩, HB, HV, HG⟩ := hrel
    clear HBA GP GN
    have hs := HB.out.size
    by_cases hlt : i < nl
    · have hltz : (i : Int) < (nl : Int) := by omega
      obtain ⟨x, hx⟩ := HNN.out.get hlt
      obtain ⟨b2, off2, rfl, hb2, l1⟩ := num_at (HNN.out.below HB.out hB) hx
      have hbw2 : b2 < wr.heap.size := by omega
      have HX := Lib.hid (fold_succ (giveStep ss node) (-1, -1) hx)
      clear hx
      have hpw : w.heap.size + 1 < wr.heap.size := blk_lt HG.out
      obtain ⟨wb, hwb⟩ : ∃ wb, wr.alloc (.cells #[.int .i64 x] 3) = wb := ⟨_, rfl⟩
      have hbb : Below wr.heap.size wr wb := by rw [← hwb]; exact below_al _ _
      have gx : wb.heap[wr.heap.size]? = some (.cells #[.int .i64 x] 3 (0, 0)) := by rw [← hwb]; exact alloc_new _ _
      have hsb : wr.heap.size < wb.heap.size := blk_lt gx
      have hcx : wb.cell? ⟨wr.heap.size, 0, none⟩ = some (.int .i64 x) := by rw [cell_of_row _ _ _ _ _ _ gx]; rfl
      have gnb := blk_below hbb HG.out hpw
      have hcn : wb.cell? ⟨w.heap.size + 1, 0, none⟩ = some (.int .i64 node) := by rw [cell_of_row _ _ _ _ _ _ gnb]; rfl
      have gvb := blk_below hbb HV.out (by omega)
      obtain ⟨⟨e0, e1, e2⟩, _⟩ := isv3_cells gvb
      have HBB := Lib.hid (HB.out.trans (hbb.mono hs))
      have HBBx := Lib.hid hbb
      have HC := Lib.hid (HIX.out wb HBB.out wr.heap.size x hsb hcx (by omega) hcn)
      have GX := Lib.hid gx
      have GNB := Lib.hid gnb
      have GVB := Lib.hid gvb
      clear hbb gx gnb gvb hcn
      go_wp2_with (fail)
      refine HC.out.mono ?_
      rintro e w2 ⟨⟨z, rfl, hz⟩, hb2⟩
      have hzi := hz.idx
      have HZ := Lib.hid hzi
      have hs2 := hb2.size
      have HB2 := Lib.hid (HBB.out.trans (hb2.mono (by omega)))
      have HV2 := Lib.hid (blk_below hb2 GVB.out (by omega))
      have HG2 := Lib.hid (blk_below hb2 GNB.out (by omega))
      have hx2 := (hb2.cell (p := ⟨wr.heap.size, 0, none⟩) hsb).trans hcx
      obtain ⟨⟨c0, c1, c2⟩, _⟩ := isv3_cells HV2.out
      clear hz hzi hb2 HC e0 e1 e2 hcx l1 hwb
      have q0 := Wb.at_ c0
      have q1 := Wb.at_ c1
      have q2 := Wb.at_ c2
      have q3 := Wb.at_ hx2
      have hpw2 : w.heap.size < w2.heap.size := by omega
      have hrw2 : wr.heap.size < w2.heap.size := by omega
      by_cases hz0 : 0 ≤ z
      · have tz : decide (0 ≤ z) = true := decide_eq_true hz0
        by_cases hbn : best < 0
        · have hbz : decide (best < 0) = true := decide_eq_true hbn
          have HSame := Lib.hid (show (nodes.take (i + 1)).foldl (giveStep ss node) (-1, -1) = (x, z) by rw [HX.out, HF.out]; unfold giveStep; rw [← HZ.out, if_pos ⟨hz0, .inl hbn⟩])
          go_wp2_with (fail)
          refine wp_region_plan [([0, 1, 2, 3, 4, 5, 6, 7, 9, 10], some (8, false)), ([], some (11, false)), ([12, 13, 14], none)] (by kernel_rfl) (by kernel_rfl) ?_
          refine seg_act _ (by dsimp only [pick, at_]) _ (by dsimp only [pick, at_]) ?_
          repeat (go_big_quiet_step (fail))
          refine wpQuiet_nil ?_
          intro K2 h1 h2
          clear h2
          go_wp2_with (fail)
          refine h1 _ _ (Below.refl _ _).drew ?_
          clear h1
          refine seg_act _ (by dsimp only [pick, at_]) _ (by dsimp only [pick, at_]) ?_
          repeat (go_big_quiet_step (fail))
          refine wpQuiet_nil ?_
          intro K2 h1 h2
          clear h2
          go_wp2_with (fail)
          refine h1 _ _ (Below.refl _ _).drew ?_
          clear h1
          refine seg_end _ (by dsimp only [pick, at_]) ?_
          repeat (go_big_quiet_step (fail))
          refine wpQuiet_nil ?_
          refine NoPanic.normal ?_
          clear q0 q1 q2 q3
          go_wp2_with (fail)
          go_roundg (nl - (i + 1))
          case measure => omega
          case rel => exact ⟨i + 1, by go_num, by omega, by omega, ⟨_, _, rfl, rfl, HSame.out⟩, HB2.out.drew, HV2.out, HG2.out⟩
        · have hbz : decide (best < 0) = false := decide_eq_false hbn
          go_wp2_with (fail)
          refine wp_region_plan [([0, 1, 2, 3, 4, 5, 6, 7, 9, 10], some (8, false)), ([], some (11, false)), ([12, 13, 14], none)] (by kernel_rfl) (by kernel_rfl) ?_
          refine seg_act _ (by dsimp only [pick, at_]) _ (by dsimp only [pick, at_]) ?_
          repeat (go_big_quiet_step (fail))
          refine wpQuiet_nil ?_
          intro K2 h1 h2
          clear h2
          go_wp2_with (fail)
          refine (HLD.out w2.drew HB2.out.drew x).mono ?_
          rintro e w4 ⟨rfl, hb4⟩
          have HB4 := Lib.hid (show Below w2.heap.size w2 w4 from (Below.refl _ _).drew.trans hb4)
          have HBW4 := Lib.hid (HB2.out.trans (HB4.out.mono HB2.out.size))
          clear hb4
          go_wp2_with (fail)
          refine h1 _ _ HB4.out ?_
          clear h1
          refine seg_act _ (by dsimp only [pick, at_]) _ (by dsimp only [pick, at_]) ?_
          repeat (go_big_quiet_step (fail))
          refine wpQuiet_nil ?_
          intro K2 h1 h2
          clear h2
          go_wp2_with (fail)
          refine (HLD.out w4 HBW4.out best).mono ?_
          rintro e w5 ⟨rfl, hb5⟩
          have HB5 := Lib.hid (HB4.out.trans (hb5.mono HB4.out.size))
          have HBW5 := Lib.hid (HBW4.out.trans (hb5.mono HBW4.out.size))
          have HV5 := Lib.hid (blk_below HB5.out HV2.out hpw2)
          have HG5 := Lib.hid (blk_below HB5.out HG2.out (blk_lt HG2.out))
          have hx5 := (HB5.out.cell (p := ⟨wr.heap.size, 0, none⟩) hrw2).trans hx2
          have hs5 := HB5.out.size
          have hrw5 : wr.heap.size < w5.heap.size := by omega
          clear hb5
          go_wp2_with (fail)
          refine h1 _ _ HB5.out ?_
          clear h1
          by_cases hld : load ss best < load ss x
          · have hldz : ((load ss best : Nat) : Int) < ((load ss x : Nat) : Int) := by omega
            have HSame := Lib.hid (show (nodes.take (i + 1)).foldl (giveStep ss node) (-1, -1) = (x, z) by rw [HX.out, HF.out]; unfold giveStep; rw [← HZ.out, if_pos ⟨hz0, .inr hld⟩])
            refine seg_end _ (by dsimp only [pick, at_]) ?_
            repeat (go_big_quiet_step (fail))
            refine wpQuiet_nil ?_
            refine NoPanic.normal ?_
            clear q0 q1 q2 q3
            go_wp2_with (fail)
            go_roundg (nl - (i + 1))
            case measure => omega
            case rel => exact ⟨i + 1, by go_num, by omega, by omega, ⟨_, _, rfl, rfl, HSame.out⟩, HBW5.out, HV5.out, HG5.out⟩
          · have hldz : ¬ ((load ss best : Nat) : Int) < ((load ss x : Nat) : Int) := by omega
            have HSame := Lib.hid (show (nodes.take (i + 1)).foldl (giveStep ss node) (-1, -1) = (best, gift) by rw [HX.out, HF.out]; unfold giveStep; rw [if_neg]; rintro ⟨_, h | h⟩; omega; exact hld h)
            refine seg_end _ (by dsimp only [pick, at_]) ?_
            repeat (go_big_quiet_step (fail))
            refine wpQuiet_nil ?_
            refine NoPanic.normal ?_
            clear q0 q1 q2 q3
            go_wp2_with (fail)
            go_roundg (nl - (i + 1))
            case measure => omega
            case rel => exact ⟨i + 1, by go_num, by omega, by omega, ⟨_, _, rfl, rfl, HSame.out⟩, HBW5.out, HV5.out, HG5.out⟩
      · have tz : decide (0 ≤ z) = false := decide_eq_false hz0
        have HSame := Lib.hid (show (nodes.take (i + 1)).foldl (giveStep ss node) (-1, -1) = (best, gift) by rw [HX.out, HF.out]; unfold giveStep; rw [if_neg]; rw [← HZ.out]; omega)
        go_wp2_with (fail)
        refine wp_region_plan [([0, 1, 2, 3, 4, 5, 6, 7, 9, 10], some (8, false)), ([], some (11, false)), ([12, 13, 14], none)] (by kernel_rfl) (by kernel_rfl) ?_
        refine seg_act _ (by dsimp only [pick, at_]) _ (by dsimp only [pick, at_]) ?_
        repeat (go_big_quiet_step (fail))
        refine wpQuiet_nil ?_
        intro K2 h1 h2
        clear h2
        go_wp2_with (fail)
        refine h1 _ _ (Below.refl _ _).drew ?_
        clear h1
        refine seg_act _ (by dsimp only [pick, at_]) _ (by dsimp only [pick, at_]) ?_
        repeat (go_big_quiet_step (fail))
        refine wpQuiet_nil ?_
        intro K3 h1 h2
        clear h2
        go_wp2_with (fail)
        refine h1 _ _ (Below.refl _ _).drew ?_
        clear h1
        refine seg_end _ (by dsimp only [pick, at_]) ?_
        repeat (go_big_quiet_step (fail))
        refine wpQuiet_nil ?_
        refine NoPanic.normal ?_
        clear q0 q1 q2 q3
        go_wp2_with (fail)
        go_roundg (nl - (i + 1))
        case measure => omega
        case rel => exact ⟨i + 1, by go_num, by omega, by omega, ⟨_, _, rfl, rfl, HSame.out⟩, HB2.out.drew, HV2.out, HG2.out⟩
    · obtain rfl : i = nl := by omega
      have hltz : ¬ (i : Int) < (i : Int) := by omega
      have HF2 := Lib.hid (show givers nodes ss node = (best, gift) by rw [← HF.out, fold_all _ _ HNL.out]; rfl)
      go_wp2_with (fail)
      (try simp only [Exit.inBlock, Exit.then])
      refine bodyPost_ret (results_tmp2 rfl _ _ _) rfl ?_
      rw [HF2.out]
      exact ⟨rfl, HB.out⟩
end Go.Proofs.Ytnpkhkhchimcnaa.pm
