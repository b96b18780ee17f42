/-
  Messages: law13's same.
-/
import Derived.Test.YthkcnakodlbdpaaWrTh
namespace Go.Proofs.Ythkcnakodlbdpaa.wr
open Go.ChangeShapes Go.WideShapes Go.ChangeAt Go.RowKit plain words ord mem uvs uvc cl

set_option maxHeartbeats 4000000 in
set_option maxRecDepth 100000 in
theorem same_w (w : World) (B : Nat) (a b : MV) (ha : MVok w B a) (hb : MVok w B b) (hm : b.m = a.m) (hB : B ≤ w.heap.size) (hF : Few a.m) :
    Calls Try.prog 12 #[a.val, .agg b.cells] w fun e w' => e = .returned (.bool true) ∧ Below w.heap.size w w' := by
  obtain ⟨N, hN⟩ : ∃ N, w.heap.size = N := ⟨_, rfl⟩
  obtain ⟨wa, hwa⟩ : ∃ wa, (w.alloc (.cells a.cells 31)).alloc (.cells b.cells 37) = wa := ⟨_, rfl⟩
  have hba : Below w.heap.size w wa := by rw [← hwa]; exact ((Below.refl _ _).alloc (Nat.le_refl _) _).alloc (by simp) _
  have gp : V wa N a.cells 31 := by rw [← hwa, ← hN]; exact alloc_old _ (alloc_new _ _)
  have gq : V wa (N + 1) b.cells 37 := by
    rw [← hwa, ← hN]
    have := alloc_new (w.alloc (.cells a.cells 31)) (.cells b.cells 37)
    rwa [World.size_alloc] at this
  have hpw := blk_lt gp
  have hqw := blk_lt gq
  have HBA := Lib.hid hba
  have HP1 := Lib.hid (ha.p.below hba hB)
  have HP2 := Lib.hid (show Ls PE wa B b.pA a.m.pts.length a.m.pts from hm ▸ hb.p.below hba hB)
  have HT1 := Lib.hid (ha.t.below hba hB)
  have HT2 := Lib.hid (show Ls ME wa B b.mA a.m.mts.length a.m.mts from hm ▸ hb.t.below hba hB)
  have hBN : B ≤ wa.heap.size := by have := hba.size; omega
  have hsa := hba.size
  obtain ⟨c0, c1, c2, c3, c4, c5, c6, c7, c8, c9, c10, c11, c12, c13, c14, c15⟩ := mv_all gp
  obtain ⟨d0, d1, d2, d3, d4, d5, d6, d7, d8, d9, d10, d11, d12, d13, d14, d15⟩ := mv_all gq
  rw [hm] at d0 d1 d2 d3 d4 d5 d6 d7 d8 d9 d10 d11 d12 d13 d14 d15
  obtain ⟨ar, har⟩ : ∃ ar, a.cells = ar := ⟨_, rfl⟩
  obtain ⟨br, hbr⟩ : ∃ br, b.cells = br := ⟨_, rfl⟩
  unfold MV.val
  rw [har, hbr] at hwa ⊢
  have hfp := hF.2.1
  have hft := hF.2.2.1
  have hcp := ha.pcap
  have hct := ha.tcap
  have hcp2 := hb.pcap
  have hct2 := hb.tcap
  have hids := hF.2.2.2
  have HIDS := Lib.hid hids
  rw [hm] at hcp2 hct2
  have HVV := Lib.hid (fun (u : World) (hu : Below wa.heap.size wa u) => (show (u.cell? ⟨N, 14, none⟩ = some (.slice a.pA a.m.pts.length a.pc) ∧ u.cell? ⟨N, 15, none⟩ = some (.slice a.mA a.m.mts.length a.mc)) ∧ (u.cell? ⟨N + 1, 14, none⟩ = some (.slice b.pA a.m.pts.length b.pc) ∧ u.cell? ⟨N + 1, 15, none⟩ = some (.slice b.mA a.m.mts.length b.mc)) from by
    obtain ⟨_, h1, h2⟩ := mv_cells (blk_below hu gp hpw)
    obtain ⟨_, h3, h4⟩ := mv_cells (blk_below hu gq hqw)
    rw [hm] at h3 h4
    exact ⟨⟨h1, h2⟩, ⟨h3, h4⟩⟩))
  clear hba gp gq har hbr ha hb hm hF hids
  obtain ⟨⟨kind, seq, epoch, space, shard, id, block, rf, rt, ⟨p1, p2, p3⟩, err, more, pts, mts⟩, pA, pc, mA, mc⟩ := a
  obtain ⟨m2, pA2, pc2, mA2, mc2⟩ := b
  simp only at c0 d0 c1 d1 c2 d2 c3 d3 c4 d4 c5 d5 c6 d6 c7 d7 c8 d8 c9 d9 c10 d10 c11 d11 c12 d12 c13 d13 c14 d14 c15 d15 HP1 HP2 HT1 HT2 hfp hft hcp hct hcp2 hct2 HIDS HVV
  obtain ⟨n, hn⟩ : ∃ n, pts.length = n := ⟨_, rfl⟩
  obtain ⟨k, hk⟩ : ∃ k, mts.length = k := ⟨_, rfl⟩
  rw [hn] at HVV
  rw [hk] at HVV
  rw [hn] at c14 d14 HP1 HP2 hfp hcp hcp2
  rw [hk] at c15 d15 HT1 HT2 hft hct hct2
  obtain ⟨hcp, hcp'⟩ := hcp
  obtain ⟨hct, hct'⟩ := hct
  obtain ⟨hcp2, hcp2'⟩ := hcp2
  obtain ⟨hct2, hct2'⟩ := hct2
  clear hn hk
  obtain ⟨S, hS⟩ : ∃ S, cl.tx id = S := ⟨_, rfl⟩
  rw [hS] at c5 d5
  clear hS
  go_enter Try.func12, Try.ntmps12
  go_wp2_with (fail)
  go_loopg [5] n (fun gg s5 wr => ∃ (i : Nat), s5 = .int .i64 i ∧ i ≤ n ∧ n - i ≤ gg ∧ Aside (Below wa.heap.size wa wr))
  case atStart => exact ⟨0, rfl, Nat.zero_le _, by omega, Below.refl _ _⟩
  case round =>
    obtain ⟨i, rfl, hi, hg, W⟩ := hrel
    obtain ⟨wv, rfl⟩ : ∃ wv, wv = wr := ⟨wr, rfl⟩
    have hsv := W.out.size
    obtain ⟨c, d⟩ := HVV.out wv W.out
    obtain ⟨ha14, ha15⟩ := c
    obtain ⟨hb14, hb15⟩ := d
    have hpv : N < wv.heap.size := by omega
    have hqv : N + 1 < wv.heap.size := by omega
    by_cases hlt : i < n
    · obtain ⟨x, hx⟩ := HP1.out.get hlt
      obtain ⟨ba, oa, eA, _, xa0, xa1, xa2⟩ := pt_cells (HP1.out.below W.out hBN) hx
      obtain ⟨bb, ob, eB, _, yb0, yb1, yb2⟩ := pt_cells (HP2.out.below W.out hBN) hx
      subst eA eB
      have i1 : (i : Int) < (n : Int) := by omega
      have i0 : (0 : Int) ≤ (i : Int) := by omega
      have hbal : ba < wv.heap.size := World.block_lt_of_cell? wv _ xa0
      have hbbl : bb < wv.heap.size := World.block_lt_of_cell? wv _ yb0
      have p0 := Wb.at_ xa0
      have q0 := Wb.at_ yb0
      have p1 := Wb.at_ xa1
      have q1 := Wb.at_ yb1
      have p2 := Wb.at_ xa2
      have q2 := Wb.at_ yb2
      have r0 := Wb.at_ ha14
      have r1 := Wb.at_ hb14
      clear xa0 xa1 xa2 yb0 yb1 yb2 hx
      go_wp2_with fail
      refine wp_region_plan [([0, 1, 2, 3, 4, 5, 6, 7, 8, 9, 10], none)] (by kernel_rfl) (by kernel_rfl) ?_
      refine seg_end _ (by dsimp only [pick, ord.at_]) ?_
      repeat (go_big_quiet_step (fail))
      refine wpQuiet_nil ?_
      refine NoPanic.normal ?_
      clear p0 q0 p1 q1 p2 q2 r0 r1
      go_wp2_with fail
      go_roundg (n - (i + 1))
      case measure => omega
      case rel => exact ⟨i + 1, by go_num, by omega, by omega, W.out.drew⟩
    · have i1 : ¬ (i : Int) < (n : Int) := by omega
      have W1 := Lib.hid W.out
      go_wp2_with fail
      clear i1 hlt hi hg ha14 ha15 hb14 hb15 hpv hqv hsv
      go_loopg [6] k (fun gg s6 wr => ∃ (i : Nat), s6 = .int .i64 i ∧ i ≤ k ∧ k - i ≤ gg ∧ Aside (Below wa.heap.size wa wr))
      case atStart => exact ⟨0, rfl, Nat.zero_le _, by omega, W1.out⟩
      case round =>
        obtain ⟨j, rfl, hi, hg, W⟩ := hrel
        obtain ⟨wx, rfl⟩ : ∃ wx, wx = wr := ⟨wr, rfl⟩
        have hsv := W.out.size
        obtain ⟨c, d⟩ := HVV.out wx W.out
        obtain ⟨ha14, ha15⟩ := c
        obtain ⟨hb14, hb15⟩ := d
        have hpv : N < wx.heap.size := by omega
        have hqv : N + 1 < wx.heap.size := by omega
        by_cases hlt : j < k
        · obtain ⟨x, hx⟩ := HT1.out.get hlt
          obtain ⟨ba, oa, eA, _, xa0, xa1, xa2, xa3⟩ := mt_cells (HT1.out.below W.out hBN) hx
          obtain ⟨bb, ob, eB, _, yb0, yb1, yb2, yb3⟩ := mt_cells (HT2.out.below W.out hBN) hx
          subst eA eB
          have i1 : (j : Int) < (k : Int) := by omega
          have i0 : (0 : Int) ≤ (j : Int) := by omega
          have hbal : ba < wx.heap.size := World.block_lt_of_cell? wx _ xa0
          have hbbl : bb < wx.heap.size := World.block_lt_of_cell? wx _ yb0
          obtain ⟨X, hX⟩ : ∃ X, cl.tx x.1 = X := ⟨_, rfl⟩
          rw [hX] at xa0 yb0
          obtain ⟨x1, x2, x3, x4⟩ := x
          simp only at xa1 xa2 xa3 yb1 yb2 yb3
          clear hX
          have p0 := Wb.at_ xa0
          have q0 := Wb.at_ yb0
          have p1 := Wb.at_ xa1
          have q1 := Wb.at_ yb1
          have p2 := Wb.at_ xa2
          have q2 := Wb.at_ yb2
          have p3 := Wb.at_ xa3
          have q3 := Wb.at_ yb3
          have r0 := Wb.at_ ha15
          have r1 := Wb.at_ hb15
          clear xa0 xa1 xa2 xa3 yb0 yb1 yb2 yb3 hx
          go_wp2_with fail
          refine wp_region_plan [([0, 1, 2, 3, 4, 5, 6, 7, 8, 9, 10], none)] (by kernel_rfl) (by kernel_rfl) ?_
          refine seg_end _ (by dsimp only [pick, ord.at_]) ?_
          repeat (go_big_quiet_step (fail))
          refine wpQuiet_nil ?_
          refine NoPanic.normal ?_
          clear p0 q0 p1 q1 p2 q2 p3 q3 r0 r1
          go_wp2_with fail
          go_roundg (k - (j + 1))
          case measure => omega
          case rel => exact ⟨j + 1, by go_num, by omega, by omega, W.out.drew⟩
        · have i1 : ¬ (j : Int) < (k : Int) := by omega
          go_wp2_with fail
          go_ret
          exact ⟨rfl, hN ▸ HBA.out.trans (W.out.mono hsa)⟩
end Go.Proofs.Ythkcnakodlbdpaa.wr
