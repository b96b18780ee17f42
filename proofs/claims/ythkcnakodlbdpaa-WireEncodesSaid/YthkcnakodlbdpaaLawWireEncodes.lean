/-
  The walk of the law WireEncodes: for all inputs it returns true.
-/
import Derived.Test.YthkcnakodlbdpaaWrSm
import Derived.Test.YthkcnakodlbdpaaWrW
namespace Go.Proofs.Ythkcnakodlbdpaa.lawWireEncodes
open Go.ChangeShapes Go.WideShapes Go.ChangeAt Go.RowKit plain words ord mem uvs uvc cl wr

/-- the message whose lists lie elsewhere -/
theorem mvok_of {w w' : World} {B : Nat} {a : MV} (h : MVok w B a) {A : Option Addr} {c : Nat} {A2 : Option Addr} {c2 : Nat} {B2 : Nat} (hp : Ls PE w' B2 A a.m.pts.length a.m.pts) (hpn : A = none → c = 0) (hpc : a.m.pts.length ≤ c ∧ c ≤ 9223372036854775807) (ht : Ls ME w' B2 A2 a.m.mts.length a.m.mts) (htn : A2 = none → c2 = 0) (htc : a.m.mts.length ≤ c2 ∧ c2 ≤ 9223372036854775807) : MVok w' B2 ⟨a.m, A, c, A2, c2⟩ :=
  ⟨hp, hpn, hpc, h.pok, ht, htn, htc, h.tok, h.pt, h.few⟩
theorem _root_.Go.Proofs.Ythkcnakodlbdpaa.wr.MVok.more {w : World} {B C : Nat} {a : MV} (h : MVok w B a) (hC : B ≤ C) : MVok w C a := ⟨h.p.more hC, h.pn, h.pcap, h.pok, h.t.more hC, h.tn, h.tcap, h.tok, h.pt, h.few⟩
theorem mok_of {w : World} {B : Nat} {a : MV} (h : MVok w B a) (hF : Few a.m) : MOk w B a.m a.pA a.mA a.pc a.mc :=
  ⟨⟨h.p, h.pn, h.pok⟩, ⟨h.t, h.tn, fun x hx => ⟨by have := hF.2.2.2 x hx; omega, h.tok x hx⟩⟩⟩
set_option maxHeartbeats 4000000 in
set_option maxRecDepth 100000 in
theorem walk_ok (a : MV) (w : World) (h0 : MVok w w.heap.size a) :
    Calls Try.prog 4 #[a.val] w fun e w' => e = .returned (.bool true) ∧ Below w.heap.size w w' := by
  obtain ⟨i0, hi, hz0, hz1, hz2⟩ := info_of mg.infoP
  obtain ⟨j0, hj, hy0, hy1, hy2⟩ := info_of infoM
  obtain ⟨N, hN⟩ : ∃ N, w.heap.size = N := ⟨_, rfl⟩
  rw [hN] at h0
  obtain ⟨w1, hw1⟩ : ∃ w1, w.alloc (.cells a.cells 31) = w1 := ⟨_, rfl⟩
  have hb1 : Below N w w1 := by rw [← hw1, ← hN]; exact below_al _ _
  have g1 : V w1 N a.cells 31 := by rw [← hw1, ← hN]; exact alloc_new _ _
  have hl1 : N < w1.heap.size := blk_lt g1
  have HB1 := Lib.hid hb1
  have HG1 := Lib.hid g1
  have HOK := Lib.hid (fun (u : World) (hu : Below w1.heap.size w1 u) => ((h0.below hb1 (Nat.le_refl _)).below hu (by omega)))
  have HVC := Lib.hid (fun (u : World) (hu : Below w1.heap.size w1 u) => mv_all (blk_below hu g1 hl1))
  have HHV := Lib.hid (heavy_w w1 N a (HOK.out w1 (Below.refl _ _)) (by omega))
  have HA0 := Lib.hid h0
  obtain ⟨c0, c1, c2, c3, c4, c5, c6, c7, c8, c9, c10, c11, c12, c13, c14, c15⟩ := mv_all g1
  obtain ⟨ar, har⟩ : ∃ ar, a.val = Value.agg ar ∧ w.alloc (.cells ar 31) = w1 := ⟨_, rfl, hw1⟩
  rw [har.1]
  have hw1' := har.2
  clear h0 hw1 hb1 g1 har
  go_enter Try.func4, Try.ntmps4
  go_wp2_with (fail)
  refine HHV.out.mono ?_
  rintro e w2 ⟨⟨hv, rfl, hF⟩, hb2⟩
  have hs2 := hb2.size
  obtain ⟨N2, hN2⟩ : ∃ N2, w2.heap.size = N2 := ⟨_, rfl⟩
  have HB2 := Lib.hid hb2
  clear hb2 c0 c1 c2 c3 c4 c5 c6 c7 c8 c9 c10 c11 c12 c13 c14 c15 hw1'
  cases hv with
  | true =>
    have HBW := Lib.hid (HB1.out.trans (HB2.out.mono (by omega)))
    clear hF
    go_wp2_with (fail)
    go_ret
    exact ⟨rfl, hN ▸ HBW.out⟩
  | false =>
    have HF := Lib.hid (hF rfl)
    clear hF
    obtain ⟨c0, c1, c2, c3, c4, c5, c6, c7, c8, c9, c10, c11, c12, c13, c14, c15⟩ := HVC.out w2 HB2.out
    obtain ⟨w3, hw3⟩ : ∃ w3, w2.alloc (.cells #[.int .i64 0, .int .i64 0, .int .i64 0, .int .i64 0, .int .i64 0, .string ⟨#[]⟩, .int .i64 0, .int .i64 0, .int .i64 0, .int .i64 0, .int .u64 0, .int .u64 0, .int .i64 0, .bool false, .slice none 0 0, .slice none 0 0] 31) = w3 := ⟨_, rfl⟩
    have hb3 : Below N2 w2 w3 := by rw [← hw3, ← hN2]; exact below_al _ _
    have g3 : w3.heap[N2]? = some (.cells #[.int .i64 0, .int .i64 0, .int .i64 0, .int .i64 0, .int .i64 0, .string ⟨#[]⟩, .int .i64 0, .int .i64 0, .int .i64 0, .int .i64 0, .int .u64 0, .int .u64 0, .int .i64 0, .bool false, .slice none 0 0, .slice none 0 0] 31 (0, 0)) := by rw [← hw3, ← hN2]; exact alloc_new _ _
    have hl3 := blk_lt g3
    have d0 : w3.cell? ⟨N2, 0, none⟩ = some (.int .i64 0) := by rw [cell_of_row _ _ _ _ _ _ g3]; rfl
    have f0 := frozen_of_row w3 N2 0 _ _ g3
    have d1 : w3.cell? ⟨N2, 1, none⟩ = some (.int .i64 0) := by rw [cell_of_row _ _ _ _ _ _ g3]; rfl
    have f1 := frozen_of_row w3 N2 1 _ _ g3
    have d2 : w3.cell? ⟨N2, 2, none⟩ = some (.int .i64 0) := by rw [cell_of_row _ _ _ _ _ _ g3]; rfl
    have f2 := frozen_of_row w3 N2 2 _ _ g3
    have d3 : w3.cell? ⟨N2, 3, none⟩ = some (.int .i64 0) := by rw [cell_of_row _ _ _ _ _ _ g3]; rfl
    have f3 := frozen_of_row w3 N2 3 _ _ g3
    have d4 : w3.cell? ⟨N2, 4, none⟩ = some (.int .i64 0) := by rw [cell_of_row _ _ _ _ _ _ g3]; rfl
    have f4 := frozen_of_row w3 N2 4 _ _ g3
    have d5 : w3.cell? ⟨N2, 5, none⟩ = some (.string ⟨#[]⟩) := by rw [cell_of_row _ _ _ _ _ _ g3]; rfl
    have f5 := frozen_of_row w3 N2 5 _ _ g3
    have d6 : w3.cell? ⟨N2, 6, none⟩ = some (.int .i64 0) := by rw [cell_of_row _ _ _ _ _ _ g3]; rfl
    have f6 := frozen_of_row w3 N2 6 _ _ g3
    have d7 : w3.cell? ⟨N2, 7, none⟩ = some (.int .i64 0) := by rw [cell_of_row _ _ _ _ _ _ g3]; rfl
    have f7 := frozen_of_row w3 N2 7 _ _ g3
    have d8 : w3.cell? ⟨N2, 8, none⟩ = some (.int .i64 0) := by rw [cell_of_row _ _ _ _ _ _ g3]; rfl
    have f8 := frozen_of_row w3 N2 8 _ _ g3
    have d9 : w3.cell? ⟨N2, 9, none⟩ = some (.int .i64 0) := by rw [cell_of_row _ _ _ _ _ _ g3]; rfl
    have f9 := frozen_of_row w3 N2 9 _ _ g3
    have d10 : w3.cell? ⟨N2, 10, none⟩ = some (.int .u64 0) := by rw [cell_of_row _ _ _ _ _ _ g3]; rfl
    have f10 := frozen_of_row w3 N2 10 _ _ g3
    have d11 : w3.cell? ⟨N2, 11, none⟩ = some (.int .u64 0) := by rw [cell_of_row _ _ _ _ _ _ g3]; rfl
    have f11 := frozen_of_row w3 N2 11 _ _ g3
    have d12 : w3.cell? ⟨N2, 12, none⟩ = some (.int .i64 0) := by rw [cell_of_row _ _ _ _ _ _ g3]; rfl
    have f12 := frozen_of_row w3 N2 12 _ _ g3
    have d13 : w3.cell? ⟨N2, 13, none⟩ = some (.bool false) := by rw [cell_of_row _ _ _ _ _ _ g3]; rfl
    have f13 := frozen_of_row w3 N2 13 _ _ g3
    have d14 : w3.cell? ⟨N2, 14, none⟩ = some (.slice none 0 0) := by rw [cell_of_row _ _ _ _ _ _ g3]; rfl
    have f14 := frozen_of_row w3 N2 14 _ _ g3
    have d15 : w3.cell? ⟨N2, 15, none⟩ = some (.slice none 0 0) := by rw [cell_of_row _ _ _ _ _ _ g3]; rfl
    have f15 := frozen_of_row w3 N2 15 _ _ g3
    obtain ⟨w4, hw4⟩ : ∃ w4, ((((((((((((((((w3.setCell ⟨N2, 0, none⟩ (.int .i64 a.m.kind)).setCell ⟨N2, 1, none⟩ (.int .i64 a.m.seq)).setCell ⟨N2, 2, none⟩ (.int .i64 a.m.epoch)).setCell ⟨N2, 3, none⟩ (.int .i64 a.m.space)).setCell ⟨N2, 4, none⟩ (.int .i64 a.m.shard)).setCell ⟨N2, 5, none⟩ (.string (cl.tx a.m.id))).setCell ⟨N2, 6, none⟩ (.int .i64 a.m.block)).setCell ⟨N2, 7, none⟩ (.int .i64 a.m.rf)).setCell ⟨N2, 8, none⟩ (.int .i64 a.m.rt)).setCell ⟨N2, 9, none⟩ (.int .i64 a.m.p.1)).setCell ⟨N2, 10, none⟩ (.int .u64 a.m.p.2.1)).setCell ⟨N2, 11, none⟩ (.int .u64 a.m.p.2.2)).setCell ⟨N2, 12, none⟩ (.int .i64 a.m.err)).setCell ⟨N2, 13, none⟩ (.bool a.m.more)).setCell ⟨N2, 14, none⟩ (.slice a.pA a.m.pts.length a.pc)).setCell ⟨N2, 15, none⟩ (.slice a.mA a.m.mts.length a.mc)) = w4 := ⟨_, rfl⟩
    have g4 : w4.heap[N2]? = some (.cells a.cells 31 (0, 0)) := by rw [← hw4]; exact set16 g3 _ _ _ _ _ _ _ _ _ _ _ _ _ _ _ _
    have hb4 : Below N2 w2 w4 := by rw [← hw4]; exact ((((((((((((((((hb3.setCell (p := ⟨N2, 0, none⟩) (Nat.le_refl _) _).setCell (p := ⟨N2, 1, none⟩) (Nat.le_refl _) _).setCell (p := ⟨N2, 2, none⟩) (Nat.le_refl _) _).setCell (p := ⟨N2, 3, none⟩) (Nat.le_refl _) _).setCell (p := ⟨N2, 4, none⟩) (Nat.le_refl _) _).setCell (p := ⟨N2, 5, none⟩) (Nat.le_refl _) _).setCell (p := ⟨N2, 6, none⟩) (Nat.le_refl _) _).setCell (p := ⟨N2, 7, none⟩) (Nat.le_refl _) _).setCell (p := ⟨N2, 8, none⟩) (Nat.le_refl _) _).setCell (p := ⟨N2, 9, none⟩) (Nat.le_refl _) _).setCell (p := ⟨N2, 10, none⟩) (Nat.le_refl _) _).setCell (p := ⟨N2, 11, none⟩) (Nat.le_refl _) _).setCell (p := ⟨N2, 12, none⟩) (Nat.le_refl _) _).setCell (p := ⟨N2, 13, none⟩) (Nat.le_refl _) _).setCell (p := ⟨N2, 14, none⟩) (Nat.le_refl _) _).setCell (p := ⟨N2, 15, none⟩) (Nat.le_refl _) _)
    obtain ⟨w5, hw5⟩ : ∃ w5, w4.setCell ⟨N2, 14, none⟩ (.slice none 0 0) = w5 := ⟨_, rfl⟩
    have g5 : w5.heap[N2]? = some (.cells (a.cells.setIfInBounds 14 (.slice none 0 0)) 31 (0, 0)) := by rw [← hw5, heap_setCell_same _ _ _ _ _ _ g4]
    have hb5 : Below N2 w2 w5 := by rw [← hw5]; exact hb4.setCell (p := ⟨N2, 14, none⟩) (Nat.le_refl _) _
    have q4 : w4.cell? ⟨N2, 14, none⟩ = some (.slice a.pA a.m.pts.length a.pc) := by rw [cell_of_row _ _ _ _ _ _ g4]; rfl
    have qf4 := frozen_of_row w4 N2 14 _ _ g4
    have ql4 := blk_lt g4
    have q5 : w5.cell? ⟨N2, 14, none⟩ = some (.slice none 0 0) := by rw [cell_of_row _ _ _ _ _ _ g5]; rfl
    have ql5 := blk_lt g5
    have hb15 : Below w1.heap.size w1 w5 := HB2.out.trans (hb5.mono (by omega))
    have q5' : w5.cell? ⟨N, 14, none⟩ = some (.slice a.pA a.m.pts.length a.pc) := by
      have := (HVC.out w5 hb15)
      exact this.2.2.2.2.2.2.2.2.2.2.2.2.2.2.1
    have ql5' : N < w5.heap.size := by have := hb15.size; omega
    have hs5 := hb5.size
    have HP5 := Lib.hid (HOK.out w5 hb15).p
    have hpn := (HOK.out w5 hb15).pn
    have htn := (HOK.out w5 hb15).tn
    have hfp := HF.out.2.1
    have hft := HF.out.2.2.1
    have HB5 := Lib.hid hb5
    clear g4 hb4 hb3 g3 hb15
    go_wp2_with (first | (at_builtin; (refine wpList_append_ow PE (P := Try.prog) Try.underlying28 hi hz0 hz1 hz2 rfl (by decide) rfl (.tmp 13) (.tmp 15) rfl N2 (.slice none 0 0) 0 [] rfl (Ow.nil _ _) w1.heap.size a.pA a.m.pts.length a.pc hpn a.m.pts rfl (HP5.out.more (by omega)) (by omega) (by omega) ?_; intro A6 c6 w6 how6 hgr6 hn6 hc6 hm6 hs6; rw [List.nil_append, Nat.zero_add] at how6; rw [Nat.zero_add] at hc6; simp only [Nat.zero_add]; have gn6 := (hgr6.block N2 (by omega) (fun e => by cases e)).trans g5; have q6 : w6.cell? ⟨N2, 14, none⟩ = some (.slice none 0 0) := (by rw [cell_of_row _ _ _ _ _ _ gn6]; rfl); have qf6 := frozen_of_row w6 N2 14 _ _ gn6; have ql6 := blk_lt gn6; obtain ⟨w7, hw7⟩ : ∃ w7, w6.setCell ⟨N2, 14, none⟩ (.slice A6 a.m.pts.length c6) = w7 := ⟨_, rfl⟩; have g7 : w7.heap[N2]? = some (.cells ((a.cells.setIfInBounds 14 (.slice none 0 0)).setIfInBounds 14 (.slice A6 a.m.pts.length c6)) 31 (0, 0)) := (by rw [← hw7, heap_setCell_same _ _ _ _ _ _ gn6]); have hb6 : Below N2 w2 w6 := HB5.out.trans (((Chg.of_below (Below.refl w5.heap.size w5)).grown hgr6 (fun k hk _ => by cases hk)).to_below.mono (by omega)); have hb7 : Below N2 w2 w7 := (by rw [← hw7]; exact hb6.setCell (p := ⟨N2, 14, none⟩) (Nat.le_refl _) _); obtain ⟨w8, hw8⟩ : ∃ w8, w7.setCell ⟨N2, 15, none⟩ (.slice none 0 0) = w8 := ⟨_, rfl⟩; have g8 : w8.heap[N2]? = some (.cells (((a.cells.setIfInBounds 14 (.slice none 0 0)).setIfInBounds 14 (.slice A6 a.m.pts.length c6)).setIfInBounds 15 (.slice none 0 0)) 31 (0, 0)) := (by rw [← hw8, heap_setCell_same _ _ _ _ _ _ g7]); have hb8 : Below N2 w2 w8 := (by rw [← hw8]; exact hb7.setCell (p := ⟨N2, 15, none⟩) (Nat.le_refl _) _); have q7 : w7.cell? ⟨N2, 15, none⟩ = some (.slice a.mA a.m.mts.length a.mc) := (by rw [cell_of_row _ _ _ _ _ _ g7]; rfl); have qf7 := frozen_of_row w7 N2 15 _ _ g7; have ql7 := blk_lt g7; have q8 : w8.cell? ⟨N2, 15, none⟩ = some (.slice none 0 0) := (by rw [cell_of_row _ _ _ _ _ _ g8]; rfl); have ql8 := blk_lt g8; have hb18 : Below w1.heap.size w1 w8 := HB2.out.trans (hb8.mono (by omega)); have q8' : w8.cell? ⟨N, 15, none⟩ = some (.slice a.mA a.m.mts.length a.mc) := (HVC.out w8 hb18).2.2.2.2.2.2.2.2.2.2.2.2.2.2.2; have hs8 := hb8.size; have hs18 := hb18.size; have ql8' : N < w8.heap.size := (by omega); have HT8 := Lib.hid (HOK.out w8 hb18).t; have HOW6 := Lib.hid how6; have HGR6 := Lib.hid hgr6; have HB8 := Lib.hid hb8)) | (at_builtin; (refine wpList_append_ow ME (P := Try.prog) Try.underlying29 hj hy0 hy1 hy2 rfl (by decide) rfl (.tmp 20) (.tmp 22) rfl N2 (.slice none 0 0) 0 [] rfl (Ow.nil _ _) w1.heap.size a.mA a.m.mts.length a.mc htn a.m.mts rfl (HT8.out.more (by omega)) (by omega) (by omega) ?_; intro A9 c9 w9 how9 hgr9 hn9 hc9 hm9 hs9; rw [List.nil_append, Nat.zero_add] at how9; rw [Nat.zero_add] at hc9; simp only [Nat.zero_add]; have gn9 := (hgr9.block N2 (by omega) (fun e => by cases e)).trans g8; have q9 : w9.cell? ⟨N2, 15, none⟩ = some (.slice none 0 0) := (by rw [cell_of_row _ _ _ _ _ _ gn9]; rfl); have qf9 := frozen_of_row w9 N2 15 _ _ gn9; have ql9 := blk_lt gn9; obtain ⟨w10, hw10⟩ : ∃ w10, w9.setCell ⟨N2, 15, none⟩ (.slice A9 a.m.mts.length c9) = w10 := ⟨_, rfl⟩; have g10 : w10.heap[N2]? = some (.cells ((((a.cells.setIfInBounds 14 (.slice none 0 0)).setIfInBounds 14 (.slice A6 a.m.pts.length c6)).setIfInBounds 15 (.slice none 0 0)).setIfInBounds 15 (.slice A9 a.m.mts.length c9)) 31 (0, 0)) := (by rw [← hw10, heap_setCell_same _ _ _ _ _ _ gn9]); have g10' : V w10 N2 (MV.cells ⟨a.m, A6, c6, A9, c9⟩) 31 := g10; obtain ⟨e0, e1, e2, e3, e4, e5, e6, e7, e8, e9, e10, e11, e12, e13, e14, e15⟩ := mv_all g10'; have ql10 := blk_lt g10)))
    have hch : Chg (fun k => k = N2) w6 w8 := by rw [← hw8, ← hw7]; exact ((Chg.refl (fun k => k = N2) w6).setCell (p := ⟨N2, 14, none⟩) (fun _ => rfl) _).setCell (p := ⟨N2, 15, none⟩) (fun _ => rfl) _
    have hch9 : Chg (fun k => k = N2) w9 w10 := by rw [← hw10]; exact (Chg.refl (fun k => k = N2) w9).setCell (p := ⟨N2, 15, none⟩) (fun _ => rfl) _
    have hch69 : Chg (fun k => k = N2) w6 w10 := (hch.grown hgr9 (fun k hk _ => by cases hk)).trans hch9 (fun _ _ e => e)
    have hop : Ow PE w10 N2 (.slice A6 a.m.pts.length c6) a.m.pts.length a.m.pts := HOW6.out.chg hch69 (fun g hg e => by
      subst e
      obtain ⟨cur, hcur⟩ := HOW6.out.type hg
      rw [gn6] at hcur; injection hcur with h1; injection h1 with _ h2; exact absurd h2 (by decide))
    have hom : Ow ME w10 N2 (.slice A9 a.m.mts.length c9) a.m.mts.length a.m.mts := how9.chg hch9 (fun g hg e => by
      subst e
      obtain ⟨cur, hcur⟩ := how9.type hg
      rw [gn9] at hcur; injection hcur with h1; injection h1 with _ h2; exact absurd h2 (by decide))
    have hb10 : Below N2 w2 w10 := by rw [← hw10]; exact (HB8.out.trans ((((Chg.of_below (Below.refl w8.heap.size w8)).grown hgr9 (fun k hk _ => by cases hk)).to_below).mono (by omega))).setCell (p := ⟨N2, 15, none⟩) (Nat.le_refl _) _
    have hb110 : Below w1.heap.size w1 w10 := HB2.out.trans (hb10.mono (by omega))
    have hbok : MVok w10 w10.heap.size ⟨a.m, A6, c6, A9, c9⟩ := mvok_of (HOK.out w10 hb110) hop.ls hn6 ⟨hc6, hm6⟩ hom.ls hn9 ⟨hc9, hm9⟩
    have HBOK := Lib.hid hbok
    have HB110 := Lib.hid hb110
    have HG10 := Lib.hid g10'
    have hs110 := hb110.size
    obtain ⟨⟨bs, er⟩, hen⟩ : ∃ en, encM a.m = en := ⟨_, rfl⟩
    have HEN := Lib.hid hen
    have hmk := mok_of hbok HF.out
    have HEX := Lib.hid (encode_x w10 a.m A6 A9 c6 c9 hmk (by have := HF.out.1; omega) (HA0.out.pt) (by omega) (by omega))
    rw [hen] at HEX
    clear hch hch9 hch69 hop hom hb10 hb110 hbok hen hmk hgr6 hgr9 how6 how9 gn6 gn9 q6 qf6 q9 qf9 g7 g8 q7 qf7 q8 q8' hb6 hb7 hb8 hb18 q4 qf4 q5 q5' g5 hb5 hw4 hw5 hw3 hw7 hw8 hw10 d0 d1 d2 d3 d4 d5 d6 d7 d8 d9 d10 d11 d12 d13 d14 d15 f0 f1 f2 f3 f4 f5 f6 f7 f8 f9 f10 f11 f12 f13 f14 f15 c0 c1 c2 c3 c4 c5 c7 c8 c10 c11 c12 c13 c14 c15
    as_aux_lemma =>
      refine HEX.out.mono ?_
      rintro e w11 ⟨Ax, cx, rfl, hox, hb11⟩
      have hs11 := hb11.size
      have hb111 : Below w1.heap.size w1 w11 := HB110.out.trans (hb11.mono (by omega))
      have HB11 := Lib.hid hb11
      have HOX := Lib.hid hox
      have HB111 := Lib.hid hb111
      obtain ⟨y0, y1, y2, y3, y4, y5, y6, y7, y8, y9, y10, y11, y12, y13, y14, y15⟩ := HVC.out w11 hb111
      have hl11 : N < w11.heap.size := by omega
      have HTH := Lib.hid (theirs_w w11 a)
      obtain ⟨nb, hnb⟩ : ∃ nb, bs.length = nb := ⟨_, rfl⟩
      simp only [hnb] at HOX
      simp only [hnb]
      have HNB := Lib.hid hnb
      clear hox hb11 hb111 e0 e1 e2 e3 e4 e5 e6 e7 e8 e9 e10 e11 e12 e13 e14 e15 hnb
      go_wp2_with (fail)
      refine HTH.out.mono ?_
      rintro e w12 ⟨rfl, hb12⟩
      have hs12 := hb12.size
      have hb112 : Below w1.heap.size w1 w12 := HB111.out.trans (hb12.mono (by omega))
      have hmk := mok_of ((HOK.out w12 hb112).more (show N ≤ w12.heap.size by omega)) HF.out
      have HEY := Lib.hid (encode_y w12 a.m a.pA a.mA a.pc a.mc hmk (by have := HF.out.1; omega) (HA0.out.pt))
      rw [HEN.out] at HEY
      have HB12 := Lib.hid (HB11.out.trans (hb12.mono (by omega)))
      have HB11' := Lib.hid hb12
      have HB112 := Lib.hid hb112
      clear hb12 hb112 hmk y0 y1 y2 y3 y4 y5 y6 y7 y8 y9 y10 y11 y12 y13 y14 y15
      go_wp2_with (fail)
      refine HEY.out.mono ?_
      rintro e w13 ⟨Ay, cy, rfl, hoy, hb13⟩
      simp only [HNB.out] at hoy ⊢
      have hs13 := hb13.size
      have hb113 : Below w1.heap.size w1 w13 := HB112.out.trans (hb13.mono (by omega))
      have hb1013 : Below w10.heap.size w10 w13 := HB12.out.trans (hb13.mono (by omega))
      obtain ⟨y0, y1, y2, y3, y4, y5, y6, y7, y8, y9, y10, y11, y12, y13, y14, y15⟩ := HVC.out w13 hb113
      obtain ⟨e0, e1, e2, e3, e4, e5, e6, e7, e8, e9, e10, e11, e12, e13, e14, e15⟩ := mv_all (blk_below hb1013 HG10.out ql10)
      obtain ⟨S, hS⟩ : ∃ S, (⟨bs.toArray⟩ : ByteArray) = S := ⟨_, rfl⟩
      have z1 : ∀ u : Wb w13, (convert 33 9 (.slice Ax nb cx)).run Try.prog u.w = .ok (.string S) u.w := fun u => hS ▸ conv_string ((own_bs HOX.out).below ((HB11'.out.trans (hb13.mono (by omega))).trans (u.h.mono (by omega))) (Nat.le_refl _)) 33 9 5 Try.underlying33 Try.underlying9 Try.underlying5
      have z2 : ∀ u : Wb w13, (convert 33 9 (.slice Ay nb cy)).run Try.prog u.w = .ok (.string S) u.w := fun u => hS ▸ conv_string ((own_bs hoy).below u.h (Nat.le_refl _)) 33 9 5 Try.underlying33 Try.underlying9 Try.underlying5
      clear hS
      have u0 := Wb.at_ y0
      have v0 := Wb.at_ e0
      have u1 := Wb.at_ y1
      have v1 := Wb.at_ e1
      have u2 := Wb.at_ y2
      have v2 := Wb.at_ e2
      have u3 := Wb.at_ y3
      have v3 := Wb.at_ e3
      have u4 := Wb.at_ y4
      have v4 := Wb.at_ e4
      have u5 := Wb.at_ y5
      have v5 := Wb.at_ e5
      have u6 := Wb.at_ y6
      have v6 := Wb.at_ e6
      have u7 := Wb.at_ y7
      have v7 := Wb.at_ e7
      have u8 := Wb.at_ y8
      have v8 := Wb.at_ e8
      have u9 := Wb.at_ y9
      have v9 := Wb.at_ e9
      have u10 := Wb.at_ y10
      have v10 := Wb.at_ e10
      have u11 := Wb.at_ y11
      have v11 := Wb.at_ e11
      have u12 := Wb.at_ y12
      have v12 := Wb.at_ e12
      have u13 := Wb.at_ y13
      have v13 := Wb.at_ e13
      have u14 := Wb.at_ y14
      have v14 := Wb.at_ e14
      have u15 := Wb.at_ y15
      have v15 := Wb.at_ e15
      have HB113 := Lib.hid hb113
      have HB1013 := Lib.hid hb1013
      have hl13 : N < w13.heap.size := by omega
      have hl13' : N2 < w13.heap.size := by omega
      clear y0 y1 y2 y3 y4 y5 y6 y7 y8 y9 y10 y11 y12 y13 y14 y15 e0 e1 e2 e3 e4 e5 e6 e7 e8 e9 e10 e11 e12 e13 e14 e15 hoy hb13 hb113 hb1013
      go_wp2_with (fail)
      as_aux_lemma =>
        refine wp_region_plan [([0, 1, 2, 3, 4, 5, 6, 7, 8, 9, 10, 11, 12], some (13, false)), ([], some (14, false)), ([15, 16], none)] (by kernel_rfl) (by kernel_rfl) ?_
        refine seg_act _ (by dsimp only [pick, ord.at_]) _ (by dsimp only [pick, ord.at_]) ?_
        repeat (go_big_quiet_step (fail))
        refine wpQuiet_nil ?_
        intro K1 k1 k2
        clear k1 u0 u1 u2 u3 u4 u5 u6 u7 u8 u9 u10 u11 u12 u13 u14 u15 v0 v1 v2 v3 v4 v5 v6 v7 v8 v9 v10 v11 v12 v13 v14 v15 z1 z2
        go_wp2_with (fail)
        refine (theirs_w w13.drew a).mono ?_
        rintro e w14 ⟨rfl, hb14⟩
        have hb14 : Below w13.heap.size w13 w14 := (Below.refl _ _).drew.trans hb14
        have hs14 := hb14.size
        have hb1014 : Below w10.heap.size w10 w14 := HB1013.out.trans (hb14.mono (by omega))
        have hb114 : Below w1.heap.size w1 w14 := HB113.out.trans (hb14.mono (by omega))
        have HSM := Lib.hid (same_w w14 w14.heap.size ⟨a.m, A6, c6, A9, c9⟩ a ((HBOK.out.below hb1014 (Nat.le_refl _)).more (by omega)) ((HOK.out w14 hb114).more (by omega)) rfl (Nat.le_refl _) HF.out)
        have HB14 := Lib.hid hb14
        have HB114 := Lib.hid hb114
        clear hb14 hb1014 hb114
        go_wp2_with (fail)
        refine k2 _ _ HB14.out ?_
        clear k2
        refine seg_act _ (by dsimp only [pick, ord.at_]) _ (by dsimp only [pick, ord.at_]) ?_
        repeat (go_big_quiet_step (fail))
        refine wpQuiet_nil ?_
        intro K2 k3 k4
        clear k3
        go_wp2_with (fail)
        refine HSM.out.mono ?_
        rintro e w15 ⟨rfl, hb15⟩
        have HB115 := Lib.hid (HB1.out.trans ((HB114.out.trans (hb15.mono (by have := HB114.out.size; omega))).mono (by omega)))
        have HB15 := Lib.hid hb15
        clear hb15
        go_wp2_with (fail)
        refine k4 _ _ HB15.out ?_
        clear k4
        refine seg_end _ (by dsimp only [pick, ord.at_]) ?_
        repeat (go_big_quiet_step (fail))
        refine wpQuiet_nil ?_
        refine NoPanic.normal ?_
        go_wp2_with (fail)
        go_ret
        exact ⟨rfl, hN ▸ HB115.out⟩
end Go.Proofs.Ythkcnakodlbdpaa.lawWireEncodes
