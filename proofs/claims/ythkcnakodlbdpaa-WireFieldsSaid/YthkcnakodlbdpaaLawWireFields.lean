/-
  The walk of the law WireFields: for all inputs it returns true.
-/
import Derived.Test.YthkcnakodlbdpaaWrV
import Derived.Test.YthkcnakodlbdpaaWrFd
import Derived.Test.YthkcnakodlbdpaaFree
namespace Go.Proofs.Ythkcnakodlbdpaa.lawWireFields
open Go.ChangeShapes Go.WideShapes Go.ChangeAt Go.RowKit plain words ord mem uvs uvc cl wr

theorem mvok_more {w : World} {B C : Nat} {a : MV} (h : MVok w B a) (hC : B ≤ C) : MVok w C a := ⟨h.p.more hC, h.pn, h.pcap, h.pok, h.t.more hC, h.tn, h.tcap, h.tok, h.pt, h.few⟩
theorem mvok_up {w w' : World} {a : MV} (h : MVok w w.heap.size a) (hb : Below w.heap.size w w') : MVok w' w'.heap.size a := mvok_more (h.below hb (Nat.le_refl _)) hb.size
theorem mok_of {w : World} {B : Nat} {a : MV} (h : MVok w B a) (hF : Few a.m) : MOk w B a.m a.pA a.mA a.pc a.mc :=
  ⟨⟨h.p, h.pn, h.pok⟩, ⟨h.t, h.tn, fun x hx => ⟨by have := hF.2.2.2 x hx; omega, h.tok x hx⟩⟩⟩
abbrev Xv (x : Msg) : Array Value := mcells x (.slice none 0 0) (.slice none 0 0)
def Yv (b : MV) (y : Msg) : Array Value := mcells y (.slice b.pA b.m.pts.length b.pc) (.slice b.mA b.m.mts.length b.mc)
theorem xmok (w : World) (x : Msg) (hp : x.pts = []) (hm : x.mts = []) : MOk w w.heap.size x none none 0 0 := by
  obtain ⟨_, _, _, _, _, _, _, _, _, _, _, _, pts, mts⟩ := x
  simp only at hp hm
  subst hp hm
  exact ⟨⟨⟨rfl, Rd.nil _ _ _⟩, fun _ => rfl, fun x hx => by cases hx⟩, ⟨⟨rfl, Rd.nil _ _ _⟩, fun _ => rfl, fun x hx => by cases hx⟩⟩
theorem ymok {w : World} {B : Nat} {b : MV} {y : Msg} (h : MOk w B b.m b.pA b.mA b.pc b.mc) (hp : y.pts = b.m.pts) (hm : y.mts = b.m.mts) : MOk w B y b.pA b.mA b.pc b.mc := by
  unfold MOk
  rw [hp, hm]
  exact h
theorem xv_of (x : Msg) (hp : x.pts = []) (hm : x.mts = []) : (Xv x) = mcells x (.slice none x.pts.length 0) (.slice none x.mts.length 0) := by rw [hp, hm]; rfl
theorem yv_of (b : MV) (y : Msg) (hp : y.pts = b.m.pts) (hm : y.mts = b.m.mts) : (Yv b y) = mcells y (.slice b.pA y.pts.length b.pc) (.slice b.mA y.mts.length b.mc) := by rw [hp, hm]; rfl
theorem xset {w : World} {q o : Nat} {v : Value} {x x' : Msg} (h : V w q (Xv x) 31) (e : (Xv x).setIfInBounds o v = Xv x') : V (w.setCell ⟨q, o, none⟩ v) q (Xv x') 31 := e ▸ h.set v
theorem yset {w : World} {q o : Nat} {v : Value} {b : MV} {y y' : Msg} (h : V w q (Yv b y) 31) (e : (Yv b y).setIfInBounds o v = Yv b y') : V (w.setCell ⟨q, o, none⟩ v) q (Yv b y') 31 := e ▸ h.set v
theorem encode_x : True := trivial
theorem encode_y : True := trivial
theorem heavy_w : True := trivial
theorem theirs_w : True := trivial
set_option maxHeartbeats 16000000 in
set_option maxRecDepth 100000 in
theorem walk_ok (a b : MV) (w : World) (ha : MVok w w.heap.size a) (hb : MVok w w.heap.size b) :
    Calls Try.prog 3 #[a.val, b.val] w fun e w' => e = .returned (.bool true) ∧ Below w.heap.size w w' := by
  obtain ⟨N, hN⟩ : ∃ N, w.heap.size = N := ⟨_, rfl⟩
  obtain ⟨w0, hw0⟩ : ∃ w0, w.alloc (.cells a.cells 31) = w0 := ⟨_, rfl⟩
  obtain ⟨w1, hw1⟩ : ∃ w1, w0.alloc (.cells b.cells 31) = w1 := ⟨_, rfl⟩
  have hb1 : Below w.heap.size w w1 := by rw [← hw1, ← hw0]; exact ((Below.refl _ _).alloc (Nat.le_refl _) _).alloc (by simp) _
  have hz0 : w0.heap.size = N + 1 := by rw [← hw0, World.size_alloc, hN]
  have hz1 : w1.heap.size = N + 2 := by rw [← hw1, World.size_alloc, hz0]
  have ga1 : V w1 N a.cells 31 := by rw [← hw1, ← hw0, ← hN]; exact alloc_old _ (alloc_new _ _)
  have gb1 : V w1 (N + 1) b.cells 31 := by rw [← hw1, ← hz0]; exact alloc_new _ _
  have MA1 := Lib.hid (mvok_up ha hb1)
  have MB1 := Lib.hid (mvok_up hb hb1)
  have HHV := Lib.hid (wr.heavy_w w1 w1.heap.size a MA1.out (Nat.le_refl _))
  have HB1 := Lib.hid hb1
  have GA1 := Lib.hid ga1
  have GB1 := Lib.hid gb1
  -- what stays behind w1
  have HA := Lib.hid (fun (u : World) (hu : Below (N + 2) w1 u) => (show V u N a.cells 31 ∧ V u (N + 1) b.cells 31 ∧ MVok u u.heap.size a ∧ MVok u u.heap.size b ∧ Below w.heap.size w u ∧ N + 2 ≤ u.heap.size from ⟨blk_below hu GA1.out (by omega), blk_below hu GB1.out (by omega), mvok_more (MA1.out.below hu (by omega)) (by have := hu.size; omega), mvok_more (MB1.out.below hu (by omega)) (by have := hu.size; omega), HB1.out.trans (hu.mono (by omega)), by have := hu.size; omega⟩))
  have HVA := Lib.hid (show a.val = .agg a.cells from rfl)
  have HVB := Lib.hid (show b.val = .agg b.cells from rfl)
  rw [HVA.out] at HHV ⊢
  rw [HVB.out]
  have HHVE := Lib.hid HHV.out
  clear ha hb hb1 ga1 gb1
  obtain ⟨ar, har⟩ : ∃ ar, a.cells = ar := ⟨_, rfl⟩
  obtain ⟨br, hbr⟩ : ∃ br, b.cells = br := ⟨_, rfl⟩
  have HAR := Lib.hid har
  have HBR := Lib.hid hbr
  have hars : ar.size = 16 := by rw [← har]; rfl
  have hbrs : br.size = 16 := by rw [← hbr]; rfl
  have HARS := Lib.hid hars
  have HBRS := Lib.hid hbrs
  rw [har] at hw0 HHVE ⊢
  rw [hbr] at hw1 ⊢
  have GA1' := Lib.hid (show V w1 N ar 31 by rw [← har]; exact GA1.out)
  clear HHV har hbr hars hbrs
  go_enter Try.func3, Try.ntmps3
  go_wp2_with (refine wpList_load_row rfl _ _ rfl N (by rfl) _ _ _ _ GA1'.out Try.underlying31 rfl (by rw [HARS.out]; exact infoMsg) ?_)
  refine HHVE.out.mono ?_
  clear HHVE hw0 hw1 hz0
  rintro e w2 ⟨⟨hv, rfl, hFa⟩, hb2⟩
  replace hb2 : Below (N + 2) w1 w2 := hb2.mono (by omega)
  cases hv with
  | true =>
    obtain ⟨_, _, _, _, hbw, _⟩ := HA.out w2 hb2
    have HBW := Lib.hid hbw
    clear hFa hb2 hbw
    go_wp2_with (fail)
    go_ret
    exact ⟨rfl, HBW.out⟩
  | false =>
  have HFA := Lib.hid (hFa rfl)
  obtain ⟨_, hgb2, _, hmb2, _, hs2⟩ := HA.out w2 hb2
  obtain ⟨c0, c1, c2, c3, c4, c5, c6, c7, c8, c9, c10, c11, c12, c13, c14, c15⟩ := mv_all hgb2
  have hlb := blk_lt hgb2
  have HHV2 := Lib.hid (wr.heavy_w w2 w2.heap.size b hmb2 (Nat.le_refl _))
  have HB2 := Lib.hid hb2
  clear hFa hb2 hgb2 hmb2
  go_wp2_with (fail)
  refine HHV2.out.mono ?_
  clear HHV2 c0 c1 c2 c3 c4 c5 c6 c7 c8 c9 c10 c11 c12 c13 c14 c15
  rintro e w3 ⟨⟨hv, rfl, hFb⟩, hb3⟩
  replace hb3 : Below (N + 2) w1 w3 := HB2.out.trans (hb3.mono (by omega))
  cases hv with
  | true =>
    obtain ⟨_, _, _, _, hbw, _⟩ := HA.out w3 hb3
    have HBW := Lib.hid hbw
    clear hFb hb3 hbw
    go_wp2_with (fail)
    go_ret
    exact ⟨rfl, HBW.out⟩
  | false =>
  have HFB := Lib.hid (hFb rfl)
  obtain ⟨hga3, hgb3, _, _, _, hs3⟩ := HA.out w3 hb3
  obtain ⟨c0, c1, c2, _⟩ := mv_all hga3
  have hla := blk_lt hga3
  -- x
  obtain ⟨X, hX⟩ : ∃ X, w3.heap.size = X := ⟨_, rfl⟩
  obtain ⟨wa, hwa⟩ : ∃ wa, w3.alloc (.cells zcells 31) = wa := ⟨_, rfl⟩
  have hba : Below w3.heap.size w3 wa := by rw [← hwa]; exact below_al _ _
  have va : V wa X zcells 31 := by rw [← hwa, ← hX]; exact alloc_new _ _
  have hza : wa.heap.size = X + 1 := by rw [← hwa, World.size_alloc, hX]
  unfold zcells at hwa
  obtain ⟨w4, hw4⟩ : ∃ w4, wa.setRow X (Xv ({ zeroM with kind := a.m.kind, seq := a.m.seq, epoch := a.m.epoch } : Msg)) = w4 := ⟨_, rfl⟩
  have hz4 : w4.heap.size = X + 1 := by rw [← hw4]; simp [World.setRow, hza]
  have hb4 : Below (N + 2) w1 w4 := hb3.trans (by rw [← hw4]; exact bel_row (hba.mono (by omega)) (by omega) (by omega))
  have VXA := Lib.hid va
  have VX4 := Lib.hid (show V w4 X (Xv ({ zeroM with kind := a.m.kind, seq := a.m.seq, epoch := a.m.epoch } : Msg)) 31 by rw [← hw4]; exact setRow_mb va)
  have hXA := mcells_all ({ zeroM with kind := a.m.kind, seq := a.m.seq, epoch := a.m.epoch } : Msg) (.slice none 0 0) (.slice none 0 0) rfl rfl
  have HXA := Lib.hid hXA
  -- y
  obtain ⟨Y, hY⟩ : ∃ Y, w4.heap.size = Y := ⟨_, rfl⟩
  obtain ⟨wc, hwc⟩ : ∃ wc, w4.alloc (.cells zcells 31) = wc := ⟨_, rfl⟩
  have hbc : Below w4.heap.size w4 wc := by rw [← hwc]; exact below_al _ _
  have vc : V wc Y zcells 31 := by rw [← hwc, ← hY]; exact alloc_new _ _
  have hzc : wc.heap.size = Y + 1 := by rw [← hwc, World.size_alloc, hY]
  unfold zcells at hwc
  obtain ⟨w5, hw5⟩ : ∃ w5, wc.setRow Y br = w5 := ⟨_, rfl⟩
  have hz5 : w5.heap.size = Y + 1 := by rw [← hw5]; simp [World.setRow, hzc]
  have hb45 : Below w4.heap.size w4 w5 := by rw [← hw5]; exact bel_row hbc (Nat.le_refl _) (by omega)
  have hb5 : Below (N + 2) w1 w5 := hb4.trans (hb45.mono (by omega))
  have VYC := Lib.hid vc
  have VX5 := Lib.hid (show V w5 X (Xv ({ zeroM with kind := a.m.kind, seq := a.m.seq, epoch := a.m.epoch } : Msg)) 31 from blk_below hb45 VX4.out (by omega))
  have VY5 := Lib.hid (show V w5 Y (Yv b b.m) 31 by rw [← hw5, ← HBR.out]; exact setRow_mb vc)
  have HBA := Lib.hid (show br.all (·.oneCell') = true by rw [← HBR.out]; exact mvcells_all b)
  obtain ⟨_, hgb4, _⟩ := HA.out w4 hb4
  have GB4 := Lib.hid (show V w4 (N + 1) br 31 by rw [← HBR.out]; exact hgb4)
  have HB5 := Lib.hid hb5
  have hNX : N + 2 ≤ X := by omega
  have hXY : X < Y := by omega
  clear hz4 hz5
  have HY0 := Lib.hid VY5.out
  have k0 : w5.cell? ⟨N, 0, none⟩ = some (.int .i64 a.m.kind) := (mv_all (HA.out w5 hb5).1).1
  have kl0 : N < w5.heap.size := blk_lt (HA.out w5 hb5).1
  obtain ⟨cy0, m0⟩ : ∃ x, w5.cell? ⟨Y, 0, none⟩ = some x := ⟨_, by rw [cell_of_row _ _ _ _ _ _ HY0.out]; rfl⟩
  have n0 := frozen_of_row w5 Y 0 _ _ HY0.out
  have r0 := blk_lt HY0.out
  obtain ⟨w6, hw6⟩ : ∃ u, w5.setCell ⟨Y, 0, none⟩ (.int .i64 a.m.kind) = u := ⟨_, rfl⟩
  have HY1 := Lib.hid (show V w6 Y (Yv b ({ b.m with kind := a.m.kind } : Msg)) 31 by rw [← hw6]; exact yset HY0.out rfl)
  have hb6 : Below (N + 2) w1 w6 := by rw [← hw6]; exact hb5.setCell (p := ⟨Y, 0, none⟩) (by show N + 2 ≤ Y; omega) _
  have VX6 := Lib.hid (show V w6 X (Xv ({ zeroM with kind := a.m.kind, seq := a.m.seq, epoch := a.m.epoch } : Msg)) 31 by rw [← hw6]; exact V.other VX5.out (by omega) _)
  have k1 : w6.cell? ⟨N, 1, none⟩ = some (.int .i64 a.m.seq) := (mv_all (HA.out w6 hb6).1).2.1
  have kl1 : N < w6.heap.size := blk_lt (HA.out w6 hb6).1
  obtain ⟨cy1, m1⟩ : ∃ x, w6.cell? ⟨Y, 1, none⟩ = some x := ⟨_, by rw [cell_of_row _ _ _ _ _ _ HY1.out]; rfl⟩
  have n1 := frozen_of_row w6 Y 1 _ _ HY1.out
  have r1 := blk_lt HY1.out
  obtain ⟨w7, hw7⟩ : ∃ u, w6.setCell ⟨Y, 1, none⟩ (.int .i64 a.m.seq) = u := ⟨_, rfl⟩
  have HY2 := Lib.hid (show V w7 Y (Yv b ({ ({ b.m with kind := a.m.kind } : Msg) with seq := a.m.seq } : Msg)) 31 by rw [← hw7]; exact yset HY1.out rfl)
  have hb7 : Below (N + 2) w1 w7 := by rw [← hw7]; exact hb6.setCell (p := ⟨Y, 1, none⟩) (by show N + 2 ≤ Y; omega) _
  have VX7 := Lib.hid (show V w7 X (Xv ({ zeroM with kind := a.m.kind, seq := a.m.seq, epoch := a.m.epoch } : Msg)) 31 by rw [← hw7]; exact V.other VX6.out (by omega) _)
  have k2 : w7.cell? ⟨N, 2, none⟩ = some (.int .i64 a.m.epoch) := (mv_all (HA.out w7 hb7).1).2.2.1
  have kl2 : N < w7.heap.size := blk_lt (HA.out w7 hb7).1
  obtain ⟨cy2, m2⟩ : ∃ x, w7.cell? ⟨Y, 2, none⟩ = some x := ⟨_, by rw [cell_of_row _ _ _ _ _ _ HY2.out]; rfl⟩
  have n2 := frozen_of_row w7 Y 2 _ _ HY2.out
  have r2 := blk_lt HY2.out
  obtain ⟨w8, hw8⟩ : ∃ u, w7.setCell ⟨Y, 2, none⟩ (.int .i64 a.m.epoch) = u := ⟨_, rfl⟩
  have HY3 := Lib.hid (show V w8 Y (Yv b ({ ({ ({ b.m with kind := a.m.kind } : Msg) with seq := a.m.seq } : Msg) with epoch := a.m.epoch } : Msg)) 31 by rw [← hw8]; exact yset HY2.out rfl)
  have hb8 : Below (N + 2) w1 w8 := by rw [← hw8]; exact hb7.setCell (p := ⟨Y, 2, none⟩) (by show N + 2 ≤ Y; omega) _
  have VX8 := Lib.hid (show V w8 X (Xv ({ zeroM with kind := a.m.kind, seq := a.m.seq, epoch := a.m.epoch } : Msg)) 31 by rw [← hw8]; exact V.other VX7.out (by omega) _)
  have q0 : w8.cell? ⟨N, 0, none⟩ = some (.int .i64 a.m.kind) := (mv_all (HA.out w8 hb8).1).1
  have ql0 : N < w8.heap.size := blk_lt (HA.out w8 hb8).1
  obtain ⟨y0, hy0⟩ : ∃ y0 : Msg, ({ ({ ({ b.m with kind := a.m.kind } : Msg) with seq := a.m.seq } : Msg) with epoch := a.m.epoch } : Msg) = y0 := ⟨_, rfl⟩
  obtain ⟨x0, hx0⟩ : ∃ x0 : Msg, ({ zeroM with kind := a.m.kind, seq := a.m.seq, epoch := a.m.epoch } : Msg) = x0 := ⟨_, rfl⟩
  have HYF := Lib.hid (show (y0.kind = a.m.kind ∧ y0.seq = a.m.seq ∧ y0.epoch = a.m.epoch) ∧ y0.pts = b.m.pts ∧ y0.mts = b.m.mts ∧ y0.id = b.m.id ∧ y0.p = b.m.p by rw [← hy0]; exact ⟨⟨rfl, rfl, rfl⟩, rfl, rfl, rfl, rfl⟩)
  have HXF := Lib.hid (show (x0.kind = a.m.kind ∧ x0.seq = a.m.seq ∧ x0.epoch = a.m.epoch) ∧ x0.pts = [] ∧ x0.mts = [] ∧ x0.id = [] ∧ x0.p = (0, 0, 0) by rw [← hx0]; exact ⟨⟨rfl, rfl, rfl⟩, rfl, rfl, rfl, rfl⟩)
  have VX := Lib.hid (show V w8 X (Xv x0) 31 by rw [← hx0]; exact VX8.out)
  have VY := Lib.hid (show V w8 Y (Yv b y0) 31 by rw [← hy0]; exact HY3.out)
  have HB8 := Lib.hid hb8
  clear hb3 hga3 hgb3 hba va hXA hbc vc hb45 hb4 hb5 hb6 hb7 hb8 hgb4 hy0
  have hkk : a.m.kind = 2 ∨ a.m.kind = 7 ∨ a.m.kind = 1 ∨ (a.m.kind ≠ 2 ∧ a.m.kind ≠ 7 ∧ a.m.kind ≠ 1) := by omega
  rcases hkk with hk | hk | hk | hk
  · have kb2 : (a.m.kind == 2) = true := by rw [hk]; rfl
    have kn2 : (a.m.kind != 2) = false := by rw [hk]; rfl
    have kb7 : (a.m.kind == 7) = false := by rw [hk]; rfl
    have kn7 : (a.m.kind != 7) = true := by rw [hk]; rfl
    have kb1 : (a.m.kind == 1) = false := by rw [hk]; rfl
    have kn1 : (a.m.kind != 1) = true := by rw [hk]; rfl
    have HK := Lib.hid hk
    clear hk
    have s0 : w8.cell? ⟨N, 12, none⟩ = some (.int .i64 a.m.err) := (mv_all (HA.out w8 HB8.out).1).2.2.2.2.2.2.2.2.2.2.2.2.1
    obtain ⟨sx, s1⟩ : ∃ x, w8.cell? ⟨X, 12, none⟩ = some x := ⟨_, by rw [cell_of_row _ _ _ _ _ _ VX.out]; rfl⟩
    have s2 := frozen_of_row w8 X 12 _ _ VX.out
    have s3 := blk_lt VX.out
    obtain ⟨w9, hw9⟩ : ∃ u, w8.setCell ⟨X, 12, none⟩ (.int .i64 a.m.err) = u := ⟨_, rfl⟩
    have VX9 := Lib.hid (show V w9 X (Xv ({ x0 with err := a.m.err } : Msg)) 31 by rw [← hw9]; exact xset VX.out rfl)
    have VY9 := Lib.hid (show V w9 Y (Yv b y0) 31 by rw [← hw9]; exact V.other VY.out (by omega) _)
    have HB9 := Lib.hid (show Below (N + 2) w1 w9 by rw [← hw9]; exact HB8.out.setCell (p := ⟨X, 12, none⟩) (by show N + 2 ≤ X; omega) _)
    have u0 : w9.cell? ⟨N, 12, none⟩ = some (.int .i64 a.m.err) := (mv_all (HA.out w9 HB9.out).1).2.2.2.2.2.2.2.2.2.2.2.2.1
    have ul : N < w9.heap.size := blk_lt (HA.out w9 HB9.out).1
    obtain ⟨sy, u1⟩ : ∃ x, w9.cell? ⟨Y, 12, none⟩ = some x := ⟨_, by rw [cell_of_row _ _ _ _ _ _ VY9.out]; rfl⟩
    have u2 := frozen_of_row w9 Y 12 _ _ VY9.out
    have u3 := blk_lt VY9.out
    obtain ⟨w10, hw10⟩ : ∃ u, w9.setCell ⟨Y, 12, none⟩ (.int .i64 a.m.err) = u := ⟨_, rfl⟩
    have VYt := Lib.hid (show V w10 Y (Yv b ({ y0 with err := a.m.err } : Msg)) 31 by rw [← hw10]; exact yset VY9.out rfl)
    have VXt := Lib.hid (show V w10 X (Xv ({ x0 with err := a.m.err } : Msg)) 31 by rw [← hw10]; exact V.other VX9.out (by omega) _)
    have HBt := Lib.hid (show Below (N + 2) w1 w10 by rw [← hw10]; exact HB9.out.setCell (p := ⟨Y, 12, none⟩) (by show N + 2 ≤ Y; omega) _)
    have v0 : w10.cell? ⟨N, 0, none⟩ = some (.int .i64 a.m.kind) := (mv_all (HA.out w10 HBt.out).1).1
    have vl : N < w10.heap.size := blk_lt (HA.out w10 HBt.out).1
    have hsw : N + 2 ≤ w10.heap.size := (HA.out w10 HBt.out).2.2.2.2.2
    have HXP := Lib.hid (show ({ x0 with err := a.m.err } : Msg).pts = [] ∧ ({ x0 with err := a.m.err } : Msg).mts = [] ∧ ({ x0 with err := a.m.err } : Msg).id.length ≤ 1000000000 ∧ PtOk ({ x0 with err := a.m.err } : Msg).p from ⟨HXF.out.2.1, HXF.out.2.2.1, (by show x0.id.length ≤ _; rw [HXF.out.2.2.2.1]; decide), (by show PtOk x0.p; rw [HXF.out.2.2.2.2]; exact zero_mok.2.1)⟩)
    have HYP := Lib.hid (show ({ y0 with err := a.m.err } : Msg).pts = b.m.pts ∧ ({ y0 with err := a.m.err } : Msg).mts = b.m.mts ∧ ({ y0 with err := a.m.err } : Msg).id.length ≤ 1000000000 ∧ PtOk ({ y0 with err := a.m.err } : Msg).p from ⟨HYF.out.2.1, HYF.out.2.2.1, (by show y0.id.length ≤ _; rw [HYF.out.2.2.2.1]; have := HFB.out.1; omega), (by show PtOk y0.p; rw [HYF.out.2.2.2.2]; exact MB1.out.pt)⟩)
    obtain ⟨⟨bx, ex⟩, hex⟩ : ∃ en, encM ({ x0 with err := a.m.err } : Msg) = en := ⟨_, rfl⟩
    obtain ⟨⟨bY, ey⟩, hey⟩ : ∃ en, encM ({ y0 with err := a.m.err } : Msg) = en := ⟨_, rfl⟩
    have HEX := Lib.hid hex
    have HEQ := Lib.hid (show encM ({ y0 with err := a.m.err } : Msg) = (bx, ex) from (encM_2 (x := ({ y0 with err := a.m.err } : Msg)) (y := ({ x0 with err := a.m.err } : Msg)) (HYF.out.1.1.trans HXF.out.1.1.symm) (HXF.out.1.1.trans HK.out) (HYF.out.1.2.1.trans HXF.out.1.2.1.symm) (HYF.out.1.2.2.trans HXF.out.1.2.2.symm) rfl).trans hex)
    have HE1 := Lib.hid (show Calls Try.prog 9 #[.agg (Xv ({ x0 with err := a.m.err } : Msg))] w10 (RetEn w10 (bx, ex)) from by
      have := wr.encode_x w10 ({ x0 with err := a.m.err } : Msg) none none 0 0 (xmok _ ({ x0 with err := a.m.err } : Msg) HXP.out.1 HXP.out.2.1) HXP.out.2.2.1 HXP.out.2.2.2 (by rw [HXP.out.1]; decide) (by rw [HXP.out.2.1]; decide)
      rw [hex] at this
      rw [xv_of ({ x0 with err := a.m.err } : Msg) HXP.out.1 HXP.out.2.1]
      exact this)
    clear hex hey
    go_wp2_with (first | (refine wpList_store_row rfl _ _ _ rfl X (Xv ({ zeroM with kind := a.m.kind, seq := a.m.seq, epoch := a.m.epoch } : Msg)) (by rfl) (by rfl) _ _ VXA.out infoMsg rfl HXA.out ?_; rw [hw4]) | (refine wpList_load_row rfl _ _ rfl (N + 1) (by rfl) _ _ _ _ GB4.out Try.underlying31 rfl (by rw [HBRS.out]; exact infoMsg) ?_) | (refine wpList_store_row rfl _ _ _ rfl Y br (by rfl) (by rfl) _ _ VYC.out (by rw [HBRS.out]; exact infoMsg) (by rw [HBRS.out]; rfl) HBA.out ?_; rw [hw5]) | (refine wpList_load_row rfl _ _ rfl X (by rfl) _ _ _ _ VXt.out Try.underlying31 rfl infoMsg ?_))
    clear hwa hw4 hwc hw5 hw6 hw7 hw8 c0 c1 c2 k0 k1 k2 m0 m1 m2 n0 n1 n2 r0 r1 r2
    clear hw9 hw10 s0 s1 s2 s3 u0 u1 u2 u3
    refine HE1.out.mono ?_
    clear HE1
    rintro e t1 ⟨A1, e1, rfl, ho1, hb1⟩
    replace ho1 : t1.ownsRow w10.heap.size 5 1 (.slice A1 bx.length e1) bx.length (u8s bx) := ho1
    have hst1 := hb1.size
    have HBt1 := Lib.hid (HBt.out.trans (hb1.mono (by omega)))
    have VXt1 := Lib.hid (show V t1 X (Xv ({ x0 with err := a.m.err } : Msg)) 31 from blk_below hb1 VXt.out (blk_lt VXt.out))
    have VYt1 := Lib.hid (show V t1 Y (Yv b ({ y0 with err := a.m.err } : Msg)) 31 from blk_below hb1 VYt.out (blk_lt VYt.out))
    have HO1 := Lib.hid ho1
    obtain ⟨nx, hnx⟩ : ∃ nx, bx.length = nx := ⟨_, rfl⟩
    rw [hnx] at HO1
    simp only [hnx]
    have HNX := Lib.hid hnx
    have HE2 := Lib.hid (show Calls Try.prog 9 #[.agg (Yv b ({ y0 with err := a.m.err } : Msg))] t1 (RetEn t1 (encM ({ y0 with err := a.m.err } : Msg))) from by
      have := wr.encode_x t1 ({ y0 with err := a.m.err } : Msg) b.pA b.mA b.pc b.mc (ymok (y := ({ y0 with err := a.m.err } : Msg)) (mok_of (HA.out t1 HBt1.out).2.2.2.1 HFB.out) HYP.out.1 HYP.out.2.1) HYP.out.2.2.1 HYP.out.2.2.2 (by rw [HYP.out.1]; have := HFB.out.2.1; omega) (by rw [HYP.out.2.1]; have := HFB.out.2.2.1; omega)
      rw [yv_of b ({ y0 with err := a.m.err } : Msg) HYP.out.1 HYP.out.2.1]
      exact this)
    clear hb1 ho1 hnx
    go_wp2_with (refine wpList_load_row rfl _ _ rfl Y (by rfl) _ _ _ _ VYt1.out Try.underlying31 rfl infoMsg ?_)
    refine HE2.out.mono ?_
    clear HE2
    rw [HEQ.out]
    rintro e t2 ⟨A2, e2, rfl, ho2, hb2⟩
    replace ho2 : t2.ownsRow t1.heap.size 5 1 (.slice A2 bx.length e2) bx.length (u8s bx) := ho2
    rw [HNX.out] at ho2
    simp only [HNX.out]
    have hst2 := hb2.size
    have HBt2 := Lib.hid (HBt1.out.trans (hb2.mono (by omega)))
    have VXt2 := Lib.hid (show V t2 X (Xv ({ x0 with err := a.m.err } : Msg)) 31 from blk_below hb2 VXt1.out (blk_lt VXt1.out))
    have HO1b := Lib.hid (own_keep HO1.out hb2 (Nat.le_refl _))
    have HO2 := Lib.hid ho2
    have HE3 := Lib.hid (show Calls Try.prog 11 #[.agg (Xv ({ x0 with err := a.m.err } : Msg))] t2 fun e w' => e = .returned (.agg (Xv ({ x0 with err := a.m.err } : Msg))) ∧ Below t2.heap.size t2 w' from by
      have := wr.theirs_w t2 ⟨({ x0 with err := a.m.err } : Msg), none, 0, none, 0⟩
      rw [show (MV.val ⟨({ x0 with err := a.m.err } : Msg), none, 0, none, 0⟩) = .agg (Xv ({ x0 with err := a.m.err } : Msg)) by rw [xv_of ({ x0 with err := a.m.err } : Msg) HXP.out.1 HXP.out.2.1]; rfl, show (MV.cells ⟨({ x0 with err := a.m.err } : Msg), none, 0, none, 0⟩) = Xv ({ x0 with err := a.m.err } : Msg) by rw [xv_of ({ x0 with err := a.m.err } : Msg) HXP.out.1 HXP.out.2.1]; rfl] at this
      exact this)
    clear hb2 ho2
    go_wp2_with (refine wpList_load_row rfl _ _ rfl X (by rfl) _ _ _ _ VXt2.out Try.underlying31 rfl infoMsg ?_)
    refine HE3.out.mono ?_
    clear HE3
    rintro e t3 ⟨rfl, hb3⟩
    have hst3 := hb3.size
    have HBt3 := Lib.hid (HBt2.out.trans (hb3.mono (by omega)))
    have HO1c := Lib.hid (own_keep HO1b.out hb3 (Nat.le_refl _))
    have HO2c := Lib.hid (own_keep HO2.out hb3 (Nat.le_refl _))
    have HE4 := Lib.hid (show Calls Try.prog 10 #[.agg (Xv ({ x0 with err := a.m.err } : Msg))] t3 (RetEn t3 (bx, ex)) from by
      have := wr.encode_y t3 ({ x0 with err := a.m.err } : Msg) none none 0 0 (xmok _ ({ x0 with err := a.m.err } : Msg) HXP.out.1 HXP.out.2.1) HXP.out.2.2.1 HXP.out.2.2.2
      rw [HEX.out] at this
      rw [xv_of ({ x0 with err := a.m.err } : Msg) HXP.out.1 HXP.out.2.1]
      exact this)
    clear hb3
    go_wp2_with (fail)
    refine HE4.out.mono ?_
    clear HE4
    rintro e t4 ⟨A4, e4, rfl, ho4, hb4⟩
    replace ho4 : t4.ownsRow t3.heap.size 5 1 (.slice A4 bx.length e4) bx.length (u8s bx) := ho4
    rw [HNX.out] at ho4
    simp only [HNX.out]
    have hst4 := hb4.size
    have hbt4 := HBt3.out.trans (hb4.mono (by omega))
    obtain ⟨hga, _, _, _, hbw, _⟩ := HA.out t4 hbt4
    have HBW := Lib.hid hbw
    have z0 : t4.cell? ⟨N, 0, none⟩ = some (.int .i64 a.m.kind) := (mv_all hga).1
    have zl := blk_lt hga
    have ho1d := own_keep HO1c.out hb4 (Nat.le_refl _)
    have ho2d := own_keep HO2c.out hb4 (Nat.le_refl _)
    obtain ⟨S, hS⟩ : ∃ S, (⟨bx.toArray⟩ : ByteArray) = S := ⟨_, rfl⟩
    have j1 := hS ▸ conv_string (P := Try.prog) (c := e1) (own_bs ho1d) 33 9 5 Try.underlying33 Try.underlying9 Try.underlying5
    have j4 := hS ▸ conv_string (P := Try.prog) (c := e4) (own_bs ho4) 33 9 5 Try.underlying33 Try.underlying9 Try.underlying5
    have j2 := hS ▸ conv_string (P := Try.prog) (c := e2) (own_bs ho2d) 33 9 5 Try.underlying33 Try.underlying9 Try.underlying5
    clear hb4 ho4 hbt4 hga hbw ho1d ho2d hS
    go_wp2_with (fail)
    go_ret
    exact ⟨rfl, HBW.out⟩
  · have kb2 : (a.m.kind == 2) = false := by rw [hk]; rfl
    have kn2 : (a.m.kind != 2) = true := by rw [hk]; rfl
    have kb7 : (a.m.kind == 7) = true := by rw [hk]; rfl
    have kn7 : (a.m.kind != 7) = false := by rw [hk]; rfl
    have kb1 : (a.m.kind == 1) = false := by rw [hk]; rfl
    have kn1 : (a.m.kind != 1) = true := by rw [hk]; rfl
    have HK := Lib.hid hk
    clear hk
    have HBr := Lib.hid HB8.out
    have c3 : w8.cell? ⟨N, 3, none⟩ = some (.int .i64 a.m.space) := (mv_all (HA.out w8 HBr.out).1).2.2.2.1
    have d3 := Wf.at_ (F := fun k => k = X) c3 (by show ¬ N = X; omega)
    have c4 : w8.cell? ⟨N, 4, none⟩ = some (.int .i64 a.m.shard) := (mv_all (HA.out w8 HBr.out).1).2.2.2.2.1
    have d4 := Wf.at_ (F := fun k => k = X) c4 (by show ¬ N = X; omega)
    have c6 : w8.cell? ⟨N, 6, none⟩ = some (.int .i64 a.m.block) := (mv_all (HA.out w8 HBr.out).1).2.2.2.2.2.2.1
    have d6 := Wf.at_ (F := fun k => k = X) c6 (by show ¬ N = X; omega)
    have c5 : w8.cell? ⟨N, 5, none⟩ = some (.string (cl.tx a.m.id)) := (mv_all (HA.out w8 HBr.out).1).2.2.2.2.2.1
    have d5 := Wf.at_ (F := fun k => k = X) c5 (by show ¬ N = X; omega)
    go_wp2_with (first | (refine wpList_store_row rfl _ _ _ rfl X (Xv ({ zeroM with kind := a.m.kind, seq := a.m.seq, epoch := a.m.epoch } : Msg)) (by rfl) (by rfl) _ _ VXA.out infoMsg rfl HXA.out ?_; rw [hw4]) | (refine wpList_load_row rfl _ _ rfl (N + 1) (by rfl) _ _ _ _ GB4.out Try.underlying31 rfl (by rw [HBRS.out]; exact infoMsg) ?_) | (refine wpList_store_row rfl _ _ _ rfl Y br (by rfl) (by rfl) _ _ VYC.out (by rw [HBRS.out]; exact infoMsg) (by rw [HBRS.out]; rfl) HBA.out ?_; rw [hw5]))
    clear hwa hw4 hwc hw5 hw6 hw7 hw8 c0 c1 c2 k0 k1 k2 m0 m1 m2 n0 n1 n2 r0 r1 r2
    refine fr.wp_region_tree (F := fun k => k = X) (.reads [0, 1, 2, 3, 4, 5, 6, 7, 8] (.one 9 false (.reads [10] (.one 11 false (.reads [12] (.one 13 false (.reads [14] (.one 15 false .stop)))))))) (by kernel_rfl) (by kernel_rfl) ?_
    refine fr.tr_reads _ (by dsimp only [pick, ord.at_]) ?_
    repeat (go_big_quiet_step (fail))
    refine wpQuiet_nil ?_
    have VV0 := Lib.hid (show V w8.drew X (Xv x0) 31 from VX.out)
    have CC0 := Lib.hid ((Chg.refl (fun k => k = X) w8).drew)
    obtain ⟨ov3, oc3⟩ : ∃ x, (w8.drew).cell? ⟨X, 3, none⟩ = some x := ⟨_, by rw [cell_of_row _ _ _ _ _ _ VV0.out]; rfl⟩
    have of3 := frozen_of_row (w8.drew) X 3 _ _ VV0.out
    have ol0 := blk_lt VV0.out
    obtain ⟨z1, hz1r⟩ : ∃ u, (w8.drew).setCell ⟨X, 3, none⟩ (.int .i64 a.m.space) = u := ⟨_, rfl⟩
    have VV1 := Lib.hid (show V z1 X (Xv ({ x0 with space := a.m.space } : Msg)) 31 by rw [← hz1r]; exact xset VV0.out rfl)
    have CC1 := Lib.hid (show Chg (fun k => k = X) w8 z1 by rw [← hz1r]; exact CC0.out.setCell (p := ⟨X, 3, none⟩) (fun _ => rfl) _)
    refine fr.tr_one _ (by dsimp only [pick, ord.at_]) ?_
    intro K1 g1 g2
    clear g2
    go_wp2_with (fail)
    refine g1 _ _ CC1.out ?_
    clear g1 hz1r oc3 of3
    refine fr.tr_reads _ (by dsimp only [pick, ord.at_]) ?_
    repeat (go_big_quiet_step (fail))
    refine wpQuiet_nil ?_
    obtain ⟨ov4, oc4⟩ : ∃ x, (z1).cell? ⟨X, 4, none⟩ = some x := ⟨_, by rw [cell_of_row _ _ _ _ _ _ VV1.out]; rfl⟩
    have of4 := frozen_of_row (z1) X 4 _ _ VV1.out
    have ol1 := blk_lt VV1.out
    obtain ⟨z2, hz2r⟩ : ∃ u, (z1).setCell ⟨X, 4, none⟩ (.int .i64 a.m.shard) = u := ⟨_, rfl⟩
    have VV2 := Lib.hid (show V z2 X (Xv ({ ({ x0 with space := a.m.space } : Msg) with shard := a.m.shard } : Msg)) 31 by rw [← hz2r]; exact xset VV1.out rfl)
    have CC2 := Lib.hid (show Chg (fun k => k = X) w8 z2 by rw [← hz2r]; exact CC1.out.setCell (p := ⟨X, 4, none⟩) (fun _ => rfl) _)
    refine fr.tr_one _ (by dsimp only [pick, ord.at_]) ?_
    intro K1 g1 g2
    clear g2
    go_wp2_with (fail)
    refine g1 _ _ CC2.out ?_
    clear g1 hz2r oc4 of4
    refine fr.tr_reads _ (by dsimp only [pick, ord.at_]) ?_
    repeat (go_big_quiet_step (fail))
    refine wpQuiet_nil ?_
    obtain ⟨ov6, oc6⟩ : ∃ x, (z2).cell? ⟨X, 6, none⟩ = some x := ⟨_, by rw [cell_of_row _ _ _ _ _ _ VV2.out]; rfl⟩
    have of6 := frozen_of_row (z2) X 6 _ _ VV2.out
    have ol2 := blk_lt VV2.out
    obtain ⟨z3, hz3r⟩ : ∃ u, (z2).setCell ⟨X, 6, none⟩ (.int .i64 a.m.block) = u := ⟨_, rfl⟩
    have VV3 := Lib.hid (show V z3 X (Xv ({ ({ ({ x0 with space := a.m.space } : Msg) with shard := a.m.shard } : Msg) with block := a.m.block } : Msg)) 31 by rw [← hz3r]; exact xset VV2.out rfl)
    have CC3 := Lib.hid (show Chg (fun k => k = X) w8 z3 by rw [← hz3r]; exact CC2.out.setCell (p := ⟨X, 6, none⟩) (fun _ => rfl) _)
    refine fr.tr_one _ (by dsimp only [pick, ord.at_]) ?_
    intro K1 g1 g2
    clear g2
    go_wp2_with (fail)
    refine g1 _ _ CC3.out ?_
    clear g1 hz3r oc6 of6
    refine fr.tr_reads _ (by dsimp only [pick, ord.at_]) ?_
    repeat (go_big_quiet_step (fail))
    refine wpQuiet_nil ?_
    obtain ⟨ov5, oc5⟩ : ∃ x, (z3).cell? ⟨X, 5, none⟩ = some x := ⟨_, by rw [cell_of_row _ _ _ _ _ _ VV3.out]; rfl⟩
    have of5 := frozen_of_row (z3) X 5 _ _ VV3.out
    have ol3 := blk_lt VV3.out
    obtain ⟨z4, hz4r⟩ : ∃ u, (z3).setCell ⟨X, 5, none⟩ (.string (cl.tx a.m.id)) = u := ⟨_, rfl⟩
    have VV4 := Lib.hid (show V z4 X (Xv ({ ({ ({ ({ x0 with space := a.m.space } : Msg) with shard := a.m.shard } : Msg) with block := a.m.block } : Msg) with id := a.m.id } : Msg)) 31 by rw [← hz4r]; exact xset VV3.out rfl)
    have CC4 := Lib.hid (show Chg (fun k => k = X) w8 z4 by rw [← hz4r]; exact CC3.out.setCell (p := ⟨X, 5, none⟩) (fun _ => rfl) _)
    refine fr.tr_one _ (by dsimp only [pick, ord.at_]) ?_
    intro K1 g1 g2
    clear g2
    go_wp2_with (fail)
    refine g1 _ _ CC4.out ?_
    clear g1 hz4r oc5 of5
    refine fr.tr_stop ?_
    refine NoPanic.normal ?_
    clear c3 d3 c4 d4 c6 d6 c5 d5
    have PB := Lib.hid (show Below (N + 2) w1 z4 from HBr.out.trans (CC4.out.below (HA.out w8 HBr.out).2.2.2.2.2 (fun k e => by omega)))
    have PO := Lib.hid (show V z4 Y (Yv b y0) 31 from CC4.out.blk VY.out (by omega))
    have PV := Lib.hid VV4.out
    clear HBr VV0 CC0
    obtain ⟨wm, hwm⟩ : ∃ u, z4 = u := ⟨_, rfl⟩
    rw [hwm] at PB PO PV ⊢
    clear hwm
    have HBr := Lib.hid PB.out
    have c3 : wm.cell? ⟨N, 3, none⟩ = some (.int .i64 a.m.space) := (mv_all (HA.out wm HBr.out).1).2.2.2.1
    have d3 := Wf.at_ (F := fun k => k = Y) c3 (by show ¬ N = Y; omega)
    have c4 : wm.cell? ⟨N, 4, none⟩ = some (.int .i64 a.m.shard) := (mv_all (HA.out wm HBr.out).1).2.2.2.2.1
    have d4 := Wf.at_ (F := fun k => k = Y) c4 (by show ¬ N = Y; omega)
    have c6 : wm.cell? ⟨N, 6, none⟩ = some (.int .i64 a.m.block) := (mv_all (HA.out wm HBr.out).1).2.2.2.2.2.2.1
    have d6 := Wf.at_ (F := fun k => k = Y) c6 (by show ¬ N = Y; omega)
    have c5 : wm.cell? ⟨N, 5, none⟩ = some (.string (cl.tx a.m.id)) := (mv_all (HA.out wm HBr.out).1).2.2.2.2.2.1
    have d5 := Wf.at_ (F := fun k => k = Y) c5 (by show ¬ N = Y; omega)
    go_wp2_with (fail)
    refine fr.wp_region_tree (F := fun k => k = Y) (.reads [0, 1, 2, 3, 4, 5, 6, 7, 8] (.one 9 false (.reads [10] (.one 11 false (.reads [12] (.one 13 false (.reads [14] (.one 15 false .stop)))))))) (by kernel_rfl) (by kernel_rfl) ?_
    refine fr.tr_reads _ (by dsimp only [pick, ord.at_]) ?_
    repeat (go_big_quiet_step (fail))
    refine wpQuiet_nil ?_
    have VV0 := Lib.hid (show V wm.drew Y (Yv b y0) 31 from PO.out)
    have CC0 := Lib.hid ((Chg.refl (fun k => k = Y) wm).drew)
    obtain ⟨ov3, oc3⟩ : ∃ x, (wm.drew).cell? ⟨Y, 3, none⟩ = some x := ⟨_, by rw [cell_of_row _ _ _ _ _ _ VV0.out]; rfl⟩
    have of3 := frozen_of_row (wm.drew) Y 3 _ _ VV0.out
    have ol0 := blk_lt VV0.out
    obtain ⟨z1, hz1r⟩ : ∃ u, (wm.drew).setCell ⟨Y, 3, none⟩ (.int .i64 a.m.space) = u := ⟨_, rfl⟩
    have VV1 := Lib.hid (show V z1 Y (Yv b ({ y0 with space := a.m.space } : Msg)) 31 by rw [← hz1r]; exact yset VV0.out rfl)
    have CC1 := Lib.hid (show Chg (fun k => k = Y) wm z1 by rw [← hz1r]; exact CC0.out.setCell (p := ⟨Y, 3, none⟩) (fun _ => rfl) _)
    refine fr.tr_one _ (by dsimp only [pick, ord.at_]) ?_
    intro K1 g1 g2
    clear g2
    go_wp2_with (fail)
    refine g1 _ _ CC1.out ?_
    clear g1 hz1r oc3 of3
    refine fr.tr_reads _ (by dsimp only [pick, ord.at_]) ?_
    repeat (go_big_quiet_step (fail))
    refine wpQuiet_nil ?_
    obtain ⟨ov4, oc4⟩ : ∃ x, (z1).cell? ⟨Y, 4, none⟩ = some x := ⟨_, by rw [cell_of_row _ _ _ _ _ _ VV1.out]; rfl⟩
    have of4 := frozen_of_row (z1) Y 4 _ _ VV1.out
    have ol1 := blk_lt VV1.out
    obtain ⟨z2, hz2r⟩ : ∃ u, (z1).setCell ⟨Y, 4, none⟩ (.int .i64 a.m.shard) = u := ⟨_, rfl⟩
    have VV2 := Lib.hid (show V z2 Y (Yv b ({ ({ y0 with space := a.m.space } : Msg) with shard := a.m.shard } : Msg)) 31 by rw [← hz2r]; exact yset VV1.out rfl)
    have CC2 := Lib.hid (show Chg (fun k => k = Y) wm z2 by rw [← hz2r]; exact CC1.out.setCell (p := ⟨Y, 4, none⟩) (fun _ => rfl) _)
    refine fr.tr_one _ (by dsimp only [pick, ord.at_]) ?_
    intro K1 g1 g2
    clear g2
    go_wp2_with (fail)
    refine g1 _ _ CC2.out ?_
    clear g1 hz2r oc4 of4
    refine fr.tr_reads _ (by dsimp only [pick, ord.at_]) ?_
    repeat (go_big_quiet_step (fail))
    refine wpQuiet_nil ?_
    obtain ⟨ov6, oc6⟩ : ∃ x, (z2).cell? ⟨Y, 6, none⟩ = some x := ⟨_, by rw [cell_of_row _ _ _ _ _ _ VV2.out]; rfl⟩
    have of6 := frozen_of_row (z2) Y 6 _ _ VV2.out
    have ol2 := blk_lt VV2.out
    obtain ⟨z3, hz3r⟩ : ∃ u, (z2).setCell ⟨Y, 6, none⟩ (.int .i64 a.m.block) = u := ⟨_, rfl⟩
    have VV3 := Lib.hid (show V z3 Y (Yv b ({ ({ ({ y0 with space := a.m.space } : Msg) with shard := a.m.shard } : Msg) with block := a.m.block } : Msg)) 31 by rw [← hz3r]; exact yset VV2.out rfl)
    have CC3 := Lib.hid (show Chg (fun k => k = Y) wm z3 by rw [← hz3r]; exact CC2.out.setCell (p := ⟨Y, 6, none⟩) (fun _ => rfl) _)
    refine fr.tr_one _ (by dsimp only [pick, ord.at_]) ?_
    intro K1 g1 g2
    clear g2
    go_wp2_with (fail)
    refine g1 _ _ CC3.out ?_
    clear g1 hz3r oc6 of6
    refine fr.tr_reads _ (by dsimp only [pick, ord.at_]) ?_
    repeat (go_big_quiet_step (fail))
    refine wpQuiet_nil ?_
    obtain ⟨ov5, oc5⟩ : ∃ x, (z3).cell? ⟨Y, 5, none⟩ = some x := ⟨_, by rw [cell_of_row _ _ _ _ _ _ VV3.out]; rfl⟩
    have of5 := frozen_of_row (z3) Y 5 _ _ VV3.out
    have ol3 := blk_lt VV3.out
    obtain ⟨z4, hz4r⟩ : ∃ u, (z3).setCell ⟨Y, 5, none⟩ (.string (cl.tx a.m.id)) = u := ⟨_, rfl⟩
    have VV4 := Lib.hid (show V z4 Y (Yv b ({ ({ ({ ({ y0 with space := a.m.space } : Msg) with shard := a.m.shard } : Msg) with block := a.m.block } : Msg) with id := a.m.id } : Msg)) 31 by rw [← hz4r]; exact yset VV3.out rfl)
    have CC4 := Lib.hid (show Chg (fun k => k = Y) wm z4 by rw [← hz4r]; exact CC3.out.setCell (p := ⟨Y, 5, none⟩) (fun _ => rfl) _)
    refine fr.tr_one _ (by dsimp only [pick, ord.at_]) ?_
    intro K1 g1 g2
    clear g2
    go_wp2_with (fail)
    refine g1 _ _ CC4.out ?_
    clear g1 hz4r oc5 of5
    refine fr.tr_stop ?_
    refine NoPanic.normal ?_
    clear c3 d3 c4 d4 c6 d6 c5 d5
    have QB := Lib.hid (show Below (N + 2) w1 z4 from HBr.out.trans (CC4.out.below (HA.out wm HBr.out).2.2.2.2.2 (fun k e => by omega)))
    have QO := Lib.hid (show V z4 X (Xv ({ ({ ({ ({ x0 with space := a.m.space } : Msg) with shard := a.m.shard } : Msg) with block := a.m.block } : Msg) with id := a.m.id } : Msg)) 31 from CC4.out.blk PV.out (by omega))
    have QV := Lib.hid VV4.out
    have q1 : z4.cell? ⟨N, 0, none⟩ = some (.int .i64 a.m.kind) := (mv_all (HA.out z4 QB.out).1).1
    have ql1 : N < z4.heap.size := blk_lt (HA.out z4 QB.out).1
    have hsw : N + 2 ≤ z4.heap.size := (HA.out z4 QB.out).2.2.2.2.2
    have HBt := Lib.hid QB.out
    have VXt := Lib.hid QO.out
    have VYt := Lib.hid QV.out
    have HXP := Lib.hid (show ({ ({ ({ ({ x0 with space := a.m.space } : Msg) with shard := a.m.shard } : Msg) with block := a.m.block } : Msg) with id := a.m.id } : Msg).pts = [] ∧ ({ ({ ({ ({ x0 with space := a.m.space } : Msg) with shard := a.m.shard } : Msg) with block := a.m.block } : Msg) with id := a.m.id } : Msg).mts = [] ∧ ({ ({ ({ ({ x0 with space := a.m.space } : Msg) with shard := a.m.shard } : Msg) with block := a.m.block } : Msg) with id := a.m.id } : Msg).id.length ≤ 1000000000 ∧ PtOk ({ ({ ({ ({ x0 with space := a.m.space } : Msg) with shard := a.m.shard } : Msg) with block := a.m.block } : Msg) with id := a.m.id } : Msg).p from ⟨HXF.out.2.1, HXF.out.2.2.1, (by have := HFA.out.1; show a.m.id.length ≤ _; omega), (by show PtOk x0.p; rw [HXF.out.2.2.2.2]; exact zero_mok.2.1)⟩)
    have HYP := Lib.hid (show ({ ({ ({ ({ y0 with space := a.m.space } : Msg) with shard := a.m.shard } : Msg) with block := a.m.block } : Msg) with id := a.m.id } : Msg).pts = b.m.pts ∧ ({ ({ ({ ({ y0 with space := a.m.space } : Msg) with shard := a.m.shard } : Msg) with block := a.m.block } : Msg) with id := a.m.id } : Msg).mts = b.m.mts ∧ ({ ({ ({ ({ y0 with space := a.m.space } : Msg) with shard := a.m.shard } : Msg) with block := a.m.block } : Msg) with id := a.m.id } : Msg).id.length ≤ 1000000000 ∧ PtOk ({ ({ ({ ({ y0 with space := a.m.space } : Msg) with shard := a.m.shard } : Msg) with block := a.m.block } : Msg) with id := a.m.id } : Msg).p from ⟨HYF.out.2.1, HYF.out.2.2.1, (by have := HFA.out.1; show a.m.id.length ≤ _; omega), (by show PtOk y0.p; rw [HYF.out.2.2.2.2]; exact MB1.out.pt)⟩)
    obtain ⟨⟨bx, ex⟩, hex⟩ : ∃ en, encM ({ ({ ({ ({ x0 with space := a.m.space } : Msg) with shard := a.m.shard } : Msg) with block := a.m.block } : Msg) with id := a.m.id } : Msg) = en := ⟨_, rfl⟩
    obtain ⟨⟨bY, ey⟩, hey⟩ : ∃ en, encM ({ ({ ({ ({ y0 with space := a.m.space } : Msg) with shard := a.m.shard } : Msg) with block := a.m.block } : Msg) with id := a.m.id } : Msg) = en := ⟨_, rfl⟩
    have HEX := Lib.hid hex
    have HEQ := Lib.hid (show encM ({ ({ ({ ({ y0 with space := a.m.space } : Msg) with shard := a.m.shard } : Msg) with block := a.m.block } : Msg) with id := a.m.id } : Msg) = (bx, ex) from (encM_7 (x := ({ ({ ({ ({ y0 with space := a.m.space } : Msg) with shard := a.m.shard } : Msg) with block := a.m.block } : Msg) with id := a.m.id } : Msg)) (y := ({ ({ ({ ({ x0 with space := a.m.space } : Msg) with shard := a.m.shard } : Msg) with block := a.m.block } : Msg) with id := a.m.id } : Msg)) (HYF.out.1.1.trans HXF.out.1.1.symm) (HXF.out.1.1.trans HK.out) (HYF.out.1.2.1.trans HXF.out.1.2.1.symm) (HYF.out.1.2.2.trans HXF.out.1.2.2.symm) rfl rfl rfl rfl).trans hex)
    have HE1 := Lib.hid (show Calls Try.prog 9 #[.agg (Xv ({ ({ ({ ({ x0 with space := a.m.space } : Msg) with shard := a.m.shard } : Msg) with block := a.m.block } : Msg) with id := a.m.id } : Msg))] z4 (RetEn z4 (bx, ex)) from by
      have := wr.encode_x z4 ({ ({ ({ ({ x0 with space := a.m.space } : Msg) with shard := a.m.shard } : Msg) with block := a.m.block } : Msg) with id := a.m.id } : Msg) none none 0 0 (xmok _ ({ ({ ({ ({ x0 with space := a.m.space } : Msg) with shard := a.m.shard } : Msg) with block := a.m.block } : Msg) with id := a.m.id } : Msg) HXP.out.1 HXP.out.2.1) HXP.out.2.2.1 HXP.out.2.2.2 (by rw [HXP.out.1]; decide) (by rw [HXP.out.2.1]; decide)
      rw [hex] at this
      rw [xv_of ({ ({ ({ ({ x0 with space := a.m.space } : Msg) with shard := a.m.shard } : Msg) with block := a.m.block } : Msg) with id := a.m.id } : Msg) HXP.out.1 HXP.out.2.1]
      exact this)
    clear hex hey
    go_wp2_with (refine wpList_load_row rfl _ _ rfl X (by rfl) _ _ _ _ VXt.out Try.underlying31 rfl infoMsg ?_)
    refine HE1.out.mono ?_
    clear HE1
    rintro e t1 ⟨A1, e1, rfl, ho1, hb1⟩
    replace ho1 : t1.ownsRow z4.heap.size 5 1 (.slice A1 bx.length e1) bx.length (u8s bx) := ho1
    have hst1 := hb1.size
    have HBt1 := Lib.hid (HBt.out.trans (hb1.mono (by omega)))
    have VXt1 := Lib.hid (show V t1 X (Xv ({ ({ ({ ({ x0 with space := a.m.space } : Msg) with shard := a.m.shard } : Msg) with block := a.m.block } : Msg) with id := a.m.id } : Msg)) 31 from blk_below hb1 VXt.out (blk_lt VXt.out))
    have VYt1 := Lib.hid (show V t1 Y (Yv b ({ ({ ({ ({ y0 with space := a.m.space } : Msg) with shard := a.m.shard } : Msg) with block := a.m.block } : Msg) with id := a.m.id } : Msg)) 31 from blk_below hb1 VYt.out (blk_lt VYt.out))
    have HO1 := Lib.hid ho1
    obtain ⟨nx, hnx⟩ : ∃ nx, bx.length = nx := ⟨_, rfl⟩
    rw [hnx] at HO1
    simp only [hnx]
    have HNX := Lib.hid hnx
    have HE2 := Lib.hid (show Calls Try.prog 9 #[.agg (Yv b ({ ({ ({ ({ y0 with space := a.m.space } : Msg) with shard := a.m.shard } : Msg) with block := a.m.block } : Msg) with id := a.m.id } : Msg))] t1 (RetEn t1 (encM ({ ({ ({ ({ y0 with space := a.m.space } : Msg) with shard := a.m.shard } : Msg) with block := a.m.block } : Msg) with id := a.m.id } : Msg))) from by
      have := wr.encode_x t1 ({ ({ ({ ({ y0 with space := a.m.space } : Msg) with shard := a.m.shard } : Msg) with block := a.m.block } : Msg) with id := a.m.id } : Msg) b.pA b.mA b.pc b.mc (ymok (y := ({ ({ ({ ({ y0 with space := a.m.space } : Msg) with shard := a.m.shard } : Msg) with block := a.m.block } : Msg) with id := a.m.id } : Msg)) (mok_of (HA.out t1 HBt1.out).2.2.2.1 HFB.out) HYP.out.1 HYP.out.2.1) HYP.out.2.2.1 HYP.out.2.2.2 (by rw [HYP.out.1]; have := HFB.out.2.1; omega) (by rw [HYP.out.2.1]; have := HFB.out.2.2.1; omega)
      rw [yv_of b ({ ({ ({ ({ y0 with space := a.m.space } : Msg) with shard := a.m.shard } : Msg) with block := a.m.block } : Msg) with id := a.m.id } : Msg) HYP.out.1 HYP.out.2.1]
      exact this)
    clear hb1 ho1 hnx
    go_wp2_with (refine wpList_load_row rfl _ _ rfl Y (by rfl) _ _ _ _ VYt1.out Try.underlying31 rfl infoMsg ?_)
    refine HE2.out.mono ?_
    clear HE2
    rw [HEQ.out]
    rintro e t2 ⟨A2, e2, rfl, ho2, hb2⟩
    replace ho2 : t2.ownsRow t1.heap.size 5 1 (.slice A2 bx.length e2) bx.length (u8s bx) := ho2
    rw [HNX.out] at ho2
    simp only [HNX.out]
    have hst2 := hb2.size
    have HBt2 := Lib.hid (HBt1.out.trans (hb2.mono (by omega)))
    have VXt2 := Lib.hid (show V t2 X (Xv ({ ({ ({ ({ x0 with space := a.m.space } : Msg) with shard := a.m.shard } : Msg) with block := a.m.block } : Msg) with id := a.m.id } : Msg)) 31 from blk_below hb2 VXt1.out (blk_lt VXt1.out))
    have HO1b := Lib.hid (own_keep HO1.out hb2 (Nat.le_refl _))
    have HO2 := Lib.hid ho2
    have HE3 := Lib.hid (show Calls Try.prog 11 #[.agg (Xv ({ ({ ({ ({ x0 with space := a.m.space } : Msg) with shard := a.m.shard } : Msg) with block := a.m.block } : Msg) with id := a.m.id } : Msg))] t2 fun e w' => e = .returned (.agg (Xv ({ ({ ({ ({ x0 with space := a.m.space } : Msg) with shard := a.m.shard } : Msg) with block := a.m.block } : Msg) with id := a.m.id } : Msg))) ∧ Below t2.heap.size t2 w' from by
      have := wr.theirs_w t2 ⟨({ ({ ({ ({ x0 with space := a.m.space } : Msg) with shard := a.m.shard } : Msg) with block := a.m.block } : Msg) with id := a.m.id } : Msg), none, 0, none, 0⟩
      rw [show (MV.val ⟨({ ({ ({ ({ x0 with space := a.m.space } : Msg) with shard := a.m.shard } : Msg) with block := a.m.block } : Msg) with id := a.m.id } : Msg), none, 0, none, 0⟩) = .agg (Xv ({ ({ ({ ({ x0 with space := a.m.space } : Msg) with shard := a.m.shard } : Msg) with block := a.m.block } : Msg) with id := a.m.id } : Msg)) by rw [xv_of ({ ({ ({ ({ x0 with space := a.m.space } : Msg) with shard := a.m.shard } : Msg) with block := a.m.block } : Msg) with id := a.m.id } : Msg) HXP.out.1 HXP.out.2.1]; rfl, show (MV.cells ⟨({ ({ ({ ({ x0 with space := a.m.space } : Msg) with shard := a.m.shard } : Msg) with block := a.m.block } : Msg) with id := a.m.id } : Msg), none, 0, none, 0⟩) = Xv ({ ({ ({ ({ x0 with space := a.m.space } : Msg) with shard := a.m.shard } : Msg) with block := a.m.block } : Msg) with id := a.m.id } : Msg) by rw [xv_of ({ ({ ({ ({ x0 with space := a.m.space } : Msg) with shard := a.m.shard } : Msg) with block := a.m.block } : Msg) with id := a.m.id } : Msg) HXP.out.1 HXP.out.2.1]; rfl] at this
      exact this)
    clear hb2 ho2
    go_wp2_with (refine wpList_load_row rfl _ _ rfl X (by rfl) _ _ _ _ VXt2.out Try.underlying31 rfl infoMsg ?_)
    refine HE3.out.mono ?_
    clear HE3
    rintro e t3 ⟨rfl, hb3⟩
    have hst3 := hb3.size
    have HBt3 := Lib.hid (HBt2.out.trans (hb3.mono (by omega)))
    have HO1c := Lib.hid (own_keep HO1b.out hb3 (Nat.le_refl _))
    have HO2c := Lib.hid (own_keep HO2.out hb3 (Nat.le_refl _))
    have HE4 := Lib.hid (show Calls Try.prog 10 #[.agg (Xv ({ ({ ({ ({ x0 with space := a.m.space } : Msg) with shard := a.m.shard } : Msg) with block := a.m.block } : Msg) with id := a.m.id } : Msg))] t3 (RetEn t3 (bx, ex)) from by
      have := wr.encode_y t3 ({ ({ ({ ({ x0 with space := a.m.space } : Msg) with shard := a.m.shard } : Msg) with block := a.m.block } : Msg) with id := a.m.id } : Msg) none none 0 0 (xmok _ ({ ({ ({ ({ x0 with space := a.m.space } : Msg) with shard := a.m.shard } : Msg) with block := a.m.block } : Msg) with id := a.m.id } : Msg) HXP.out.1 HXP.out.2.1) HXP.out.2.2.1 HXP.out.2.2.2
      rw [HEX.out] at this
      rw [xv_of ({ ({ ({ ({ x0 with space := a.m.space } : Msg) with shard := a.m.shard } : Msg) with block := a.m.block } : Msg) with id := a.m.id } : Msg) HXP.out.1 HXP.out.2.1]
      exact this)
    clear hb3
    go_wp2_with (fail)
    refine HE4.out.mono ?_
    clear HE4
    rintro e t4 ⟨A4, e4, rfl, ho4, hb4⟩
    replace ho4 : t4.ownsRow t3.heap.size 5 1 (.slice A4 bx.length e4) bx.length (u8s bx) := ho4
    rw [HNX.out] at ho4
    simp only [HNX.out]
    have hst4 := hb4.size
    have hbt4 := HBt3.out.trans (hb4.mono (by omega))
    obtain ⟨hga, _, _, _, hbw, _⟩ := HA.out t4 hbt4
    have HBW := Lib.hid hbw
    have z0 : t4.cell? ⟨N, 0, none⟩ = some (.int .i64 a.m.kind) := (mv_all hga).1
    have zl := blk_lt hga
    have ho1d := own_keep HO1c.out hb4 (Nat.le_refl _)
    have ho2d := own_keep HO2c.out hb4 (Nat.le_refl _)
    obtain ⟨S, hS⟩ : ∃ S, (⟨bx.toArray⟩ : ByteArray) = S := ⟨_, rfl⟩
    have j1 := hS ▸ conv_string (P := Try.prog) (c := e1) (own_bs ho1d) 33 9 5 Try.underlying33 Try.underlying9 Try.underlying5
    have j4 := hS ▸ conv_string (P := Try.prog) (c := e4) (own_bs ho4) 33 9 5 Try.underlying33 Try.underlying9 Try.underlying5
    have j2 := hS ▸ conv_string (P := Try.prog) (c := e2) (own_bs ho2d) 33 9 5 Try.underlying33 Try.underlying9 Try.underlying5
    clear hb4 ho4 hbt4 hga hbw ho1d ho2d hS
    go_wp2_with (fail)
    go_ret
    exact ⟨rfl, HBW.out⟩
  · have kb2 : (a.m.kind == 2) = false := by rw [hk]; rfl
    have kn2 : (a.m.kind != 2) = true := by rw [hk]; rfl
    have kb7 : (a.m.kind == 7) = false := by rw [hk]; rfl
    have kn7 : (a.m.kind != 7) = true := by rw [hk]; rfl
    have kb1 : (a.m.kind == 1) = true := by rw [hk]; rfl
    have kn1 : (a.m.kind != 1) = false := by rw [hk]; rfl
    have HK := Lib.hid hk
    clear hk
    have HBr := Lib.hid HB8.out
    have c3 : w8.cell? ⟨N, 3, none⟩ = some (.int .i64 a.m.space) := (mv_all (HA.out w8 HBr.out).1).2.2.2.1
    have d3 := Wf.at_ (F := fun k => k = X) c3 (by show ¬ N = X; omega)
    have c5 : w8.cell? ⟨N, 5, none⟩ = some (.string (cl.tx a.m.id)) := (mv_all (HA.out w8 HBr.out).1).2.2.2.2.2.1
    have d5 := Wf.at_ (F := fun k => k = X) c5 (by show ¬ N = X; omega)
    have c9 : w8.cell? ⟨N, 9, none⟩ = some (.int .i64 a.m.p.1) := (mv_all (HA.out w8 HBr.out).1).2.2.2.2.2.2.2.2.2.1
    have d9 := Wf.at_ (F := fun k => k = X) c9 (by show ¬ N = X; omega)
    have c10 : w8.cell? ⟨N, 10, none⟩ = some (.int .u64 a.m.p.2.1) := (mv_all (HA.out w8 HBr.out).1).2.2.2.2.2.2.2.2.2.2.1
    have d10 := Wf.at_ (F := fun k => k = X) c10 (by show ¬ N = X; omega)
    have c11 : w8.cell? ⟨N, 11, none⟩ = some (.int .u64 a.m.p.2.2) := (mv_all (HA.out w8 HBr.out).1).2.2.2.2.2.2.2.2.2.2.2.1
    have d11 := Wf.at_ (F := fun k => k = X) c11 (by show ¬ N = X; omega)
    go_wp2_with (first | (refine wpList_store_row rfl _ _ _ rfl X (Xv ({ zeroM with kind := a.m.kind, seq := a.m.seq, epoch := a.m.epoch } : Msg)) (by rfl) (by rfl) _ _ VXA.out infoMsg rfl HXA.out ?_; rw [hw4]) | (refine wpList_load_row rfl _ _ rfl (N + 1) (by rfl) _ _ _ _ GB4.out Try.underlying31 rfl (by rw [HBRS.out]; exact infoMsg) ?_) | (refine wpList_store_row rfl _ _ _ rfl Y br (by rfl) (by rfl) _ _ VYC.out (by rw [HBRS.out]; exact infoMsg) (by rw [HBRS.out]; rfl) HBA.out ?_; rw [hw5]))
    clear hwa hw4 hwc hw5 hw6 hw7 hw8 c0 c1 c2 k0 k1 k2 m0 m1 m2 n0 n1 n2 r0 r1 r2
    refine fr.wp_region_tree (F := fun k => k = X) (.reads [0, 1, 2, 3, 4, 5, 6] (.one 7 false (.reads [8] (.one 9 false (.reads [10] (.one 11 false .stop)))))) (by kernel_rfl) (by kernel_rfl) ?_
    refine fr.tr_reads _ (by dsimp only [pick, ord.at_]) ?_
    repeat (go_big_quiet_step (fail))
    refine wpQuiet_nil ?_
    have VV0 := Lib.hid (show V w8.drew X (Xv x0) 31 from VX.out)
    have CC0 := Lib.hid ((Chg.refl (fun k => k = X) w8).drew)
    obtain ⟨ov3, oc3⟩ : ∃ x, (w8.drew).cell? ⟨X, 3, none⟩ = some x := ⟨_, by rw [cell_of_row _ _ _ _ _ _ VV0.out]; rfl⟩
    have of3 := frozen_of_row (w8.drew) X 3 _ _ VV0.out
    have ol0 := blk_lt VV0.out
    obtain ⟨z1, hz1r⟩ : ∃ u, (w8.drew).setCell ⟨X, 3, none⟩ (.int .i64 a.m.space) = u := ⟨_, rfl⟩
    have VV1 := Lib.hid (show V z1 X (Xv ({ x0 with space := a.m.space } : Msg)) 31 by rw [← hz1r]; exact xset VV0.out rfl)
    have CC1 := Lib.hid (show Chg (fun k => k = X) w8 z1 by rw [← hz1r]; exact CC0.out.setCell (p := ⟨X, 3, none⟩) (fun _ => rfl) _)
    refine fr.tr_one _ (by dsimp only [pick, ord.at_]) ?_
    intro K1 g1 g2
    clear g2
    go_wp2_with (fail)
    refine g1 _ _ CC1.out ?_
    clear g1 hz1r oc3 of3
    refine fr.tr_reads _ (by dsimp only [pick, ord.at_]) ?_
    repeat (go_big_quiet_step (fail))
    refine wpQuiet_nil ?_
    obtain ⟨ov5, oc5⟩ : ∃ x, (z1).cell? ⟨X, 5, none⟩ = some x := ⟨_, by rw [cell_of_row _ _ _ _ _ _ VV1.out]; rfl⟩
    have of5 := frozen_of_row (z1) X 5 _ _ VV1.out
    have ol1 := blk_lt VV1.out
    obtain ⟨z2, hz2r⟩ : ∃ u, (z1).setCell ⟨X, 5, none⟩ (.string (cl.tx a.m.id)) = u := ⟨_, rfl⟩
    have VV2 := Lib.hid (show V z2 X (Xv ({ ({ x0 with space := a.m.space } : Msg) with id := a.m.id } : Msg)) 31 by rw [← hz2r]; exact xset VV1.out rfl)
    have CC2 := Lib.hid (show Chg (fun k => k = X) w8 z2 by rw [← hz2r]; exact CC1.out.setCell (p := ⟨X, 5, none⟩) (fun _ => rfl) _)
    refine fr.tr_one _ (by dsimp only [pick, ord.at_]) ?_
    intro K1 g1 g2
    clear g2
    go_wp2_with (fail)
    refine g1 _ _ CC2.out ?_
    clear g1 hz2r oc5 of5
    refine fr.tr_reads _ (by dsimp only [pick, ord.at_]) ?_
    repeat (go_big_quiet_step (fail))
    refine wpQuiet_nil ?_
    obtain ⟨ov9, oc9⟩ : ∃ x, (z2).cell? ⟨X, 9, none⟩ = some x := ⟨_, by rw [cell_of_row _ _ _ _ _ _ VV2.out]; rfl⟩
    have of9 := frozen_of_row (z2) X 9 _ _ VV2.out
    obtain ⟨ov10, oc10⟩ : ∃ x, (z2).cell? ⟨X, 10, none⟩ = some x := ⟨_, by rw [cell_of_row _ _ _ _ _ _ VV2.out]; rfl⟩
    have of10 := frozen_of_row (z2) X 10 _ _ VV2.out
    obtain ⟨ov11, oc11⟩ : ∃ x, (z2).cell? ⟨X, 11, none⟩ = some x := ⟨_, by rw [cell_of_row _ _ _ _ _ _ VV2.out]; rfl⟩
    have of11 := frozen_of_row (z2) X 11 _ _ VV2.out
    have ol2 := blk_lt VV2.out
    obtain ⟨z3, hz3r⟩ : ∃ u, (((z2).setCell ⟨X, 9, none⟩ (.int .i64 a.m.p.1)).setCell ⟨X, 10, none⟩ (.int .u64 a.m.p.2.1)).setCell ⟨X, 11, none⟩ (.int .u64 a.m.p.2.2) = u := ⟨_, rfl⟩
    have VV3 := Lib.hid (show V z3 X (Xv ({ ({ ({ x0 with space := a.m.space } : Msg) with id := a.m.id } : Msg) with p := a.m.p } : Msg)) 31 by rw [← hz3r]; exact ((V.set VV2.out _).set _).set _)
    have CC3 := Lib.hid (show Chg (fun k => k = X) w8 z3 by rw [← hz3r]; exact ((CC2.out.setCell (p := ⟨X, 9, none⟩) (fun _ => rfl) _).setCell (p := ⟨X, 10, none⟩) (fun _ => rfl) _).setCell (p := ⟨X, 11, none⟩) (fun _ => rfl) _)
    refine fr.tr_one _ (by dsimp only [pick, ord.at_]) ?_
    intro K1 g1 g2
    clear g2
    go_wp2_with (fail)
    refine g1 _ _ CC3.out ?_
    clear g1 hz3r oc9 of9 oc10 of10 oc11 of11
    refine fr.tr_stop ?_
    refine NoPanic.normal ?_
    clear c3 d3 c5 d5 c9 d9 c10 d10 c11 d11
    have PB := Lib.hid (show Below (N + 2) w1 z3 from HBr.out.trans (CC3.out.below (HA.out w8 HBr.out).2.2.2.2.2 (fun k e => by omega)))
    have PO := Lib.hid (show V z3 Y (Yv b y0) 31 from CC3.out.blk VY.out (by omega))
    have PV := Lib.hid VV3.out
    clear HBr VV0 CC0
    obtain ⟨wm, hwm⟩ : ∃ u, z3 = u := ⟨_, rfl⟩
    rw [hwm] at PB PO PV ⊢
    clear hwm
    have HBr := Lib.hid PB.out
    have c3 : wm.cell? ⟨N, 3, none⟩ = some (.int .i64 a.m.space) := (mv_all (HA.out wm HBr.out).1).2.2.2.1
    have d3 := Wf.at_ (F := fun k => k = Y) c3 (by show ¬ N = Y; omega)
    have c5 : wm.cell? ⟨N, 5, none⟩ = some (.string (cl.tx a.m.id)) := (mv_all (HA.out wm HBr.out).1).2.2.2.2.2.1
    have d5 := Wf.at_ (F := fun k => k = Y) c5 (by show ¬ N = Y; omega)
    have c9 : wm.cell? ⟨N, 9, none⟩ = some (.int .i64 a.m.p.1) := (mv_all (HA.out wm HBr.out).1).2.2.2.2.2.2.2.2.2.1
    have d9 := Wf.at_ (F := fun k => k = Y) c9 (by show ¬ N = Y; omega)
    have c10 : wm.cell? ⟨N, 10, none⟩ = some (.int .u64 a.m.p.2.1) := (mv_all (HA.out wm HBr.out).1).2.2.2.2.2.2.2.2.2.2.1
    have d10 := Wf.at_ (F := fun k => k = Y) c10 (by show ¬ N = Y; omega)
    have c11 : wm.cell? ⟨N, 11, none⟩ = some (.int .u64 a.m.p.2.2) := (mv_all (HA.out wm HBr.out).1).2.2.2.2.2.2.2.2.2.2.2.1
    have d11 := Wf.at_ (F := fun k => k = Y) c11 (by show ¬ N = Y; omega)
    go_wp2_with (fail)
    refine fr.wp_region_tree (F := fun k => k = Y) (.reads [0, 1, 2, 3, 4, 5, 6] (.one 7 false (.reads [8] (.one 9 false (.reads [10] (.one 11 false .stop)))))) (by kernel_rfl) (by kernel_rfl) ?_
    refine fr.tr_reads _ (by dsimp only [pick, ord.at_]) ?_
    repeat (go_big_quiet_step (fail))
    refine wpQuiet_nil ?_
    have VV0 := Lib.hid (show V wm.drew Y (Yv b y0) 31 from PO.out)
    have CC0 := Lib.hid ((Chg.refl (fun k => k = Y) wm).drew)
    obtain ⟨ov3, oc3⟩ : ∃ x, (wm.drew).cell? ⟨Y, 3, none⟩ = some x := ⟨_, by rw [cell_of_row _ _ _ _ _ _ VV0.out]; rfl⟩
    have of3 := frozen_of_row (wm.drew) Y 3 _ _ VV0.out
    have ol0 := blk_lt VV0.out
    obtain ⟨z1, hz1r⟩ : ∃ u, (wm.drew).setCell ⟨Y, 3, none⟩ (.int .i64 a.m.space) = u := ⟨_, rfl⟩
    have VV1 := Lib.hid (show V z1 Y (Yv b ({ y0 with space := a.m.space } : Msg)) 31 by rw [← hz1r]; exact yset VV0.out rfl)
    have CC1 := Lib.hid (show Chg (fun k => k = Y) wm z1 by rw [← hz1r]; exact CC0.out.setCell (p := ⟨Y, 3, none⟩) (fun _ => rfl) _)
    refine fr.tr_one _ (by dsimp only [pick, ord.at_]) ?_
    intro K1 g1 g2
    clear g2
    go_wp2_with (fail)
    refine g1 _ _ CC1.out ?_
    clear g1 hz1r oc3 of3
    refine fr.tr_reads _ (by dsimp only [pick, ord.at_]) ?_
    repeat (go_big_quiet_step (fail))
    refine wpQuiet_nil ?_
    obtain ⟨ov5, oc5⟩ : ∃ x, (z1).cell? ⟨Y, 5, none⟩ = some x := ⟨_, by rw [cell_of_row _ _ _ _ _ _ VV1.out]; rfl⟩
    have of5 := frozen_of_row (z1) Y 5 _ _ VV1.out
    have ol1 := blk_lt VV1.out
    obtain ⟨z2, hz2r⟩ : ∃ u, (z1).setCell ⟨Y, 5, none⟩ (.string (cl.tx a.m.id)) = u := ⟨_, rfl⟩
    have VV2 := Lib.hid (show V z2 Y (Yv b ({ ({ y0 with space := a.m.space } : Msg) with id := a.m.id } : Msg)) 31 by rw [← hz2r]; exact yset VV1.out rfl)
    have CC2 := Lib.hid (show Chg (fun k => k = Y) wm z2 by rw [← hz2r]; exact CC1.out.setCell (p := ⟨Y, 5, none⟩) (fun _ => rfl) _)
    refine fr.tr_one _ (by dsimp only [pick, ord.at_]) ?_
    intro K1 g1 g2
    clear g2
    go_wp2_with (fail)
    refine g1 _ _ CC2.out ?_
    clear g1 hz2r oc5 of5
    refine fr.tr_reads _ (by dsimp only [pick, ord.at_]) ?_
    repeat (go_big_quiet_step (fail))
    refine wpQuiet_nil ?_
    obtain ⟨ov9, oc9⟩ : ∃ x, (z2).cell? ⟨Y, 9, none⟩ = some x := ⟨_, by rw [cell_of_row _ _ _ _ _ _ VV2.out]; rfl⟩
    have of9 := frozen_of_row (z2) Y 9 _ _ VV2.out
    obtain ⟨ov10, oc10⟩ : ∃ x, (z2).cell? ⟨Y, 10, none⟩ = some x := ⟨_, by rw [cell_of_row _ _ _ _ _ _ VV2.out]; rfl⟩
    have of10 := frozen_of_row (z2) Y 10 _ _ VV2.out
    obtain ⟨ov11, oc11⟩ : ∃ x, (z2).cell? ⟨Y, 11, none⟩ = some x := ⟨_, by rw [cell_of_row _ _ _ _ _ _ VV2.out]; rfl⟩
    have of11 := frozen_of_row (z2) Y 11 _ _ VV2.out
    have ol2 := blk_lt VV2.out
    obtain ⟨z3, hz3r⟩ : ∃ u, (((z2).setCell ⟨Y, 9, none⟩ (.int .i64 a.m.p.1)).setCell ⟨Y, 10, none⟩ (.int .u64 a.m.p.2.1)).setCell ⟨Y, 11, none⟩ (.int .u64 a.m.p.2.2) = u := ⟨_, rfl⟩
    have VV3 := Lib.hid (show V z3 Y (Yv b ({ ({ ({ y0 with space := a.m.space } : Msg) with id := a.m.id } : Msg) with p := a.m.p } : Msg)) 31 by rw [← hz3r]; exact ((V.set VV2.out _).set _).set _)
    have CC3 := Lib.hid (show Chg (fun k => k = Y) wm z3 by rw [← hz3r]; exact ((CC2.out.setCell (p := ⟨Y, 9, none⟩) (fun _ => rfl) _).setCell (p := ⟨Y, 10, none⟩) (fun _ => rfl) _).setCell (p := ⟨Y, 11, none⟩) (fun _ => rfl) _)
    refine fr.tr_one _ (by dsimp only [pick, ord.at_]) ?_
    intro K1 g1 g2
    clear g2
    go_wp2_with (fail)
    refine g1 _ _ CC3.out ?_
    clear g1 hz3r oc9 of9 oc10 of10 oc11 of11
    refine fr.tr_stop ?_
    refine NoPanic.normal ?_
    clear c3 d3 c5 d5 c9 d9 c10 d10 c11 d11
    have QB := Lib.hid (show Below (N + 2) w1 z3 from HBr.out.trans (CC3.out.below (HA.out wm HBr.out).2.2.2.2.2 (fun k e => by omega)))
    have QO := Lib.hid (show V z3 X (Xv ({ ({ ({ x0 with space := a.m.space } : Msg) with id := a.m.id } : Msg) with p := a.m.p } : Msg)) 31 from CC3.out.blk PV.out (by omega))
    have QV := Lib.hid VV3.out
    have q1 : z3.cell? ⟨N, 0, none⟩ = some (.int .i64 a.m.kind) := (mv_all (HA.out z3 QB.out).1).1
    have ql1 : N < z3.heap.size := blk_lt (HA.out z3 QB.out).1
    have hsw : N + 2 ≤ z3.heap.size := (HA.out z3 QB.out).2.2.2.2.2
    have HBt := Lib.hid QB.out
    have VXt := Lib.hid QO.out
    have VYt := Lib.hid QV.out
    have HXP := Lib.hid (show ({ ({ ({ x0 with space := a.m.space } : Msg) with id := a.m.id } : Msg) with p := a.m.p } : Msg).pts = [] ∧ ({ ({ ({ x0 with space := a.m.space } : Msg) with id := a.m.id } : Msg) with p := a.m.p } : Msg).mts = [] ∧ ({ ({ ({ x0 with space := a.m.space } : Msg) with id := a.m.id } : Msg) with p := a.m.p } : Msg).id.length ≤ 1000000000 ∧ PtOk ({ ({ ({ x0 with space := a.m.space } : Msg) with id := a.m.id } : Msg) with p := a.m.p } : Msg).p from ⟨HXF.out.2.1, HXF.out.2.2.1, (by have := HFA.out.1; show a.m.id.length ≤ _; omega), MA1.out.pt⟩)
    have HYP := Lib.hid (show ({ ({ ({ y0 with space := a.m.space } : Msg) with id := a.m.id } : Msg) with p := a.m.p } : Msg).pts = b.m.pts ∧ ({ ({ ({ y0 with space := a.m.space } : Msg) with id := a.m.id } : Msg) with p := a.m.p } : Msg).mts = b.m.mts ∧ ({ ({ ({ y0 with space := a.m.space } : Msg) with id := a.m.id } : Msg) with p := a.m.p } : Msg).id.length ≤ 1000000000 ∧ PtOk ({ ({ ({ y0 with space := a.m.space } : Msg) with id := a.m.id } : Msg) with p := a.m.p } : Msg).p from ⟨HYF.out.2.1, HYF.out.2.2.1, (by have := HFA.out.1; show a.m.id.length ≤ _; omega), MA1.out.pt⟩)
    obtain ⟨⟨bx, ex⟩, hex⟩ : ∃ en, encM ({ ({ ({ x0 with space := a.m.space } : Msg) with id := a.m.id } : Msg) with p := a.m.p } : Msg) = en := ⟨_, rfl⟩
    obtain ⟨⟨bY, ey⟩, hey⟩ : ∃ en, encM ({ ({ ({ y0 with space := a.m.space } : Msg) with id := a.m.id } : Msg) with p := a.m.p } : Msg) = en := ⟨_, rfl⟩
    have HEX := Lib.hid hex
    have HEQ := Lib.hid (show encM ({ ({ ({ y0 with space := a.m.space } : Msg) with id := a.m.id } : Msg) with p := a.m.p } : Msg) = (bx, ex) from (encM_1 (x := ({ ({ ({ y0 with space := a.m.space } : Msg) with id := a.m.id } : Msg) with p := a.m.p } : Msg)) (y := ({ ({ ({ x0 with space := a.m.space } : Msg) with id := a.m.id } : Msg) with p := a.m.p } : Msg)) (HYF.out.1.1.trans HXF.out.1.1.symm) (HXF.out.1.1.trans HK.out) (HYF.out.1.2.1.trans HXF.out.1.2.1.symm) (HYF.out.1.2.2.trans HXF.out.1.2.2.symm) rfl rfl rfl).trans hex)
    have HE1 := Lib.hid (show Calls Try.prog 9 #[.agg (Xv ({ ({ ({ x0 with space := a.m.space } : Msg) with id := a.m.id } : Msg) with p := a.m.p } : Msg))] z3 (RetEn z3 (bx, ex)) from by
      have := wr.encode_x z3 ({ ({ ({ x0 with space := a.m.space } : Msg) with id := a.m.id } : Msg) with p := a.m.p } : Msg) none none 0 0 (xmok _ ({ ({ ({ x0 with space := a.m.space } : Msg) with id := a.m.id } : Msg) with p := a.m.p } : Msg) HXP.out.1 HXP.out.2.1) HXP.out.2.2.1 HXP.out.2.2.2 (by rw [HXP.out.1]; decide) (by rw [HXP.out.2.1]; decide)
      rw [hex] at this
      rw [xv_of ({ ({ ({ x0 with space := a.m.space } : Msg) with id := a.m.id } : Msg) with p := a.m.p } : Msg) HXP.out.1 HXP.out.2.1]
      exact this)
    clear hex hey
    go_wp2_with (refine wpList_load_row rfl _ _ rfl X (by rfl) _ _ _ _ VXt.out Try.underlying31 rfl infoMsg ?_)
    refine HE1.out.mono ?_
    clear HE1
    rintro e t1 ⟨A1, e1, rfl, ho1, hb1⟩
    replace ho1 : t1.ownsRow z3.heap.size 5 1 (.slice A1 bx.length e1) bx.length (u8s bx) := ho1
    have hst1 := hb1.size
    have HBt1 := Lib.hid (HBt.out.trans (hb1.mono (by omega)))
    have VXt1 := Lib.hid (show V t1 X (Xv ({ ({ ({ x0 with space := a.m.space } : Msg) with id := a.m.id } : Msg) with p := a.m.p } : Msg)) 31 from blk_below hb1 VXt.out (blk_lt VXt.out))
    have VYt1 := Lib.hid (show V t1 Y (Yv b ({ ({ ({ y0 with space := a.m.space } : Msg) with id := a.m.id } : Msg) with p := a.m.p } : Msg)) 31 from blk_below hb1 VYt.out (blk_lt VYt.out))
    have HO1 := Lib.hid ho1
    obtain ⟨nx, hnx⟩ : ∃ nx, bx.length = nx := ⟨_, rfl⟩
    rw [hnx] at HO1
    simp only [hnx]
    have HNX := Lib.hid hnx
    have HE2 := Lib.hid (show Calls Try.prog 9 #[.agg (Yv b ({ ({ ({ y0 with space := a.m.space } : Msg) with id := a.m.id } : Msg) with p := a.m.p } : Msg))] t1 (RetEn t1 (encM ({ ({ ({ y0 with space := a.m.space } : Msg) with id := a.m.id } : Msg) with p := a.m.p } : Msg))) from by
      have := wr.encode_x t1 ({ ({ ({ y0 with space := a.m.space } : Msg) with id := a.m.id } : Msg) with p := a.m.p } : Msg) b.pA b.mA b.pc b.mc (ymok (y := ({ ({ ({ y0 with space := a.m.space } : Msg) with id := a.m.id } : Msg) with p := a.m.p } : Msg)) (mok_of (HA.out t1 HBt1.out).2.2.2.1 HFB.out) HYP.out.1 HYP.out.2.1) HYP.out.2.2.1 HYP.out.2.2.2 (by rw [HYP.out.1]; have := HFB.out.2.1; omega) (by rw [HYP.out.2.1]; have := HFB.out.2.2.1; omega)
      rw [yv_of b ({ ({ ({ y0 with space := a.m.space } : Msg) with id := a.m.id } : Msg) with p := a.m.p } : Msg) HYP.out.1 HYP.out.2.1]
      exact this)
    clear hb1 ho1 hnx
    go_wp2_with (refine wpList_load_row rfl _ _ rfl Y (by rfl) _ _ _ _ VYt1.out Try.underlying31 rfl infoMsg ?_)
    refine HE2.out.mono ?_
    clear HE2
    rw [HEQ.out]
    rintro e t2 ⟨A2, e2, rfl, ho2, hb2⟩
    replace ho2 : t2.ownsRow t1.heap.size 5 1 (.slice A2 bx.length e2) bx.length (u8s bx) := ho2
    rw [HNX.out] at ho2
    simp only [HNX.out]
    have hst2 := hb2.size
    have HBt2 := Lib.hid (HBt1.out.trans (hb2.mono (by omega)))
    have VXt2 := Lib.hid (show V t2 X (Xv ({ ({ ({ x0 with space := a.m.space } : Msg) with id := a.m.id } : Msg) with p := a.m.p } : Msg)) 31 from blk_below hb2 VXt1.out (blk_lt VXt1.out))
    have HO1b := Lib.hid (own_keep HO1.out hb2 (Nat.le_refl _))
    have HO2 := Lib.hid ho2
    have HE3 := Lib.hid (show Calls Try.prog 11 #[.agg (Xv ({ ({ ({ x0 with space := a.m.space } : Msg) with id := a.m.id } : Msg) with p := a.m.p } : Msg))] t2 fun e w' => e = .returned (.agg (Xv ({ ({ ({ x0 with space := a.m.space } : Msg) with id := a.m.id } : Msg) with p := a.m.p } : Msg))) ∧ Below t2.heap.size t2 w' from by
      have := wr.theirs_w t2 ⟨({ ({ ({ x0 with space := a.m.space } : Msg) with id := a.m.id } : Msg) with p := a.m.p } : Msg), none, 0, none, 0⟩
      rw [show (MV.val ⟨({ ({ ({ x0 with space := a.m.space } : Msg) with id := a.m.id } : Msg) with p := a.m.p } : Msg), none, 0, none, 0⟩) = .agg (Xv ({ ({ ({ x0 with space := a.m.space } : Msg) with id := a.m.id } : Msg) with p := a.m.p } : Msg)) by rw [xv_of ({ ({ ({ x0 with space := a.m.space } : Msg) with id := a.m.id } : Msg) with p := a.m.p } : Msg) HXP.out.1 HXP.out.2.1]; rfl, show (MV.cells ⟨({ ({ ({ x0 with space := a.m.space } : Msg) with id := a.m.id } : Msg) with p := a.m.p } : Msg), none, 0, none, 0⟩) = Xv ({ ({ ({ x0 with space := a.m.space } : Msg) with id := a.m.id } : Msg) with p := a.m.p } : Msg) by rw [xv_of ({ ({ ({ x0 with space := a.m.space } : Msg) with id := a.m.id } : Msg) with p := a.m.p } : Msg) HXP.out.1 HXP.out.2.1]; rfl] at this
      exact this)
    clear hb2 ho2
    go_wp2_with (refine wpList_load_row rfl _ _ rfl X (by rfl) _ _ _ _ VXt2.out Try.underlying31 rfl infoMsg ?_)
    refine HE3.out.mono ?_
    clear HE3
    rintro e t3 ⟨rfl, hb3⟩
    have hst3 := hb3.size
    have HBt3 := Lib.hid (HBt2.out.trans (hb3.mono (by omega)))
    have HO1c := Lib.hid (own_keep HO1b.out hb3 (Nat.le_refl _))
    have HO2c := Lib.hid (own_keep HO2.out hb3 (Nat.le_refl _))
    have HE4 := Lib.hid (show Calls Try.prog 10 #[.agg (Xv ({ ({ ({ x0 with space := a.m.space } : Msg) with id := a.m.id } : Msg) with p := a.m.p } : Msg))] t3 (RetEn t3 (bx, ex)) from by
      have := wr.encode_y t3 ({ ({ ({ x0 with space := a.m.space } : Msg) with id := a.m.id } : Msg) with p := a.m.p } : Msg) none none 0 0 (xmok _ ({ ({ ({ x0 with space := a.m.space } : Msg) with id := a.m.id } : Msg) with p := a.m.p } : Msg) HXP.out.1 HXP.out.2.1) HXP.out.2.2.1 HXP.out.2.2.2
      rw [HEX.out] at this
      rw [xv_of ({ ({ ({ x0 with space := a.m.space } : Msg) with id := a.m.id } : Msg) with p := a.m.p } : Msg) HXP.out.1 HXP.out.2.1]
      exact this)
    clear hb3
    go_wp2_with (fail)
    refine HE4.out.mono ?_
    clear HE4
    rintro e t4 ⟨A4, e4, rfl, ho4, hb4⟩
    replace ho4 : t4.ownsRow t3.heap.size 5 1 (.slice A4 bx.length e4) bx.length (u8s bx) := ho4
    rw [HNX.out] at ho4
    simp only [HNX.out]
    have hst4 := hb4.size
    have hbt4 := HBt3.out.trans (hb4.mono (by omega))
    obtain ⟨hga, _, _, _, hbw, _⟩ := HA.out t4 hbt4
    have HBW := Lib.hid hbw
    have z0 : t4.cell? ⟨N, 0, none⟩ = some (.int .i64 a.m.kind) := (mv_all hga).1
    have zl := blk_lt hga
    have ho1d := own_keep HO1c.out hb4 (Nat.le_refl _)
    have ho2d := own_keep HO2c.out hb4 (Nat.le_refl _)
    obtain ⟨S, hS⟩ : ∃ S, (⟨bx.toArray⟩ : ByteArray) = S := ⟨_, rfl⟩
    have j1 := hS ▸ conv_string (P := Try.prog) (c := e1) (own_bs ho1d) 33 9 5 Try.underlying33 Try.underlying9 Try.underlying5
    have j4 := hS ▸ conv_string (P := Try.prog) (c := e4) (own_bs ho4) 33 9 5 Try.underlying33 Try.underlying9 Try.underlying5
    have j2 := hS ▸ conv_string (P := Try.prog) (c := e2) (own_bs ho2d) 33 9 5 Try.underlying33 Try.underlying9 Try.underlying5
    clear hb4 ho4 hbt4 hga hbw ho1d ho2d hS
    go_wp2_with (fail)
    go_ret
    exact ⟨rfl, HBW.out⟩
  · have kb2 : (a.m.kind == 2) = false := by simp; omega
    have kn2 : (a.m.kind != 2) = true := by simp; omega
    have kb7 : (a.m.kind == 7) = false := by simp; omega
    have kn7 : (a.m.kind != 7) = true := by simp; omega
    have kb1 : (a.m.kind == 1) = false := by simp; omega
    have kn1 : (a.m.kind != 1) = true := by simp; omega
    have HBt := Lib.hid HB8.out
    have VXt := Lib.hid VX.out
    have VYt := Lib.hid VY.out
    have hsw : N + 2 ≤ w8.heap.size := (HA.out w8 HBt.out).2.2.2.2.2
    have HXP := Lib.hid (show x0.pts = [] ∧ x0.mts = [] ∧ x0.id.length ≤ 1000000000 ∧ PtOk x0.p from ⟨HXF.out.2.1, HXF.out.2.2.1, (by show x0.id.length ≤ _; rw [HXF.out.2.2.2.1]; decide), (by show PtOk x0.p; rw [HXF.out.2.2.2.2]; exact zero_mok.2.1)⟩)
    have HYP := Lib.hid (show y0.pts = b.m.pts ∧ y0.mts = b.m.mts ∧ y0.id.length ≤ 1000000000 ∧ PtOk y0.p from ⟨HYF.out.2.1, HYF.out.2.2.1, (by show y0.id.length ≤ _; rw [HYF.out.2.2.2.1]; have := HFB.out.1; omega), (by show PtOk y0.p; rw [HYF.out.2.2.2.2]; exact MB1.out.pt)⟩)
    obtain ⟨⟨bx, ex⟩, hex⟩ : ∃ en, encM x0 = en := ⟨_, rfl⟩
    obtain ⟨⟨bY, ey⟩, hey⟩ : ∃ en, encM y0 = en := ⟨_, rfl⟩
    have HEX := Lib.hid hex
    have HEQ := Lib.hid (show True from trivial)
    have HE1 := Lib.hid (show Calls Try.prog 9 #[.agg (Xv x0)] w8 (RetEn w8 (bx, ex)) from by
      have := wr.encode_x w8 x0 none none 0 0 (xmok _ x0 HXP.out.1 HXP.out.2.1) HXP.out.2.2.1 HXP.out.2.2.2 (by rw [HXP.out.1]; decide) (by rw [HXP.out.2.1]; decide)
      rw [hex] at this
      rw [xv_of x0 HXP.out.1 HXP.out.2.1]
      exact this)
    clear hex hey
    go_wp2_with (first | (refine wpList_store_row rfl _ _ _ rfl X (Xv ({ zeroM with kind := a.m.kind, seq := a.m.seq, epoch := a.m.epoch } : Msg)) (by rfl) (by rfl) _ _ VXA.out infoMsg rfl HXA.out ?_; rw [hw4]) | (refine wpList_load_row rfl _ _ rfl (N + 1) (by rfl) _ _ _ _ GB4.out Try.underlying31 rfl (by rw [HBRS.out]; exact infoMsg) ?_) | (refine wpList_store_row rfl _ _ _ rfl Y br (by rfl) (by rfl) _ _ VYC.out (by rw [HBRS.out]; exact infoMsg) (by rw [HBRS.out]; rfl) HBA.out ?_; rw [hw5]) | (refine wpList_load_row rfl _ _ rfl X (by rfl) _ _ _ _ VXt.out Try.underlying31 rfl infoMsg ?_))
    clear hwa hw4 hwc hw5 hw6 hw7 hw8 c0 c1 c2 k0 k1 k2 m0 m1 m2 n0 n1 n2 r0 r1 r2
    refine HE1.out.mono ?_
    clear HE1
    rintro e t1 ⟨A1, e1, rfl, ho1, hb1⟩
    replace ho1 : t1.ownsRow w8.heap.size 5 1 (.slice A1 bx.length e1) bx.length (u8s bx) := ho1
    have hst1 := hb1.size
    have HBt1 := Lib.hid (HBt.out.trans (hb1.mono (by omega)))
    have VXt1 := Lib.hid (show V t1 X (Xv x0) 31 from blk_below hb1 VXt.out (blk_lt VXt.out))
    have VYt1 := Lib.hid (show V t1 Y (Yv b y0) 31 from blk_below hb1 VYt.out (blk_lt VYt.out))
    have HO1 := Lib.hid ho1
    obtain ⟨nx, hnx⟩ : ∃ nx, bx.length = nx := ⟨_, rfl⟩
    rw [hnx] at HO1
    simp only [hnx]
    have HNX := Lib.hid hnx
    have HE2 := Lib.hid (show Calls Try.prog 9 #[.agg (Yv b y0)] t1 (RetEn t1 (encM y0)) from by
      have := wr.encode_x t1 y0 b.pA b.mA b.pc b.mc (ymok (y := y0) (mok_of (HA.out t1 HBt1.out).2.2.2.1 HFB.out) HYP.out.1 HYP.out.2.1) HYP.out.2.2.1 HYP.out.2.2.2 (by rw [HYP.out.1]; have := HFB.out.2.1; omega) (by rw [HYP.out.2.1]; have := HFB.out.2.2.1; omega)
      rw [yv_of b y0 HYP.out.1 HYP.out.2.1]
      exact this)
    clear hb1 ho1 hnx
    go_wp2_with (refine wpList_load_row rfl _ _ rfl Y (by rfl) _ _ _ _ VYt1.out Try.underlying31 rfl infoMsg ?_)
    refine HE2.out.mono ?_
    clear HE2
    rintro e t2 ⟨A2, e2, rfl, ho2, hb2⟩
    have hst2 := hb2.size
    have HBt2 := Lib.hid (HBt1.out.trans (hb2.mono (by omega)))
    have VXt2 := Lib.hid (show V t2 X (Xv x0) 31 from blk_below hb2 VXt1.out (blk_lt VXt1.out))
    have HO1b := Lib.hid (own_keep HO1.out hb2 (Nat.le_refl _))
    have HO2 := Lib.hid ho2
    have HE3 := Lib.hid (show Calls Try.prog 11 #[.agg (Xv x0)] t2 fun e w' => e = .returned (.agg (Xv x0)) ∧ Below t2.heap.size t2 w' from by
      have := wr.theirs_w t2 ⟨x0, none, 0, none, 0⟩
      rw [show (MV.val ⟨x0, none, 0, none, 0⟩) = .agg (Xv x0) by rw [xv_of x0 HXP.out.1 HXP.out.2.1]; rfl, show (MV.cells ⟨x0, none, 0, none, 0⟩) = Xv x0 by rw [xv_of x0 HXP.out.1 HXP.out.2.1]; rfl] at this
      exact this)
    clear hb2 ho2
    go_wp2_with (refine wpList_load_row rfl _ _ rfl X (by rfl) _ _ _ _ VXt2.out Try.underlying31 rfl infoMsg ?_)
    refine HE3.out.mono ?_
    clear HE3
    rintro e t3 ⟨rfl, hb3⟩
    have hst3 := hb3.size
    have HBt3 := Lib.hid (HBt2.out.trans (hb3.mono (by omega)))
    have HO1c := Lib.hid (own_keep HO1b.out hb3 (Nat.le_refl _))
    have HO2c := Lib.hid (own_keep HO2.out hb3 (Nat.le_refl _))
    have HE4 := Lib.hid (show Calls Try.prog 10 #[.agg (Xv x0)] t3 (RetEn t3 (bx, ex)) from by
      have := wr.encode_y t3 x0 none none 0 0 (xmok _ x0 HXP.out.1 HXP.out.2.1) HXP.out.2.2.1 HXP.out.2.2.2
      rw [HEX.out] at this
      rw [xv_of x0 HXP.out.1 HXP.out.2.1]
      exact this)
    clear hb3
    go_wp2_with (fail)
    refine HE4.out.mono ?_
    clear HE4
    rintro e t4 ⟨A4, e4, rfl, ho4, hb4⟩
    replace ho4 : t4.ownsRow t3.heap.size 5 1 (.slice A4 bx.length e4) bx.length (u8s bx) := ho4
    rw [HNX.out] at ho4
    simp only [HNX.out]
    have hst4 := hb4.size
    have hbt4 := HBt3.out.trans (hb4.mono (by omega))
    obtain ⟨hga, _, _, _, hbw, _⟩ := HA.out t4 hbt4
    have HBW := Lib.hid hbw
    have z0 : t4.cell? ⟨N, 0, none⟩ = some (.int .i64 a.m.kind) := (mv_all hga).1
    have zl := blk_lt hga
    have ho1d := own_keep HO1c.out hb4 (Nat.le_refl _)
    have ho2d := own_keep HO2c.out hb4 (Nat.le_refl _)
    obtain ⟨S, hS⟩ : ∃ S, (⟨bx.toArray⟩ : ByteArray) = S := ⟨_, rfl⟩
    have j1 := hS ▸ conv_string (P := Try.prog) (c := e1) (own_bs ho1d) 33 9 5 Try.underlying33 Try.underlying9 Try.underlying5
    have j4 := hS ▸ conv_string (P := Try.prog) (c := e4) (own_bs ho4) 33 9 5 Try.underlying33 Try.underlying9 Try.underlying5
    clear hb4 ho4 hbt4 hga hbw ho1d ho2d hS
    go_wp2_with (fail)
    go_ret
    exact ⟨rfl, HBW.out⟩
end Go.Proofs.Ythkcnakodlbdpaa.lawWireFields
