/-
  Tsz: the program's way to write a point.
-/
import Derived.Test.YtknjejejkgihbaaDoorTsChange
namespace Go.Proofs.YtknjejejkgihbaaDoor.ts
open Go.ChangeShapes Go.WideShapes Go.ChangeAt Go.RowKit plain words ord mem bitm

theorem encT (pw : Nat) (t d : Int) (v : Nat) (a : Win) (s : Nat) (b : Win) (t' : Int) : (encC pw t d v a s b).setIfInBounds 1 (.int .i64 t') = encC pw t' d v a s b := rfl
theorem encD (pw : Nat) (t d : Int) (v : Nat) (a : Win) (s : Nat) (b : Win) (d' : Int) : (encC pw t d v a s b).setIfInBounds 2 (.int .i64 d') = encC pw t d' v a s b := rfl
theorem PW.setT {H : Nat} {w : World} {pe pw : Nat} {r : Option Nat} {X : List Bool} {t d : Int} {v s : Nat} {a b : Win} (h : PW H w pe pw r X t d v a s b) (t' : Int) : PW H (w.setCell ⟨pe, 1, none⟩ (.int .i64 t')) pe pw r X t' d v a s b :=
  h.set (chg_pe pe 1 _) (by rw [heap_setCell_same _ _ _ _ _ _ h.enc, encT])
theorem PW.setD {H : Nat} {w : World} {pe pw : Nat} {r : Option Nat} {X : List Bool} {t d : Int} {v s : Nat} {a b : Win} (h : PW H w pe pw r X t d v a s b) (d' : Int) : PW H (w.setCell ⟨pe, 2, none⟩ (.int .i64 d')) pe pw r X t d' v a s b :=
  h.set (chg_pe pe 2 _) (by rw [heap_setCell_same _ _ _ _ _ _ h.enc, encD])
theorem PW.setV {H : Nat} {w : World} {pe pw : Nat} {r : Option Nat} {X : List Bool} {t d : Int} {v s : Nat} {a b : Win} (h : PW H w pe pw r X t d v a s b) (v' : Nat) : PW H (w.setCell ⟨pe, 3, none⟩ (.int .u64 (v' : Int))) pe pw r X t d v' a s b :=
  h.set (chg_pe pe 3 _) (by rw [heap_setCell_same _ _ _ _ _ _ h.enc, enc3])
theorem PW.setS {H : Nat} {w : World} {pe pw : Nat} {r : Option Nat} {X : List Bool} {t d : Int} {v s : Nat} {a b : Win} (h : PW H w pe pw r X t d v a s b) (s' : Nat) : PW H (w.setCell ⟨pe, 7, none⟩ (.int .u64 (s' : Int))) pe pw r X t d v a s' b :=
  h.set (chg_pe pe 7 _) (by rw [heap_setCell_same _ _ _ _ _ _ h.enc, enc7])
theorem PW.fresh {H : Nat} {w : World} {pe pw : Nat} {r : Option Nat} {X : List Bool} {t d : Int} {v s : Nat} {a b : Win} (h : PW H w pe pw r X t d v a s b) {N : Nat} (hN : w.heap.size ≤ N) : N ≠ pe ∧ N ≠ pw ∧ some N ≠ r := by
  have h1 := blk_lt h.enc
  have h2 := h.wr.lt
  refine ⟨by omega, by omega, fun e => ?_⟩
  cases e
  have := h.wr.row_lt
  omega
set_option maxHeartbeats 1000000 in
set_option maxRecDepth 100000 in
theorem first_x (H : Nat) (w : World) (pe pw : Nat) (r : Option Nat) (X : List Bool) (t d : Int) (v : Nat) (a : Win) (s : Nat) (b : Win) (h : PW H w pe pw r X t d v a s b) (hl : X.length ≤ 800000000) (pt pv ps : Nat) (hpt : pt ≤ 1099511627776) (hpv : lt64 pv) (hps : lt64 ps) :
    Calls Tryd.prog 22 #[.pointer (some ⟨pe, 0, none⟩), .agg #[.int .i64 (pt : Int), .int .u64 (pv : Int), .int .u64 (ps : Int)], .bool true] w (RetPW H w pe pw r (X ++ (bitsOf pt 64 ++ bitsOf pv 64 ++ bitsOf ps 64)) pt d pv a ps b) := by
  obtain ⟨N, hN⟩ : ∃ N, w.heap.size = N := ⟨_, rfl⟩
  obtain ⟨hn1, hn2, n1⟩ := h.fresh (N := N) (by omega)
  obtain ⟨w1, hw1⟩ : ∃ w1, w.alloc (.cells #[.int .i64 (pt : Int), .int .u64 (pv : Int), .int .u64 (ps : Int)] 39) = w1 := ⟨_, rfl⟩
  have hb1 : Below w.heap.size w w1 := by rw [← hw1]; exact (Below.refl _ _).alloc (Nat.le_refl _) _
  have hg1 : w1.heap[N]? = some (.cells #[.int .i64 (pt : Int), .int .u64 (pv : Int), .int .u64 (ps : Int)] 39 (0, 0)) := by rw [← hw1, ← hN]; exact alloc_new _ _
  have P1 := Lib.hid (h.below hb1)
  have K1 := Lib.hid (touch_none (pe := pe) (pw := pw) (r := r) hb1)
  have G1 := Lib.hid hg1
  have HN := Lib.hid hN
  have HW1 := Lib.hid hw1
  clear hN hb1 hg1 hw1 h
  have hm : (pt : Int) % 18446744073709551616 = (pt : Int) := by omega
  go_enter Tryd.func22, Tryd.ntmps22
  go_wp2_with (fail)
  rw [HN.out, HW1.out]
  obtain ⟨⟨k0, k1, k2⟩, _⟩ := P1.out.cells
  replace k0 := Wf.at_ (F := fun k => k ≠ pe ∧ k ≠ N) k0 (fun e => e.1 rfl)
  replace k1 := Wf.at_ (F := fun k => k ≠ pe ∧ k ≠ N) k1 (fun e => e.1 rfl)
  obtain ⟨m0, m1, m2⟩ := cells3 G1.out
  replace m0 := Wf.at_ (F := fun k => k ≠ pe ∧ k ≠ N) m0 (fun e => e.2 rfl)
  replace m1 := Wf.at_ (F := fun k => k ≠ pe ∧ k ≠ N) m1 (fun e => e.2 rfl)
  replace m2 := Wf.at_ (F := fun k => k ≠ pe ∧ k ≠ N) m2 (fun e => e.2 rfl)
  refine fr.wp_region_tree (F := fun k => k ≠ pe ∧ k ≠ N) (.reads [0, 1, 2, 3, 4, 5, 6] (.one 7 false .stop)) (by kernel_rfl) (by kernel_rfl) ?_
  refine fr.tr_reads _ (by dsimp only [pick, at_]) ?_
  repeat (go_big_quiet_step (fail))
  refine wpQuiet_nil ?_
  clear k0 k1 k2 m0 m1 m2
  refine fr.tr_one _ (by dsimp only [pick, at_]) ?_
  intro KK g1 g2
  clear g1
  have HQ := Lib.hid (P1.out.drew.put (by omega) pt (by unfold lt64; omega) 64 (by omega))
  go_wp2_with (fail)
  refine HQ.out.mono ?_
  rintro e w2 ⟨rfl, hk2, r2, X2, HX2, hp2, hr2⟩
  have hk2' := (touch_none (pe := pe) (pw := pw) (r := r) (words.below_drewN _ w1 1)).trans hk2 (fun _ _ e => e)
  have P2 := Lib.hid hp2
  have K2 := Lib.hid (touch_chg K1.out (Or.inl rfl) hk2')
  have R2 := Lib.hid (two_r (Or.inl rfl) hr2 K1.out.size)
  have n2 := n_r n1 hr2 (by have := blk_lt G1.out; simp; omega)
  have HF2 := Lib.hid (show Chg (fun k => k ≠ pe ∧ k ≠ N) w1 w2 from P1.out.chgF2 hp2 hk2' ⟨hn1, hn2, n1⟩)
  have G2 := Lib.hid (hk2'.blk G1.out (n_t hn1 hn2 n1))
  clear hk2 hk2' hp2 hr2 HQ P1
  go_wp2_with (fail)
  refine g2 _ _ HF2.out ?_
  clear g2
  refine fr.tr_stop ?_
  refine NoPanic.normal ?_
  go_wp2_with (fail)
  have hX2 : X2.length ≤ 800000064 := by rw [HX2.out, List.length_append, bitsOf_len]; omega
  clear G1
  obtain ⟨⟨k0, k1, k2⟩, _⟩ := P2.out.cells
  replace k0 := Wf.at_ (F := fun k => k ≠ pe ∧ k ≠ N) k0 (fun e => e.1 rfl)
  replace k1 := Wf.at_ (F := fun k => k ≠ pe ∧ k ≠ N) k1 (fun e => e.1 rfl)
  obtain ⟨m0, m1, m2⟩ := cells3 G2.out
  replace m0 := Wf.at_ (F := fun k => k ≠ pe ∧ k ≠ N) m0 (fun e => e.2 rfl)
  replace m1 := Wf.at_ (F := fun k => k ≠ pe ∧ k ≠ N) m1 (fun e => e.2 rfl)
  replace m2 := Wf.at_ (F := fun k => k ≠ pe ∧ k ≠ N) m2 (fun e => e.2 rfl)
  refine fr.wp_region_tree (F := fun k => k ≠ pe ∧ k ≠ N) (.reads [0, 1, 2, 3, 4, 5] (.one 6 false .stop)) (by kernel_rfl) (by kernel_rfl) ?_
  refine fr.tr_reads _ (by dsimp only [pick, at_]) ?_
  repeat (go_big_quiet_step (fail))
  refine wpQuiet_nil ?_
  clear k0 k1 k2 m0 m1 m2
  refine fr.tr_one _ (by dsimp only [pick, at_]) ?_
  intro KK g1 g2
  clear g1
  have HQ := Lib.hid (P2.out.drew.put (by omega) pv hpv 64 (by omega))
  go_wp2_with (fail)
  refine HQ.out.mono ?_
  rintro e w3 ⟨rfl, hk3, r3, X3, HX3, hp3, hr3⟩
  have hk3' := (touch_none (pe := pe) (pw := pw) (r := r2) (words.below_drewN _ w2 1)).trans hk3 (fun _ _ e => e)
  have P3 := Lib.hid hp3
  have K3 := Lib.hid (touch_chg K2.out R2.out hk3')
  have R3 := Lib.hid (two_r R2.out hr3 K2.out.size)
  have n3 := n_r n2 hr3 (by have := blk_lt G2.out; simp; omega)
  have HF3 := Lib.hid (show Chg (fun k => k ≠ pe ∧ k ≠ N) w2 w3 from P2.out.chgF2 hp3 hk3' ⟨hn1, hn2, n2⟩)
  have G3 := Lib.hid (hk3'.blk G2.out (n_t hn1 hn2 n2))
  clear hk3 hk3' hp3 hr3 HQ P2
  go_wp2_with (fail)
  refine g2 _ _ HF3.out ?_
  clear g2
  refine fr.tr_stop ?_
  refine NoPanic.normal ?_
  go_wp2_with (fail)
  have hX3 : X3.length ≤ 800000128 := by rw [HX3.out, List.length_append, bitsOf_len]; omega
  clear G2
  obtain ⟨⟨k0, k1, k2⟩, _⟩ := P3.out.cells
  replace k0 := Wf.at_ (F := fun k => k ≠ pe ∧ k ≠ N) k0 (fun e => e.1 rfl)
  replace k1 := Wf.at_ (F := fun k => k ≠ pe ∧ k ≠ N) k1 (fun e => e.1 rfl)
  obtain ⟨m0, m1, m2⟩ := cells3 G3.out
  replace m0 := Wf.at_ (F := fun k => k ≠ pe ∧ k ≠ N) m0 (fun e => e.2 rfl)
  replace m1 := Wf.at_ (F := fun k => k ≠ pe ∧ k ≠ N) m1 (fun e => e.2 rfl)
  replace m2 := Wf.at_ (F := fun k => k ≠ pe ∧ k ≠ N) m2 (fun e => e.2 rfl)
  refine fr.wp_region_tree (F := fun k => k ≠ pe ∧ k ≠ N) (.reads [0, 1, 2, 3, 4, 5] (.one 6 false .stop)) (by kernel_rfl) (by kernel_rfl) ?_
  refine fr.tr_reads _ (by dsimp only [pick, at_]) ?_
  repeat (go_big_quiet_step (fail))
  refine wpQuiet_nil ?_
  clear k0 k1 k2 m0 m1 m2
  refine fr.tr_one _ (by dsimp only [pick, at_]) ?_
  intro KK g1 g2
  clear g1
  have HQ := Lib.hid (P3.out.drew.put (by omega) ps hps 64 (by omega))
  go_wp2_with (fail)
  refine HQ.out.mono ?_
  rintro e w4 ⟨rfl, hk4, r4, X4, HX4, hp4, hr4⟩
  have hk4' := (touch_none (pe := pe) (pw := pw) (r := r3) (words.below_drewN _ w3 1)).trans hk4 (fun _ _ e => e)
  have P4 := Lib.hid hp4
  have K4 := Lib.hid (touch_chg K3.out R3.out hk4')
  have R4 := Lib.hid (two_r R3.out hr4 K3.out.size)
  have n4 := n_r n3 hr4 (by have := blk_lt G3.out; simp; omega)
  have HF4 := Lib.hid (show Chg (fun k => k ≠ pe ∧ k ≠ N) w3 w4 from P3.out.chgF2 hp4 hk4' ⟨hn1, hn2, n3⟩)
  have G4 := Lib.hid (hk4'.blk G3.out (n_t hn1 hn2 n3))
  clear hk4 hk4' hp4 hr4 HQ P3
  go_wp2_with (fail)
  refine g2 _ _ HF4.out ?_
  clear g2
  refine fr.tr_stop ?_
  refine NoPanic.normal ?_
  go_wp2_with (fail)
  clear G3
  obtain ⟨m0, m1, m2⟩ := cells3 G4.out
  replace m1 := Wf.at_ (F := fun k => k = pe) m1 hn1
  replace m2 := Wf.at_ (F := fun k => k = pe) m2 hn1
  refine fr.wp_region_tree (F := fun k => k = pe) (.reads [0, 1, 2, 3, 4, 5, 6, 7, 8] (.one 9 false (.reads [10, 11, 12] (.one 13 false .stop)))) (by kernel_rfl) (by kernel_rfl) ?_
  refine fr.tr_reads _ (by dsimp only [pick, at_]) ?_
  repeat (go_big_quiet_step (fail))
  refine wpQuiet_nil ?_
  clear m0 m1 m2
  refine fr.tr_one _ (by dsimp only [pick, at_]) ?_
  intro KK g1 g2
  clear g1
  obtain ⟨_, ⟨k3, _, _, _⟩, _⟩ := P4.out.cells
  have f3 := P4.out.fz 3
  go_wp2_with (fail)
  refine g2 _ _ (chg_pe (w := w4) pe 3 (.int .u64 (pv : Int))).drew ?_
  clear g2 k3 f3
  refine fr.tr_reads _ (by dsimp only [pick, at_]) ?_
  repeat (go_big_quiet_step (fail))
  refine wpQuiet_nil ?_
  refine fr.tr_one _ (by dsimp only [pick, at_]) ?_
  intro KK g1 g2
  clear g1
  have hcc := (chg_pe (w := w4) pe 3 (.int .u64 (pv : Int))).drew
  have P5 := Lib.hid (P4.out.setV pv).drew
  have K5 := Lib.hid (touch_chg K4.out R4.out (touch_pe hcc))
  have G5 := Lib.hid (hcc.blk G4.out hn1)
  clear hcc
  obtain ⟨w5, hw5⟩ : ∃ w5, (w4.setCell ⟨pe, 3, none⟩ (.int .u64 (pv : Int))).drew = w5 := ⟨_, rfl⟩
  rw [hw5] at P5 K5 G5 ⊢
  have HW5 := Lib.hid hw5
  clear hw5 P4 G4
  obtain ⟨_, _, k7, _, _, _⟩ := P5.out.cells
  have f7 := P5.out.fz 7
  go_wp2_with (fail)
  refine g2 _ _ (by rw [HW5.out]; exact chg_pe pe 7 (.int .u64 (ps : Int))) ?_
  clear g2 k7 f7
  refine fr.tr_stop ?_
  refine NoPanic.normal ?_
  have P6 := Lib.hid (P5.out.setS ps)
  have K6 := Lib.hid (touch_chg K5.out R4.out (touch_pe (chg_pe (w := w5) pe 7 (.int .u64 (ps : Int)))))
  have G6 := Lib.hid ((chg_pe (w := w5) pe 7 (.int .u64 (ps : Int))).blk G5.out hn1)
  obtain ⟨w6, hw6⟩ : ∃ w6, w5.setCell ⟨pe, 7, none⟩ (.int .u64 (ps : Int)) = w6 := ⟨_, rfl⟩
  rw [hw6] at P6 K6 G6 ⊢
  clear hw6 P5 K5 G5
  obtain ⟨m0, m1, m2⟩ := cells3 G6.out
  obtain ⟨⟨k0, k1, k2⟩, _⟩ := P6.out.cells
  have f1 := P6.out.fz 1
  go_wp2_with (fail)
  go_end0
  have hY : X4 = X ++ (bitsOf pt 64 ++ bitsOf pv 64 ++ bitsOf ps 64) := by rw [HX4.out, HX3.out, HX2.out]; simp only [List.append_assoc]
  exact ⟨rfl, touch_chg K6.out R4.out (touch_pe (chg_pe pe 1 (.int .i64 (pt : Int)))), r4, X4, Lib.hid hY, P6.out.setT pt, R4.out⟩
set_option maxHeartbeats 1000000 in
set_option maxRecDepth 100000 in
theorem next_x (H : Nat) (w : World) (pe pw : Nat) (r : Option Nat) (X : List Bool) (qt D d : Nat) (v : Nat) (a : Win) (s : Nat) (b : Win) (h : PW H w pe pw r X (qt : Int) (d : Int) v a s b) (hl : X.length ≤ 800000000) (pt pv ps : Nat) (hpt : pt ≤ 1099511627776) (hpv : lt64 pv) (hps : lt64 ps)
    (hD : (pt : Int) - (qt : Int) = (D : Int)) (hd : d ≤ 1099511627776) (hv : lt64 v) (hs : lt64 s) (ha : WinOk a) (hb : WinOk b) :
    Calls Tryd.prog 22 #[.pointer (some ⟨pe, 0, none⟩), .agg #[.int .i64 (pt : Int), .int .u64 (pv : Int), .int .u64 (ps : Int)], .bool false] w (RetPW H w pe pw r (X ++ timeB ((D : Int) - (d : Int)) ++ valB a (pv ^^^ v) ++ valB b (ps ^^^ s)) (pt : Int) (D : Int) pv (valW a (pv ^^^ v)) ps (valW b (ps ^^^ s))) := by
  have hsz0 := h.sz
  obtain ⟨N, hN⟩ : ∃ N, w.heap.size = N := ⟨_, rfl⟩
  obtain ⟨hn1, hn2, n1⟩ := h.fresh (N := N) (by omega)
  obtain ⟨w1, hw1⟩ : ∃ w1, w.alloc (.cells #[.int .i64 (pt : Int), .int .u64 (pv : Int), .int .u64 (ps : Int)] 39) = w1 := ⟨_, rfl⟩
  have hb1 : Below w.heap.size w w1 := by rw [← hw1]; exact (Below.refl _ _).alloc (Nat.le_refl _) _
  have hg1 : w1.heap[N]? = some (.cells #[.int .i64 (pt : Int), .int .u64 (pv : Int), .int .u64 (ps : Int)] 39 (0, 0)) := by rw [← hw1, ← hN]; exact alloc_new _ _
  have P1 := Lib.hid (h.below hb1)
  have K1 := Lib.hid (touch_none (pe := pe) (pw := pw) (r := r) hb1)
  have G1 := Lib.hid hg1
  have HN := Lib.hid hN
  have HW1 := Lib.hid hw1
  clear hN hb1 hg1 hw1 h
  have i1 : IntKind.i64.wrap ((pt : Int) - (qt : Int)) = (D : Int) := by rw [IntWalk.i64_in _ (by omega)]; exact hD
  have hDl : D ≤ 1099511627776 := by omega
  have HD := Lib.hid hD
  have HI := Lib.hid i1
  clear hD i1
  go_enter Tryd.func22, Tryd.ntmps22
  go_wp2_with (fail)
  rw [HN.out, HW1.out]
  obtain ⟨⟨k0, k1, k2⟩, _⟩ := P1.out.cells
  obtain ⟨m0, m1, m2⟩ := cells3 G1.out
  have i1 := HI.out
  have hlt1 : pe < w1.heap.size := blk_lt P1.out.enc
  have hlt2 : N < w1.heap.size := blk_lt G1.out
  go_quiet (fail)
  clear k0 k1 k2 m0 m1 m2 i1 hlt1 hlt2
  have hb2 := words.below_drewN w1.heap.size w1 nq
  obtain ⟨w2, hw2⟩ : ∃ w2, w1.drewN nq = w2 := ⟨_, rfl⟩
  rw [hw2] at hb2 ⊢
  clear hw2
  have P2 := Lib.hid (P1.out.below hb2)
  have K2 := Lib.hid (touch_chg K1.out (.inl rfl) (touch_none hb2))
  have G2 := Lib.hid (blk_below hb2 G1.out (blk_lt G1.out))
  clear hb2 P1 K1 G1
  obtain ⟨⟨k0, k1, k2⟩, _⟩ := P2.out.cells
  have HQ := Lib.hid (change_x H w2 pe pw r X _ _ v a s b P2.out (by omega) ((D : Int) - (d : Int)) (by omega))
  go_wp2_with (fail)
  refine HQ.out.mono ?_
  rintro e w3 ⟨rfl, hk3, r3, X3, HX3, hp3, hr3⟩
  have P3 := Lib.hid hp3
  have K3 := Lib.hid (touch_chg K2.out (.inl rfl) hk3)
  have R3 := Lib.hid (two_r (.inl rfl) hr3 K2.out.size)
  have n3 := n_r n1 hr3 (blk_lt G2.out)
  have G3 := Lib.hid (hk3.blk G2.out (n_t hn1 hn2 n1))
  have hX3 : X3.length ≤ 800000068 := by rw [HX3.out, List.length_append]; have := timeB_len ((D : Int) - (d : Int)); omega
  clear hk3 hp3 hr3 HQ P2 G2 k0 k1 k2
  obtain ⟨⟨k0, k1, k2⟩, _⟩ := P3.out.cells
  have f2 := P3.out.fz 2
  go_wp2_with (fail)
  clear k0 k1 k2 f2
  have P4 := Lib.hid (P3.out.setD (D : Int))
  have K4 := Lib.hid (touch_chg K3.out R3.out (touch_pe (chg_pe pe 2 (.int .i64 (D : Int)))))
  have G4 := Lib.hid ((chg_pe (w := w3) pe 2 (.int .i64 (D : Int))).blk G3.out hn1)
  obtain ⟨w4, hw4⟩ : ∃ w4, w3.setCell ⟨pe, 2, none⟩ (.int .i64 (D : Int)) = w4 := ⟨_, rfl⟩
  rw [hw4] at P4 K4 G4 ⊢
  clear hw4 P3 K3 G3
  have R4 := Lib.hid R3.out
  have n4 := n3
  obtain ⟨⟨k0, k1, k2⟩, _⟩ := P4.out.cells
  replace k0 := Wf.at_ (F := fun k => k ≠ pe ∧ k ≠ N) k0 (fun e => e.1 rfl)
  replace k1 := Wf.at_ (F := fun k => k ≠ pe ∧ k ≠ N) k1 (fun e => e.1 rfl)
  obtain ⟨m0, m1, m2⟩ := cells3 G4.out
  replace m0 := Wf.at_ (F := fun k => k ≠ pe ∧ k ≠ N) m0 (fun e => e.2 rfl)
  replace m1 := Wf.at_ (F := fun k => k ≠ pe ∧ k ≠ N) m1 (fun e => e.2 rfl)
  replace m2 := Wf.at_ (F := fun k => k ≠ pe ∧ k ≠ N) m2 (fun e => e.2 rfl)
  refine fr.wp_region_tree (F := fun k => k ≠ pe ∧ k ≠ N) (.reads [0, 1, 2, 3, 4, 5, 6, 7, 8] (.one 9 true .stop)) (by kernel_rfl) (by kernel_rfl) ?_
  refine fr.tr_reads _ (by dsimp only [pick, at_]) ?_
  repeat (go_big_quiet_step (fail))
  refine wpQuiet_nil ?_
  clear k0 k1 k2 m0 m1 m2
  refine fr.tr_write _ (by dsimp only [pick, at_]) ?_
  intro KK g2
  have HQ := Lib.hid (write3_x H w4.drew pe pw r3 X3 _ _ v a s b P4.out.drew (by omega) ha pv hpv hv)
  go_wp2_with (fail)
  refine HQ.out.mono ?_
  rintro e w5 ⟨rfl, hk5, r5, X5, HX5, hp5, hr5⟩
  have hk5' := (touch_none (pe := pe) (pw := pw) (r := r3) (words.below_drewN _ w4 1)).trans hk5 (fun _ _ e => e)
  have P5 := Lib.hid hp5
  have K5 := Lib.hid (touch_chg K4.out R4.out hk5')
  have R5 := Lib.hid (two_r R4.out hr5 K4.out.size)
  have n5 := n_r n4 hr5 (by have := blk_lt G4.out; simp; omega)
  have G5 := Lib.hid (hk5'.blk G4.out (n_t hn1 hn2 n4))
  clear hk5 hk5' hp5 hr5 HQ P4
  go_wp2_with (fail)
  refine fr.tr_stop ?_
  refine NoPanic.normal ?_
  go_wp2_with (fail)
  have hX5 : X5.length ≤ 800000145 := by rw [HX5.out, List.length_append]; have := valB_len a (pv ^^^ v) ha (xor_lt _ _ hpv hv); omega
  clear G4
  obtain ⟨⟨k0, k1, k2⟩, _⟩ := P5.out.cells
  replace k0 := Wf.at_ (F := fun k => k ≠ pe ∧ k ≠ N) k0 (fun e => e.1 rfl)
  replace k1 := Wf.at_ (F := fun k => k ≠ pe ∧ k ≠ N) k1 (fun e => e.1 rfl)
  obtain ⟨m0, m1, m2⟩ := cells3 G5.out
  replace m0 := Wf.at_ (F := fun k => k ≠ pe ∧ k ≠ N) m0 (fun e => e.2 rfl)
  replace m1 := Wf.at_ (F := fun k => k ≠ pe ∧ k ≠ N) m1 (fun e => e.2 rfl)
  replace m2 := Wf.at_ (F := fun k => k ≠ pe ∧ k ≠ N) m2 (fun e => e.2 rfl)
  refine fr.wp_region_tree (F := fun k => k ≠ pe ∧ k ≠ N) (.reads [0, 1, 2, 3, 4, 5, 6, 7, 8] (.one 9 true .stop)) (by kernel_rfl) (by kernel_rfl) ?_
  refine fr.tr_reads _ (by dsimp only [pick, at_]) ?_
  repeat (go_big_quiet_step (fail))
  refine wpQuiet_nil ?_
  clear k0 k1 k2 m0 m1 m2
  refine fr.tr_write _ (by dsimp only [pick, at_]) ?_
  intro KK g2
  have HQ := Lib.hid (write7_x H w5.drew pe pw r5 X5 _ _ pv (valW a (pv ^^^ v)) s b P5.out.drew (by omega) hb ps hps hs)
  go_wp2_with (fail)
  refine HQ.out.mono ?_
  rintro e w6 ⟨rfl, hk6, r6, X6, HX6, hp6, hr6⟩
  have hk6' := (touch_none (pe := pe) (pw := pw) (r := r5) (words.below_drewN _ w5 1)).trans hk6 (fun _ _ e => e)
  have P6 := Lib.hid hp6
  have K6 := Lib.hid (touch_chg K5.out R5.out hk6')
  have R6 := Lib.hid (two_r R5.out hr6 K5.out.size)
  have n6 := n_r n5 hr6 (by have := blk_lt G5.out; simp; omega)
  have G6 := Lib.hid (hk6'.blk G5.out (n_t hn1 hn2 n5))
  clear hk6 hk6' hp6 hr6 HQ P5
  go_wp2_with (fail)
  refine fr.tr_stop ?_
  refine NoPanic.normal ?_
  clear G5
  obtain ⟨m0, m1, m2⟩ := cells3 G6.out
  obtain ⟨⟨k0, k1, k2⟩, _⟩ := P6.out.cells
  have f1 := P6.out.fz 1
  go_wp2_with (fail)
  go_end0
  have hY : X6 = X ++ timeB ((D : Int) - (d : Int)) ++ valB a (pv ^^^ v) ++ valB b (ps ^^^ s) := by rw [HX6.out, HX5.out, HX3.out]
  exact ⟨rfl, touch_chg K6.out R6.out (touch_pe (chg_pe pe 1 (.int .i64 (pt : Int)))), r6, X6, Lib.hid hY, P6.out.setT pt, R6.out⟩
end Go.Proofs.YtknjejejkgihbaaDoor.ts
