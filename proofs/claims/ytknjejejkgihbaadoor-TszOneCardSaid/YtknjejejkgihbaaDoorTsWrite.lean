/-
  Tsz: the program's way to write a value.
-/
import Derived.Test.YtknjejejkgihbaaDoorTsPw
import Derived.Test.YtknjejejkgihbaaDoorTsLaid
namespace Go.Proofs.YtknjejejkgihbaaDoor.ts
open Go.ChangeShapes Go.WideShapes Go.ChangeAt Go.RowKit plain words ord mem bitm

theorem enc3 (pw : Nat) (t d : Int) (v : Nat) (a : Win) (s : Nat) (b : Win) (v' : Nat) : (encC pw t d v a s b).setIfInBounds 3 (.int .u64 (v' : Int)) = encC pw t d v' a s b := rfl
theorem enc7 (pw : Nat) (t d : Int) (v : Nat) (a : Win) (s : Nat) (b : Win) (v' : Nat) : (encC pw t d v a s b).setIfInBounds 7 (.int .u64 (v' : Int)) = encC pw t d v a v' b := rfl
theorem encW3 (pw : Nat) (t d : Int) (v : Nat) (a : Win) (s : Nat) (b : Win) (p q : Nat) : (((encC pw t d v a s b).setIfInBounds 4 (.bool true)).setIfInBounds 5 (.int .i64 (p : Int))).setIfInBounds 6 (.int .i64 (q : Int)) = encC pw t d v (some (p, q)) s b := rfl
theorem encW7 (pw : Nat) (t d : Int) (v : Nat) (a : Win) (s : Nat) (b : Win) (p q : Nat) : (((encC pw t d v a s b).setIfInBounds 8 (.bool true)).setIfInBounds 9 (.int .i64 (p : Int))).setIfInBounds 10 (.int .i64 (q : Int)) = encC pw t d v a s (some (p, q)) := rfl
theorem chg_pe {w : World} (pe i : Nat) (x : Value) : Chg (fun k => k = pe) w (w.setCell ⟨pe, i, none⟩ x) := (Chg.refl (fun k => k = pe) w).setCell (p := ⟨pe, i, none⟩) (fun _ => rfl) x
theorem touch_pe {w w' : World} {pe pw : Nat} {r : Option Nat} (h : Chg (fun k => k = pe) w w') : Chg (Touch pe pw r) w w' := h.mono (fun _ _ e => .inl e)
theorem touch_none {w w' : World} {pe pw : Nat} {r : Option Nat} (h : Below w.heap.size w w') : Chg (Touch pe pw r) w w' := (Chg.of_below h).mono (fun _ _ e => e.elim)
theorem lead_z {y z p : Nat} (h : min z 31 = lead y) (hp : lead y = p) : (z = p ∧ z ≤ 31) ∨ (p = 31 ∧ 31 ≤ z) := by omega
theorem xor_zero_eq {a b : Nat} (h : a ^^^ b = 0) : a = b := by
  have := xor_back a b
  rw [Nat.xor_comm b a, h, Nat.xor_zero] at this
  exact this
theorem n_r {N s : Nat} {r r' : Option Nat} (h : some N ≠ r) (hr : r' = r ∨ ∃ g, r' = some g ∧ s ≤ g) (hN : N < s) : some N ≠ r' := by
  rcases hr with e | ⟨g, e, hg⟩
  · rw [e]; exact h
  · rw [e]; rintro ⟨⟩; omega
theorem n_t {N pe pw : Nat} {r : Option Nat} (h1 : N ≠ pe) (h2 : N ≠ pw) (h3 : some N ≠ r) : ¬ Touch pe pw r N := by
  rintro (e | e | e)
  · exact h1 e
  · exact h2 e
  · exact h3 e
set_option maxHeartbeats 1000000 in
set_option maxRecDepth 100000 in
theorem write3_x (H : Nat) (w : World) (pe pw : Nat) (r : Option Nat) (X : List Bool) (t d : Int) (v : Nat) (a : Win) (s : Nat) (b : Win) (h : PW H w pe pw r X t d v a s b) (hl : X.length ≤ 900000000) (hW : WinOk a) (n : Nat) (hn : lt64 n) (hv : lt64 v) :
    Calls Tryd.prog 42 #[.pointer (some ⟨pe, 3, none⟩), .pointer (some ⟨pw, 0, none⟩), .int .u64 (n : Int)] w (RetPW H w pe pw r (X ++ valB a (n ^^^ v)) t d n (valW a (n ^^^ v)) s b) := by
  obtain ⟨y, hy⟩ : ∃ y, n ^^^ v = y := ⟨_, rfl⟩
  have hy64 : lt64 y := by rw [← hy]; exact xor_lt _ _ hn hv
  have hx := xor_nat n v y hn hv hy
  rw [hy]
  obtain ⟨⟨_, _, _⟩, ⟨c0, c1, c2, c3⟩, _⟩ := h.cells
  have f0 := h.fz 3
  have P1 := Lib.hid (h.set (chg_pe pe 3 (.int .u64 (n : Int))) (by rw [heap_setCell_same _ _ _ _ _ _ h.enc, enc3]))
  have K1 := Lib.hid (touch_pe (pw := pw) (r := r) (chg_pe (w := w) pe 3 (.int .u64 (n : Int))))
  clear c1 c2 c3
  by_cases hz : y = 0
  · subst hz
    have hxo : v = n := (xor_zero_eq hy).symm
    subst hxo
    have HP := Lib.hid (P1.out.put (by omega) 0 (by unfold lt64; omega) 1 (by omega))
    have E1 := Lib.hid (show valB a 0 = bitsOf 0 1 from rfl)
    have E2 := Lib.hid (show valW a 0 = a from rfl)
    clear hy h
    go_enter Tryd.func42, Tryd.ntmps42
    go_wp2_with (fail)
    refine HP.out.mono ?_
    rintro e w1 h1
    have h2 := RetPW.then K1.out (.inl rfl) h1 rfl
    rw [← E1.out] at h2
    have h3 := h2.1
    subst h3
    have H2 := Lib.hid h2
    clear h1 h2
    go_wp2_with (fail)
    go_end0
    rw [E2.out]
    exact H2.out
  · obtain ⟨z, hz64, hzl, HLZ'⟩ := lz_x (w.setCell ⟨pe, 3, none⟩ (.int .u64 (n : Int))) y hy64 hz
    have HLZ := Lib.hid HLZ'
    have HTZ := Lib.hid (tz_x (w.setCell ⟨pe, 3, none⟩ (.int .u64 (n : Int))) y hy64 hz P1.out.lay)
    have hlead := lead_le y
    have hboth := both_le y hy64 hz
    obtain ⟨p, hp⟩ : ∃ p, lead y = p := ⟨_, rfl⟩
    obtain ⟨q, hq⟩ : ∃ q, trail y = q := ⟨_, rfl⟩
    have hzp := lead_z hzl hp
    rw [hp, hq] at hboth
    rw [hp] at hlead
    rw [hq] at HTZ
    have HPQ := Lib.hid (And.intro hp hq)
    clear HLZ' hzl hp hq hy
    have hh := Lib.hid h
    clear h
    have hyz : ((y : Int) == 0) = false := by simp; omega
    go_enter Tryd.func42, Tryd.ntmps42
    go_wp2_with (fail)
    refine HLZ.out.mono ?_
    rintro e w' ⟨rfl, rfl⟩
    go_wp2_with (fail)
    refine HTZ.out.mono ?_
    rintro e w' ⟨rfl, rfl⟩
    go_wp2_with (fail)
    have hmin : min (z : Int) 31 = (p : Int) := by omega
    rw [hmin]
    clear hmin HLZ HTZ hzp
    obtain ⟨N, hN⟩ : ∃ N, w.heap.size = N := ⟨_, rfl⟩
    have hb2 : Below (w.setCell ⟨pe, 3, none⟩ (.int .u64 (n : Int))).heap.size (w.setCell ⟨pe, 3, none⟩ (.int .u64 (n : Int))) ((w.setCell ⟨pe, 3, none⟩ (.int .u64 (n : Int))).alloc (.cells #[.bool true, .int .i64 (p : Int), .int .i64 (q : Int)] 47)) := (Below.refl _ _).alloc (Nat.le_refl _) _
    have hg2 := alloc_new (w.setCell ⟨pe, 3, none⟩ (.int .u64 (n : Int))) (.cells #[.bool true, .int .i64 (p : Int), .int .i64 (q : Int)] 47)
    rw [World.size_setCell, hN] at hg2
    have P2 := P1.out.below hb2
    have K2 := touch_chg K1.out (.inl rfl) (touch_none hb2)
    obtain ⟨w2, hw2⟩ : ∃ w2, ((w.setCell ⟨pe, 3, none⟩ (.int .u64 (n : Int))).alloc (.cells #[.bool true, .int .i64 (p : Int), .int .i64 (q : Int)] 47)) = w2 := ⟨_, rfl⟩
    rw [hw2] at hg2 P2 K2 ⊢
    rw [hN]
    have hpeN : pe < N := by have := blk_lt hh.out.enc; omega
    have hpwN : pw < N := by have := hh.out.wr.lt; omega
    have hrN : some N ≠ r := fun e => by cases e; have := hh.out.wr.row_lt; omega
    have G2 := Lib.hid hg2
    replace P2 := Lib.hid P2
    replace K2 := Lib.hid K2
    have HN := Lib.hid hN
    clear hb2 hg2 hw2 c0 f0 P1 K1 hN hh
    have HX := Lib.hid hl
    have e1 : valB a y = if fitB a y then oldB a y else newB y := by unfold valB; rw [if_neg hz]
    have e2 : valW a y = if fitB a y then a else some (p, q) := by unfold valW; rw [if_neg hz, HPQ.out.1, HPQ.out.2]
    have e3 : newB y = bitsOf 3 2 ++ bitsOf p 5 ++ bitsOf (63 - p - q) 6 ++ bitsOf (y / 2 ^ q) (64 - p - q) := by rw [← HPQ.out.1, ← HPQ.out.2]; rfl
    have e4 : ∀ x1 x2, a = some (x1, x2) → fitB a y = (decide (x1 ≤ p) && decide (x2 ≤ q)) := fun x1 x2 e => by rw [e, ← HPQ.out.1, ← HPQ.out.2]; rfl
    by_cases hf : fitB a y = true
    · obtain ⟨x1, x2, rfl⟩ : ∃ x1 x2, a = some (x1, x2) := by
        cases a with
        | none => simp [fitB] at hf
        | some W => exact ⟨W.1, W.2, rfl⟩
      have hab := hW x1 x2 rfl
      have e5 := e4 x1 x2 rfl
      rw [hf] at e5
      have hle : x1 ≤ p ∧ x2 ≤ q := by simpa using e5.symm
      obtain ⟨l1, l2⟩ := hle
      rw [if_pos hf] at e1 e2
      have E1 := Lib.hid (show valB (some (x1, x2)) y = bitsOf 2 2 ++ bitsOf (y / 2 ^ x2) (64 - x1 - x2) from e1)
      have E2 := Lib.hid e2
      clear e1 e2 e3 e4 e5 hf
      obtain ⟨Z, hZ⟩ : ∃ Z, y / 2 ^ x2 = Z := ⟨_, rfl⟩
      obtain ⟨nn, hnn⟩ : ∃ m, 64 - x1 - x2 = m := ⟨_, rfl⟩
      have hZ64 : lt64 Z := by have := Nat.div_le_self y (2 ^ x2); unfold lt64 at hy64 ⊢; omega
      have i1 : (y : Int) / 2 ^ x2 = (Z : Int) := by rw [← hZ]; simp
      have i4 : (0 : Int) ≤ (x2 : Int) := by omega
      have i5 : (x2 : Int) < 64 := by omega
      rw [hZ, hnn] at E1
      have HI := Lib.hid (And.intro i1 (And.intro i4 i5))
      clear i1 i4 i5 hZ
      have HNN := Lib.hid hnn
      obtain ⟨⟨_, _, _⟩, ⟨_, q1, q2, q3⟩, _⟩ := P2.out.cells
      dsimp only [wS, wA, wB, Option.isSome] at q1 q2 q3
      obtain ⟨g0, g1, g2⟩ := cells3 G2.out
      have d1 : decide ((x1 : Int) ≤ (p : Int)) = true := by simp; omega
      have d2 : decide ((x2 : Int) ≤ (q : Int)) = true := by simp; omega
      have hlt1 : pe < w2.heap.size := blk_lt P2.out.enc
      have hlt2 : N < w2.heap.size := blk_lt G2.out
      go_quiet (fail)
      clear q1 q2 q3 g0 g1 g2 d1 d2
      have P3 := Lib.hid (P2.out.below (words.below_drewN _ w2 nq))
      have K3 := Lib.hid (touch_chg K2.out (.inl rfl) (touch_none (words.below_drewN _ w2 nq)))
      obtain ⟨w3, hw3⟩ : ∃ w3, w2.drewN nq = w3 := ⟨_, rfl⟩
      rw [hw3] at P3 K3 ⊢
      clear hw3 P2 K2 G2
      have HP := Lib.hid (P3.out.put (by have := HX.out; omega) 2 (by unfold lt64; omega) 2 (by omega))
      go_wp2_with (fail)
      refine HP.out.mono ?_
      rintro e w4 ⟨rfl, hk4, r4, X4, HX4, hp4, hr4⟩
      have P4 := Lib.hid hp4
      have K4 := Lib.hid (touch_chg K3.out (.inl rfl) hk4)
      have hs3 := K3.out.size
      have R4 := Lib.hid (two_r (.inl rfl) hr4 (Nat.le_trans hs3 (Nat.le_refl _)))
      have HX5 : X4.length ≤ 900000002 := by rw [HX4.out, List.length_append, bitsOf_len]; have := HX.out; omega
      have HX := Lib.hid (show X4.length ≤ 900000064 by omega)
      clear HX5 hk4 hp4 hr4 HP P3
      go_wp2_with (fail)
      obtain ⟨⟨_, _, _⟩, ⟨_, k1, k2, k3⟩, _⟩ := P4.out.cells
      replace k1 := Wf.at_ (F := fun k => k ≠ pe) k1 (fun e => e rfl)
      replace k2 := Wf.at_ (F := fun k => k ≠ pe) k2 (fun e => e rfl)
      replace k3 := Wf.at_ (F := fun k => k ≠ pe) k3 (fun e => e rfl)
      dsimp only [wS, wA, wB, Option.isSome] at k1 k2 k3
      obtain ⟨i1, i4, i5⟩ := HI.out
      refine fr.wp_region_tree (F := fun k => k ≠ pe) (.reads [0, 1, 2, 3, 4, 5, 6, 7, 8, 9, 10, 11] (.one 12 false (.one 13 false .stop))) (by kernel_rfl) (by kernel_rfl) ?_
      refine fr.tr_reads _ (by dsimp only [pick, at_]) ?_
      repeat (go_big_quiet_step (fail))
      refine wpQuiet_nil ?_
      clear k1 k2 k3 i1 i4 i5
      refine fr.tr_one _ (by dsimp only [pick, at_]) ?_
      intro K1 g1 g2
      clear g1
      go_wp2_with (fail)
      refine (size_x w4.drew true x1 x2 nn (by omega) (by omega)).mono ?_
      rintro e w8 ⟨rfl, hb8⟩
      have P8 := Lib.hid (P4.out.drew.below hb8)
      have K8 := Lib.hid (touch_none (pe := pe) (pw := pw) (r := r4) (show Below w4.heap.size w4 w8 from ((Below.refl w4.heap.size w4).drew.trans hb8)))
      clear hb8
      go_wp2_with (fail)
      refine g2 _ _ (P4.out.chgF P8.out K8.out) ?_
      clear g2
      refine fr.tr_one _ (by dsimp only [pick, at_]) ?_
      intro K1 g1 g2
      clear g1
      have HQ := Lib.hid (P8.out.put (by have := HX.out; omega) Z hZ64 nn (by omega))
      go_wp2_with (fail)
      refine HQ.out.mono ?_
      rintro e w9 h9
      obtain ⟨rfl, K9, r9, X9, HX9, P9, hr9⟩ := h9
      have HK9 := Lib.hid K9
      have HP9 := Lib.hid P9
      have HR9 := Lib.hid hr9
      clear K9 P9 hr9 HQ
      go_wp2_with (fail)
      refine g2 _ _ (P8.out.chgF HP9.out HK9.out) ?_
      clear g2
      refine fr.tr_stop ?_
      refine NoPanic.normal ?_
      go_wp2_with (fail)
      go_end0
      have hY : X4 ++ bitsOf Z nn = X ++ valB (some (x1, x2)) y := by rw [HX4.out, E1.out, List.append_assoc]
      rw [E2.out, ← hY]
      exact ⟨rfl, touch_chg (touch_chg K4.out R4.out K8.out) R4.out HK9.out, r9, X9, HX9, HP9.out, two_r R4.out HR9.out (Nat.le_trans K4.out.size K8.out.size)⟩
    · have hnf : fitB a y = false := by simpa using hf
      rw [hnf] at e1 e2
      have hcase : (a = none) ∨ (∃ x1 x2, a = some (x1, x2) ∧ p < x1) ∨ ∃ x1 x2, a = some (x1, x2) ∧ x1 ≤ p ∧ q < x2 := by
        cases hw : a with
        | none => exact .inl rfl
        | some W =>
          obtain ⟨x1, x2⟩ := W
          have e5 := e4 x1 x2 hw
          rw [hnf] at e5
          by_cases h1 : x1 ≤ p
          · have h2 : ¬ x2 ≤ q := by intro h2; simp [h1, h2] at e5
            exact .inr (.inr ⟨x1, x2, rfl, h1, by omega⟩)
          · exact .inr (.inl ⟨x1, x2, rfl, by omega⟩)
      obtain ⟨Z, hZ⟩ : ∃ Z, y / 2 ^ q = Z := ⟨_, rfl⟩
      obtain ⟨nn, hnn⟩ : ∃ m, 64 - p - q = m := ⟨_, rfl⟩
      obtain ⟨n1, hn1⟩ : ∃ m, 63 - p - q = m := ⟨_, rfl⟩
      have hZ64 : lt64 Z := by have := Nat.div_le_self y (2 ^ q); unfold lt64 at hy64 ⊢; omega
      have E1 := Lib.hid (show valB a y = bitsOf 3 2 ++ bitsOf p 5 ++ bitsOf n1 6 ++ bitsOf Z nn by rw [e1, ← hZ, ← hnn, ← hn1]; exact e3)
      have E2 := Lib.hid (show valW a y = some (p, q) from e2)
      have i1 : (y : Int) / 2 ^ q = (Z : Int) := by rw [← hZ]; simp
      have i4 : (0 : Int) ≤ (q : Int) := by omega
      have i5 : (q : Int) < 64 := by omega
      have HI := Lib.hid (And.intro i1 (And.intro i4 i5))
      have w1 : IntKind.i64.wrap ((nn : Int) - 1) = (n1 : Int) := by rw [IntWalk.i64_in _ (by omega)]; omega
      have m1 : (n1 : Int) % 18446744073709551616 = (n1 : Int) := by omega
      have m2 : (p : Int) % 18446744073709551616 = (p : Int) := by omega
      have hn63 : n1 ≤ 63 := by omega
      have HW := Lib.hid (And.intro w1 (And.intro m1 m2))
      have HNN := Lib.hid hnn
      clear e1 e2 e3 e4 hf hnf i1 i4 i5 hZ hn1 w1 m1 m2
      rcases hcase with rfl | ⟨x1, x2, rfl, l1⟩ | ⟨x1, x2, rfl, l1, l2⟩
      all_goals
        obtain ⟨⟨_, _, _⟩, ⟨_, q1, q2, q3⟩, _⟩ := P2.out.cells
        dsimp only [wS, wA, wB, Option.isSome] at q1 q2 q3
        obtain ⟨g0, g1, g2⟩ := cells3 G2.out
        try have d1 : decide ((x1 : Int) ≤ (p : Int)) = false := by simp; omega
        try have d1 : decide ((x1 : Int) ≤ (p : Int)) = true := by simp; omega
        try have d2 : decide ((x2 : Int) ≤ (q : Int)) = false := by simp; omega
        try have d3 : decide (x1 ≤ p) = false := by simp; omega
        try have d4 : decide (x2 ≤ q) = false := by simp; omega
        have hlt1 : pe < w2.heap.size := blk_lt P2.out.enc
        have hlt2 : N < w2.heap.size := blk_lt G2.out
        go_quiet (fail)
        clear q1 q2 q3 g0 g1 g2
        try clear d1
        try clear d2
        try clear d3
        try clear d4
        have P3 := Lib.hid (P2.out.below (words.below_drewN _ w2 nq))
        have K3 := Lib.hid (touch_chg K2.out (.inl rfl) (touch_none (words.below_drewN _ w2 nq)))
        have G3 := Lib.hid (blk_below (words.below_drewN _ w2 nq) G2.out hlt2)
        obtain ⟨w3, hw3⟩ : ∃ w3, w2.drewN nq = w3 := ⟨_, rfl⟩
        rw [hw3] at P3 K3 G3 ⊢
        clear hw3 P2 K2 G2 hlt1 hlt2
        have HP := Lib.hid (P3.out.put (by have := HX.out; omega) 3 (by unfold lt64; omega) 2 (by omega))
        go_wp2_with (fail)
        refine HP.out.mono ?_
        rintro e w4 ⟨rfl, hk4, r4, X4, HX4, hp4, hr4⟩
        have P4 := Lib.hid hp4
        have hs4 := (K3.out).size
        have K4 := Lib.hid (touch_chg K3.out (.inl rfl) hk4)
        have R4 := Lib.hid (two_r (Or.inl rfl : r = r ∨ _) hr4 hs4)
        have n4 := n_r (N := N) hrN hr4 (blk_lt G3.out)
        have G4 := Lib.hid (hk4.blk G3.out (n_t (by omega) (by omega) hrN))
        obtain ⟨g0, g1, g2⟩ := cells3 G4.out
        have hxl : X4.length ≤ 900000000 + 64 := by rw [HX4.out, List.length_append, bitsOf_len]; have := HX.out; omega
        replace HX := Lib.hid hxl
        clear hxl hk4 hp4 hr4 HP P3 G3
        have HP := Lib.hid (P4.out.put (by have := HX.out; omega) p (by unfold lt64; omega) 5 (by omega))
        obtain ⟨w1, m1, m2⟩ := HW.out
        go_wp2_with (fail)
        refine HP.out.mono ?_
        rintro e w5 ⟨rfl, hk5, r5, X5, HX5, hp5, hr5⟩
        have P5 := Lib.hid hp5
        have hs5 := (K4.out).size
        have K5 := Lib.hid (touch_chg K4.out R4.out hk5)
        have R5 := Lib.hid (two_r R4.out hr5 hs5)
        have n5 := n_r (N := N) n4 hr5 (blk_lt G4.out)
        have G5 := Lib.hid (hk5.blk G4.out (n_t (by omega) (by omega) n4))
        obtain ⟨g0, g1, g2⟩ := cells3 G5.out
        have hxl : X5.length ≤ 900000000 + 128 := by rw [HX5.out, List.length_append, bitsOf_len]; have := HX.out; omega
        replace HX := Lib.hid hxl
        clear hxl hk5 hp5 hr5 HP P4 G4
        have hsz5 := size_x w5 true p q nn HNN.out (by omega)
        have HSZ := Lib.hid hsz5
        clear hsz5
        go_wp2_with (fail)
        refine HSZ.out.mono ?_
        rintro e w6 ⟨rfl, hb6⟩
        have P6 := Lib.hid (P5.out.below hb6)
        have K6 := Lib.hid (touch_chg K5.out R5.out (touch_none hb6))
        have R6 := Lib.hid R5.out
        have n6 := n5
        have G6 := Lib.hid (blk_below hb6 G5.out (blk_lt G5.out))
        clear hb6 HSZ g0 g1 g2
        have HP := Lib.hid (P6.out.put (by have := HX.out; omega) n1 (by unfold lt64; omega) 6 (by omega))
        
        go_wp2_with (fail)
        refine HP.out.mono ?_
        rintro e w7 ⟨rfl, hk7, r7, X7, HX7, hp7, hr7⟩
        have P7 := Lib.hid hp7
        have hs7 := (K6.out).size
        have K7 := Lib.hid (touch_chg K6.out R6.out hk7)
        have R7 := Lib.hid (two_r R6.out hr7 hs7)
        have n7 := n_r (N := N) n6 hr7 (blk_lt G6.out)
        have G7 := Lib.hid (hk7.blk G6.out (n_t (by omega) (by omega) n6))
        obtain ⟨g0, g1, g2⟩ := cells3 G7.out
        have hxl : X7.length ≤ 900000000 + 256 := by rw [HX7.out, List.length_append, bitsOf_len]; have := HX.out; omega
        replace HX := Lib.hid hxl
        clear hxl hk7 hp7 hr7 HP P6 G6
        obtain ⟨⟨_, _, _⟩, ⟨_, q1, q2, q3⟩, _⟩ := P7.out.cells
        have f1 := P7.out.fz 4
        have f2 := P7.out.fz 5
        have f3 := P7.out.fz 6
        clear w1 m1 m2
        go_wp2_with (fail)
        have P8 := Lib.hid (P7.out.set (((chg_pe pe 4 (.bool true)).setCell (p := ⟨pe, 5, none⟩) (fun _ => rfl) (.int .i64 (p : Int))).setCell (p := ⟨pe, 6, none⟩) (fun _ => rfl) (.int .i64 (q : Int))) (by rw [heap_setCell_same _ pe 6 _ _ _ (heap_setCell_same _ pe 5 _ _ _ (heap_setCell_same _ pe 4 _ _ _ P7.out.enc)), encW3]))
        have K8 := Lib.hid (touch_chg K7.out R7.out (touch_pe (((chg_pe pe 4 (.bool true)).setCell (p := ⟨pe, 5, none⟩) (fun _ => rfl) (.int .i64 (p : Int))).setCell (p := ⟨pe, 6, none⟩) (fun _ => rfl) (.int .i64 (q : Int)))))
        obtain ⟨wA', hwA⟩ : ∃ wx, (((w7.setCell ⟨pe, 4, none⟩ (.bool true)).setCell ⟨pe, 5, none⟩ (.int .i64 (p : Int))).setCell ⟨pe, 6, none⟩ (.int .i64 (q : Int))) = wx := ⟨_, rfl⟩
        rw [hwA] at P8 K8 ⊢
        have PA := Lib.hid P8.out
        have KA := Lib.hid K8.out
        clear hwA P8 K8 P7 f1 f2 f3 q1 q2 q3 g0 g1 g2
        obtain ⟨⟨_, _, _⟩, ⟨_, k1, k2, k3⟩, _⟩ := PA.out.cells
        replace k1 := Wf.at_ (F := fun k => k ≠ pe) k1 (fun e => e rfl)
        replace k2 := Wf.at_ (F := fun k => k ≠ pe) k2 (fun e => e rfl)
        replace k3 := Wf.at_ (F := fun k => k ≠ pe) k3 (fun e => e rfl)
        dsimp only [wS, wA, wB, Option.isSome] at k1 k2 k3
        obtain ⟨i1, i4, i5⟩ := HI.out
        refine fr.wp_region_tree (F := fun k => k ≠ pe) (.reads [0, 1, 2, 3, 4, 5, 6, 7, 8, 9, 10, 11] (.one 12 false (.one 13 false .stop))) (by kernel_rfl) (by kernel_rfl) ?_
        refine fr.tr_reads _ (by dsimp only [pick, at_]) ?_
        repeat (go_big_quiet_step (fail))
        refine wpQuiet_nil ?_
        clear k1 k2 k3 i1 i4 i5
        refine fr.tr_one _ (by dsimp only [pick, at_]) ?_
        intro K1 g1 g2
        clear g1
        go_wp2_with (fail)
        refine (size_x wA'.drew true p q nn (by omega) (by omega)).mono ?_
        rintro e w8 ⟨rfl, hb8⟩
        have P8 := Lib.hid (PA.out.drew.below hb8)
        have K8 := Lib.hid (touch_none (pe := pe) (pw := pw) (r := r7) (show Below wA'.heap.size wA' w8 from ((Below.refl wA'.heap.size wA').drew.trans hb8)))
        clear hb8
        go_wp2_with (fail)
        refine g2 _ _ (PA.out.chgF P8.out K8.out) ?_
        clear g2
        refine fr.tr_one _ (by dsimp only [pick, at_]) ?_
        intro K1 g1 g2
        clear g1
        have HQ := Lib.hid (P8.out.put (by have := HX.out; omega) Z hZ64 nn (by omega))
        go_wp2_with (fail)
        refine HQ.out.mono ?_
        rintro e w9 h9
        obtain ⟨rfl, K9, r9, X9, HX9, P9, hr9⟩ := h9
        have HK9 := Lib.hid K9
        have HP9 := Lib.hid P9
        have HR9 := Lib.hid hr9
        clear K9 P9 hr9 HQ
        go_wp2_with (fail)
        refine g2 _ _ (P8.out.chgF HP9.out HK9.out) ?_
        clear g2
        refine fr.tr_stop ?_
        refine NoPanic.normal ?_
        go_wp2_with (fail)
        go_end0
        rw [E2.out, E1.out]
        exact ⟨rfl, touch_chg (touch_chg KA.out R7.out K8.out) R7.out HK9.out, r9, X9, Lib.hid (by rw [HX9.out, HX7.out, HX5.out, HX4.out]; simp only [List.append_assoc]), HP9.out, two_r R7.out HR9.out (Nat.le_trans KA.out.size K8.out.size)⟩
set_option maxHeartbeats 1000000 in
set_option maxRecDepth 100000 in
theorem write7_x (H : Nat) (w : World) (pe pw : Nat) (r : Option Nat) (X : List Bool) (t d : Int) (v : Nat) (a : Win) (s : Nat) (b : Win) (h : PW H w pe pw r X t d v a s b) (hl : X.length ≤ 900000000) (hW : WinOk b) (n : Nat) (hn : lt64 n) (hv : lt64 s) :
    Calls Tryd.prog 42 #[.pointer (some ⟨pe, 7, none⟩), .pointer (some ⟨pw, 0, none⟩), .int .u64 (n : Int)] w (RetPW H w pe pw r (X ++ valB b (n ^^^ s)) t d v a n (valW b (n ^^^ s))) := by
  obtain ⟨y, hy⟩ : ∃ y, n ^^^ s = y := ⟨_, rfl⟩
  have hy64 : lt64 y := by rw [← hy]; exact xor_lt _ _ hn hv
  have hx := xor_nat n s y hn hv hy
  rw [hy]
  obtain ⟨⟨_, _, _⟩, _, c0, c1, c2, c3⟩ := h.cells
  have f0 := h.fz 7
  have P1 := Lib.hid (h.set (chg_pe pe 7 (.int .u64 (n : Int))) (by rw [heap_setCell_same _ _ _ _ _ _ h.enc, enc7]))
  have K1 := Lib.hid (touch_pe (pw := pw) (r := r) (chg_pe (w := w) pe 7 (.int .u64 (n : Int))))
  clear c1 c2 c3
  by_cases hz : y = 0
  · subst hz
    have hxo : s = n := (xor_zero_eq hy).symm
    subst hxo
    have HP := Lib.hid (P1.out.put (by omega) 0 (by unfold lt64; omega) 1 (by omega))
    have E1 := Lib.hid (show valB b 0 = bitsOf 0 1 from rfl)
    have E2 := Lib.hid (show valW b 0 = b from rfl)
    clear hy h
    go_enter Tryd.func42, Tryd.ntmps42
    go_wp2_with (fail)
    refine HP.out.mono ?_
    rintro e w1 h1
    have h2 := RetPW.then K1.out (.inl rfl) h1 rfl
    rw [← E1.out] at h2
    have h3 := h2.1
    subst h3
    have H2 := Lib.hid h2
    clear h1 h2
    go_wp2_with (fail)
    go_end0
    rw [E2.out]
    exact H2.out
  · obtain ⟨z, hz64, hzl, HLZ'⟩ := lz_x (w.setCell ⟨pe, 7, none⟩ (.int .u64 (n : Int))) y hy64 hz
    have HLZ := Lib.hid HLZ'
    have HTZ := Lib.hid (tz_x (w.setCell ⟨pe, 7, none⟩ (.int .u64 (n : Int))) y hy64 hz P1.out.lay)
    have hlead := lead_le y
    have hboth := both_le y hy64 hz
    obtain ⟨p, hp⟩ : ∃ p, lead y = p := ⟨_, rfl⟩
    obtain ⟨q, hq⟩ : ∃ q, trail y = q := ⟨_, rfl⟩
    have hzp := lead_z hzl hp
    rw [hp, hq] at hboth
    rw [hp] at hlead
    rw [hq] at HTZ
    have HPQ := Lib.hid (And.intro hp hq)
    clear HLZ' hzl hp hq hy
    have hh := Lib.hid h
    clear h
    have hyz : ((y : Int) == 0) = false := by simp; omega
    go_enter Tryd.func42, Tryd.ntmps42
    go_wp2_with (fail)
    refine HLZ.out.mono ?_
    rintro e w' ⟨rfl, rfl⟩
    go_wp2_with (fail)
    refine HTZ.out.mono ?_
    rintro e w' ⟨rfl, rfl⟩
    go_wp2_with (fail)
    have hmin : min (z : Int) 31 = (p : Int) := by omega
    rw [hmin]
    clear hmin HLZ HTZ hzp
    obtain ⟨N, hN⟩ : ∃ N, w.heap.size = N := ⟨_, rfl⟩
    have hb2 : Below (w.setCell ⟨pe, 7, none⟩ (.int .u64 (n : Int))).heap.size (w.setCell ⟨pe, 7, none⟩ (.int .u64 (n : Int))) ((w.setCell ⟨pe, 7, none⟩ (.int .u64 (n : Int))).alloc (.cells #[.bool true, .int .i64 (p : Int), .int .i64 (q : Int)] 47)) := (Below.refl _ _).alloc (Nat.le_refl _) _
    have hg2 := alloc_new (w.setCell ⟨pe, 7, none⟩ (.int .u64 (n : Int))) (.cells #[.bool true, .int .i64 (p : Int), .int .i64 (q : Int)] 47)
    rw [World.size_setCell, hN] at hg2
    have P2 := P1.out.below hb2
    have K2 := touch_chg K1.out (.inl rfl) (touch_none hb2)
    obtain ⟨w2, hw2⟩ : ∃ w2, ((w.setCell ⟨pe, 7, none⟩ (.int .u64 (n : Int))).alloc (.cells #[.bool true, .int .i64 (p : Int), .int .i64 (q : Int)] 47)) = w2 := ⟨_, rfl⟩
    rw [hw2] at hg2 P2 K2 ⊢
    rw [hN]
    have hpeN : pe < N := by have := blk_lt hh.out.enc; omega
    have hpwN : pw < N := by have := hh.out.wr.lt; omega
    have hrN : some N ≠ r := fun e => by cases e; have := hh.out.wr.row_lt; omega
    have G2 := Lib.hid hg2
    replace P2 := Lib.hid P2
    replace K2 := Lib.hid K2
    have HN := Lib.hid hN
    clear hb2 hg2 hw2 c0 f0 P1 K1 hN hh
    have HX := Lib.hid hl
    have e1 : valB b y = if fitB b y then oldB b y else newB y := by unfold valB; rw [if_neg hz]
    have e2 : valW b y = if fitB b y then b else some (p, q) := by unfold valW; rw [if_neg hz, HPQ.out.1, HPQ.out.2]
    have e3 : newB y = bitsOf 3 2 ++ bitsOf p 5 ++ bitsOf (63 - p - q) 6 ++ bitsOf (y / 2 ^ q) (64 - p - q) := by rw [← HPQ.out.1, ← HPQ.out.2]; rfl
    have e4 : ∀ x1 x2, b = some (x1, x2) → fitB b y = (decide (x1 ≤ p) && decide (x2 ≤ q)) := fun x1 x2 e => by rw [e, ← HPQ.out.1, ← HPQ.out.2]; rfl
    by_cases hf : fitB b y = true
    · obtain ⟨x1, x2, rfl⟩ : ∃ x1 x2, b = some (x1, x2) := by
        cases b with
        | none => simp [fitB] at hf
        | some W => exact ⟨W.1, W.2, rfl⟩
      have hab := hW x1 x2 rfl
      have e5 := e4 x1 x2 rfl
      rw [hf] at e5
      have hle : x1 ≤ p ∧ x2 ≤ q := by simpa using e5.symm
      obtain ⟨l1, l2⟩ := hle
      rw [if_pos hf] at e1 e2
      have E1 := Lib.hid (show valB (some (x1, x2)) y = bitsOf 2 2 ++ bitsOf (y / 2 ^ x2) (64 - x1 - x2) from e1)
      have E2 := Lib.hid e2
      clear e1 e2 e3 e4 e5 hf
      obtain ⟨Z, hZ⟩ : ∃ Z, y / 2 ^ x2 = Z := ⟨_, rfl⟩
      obtain ⟨nn, hnn⟩ : ∃ m, 64 - x1 - x2 = m := ⟨_, rfl⟩
      have hZ64 : lt64 Z := by have := Nat.div_le_self y (2 ^ x2); unfold lt64 at hy64 ⊢; omega
      have i1 : (y : Int) / 2 ^ x2 = (Z : Int) := by rw [← hZ]; simp
      have i4 : (0 : Int) ≤ (x2 : Int) := by omega
      have i5 : (x2 : Int) < 64 := by omega
      rw [hZ, hnn] at E1
      have HI := Lib.hid (And.intro i1 (And.intro i4 i5))
      clear i1 i4 i5 hZ
      have HNN := Lib.hid hnn
      obtain ⟨⟨_, _, _⟩, _, _, q1, q2, q3⟩ := P2.out.cells
      dsimp only [wS, wA, wB, Option.isSome] at q1 q2 q3
      obtain ⟨g0, g1, g2⟩ := cells3 G2.out
      have d1 : decide ((x1 : Int) ≤ (p : Int)) = true := by simp; omega
      have d2 : decide ((x2 : Int) ≤ (q : Int)) = true := by simp; omega
      have hlt1 : pe < w2.heap.size := blk_lt P2.out.enc
      have hlt2 : N < w2.heap.size := blk_lt G2.out
      go_quiet (fail)
      clear q1 q2 q3 g0 g1 g2 d1 d2
      have P3 := Lib.hid (P2.out.below (words.below_drewN _ w2 nq))
      have K3 := Lib.hid (touch_chg K2.out (.inl rfl) (touch_none (words.below_drewN _ w2 nq)))
      obtain ⟨w3, hw3⟩ : ∃ w3, w2.drewN nq = w3 := ⟨_, rfl⟩
      rw [hw3] at P3 K3 ⊢
      clear hw3 P2 K2 G2
      have HP := Lib.hid (P3.out.put (by have := HX.out; omega) 2 (by unfold lt64; omega) 2 (by omega))
      go_wp2_with (fail)
      refine HP.out.mono ?_
      rintro e w4 ⟨rfl, hk4, r4, X4, HX4, hp4, hr4⟩
      have P4 := Lib.hid hp4
      have K4 := Lib.hid (touch_chg K3.out (.inl rfl) hk4)
      have hs3 := K3.out.size
      have R4 := Lib.hid (two_r (.inl rfl) hr4 (Nat.le_trans hs3 (Nat.le_refl _)))
      have HX5 : X4.length ≤ 900000002 := by rw [HX4.out, List.length_append, bitsOf_len]; have := HX.out; omega
      have HX := Lib.hid (show X4.length ≤ 900000064 by omega)
      clear HX5 hk4 hp4 hr4 HP P3
      go_wp2_with (fail)
      obtain ⟨⟨_, _, _⟩, _, _, k1, k2, k3⟩ := P4.out.cells
      replace k1 := Wf.at_ (F := fun k => k ≠ pe) k1 (fun e => e rfl)
      replace k2 := Wf.at_ (F := fun k => k ≠ pe) k2 (fun e => e rfl)
      replace k3 := Wf.at_ (F := fun k => k ≠ pe) k3 (fun e => e rfl)
      dsimp only [wS, wA, wB, Option.isSome] at k1 k2 k3
      obtain ⟨i1, i4, i5⟩ := HI.out
      refine fr.wp_region_tree (F := fun k => k ≠ pe) (.reads [0, 1, 2, 3, 4, 5, 6, 7, 8, 9, 10, 11] (.one 12 false (.one 13 false .stop))) (by kernel_rfl) (by kernel_rfl) ?_
      refine fr.tr_reads _ (by dsimp only [pick, at_]) ?_
      repeat (go_big_quiet_step (fail))
      refine wpQuiet_nil ?_
      clear k1 k2 k3 i1 i4 i5
      refine fr.tr_one _ (by dsimp only [pick, at_]) ?_
      intro K1 g1 g2
      clear g1
      go_wp2_with (fail)
      refine (size_x w4.drew true x1 x2 nn (by omega) (by omega)).mono ?_
      rintro e w8 ⟨rfl, hb8⟩
      have P8 := Lib.hid (P4.out.drew.below hb8)
      have K8 := Lib.hid (touch_none (pe := pe) (pw := pw) (r := r4) (show Below w4.heap.size w4 w8 from ((Below.refl w4.heap.size w4).drew.trans hb8)))
      clear hb8
      go_wp2_with (fail)
      refine g2 _ _ (P4.out.chgF P8.out K8.out) ?_
      clear g2
      refine fr.tr_one _ (by dsimp only [pick, at_]) ?_
      intro K1 g1 g2
      clear g1
      have HQ := Lib.hid (P8.out.put (by have := HX.out; omega) Z hZ64 nn (by omega))
      go_wp2_with (fail)
      refine HQ.out.mono ?_
      rintro e w9 h9
      obtain ⟨rfl, K9, r9, X9, HX9, P9, hr9⟩ := h9
      have HK9 := Lib.hid K9
      have HP9 := Lib.hid P9
      have HR9 := Lib.hid hr9
      clear K9 P9 hr9 HQ
      go_wp2_with (fail)
      refine g2 _ _ (P8.out.chgF HP9.out HK9.out) ?_
      clear g2
      refine fr.tr_stop ?_
      refine NoPanic.normal ?_
      go_wp2_with (fail)
      go_end0
      have hY : X4 ++ bitsOf Z nn = X ++ valB (some (x1, x2)) y := by rw [HX4.out, E1.out, List.append_assoc]
      rw [E2.out, ← hY]
      exact ⟨rfl, touch_chg (touch_chg K4.out R4.out K8.out) R4.out HK9.out, r9, X9, HX9, HP9.out, two_r R4.out HR9.out (Nat.le_trans K4.out.size K8.out.size)⟩
    · have hnf : fitB b y = false := by simpa using hf
      rw [hnf] at e1 e2
      have hcase : (b = none) ∨ (∃ x1 x2, b = some (x1, x2) ∧ p < x1) ∨ ∃ x1 x2, b = some (x1, x2) ∧ x1 ≤ p ∧ q < x2 := by
        cases hw : b with
        | none => exact .inl rfl
        | some W =>
          obtain ⟨x1, x2⟩ := W
          have e5 := e4 x1 x2 hw
          rw [hnf] at e5
          by_cases h1 : x1 ≤ p
          · have h2 : ¬ x2 ≤ q := by intro h2; simp [h1, h2] at e5
            exact .inr (.inr ⟨x1, x2, rfl, h1, by omega⟩)
          · exact .inr (.inl ⟨x1, x2, rfl, by omega⟩)
      obtain ⟨Z, hZ⟩ : ∃ Z, y / 2 ^ q = Z := ⟨_, rfl⟩
      obtain ⟨nn, hnn⟩ : ∃ m, 64 - p - q = m := ⟨_, rfl⟩
      obtain ⟨n1, hn1⟩ : ∃ m, 63 - p - q = m := ⟨_, rfl⟩
      have hZ64 : lt64 Z := by have := Nat.div_le_self y (2 ^ q); unfold lt64 at hy64 ⊢; omega
      have E1 := Lib.hid (show valB b y = bitsOf 3 2 ++ bitsOf p 5 ++ bitsOf n1 6 ++ bitsOf Z nn by rw [e1, ← hZ, ← hnn, ← hn1]; exact e3)
      have E2 := Lib.hid (show valW b y = some (p, q) from e2)
      have i1 : (y : Int) / 2 ^ q = (Z : Int) := by rw [← hZ]; simp
      have i4 : (0 : Int) ≤ (q : Int) := by omega
      have i5 : (q : Int) < 64 := by omega
      have HI := Lib.hid (And.intro i1 (And.intro i4 i5))
      have w1 : IntKind.i64.wrap ((nn : Int) - 1) = (n1 : Int) := by rw [IntWalk.i64_in _ (by omega)]; omega
      have m1 : (n1 : Int) % 18446744073709551616 = (n1 : Int) := by omega
      have m2 : (p : Int) % 18446744073709551616 = (p : Int) := by omega
      have hn63 : n1 ≤ 63 := by omega
      have HW := Lib.hid (And.intro w1 (And.intro m1 m2))
      have HNN := Lib.hid hnn
      clear e1 e2 e3 e4 hf hnf i1 i4 i5 hZ hn1 w1 m1 m2
      rcases hcase with rfl | ⟨x1, x2, rfl, l1⟩ | ⟨x1, x2, rfl, l1, l2⟩
      all_goals
        obtain ⟨⟨_, _, _⟩, _, _, q1, q2, q3⟩ := P2.out.cells
        dsimp only [wS, wA, wB, Option.isSome] at q1 q2 q3
        obtain ⟨g0, g1, g2⟩ := cells3 G2.out
        try have d1 : decide ((x1 : Int) ≤ (p : Int)) = false := by simp; omega
        try have d1 : decide ((x1 : Int) ≤ (p : Int)) = true := by simp; omega
        try have d2 : decide ((x2 : Int) ≤ (q : Int)) = false := by simp; omega
        try have d3 : decide (x1 ≤ p) = false := by simp; omega
        try have d4 : decide (x2 ≤ q) = false := by simp; omega
        have hlt1 : pe < w2.heap.size := blk_lt P2.out.enc
        have hlt2 : N < w2.heap.size := blk_lt G2.out
        go_quiet (fail)
        clear q1 q2 q3 g0 g1 g2
        try clear d1
        try clear d2
        try clear d3
        try clear d4
        have P3 := Lib.hid (P2.out.below (words.below_drewN _ w2 nq))
        have K3 := Lib.hid (touch_chg K2.out (.inl rfl) (touch_none (words.below_drewN _ w2 nq)))
        have G3 := Lib.hid (blk_below (words.below_drewN _ w2 nq) G2.out hlt2)
        obtain ⟨w3, hw3⟩ : ∃ w3, w2.drewN nq = w3 := ⟨_, rfl⟩
        rw [hw3] at P3 K3 G3 ⊢
        clear hw3 P2 K2 G2 hlt1 hlt2
        have HP := Lib.hid (P3.out.put (by have := HX.out; omega) 3 (by unfold lt64; omega) 2 (by omega))
        go_wp2_with (fail)
        refine HP.out.mono ?_
        rintro e w4 ⟨rfl, hk4, r4, X4, HX4, hp4, hr4⟩
        have P4 := Lib.hid hp4
        have hs4 := (K3.out).size
        have K4 := Lib.hid (touch_chg K3.out (.inl rfl) hk4)
        have R4 := Lib.hid (two_r (Or.inl rfl : r = r ∨ _) hr4 hs4)
        have n4 := n_r (N := N) hrN hr4 (blk_lt G3.out)
        have G4 := Lib.hid (hk4.blk G3.out (n_t (by omega) (by omega) hrN))
        obtain ⟨g0, g1, g2⟩ := cells3 G4.out
        have hxl : X4.length ≤ 900000000 + 64 := by rw [HX4.out, List.length_append, bitsOf_len]; have := HX.out; omega
        replace HX := Lib.hid hxl
        clear hxl hk4 hp4 hr4 HP P3 G3
        have HP := Lib.hid (P4.out.put (by have := HX.out; omega) p (by unfold lt64; omega) 5 (by omega))
        obtain ⟨w1, m1, m2⟩ := HW.out
        go_wp2_with (fail)
        refine HP.out.mono ?_
        rintro e w5 ⟨rfl, hk5, r5, X5, HX5, hp5, hr5⟩
        have P5 := Lib.hid hp5
        have hs5 := (K4.out).size
        have K5 := Lib.hid (touch_chg K4.out R4.out hk5)
        have R5 := Lib.hid (two_r R4.out hr5 hs5)
        have n5 := n_r (N := N) n4 hr5 (blk_lt G4.out)
        have G5 := Lib.hid (hk5.blk G4.out (n_t (by omega) (by omega) n4))
        obtain ⟨g0, g1, g2⟩ := cells3 G5.out
        have hxl : X5.length ≤ 900000000 + 128 := by rw [HX5.out, List.length_append, bitsOf_len]; have := HX.out; omega
        replace HX := Lib.hid hxl
        clear hxl hk5 hp5 hr5 HP P4 G4
        have hsz5 := size_x w5 true p q nn HNN.out (by omega)
        have HSZ := Lib.hid hsz5
        clear hsz5
        go_wp2_with (fail)
        refine HSZ.out.mono ?_
        rintro e w6 ⟨rfl, hb6⟩
        have P6 := Lib.hid (P5.out.below hb6)
        have K6 := Lib.hid (touch_chg K5.out R5.out (touch_none hb6))
        have R6 := Lib.hid R5.out
        have n6 := n5
        have G6 := Lib.hid (blk_below hb6 G5.out (blk_lt G5.out))
        clear hb6 HSZ g0 g1 g2
        have HP := Lib.hid (P6.out.put (by have := HX.out; omega) n1 (by unfold lt64; omega) 6 (by omega))
        
        go_wp2_with (fail)
        refine HP.out.mono ?_
        rintro e w7 ⟨rfl, hk7, r7, X7, HX7, hp7, hr7⟩
        have P7 := Lib.hid hp7
        have hs7 := (K6.out).size
        have K7 := Lib.hid (touch_chg K6.out R6.out hk7)
        have R7 := Lib.hid (two_r R6.out hr7 hs7)
        have n7 := n_r (N := N) n6 hr7 (blk_lt G6.out)
        have G7 := Lib.hid (hk7.blk G6.out (n_t (by omega) (by omega) n6))
        obtain ⟨g0, g1, g2⟩ := cells3 G7.out
        have hxl : X7.length ≤ 900000000 + 256 := by rw [HX7.out, List.length_append, bitsOf_len]; have := HX.out; omega
        replace HX := Lib.hid hxl
        clear hxl hk7 hp7 hr7 HP P6 G6
        obtain ⟨⟨_, _, _⟩, _, _, q1, q2, q3⟩ := P7.out.cells
        have f1 := P7.out.fz 8
        have f2 := P7.out.fz 9
        have f3 := P7.out.fz 10
        clear w1 m1 m2
        go_wp2_with (fail)
        have P8 := Lib.hid (P7.out.set (((chg_pe pe 8 (.bool true)).setCell (p := ⟨pe, 9, none⟩) (fun _ => rfl) (.int .i64 (p : Int))).setCell (p := ⟨pe, 10, none⟩) (fun _ => rfl) (.int .i64 (q : Int))) (by rw [heap_setCell_same _ pe 10 _ _ _ (heap_setCell_same _ pe 9 _ _ _ (heap_setCell_same _ pe 8 _ _ _ P7.out.enc)), encW7]))
        have K8 := Lib.hid (touch_chg K7.out R7.out (touch_pe (((chg_pe pe 8 (.bool true)).setCell (p := ⟨pe, 9, none⟩) (fun _ => rfl) (.int .i64 (p : Int))).setCell (p := ⟨pe, 10, none⟩) (fun _ => rfl) (.int .i64 (q : Int)))))
        obtain ⟨wA', hwA⟩ : ∃ wx, (((w7.setCell ⟨pe, 8, none⟩ (.bool true)).setCell ⟨pe, 9, none⟩ (.int .i64 (p : Int))).setCell ⟨pe, 10, none⟩ (.int .i64 (q : Int))) = wx := ⟨_, rfl⟩
        rw [hwA] at P8 K8 ⊢
        have PA := Lib.hid P8.out
        have KA := Lib.hid K8.out
        clear hwA P8 K8 P7 f1 f2 f3 q1 q2 q3 g0 g1 g2
        obtain ⟨⟨_, _, _⟩, _, _, k1, k2, k3⟩ := PA.out.cells
        replace k1 := Wf.at_ (F := fun k => k ≠ pe) k1 (fun e => e rfl)
        replace k2 := Wf.at_ (F := fun k => k ≠ pe) k2 (fun e => e rfl)
        replace k3 := Wf.at_ (F := fun k => k ≠ pe) k3 (fun e => e rfl)
        dsimp only [wS, wA, wB, Option.isSome] at k1 k2 k3
        obtain ⟨i1, i4, i5⟩ := HI.out
        refine fr.wp_region_tree (F := fun k => k ≠ pe) (.reads [0, 1, 2, 3, 4, 5, 6, 7, 8, 9, 10, 11] (.one 12 false (.one 13 false .stop))) (by kernel_rfl) (by kernel_rfl) ?_
        refine fr.tr_reads _ (by dsimp only [pick, at_]) ?_
        repeat (go_big_quiet_step (fail))
        refine wpQuiet_nil ?_
        clear k1 k2 k3 i1 i4 i5
        refine fr.tr_one _ (by dsimp only [pick, at_]) ?_
        intro K1 g1 g2
        clear g1
        go_wp2_with (fail)
        refine (size_x wA'.drew true p q nn (by omega) (by omega)).mono ?_
        rintro e w8 ⟨rfl, hb8⟩
        have P8 := Lib.hid (PA.out.drew.below hb8)
        have K8 := Lib.hid (touch_none (pe := pe) (pw := pw) (r := r7) (show Below wA'.heap.size wA' w8 from ((Below.refl wA'.heap.size wA').drew.trans hb8)))
        clear hb8
        go_wp2_with (fail)
        refine g2 _ _ (PA.out.chgF P8.out K8.out) ?_
        clear g2
        refine fr.tr_one _ (by dsimp only [pick, at_]) ?_
        intro K1 g1 g2
        clear g1
        have HQ := Lib.hid (P8.out.put (by have := HX.out; omega) Z hZ64 nn (by omega))
        go_wp2_with (fail)
        refine HQ.out.mono ?_
        rintro e w9 h9
        obtain ⟨rfl, K9, r9, X9, HX9, P9, hr9⟩ := h9
        have HK9 := Lib.hid K9
        have HP9 := Lib.hid P9
        have HR9 := Lib.hid hr9
        clear K9 P9 hr9 HQ
        go_wp2_with (fail)
        refine g2 _ _ (P8.out.chgF HP9.out HK9.out) ?_
        clear g2
        refine fr.tr_stop ?_
        refine NoPanic.normal ?_
        go_wp2_with (fail)
        go_end0
        rw [E2.out, E1.out]
        exact ⟨rfl, touch_chg (touch_chg KA.out R7.out K8.out) R7.out HK9.out, r9, X9, Lib.hid (by rw [HX9.out, HX7.out, HX5.out, HX4.out]; simp only [List.append_assoc]), HP9.out, two_r R7.out HR9.out (Nat.le_trans KA.out.size K8.out.size)⟩
end Go.Proofs.YtknjejejkgihbaaDoor.ts
