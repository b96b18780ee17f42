/-
  The law's next: a placement behind what is there.
-/
import Derived.Test.YtnjdondkggkfoaaGreatKs
import Derived.Test.YtnjdondkggkfoaaGreatPmDoneY
import Derived.Test.YtnjdondkggkfoaaGreatPmInitM
import Derived.Test.YtnjdondkggkfoaaGreatKvLaw
import Derived.Test.YtnjdondkggkfoaaGreatFree
namespace Go.Proofs.YtnjdondkggkfoaaGreat.ks
open Go.ChangeShapes Go.WideShapes Go.ChangeAt Go.RowKit Go.Shelf plain words ord mem pm

/-- a placement of the call's own -/
def RetN (w : World) (p : Pl) (e : Ending) (w' : World) : Prop := ∃ v : PV, e = .returned v.val ∧ v.pl = p ∧ OP w' w.heap.size v ∧ Below w.heap.size w w'
abbrev stepV (k n a b : Int) (u : PV) : Value := .agg #[.int .i64 k, .int .i64 n, .int .i64 a, .int .i64 b, .int .i64 u.ver, .slice u.nA u.nodes.length u.nc, .slice u.sA u.rs.length u.sc]
abbrev stepO (k n a b : Int) (u : PV) : Obj := .cells #[.int .i64 k, .int .i64 n, .int .i64 a, .int .i64 b, .int .i64 u.ver, .slice u.nA u.nodes.length u.nc, .slice u.sA u.rs.length u.sc] 27
abbrev zeroO : Obj := .cells #[.int .i64 0, .slice none 0 0, .slice none 0 0] 25
theorem op_chg {S : Nat → Prop} {w w' : World} {B : Nat} {v : PV} (h : OP w B v) (hc : Chg S w w') (hS : ∀ k, B ≤ k → ¬ S k) : OP w' B v :=
  ⟨h.n.chg hc (fun g hg => hS g (h.n.lt g hg).1), h.s.chg hc (fun g hg => hS g (h.s.lt g hg).1), fun r hr => (h.each r hr).chg hc (fun g hg => hS g ((h.each r hr).lt g hg).1)⟩
theorem op_base {w : World} {B C : Nat} {v : PV} (h : OP w B v) (hC : C ≤ B) : OP w C v := ⟨h.n.base hC, h.s.base hC, fun r hr => (h.each r hr).base hC⟩
theorem chg3 (w : World) (g : Nat) (a b c : Value) : Chg (fun k => k = g) w (((w.setCell ⟨g, 0, none⟩ a).setCell ⟨g, 1, none⟩ b).setCell ⟨g, 2, none⟩ c) :=
  (((Chg.refl (fun k => k = g) w).setCell (p := ⟨g, 0, none⟩) (fun _ => rfl) _).setCell (p := ⟨g, 1, none⟩) (fun _ => rfl) _).setCell (p := ⟨g, 2, none⟩) (fun _ => rfl) _
set_option maxRecDepth 100000 in
set_option maxHeartbeats 4000000 in
theorem next_l (w : World) (B : Nat) (v u : PV) (k n a b : Int) (h : PVok w B v) (hB : B ≤ w.heap.size) :
    Calls Tryz.prog 10 #[v.val, .bool true, stepV k n a b u] w (RetN w (nextP v.pl a n b)) := by
  obtain ⟨w4, hw4⟩ : ∃ w4, (((w.alloc (boxO v)).alloc (stepO k n a b u)).alloc zeroO).alloc zeroO = w4 := ⟨_, rfl⟩
  have hs4 : w4.heap.size = w.heap.size + 1 + 1 + 1 + 1 := by rw [← hw4]; simp
  have hb4 : Below w.heap.size w w4 := by rw [← hw4]; exact ((((Below.refl _ _).alloc (Nat.le_refl _) _).alloc (by simp) _).alloc (by simp; omega) _).alloc (by simp; omega) _
  have gp : pm.Boxed w4 w.heap.size v := by rw [← hw4]; exact alloc_old _ (alloc_old _ (alloc_old _ (alloc_new _ _)))
  have gs : w4.heap[w.heap.size + 1]? = some (stepO k n a b u) := by
    rw [← hw4]
    have := alloc_new (w.alloc (boxO v)) (stepO k n a b u)
    rw [World.size_alloc] at this
    exact alloc_old _ (alloc_old _ this)
  have gr : IsV3 25 w4 (w.heap.size + 1 + 1) (.int .i64 0) (.slice none 0 0) (.slice none 0 0) := by
    rw [← hw4]
    have := alloc_new ((w.alloc (boxO v)).alloc (stepO k n a b u)) zeroO
    rw [World.size_alloc, World.size_alloc] at this
    exact alloc_old _ this
  have gq : IsV3 25 w4 (w.heap.size + 1 + 1 + 1) (.int .i64 0) (.slice none 0 0) (.slice none 0 0) := by
    rw [← hw4]
    have := alloc_new (((w.alloc (boxO v)).alloc (stepO k n a b u)).alloc zeroO) zeroO
    rw [World.size_alloc, World.size_alloc, World.size_alloc] at this
    exact this
  obtain ⟨⟨b0, b1, b2⟩, _, _, _⟩ := isv3_cells gp
  obtain ⟨s1, s2, s3⟩ : w4.cell? ⟨w.heap.size + 1, 1, none⟩ = some (.int .i64 n) ∧ w4.cell? ⟨w.heap.size + 1, 2, none⟩ = some (.int .i64 a) ∧ w4.cell? ⟨w.heap.size + 1, 3, none⟩ = some (.int .i64 b) := by
    refine ⟨?_, ?_, ?_⟩ <;> (rw [cell_of_row _ _ _ _ _ _ gs]; rfl)
  have lp5 := blk_lt gp
  have ls5 := blk_lt gs
  have lr5 := blk_lt gr
  have lq5 := blk_lt gq
  have hv5 := h.below hb4 hB
  have hB5 : B ≤ w4.heap.size := by omega
  have HW4 := Lib.hid hw4
  have HG := Lib.hid (And.intro gr gq)
  have HB := Lib.hid hb4
  have HC := Lib.hid (And.intro hs4 (And.intro (radd_sy w4 B v hv5 hB5 n) (And.intro (rremove_sy w4 B v hv5 hB5 n) (And.intro (rreplace_sy w4 B v hv5 hB5 n b) (rdone_sy w4 B v hv5 hB5 n b)))))
  unfold nextP
  clear hw4 hs4 hb4 gp gs gr gq hv5 hB5 hB h
  go_enter Tryz.func10, Tryz.ntmps10
  by_cases h0 : a = 0
  · subst h0
    rw [if_pos rfl]
    go_wp2_with (fail)
    rw [HW4.out]
    go_wp2_with (fail)
    refine HC.out.2.1.mono ?_
    rintro e w6 ⟨x, rfl, hpl, hop, hb6⟩
    have gq6 := blk_below hb6 HG.out.2 lq5
    have gr6 := blk_below hb6 HG.out.1 lr5
    obtain ⟨⟨q0, q1, q2⟩, f0, f1, f2⟩ := isv3_cells gq6
    obtain ⟨⟨r0, r1, r2⟩, e0, e1, e2⟩ := isv3_cells gr6
    have lq := blk_lt gq6
    have lr := blk_lt gr6
    have HX := Lib.hid (And.intro hpl (And.intro hop (And.intro hb6 (And.intro gq6 gr6))))
    clear hpl hop hb6 gq6 gr6 b0 b1 b2 s1 s2 s3 lp5 ls5 lr5 lq5
    go_wp2_with (fail)
    have G3 := set3 (a' := .int .i64 x.ver) (b' := .slice x.nA x.nodes.length x.nc) (c' := .slice x.sA x.rs.length x.sc) HX.out.2.2.2.1
    have gr7 := (chg3 w6 (w.heap.size + 1 + 1 + 1) (.int .i64 x.ver) (.slice x.nA x.nodes.length x.nc) (.slice x.sA x.rs.length x.sc)).blk HX.out.2.2.2.2 (by omega)
    have G4 := set3 (a' := .int .i64 x.ver) (b' := .slice x.nA x.nodes.length x.nc) (c' := .slice x.sA x.rs.length x.sc) gr7
    refine bodyPost_ret (results_cell_row rfl _ _ (w.heap.size + 1 + 1) 25 _ _ _ rfl G4 Tryz.underlying25 rfl sizeP) rfl ?_
    have hs5 := HC.out.1
    have hb06 := HB.out.trans (HX.out.2.2.1.mono (by omega))
    exact ⟨x, rfl, HX.out.1, op_base (op_chg (op_chg HX.out.2.1 (chg3 _ _ _ _ _) (fun k hk e => by omega)) (chg3 _ _ _ _ _) (fun k hk e => by omega)) (by omega), below_set3 (below_set3 hb06 (by omega) _ _ _) (by omega) _ _ _⟩
  · rw [if_neg h0]
    by_cases h1 : a = 1
    · subst h1
      rw [if_pos rfl]
      go_wp2_with (fail)
      rw [HW4.out]
      go_wp2_with (fail)
      refine HC.out.2.2.1.mono ?_
      rintro e w6 ⟨x, rfl, hpl, hop, hb6⟩
      have gq6 := blk_below hb6 HG.out.2 lq5
      have gr6 := blk_below hb6 HG.out.1 lr5
      obtain ⟨⟨q0, q1, q2⟩, f0, f1, f2⟩ := isv3_cells gq6
      obtain ⟨⟨r0, r1, r2⟩, e0, e1, e2⟩ := isv3_cells gr6
      have lq := blk_lt gq6
      have lr := blk_lt gr6
      have HX := Lib.hid (And.intro hpl (And.intro hop (And.intro hb6 (And.intro gq6 gr6))))
      clear hpl hop hb6 gq6 gr6 b0 b1 b2 s1 s2 s3 lp5 ls5 lr5 lq5
      go_wp2_with (fail)
      have G3 := set3 (a' := .int .i64 x.ver) (b' := .slice x.nA x.nodes.length x.nc) (c' := .slice x.sA x.rs.length x.sc) HX.out.2.2.2.1
      have gr7 := (chg3 w6 (w.heap.size + 1 + 1 + 1) (.int .i64 x.ver) (.slice x.nA x.nodes.length x.nc) (.slice x.sA x.rs.length x.sc)).blk HX.out.2.2.2.2 (by omega)
      have G4 := set3 (a' := .int .i64 x.ver) (b' := .slice x.nA x.nodes.length x.nc) (c' := .slice x.sA x.rs.length x.sc) gr7
      refine bodyPost_ret (results_cell_row rfl _ _ (w.heap.size + 1 + 1) 25 _ _ _ rfl G4 Tryz.underlying25 rfl sizeP) rfl ?_
      have hs5 := HC.out.1
      have hb06 := HB.out.trans (HX.out.2.2.1.mono (by omega))
      exact ⟨x, rfl, HX.out.1, op_base (op_chg (op_chg HX.out.2.1 (chg3 _ _ _ _ _) (fun k hk e => by omega)) (chg3 _ _ _ _ _) (fun k hk e => by omega)) (by omega), below_set3 (below_set3 hb06 (by omega) _ _ _) (by omega) _ _ _⟩
    · rw [if_neg h1]
      by_cases h2 : a = 2
      · subst h2
        rw [if_pos rfl]
        go_wp2_with (fail)
        rw [HW4.out]
        go_wp2_with (fail)
        refine HC.out.2.2.2.1.mono ?_
        rintro e w6 ⟨x, rfl, hpl, hop, hb6⟩
        have gq6 := blk_below hb6 HG.out.2 lq5
        have gr6 := blk_below hb6 HG.out.1 lr5
        obtain ⟨⟨q0, q1, q2⟩, f0, f1, f2⟩ := isv3_cells gq6
        obtain ⟨⟨r0, r1, r2⟩, e0, e1, e2⟩ := isv3_cells gr6
        have lq := blk_lt gq6
        have lr := blk_lt gr6
        have HX := Lib.hid (And.intro hpl (And.intro hop (And.intro hb6 (And.intro gq6 gr6))))
        clear hpl hop hb6 gq6 gr6 b0 b1 b2 s1 s2 s3 lp5 ls5 lr5 lq5
        go_wp2_with (fail)
        have G3 := set3 (a' := .int .i64 x.ver) (b' := .slice x.nA x.nodes.length x.nc) (c' := .slice x.sA x.rs.length x.sc) HX.out.2.2.2.1
        have gr7 := (chg3 w6 (w.heap.size + 1 + 1 + 1) (.int .i64 x.ver) (.slice x.nA x.nodes.length x.nc) (.slice x.sA x.rs.length x.sc)).blk HX.out.2.2.2.2 (by omega)
        have G4 := set3 (a' := .int .i64 x.ver) (b' := .slice x.nA x.nodes.length x.nc) (c' := .slice x.sA x.rs.length x.sc) gr7
        refine bodyPost_ret (results_cell_row rfl _ _ (w.heap.size + 1 + 1) 25 _ _ _ rfl G4 Tryz.underlying25 rfl sizeP) rfl ?_
        have hs5 := HC.out.1
        have hb06 := HB.out.trans (HX.out.2.2.1.mono (by omega))
        exact ⟨x, rfl, HX.out.1, op_base (op_chg (op_chg HX.out.2.1 (chg3 _ _ _ _ _) (fun k hk e => by omega)) (chg3 _ _ _ _ _) (fun k hk e => by omega)) (by omega), below_set3 (below_set3 hb06 (by omega) _ _ _) (by omega) _ _ _⟩
      · rw [if_neg h2]
        go_wp2_with (fail)
        rw [HW4.out]
        go_wp2_with (fail)
        refine HC.out.2.2.2.2.mono ?_
        rintro e w6 ⟨x, rfl, hpl, hop, hb6⟩
        have gq6 := blk_below hb6 HG.out.2 lq5
        have gr6 := blk_below hb6 HG.out.1 lr5
        obtain ⟨⟨q0, q1, q2⟩, f0, f1, f2⟩ := isv3_cells gq6
        obtain ⟨⟨r0, r1, r2⟩, e0, e1, e2⟩ := isv3_cells gr6
        have lq := blk_lt gq6
        have lr := blk_lt gr6
        have HX := Lib.hid (And.intro hpl (And.intro hop (And.intro hb6 (And.intro gq6 gr6))))
        clear hpl hop hb6 gq6 gr6 b0 b1 b2 s1 s2 s3 lp5 ls5 lr5 lq5
        go_wp2_with (fail)
        have G3 := set3 (a' := .int .i64 x.ver) (b' := .slice x.nA x.nodes.length x.nc) (c' := .slice x.sA x.rs.length x.sc) HX.out.2.2.2.1
        have gr7 := (chg3 w6 (w.heap.size + 1 + 1 + 1) (.int .i64 x.ver) (.slice x.nA x.nodes.length x.nc) (.slice x.sA x.rs.length x.sc)).blk HX.out.2.2.2.2 (by omega)
        have G4 := set3 (a' := .int .i64 x.ver) (b' := .slice x.nA x.nodes.length x.nc) (c' := .slice x.sA x.rs.length x.sc) gr7
        refine bodyPost_ret (results_cell_row rfl _ _ (w.heap.size + 1 + 1) 25 _ _ _ rfl G4 Tryz.underlying25 rfl sizeP) rfl ?_
        have hs5 := HC.out.1
        have hb06 := HB.out.trans (HX.out.2.2.1.mono (by omega))
        exact ⟨x, rfl, HX.out.1, op_base (op_chg (op_chg HX.out.2.1 (chg3 _ _ _ _ _) (fun k hk e => by omega)) (chg3 _ _ _ _ _) (fun k hk e => by omega)) (by omega), below_set3 (below_set3 hb06 (by omega) _ _ _) (by omega) _ _ _⟩
end Go.Proofs.YtnjdondkggkfoaaGreat.ks
/-
  The store's disk by itself: opened anew, crashed, powered; what a cut within Set leaves.
-/
namespace Go.Proofs.YtnjdondkggkfoaaGreat.ks
open Go.ChangeShapes Go.WideShapes Go.ChangeAt Go.RowKit Go.Shelf Go.Maps Go.Sort plain words ord mem al dk

theorem KS.disk {X : Nat → Prop} {w0 w : World} {s p : Nat} {st : dk.St} {tx : Nm} (h : KS X w0 w s p st tx) : One X w0 w p st :=
  h.1.mark (Below.refl _ _) (fun k hk => .inl (.inl hk)) (fun k hk => by
    obtain ⟨F, k1, k2, k3, k4⟩ := h.1
    exact k4 k (.inl hk))
theorem One.of {X Y : Nat → Prop} {w0 w : World} {p : Nat} {st : dk.St} (h : One X w0 w p st) (hY : ∀ k, Y k → X k) : One Y w0 w p st :=
  h.mark (Below.refl _ _) (fun k hk => .inl (hY k hk)) (fun k hk => by
    obtain ⟨F, k1, k2, k3, k4⟩ := h
    exact k4 k (hY k hk))
set_option maxRecDepth 100000 in
theorem open_x (X : Nat → Prop) (w0 w : World) (p : Nat) (st : dk.St) (h : One X w0 w p st) :
    Calls Tryz.prog 6 #[ptr p] w fun e w' => ∃ s, e = .returned (ptr s) ∧ KS X w0 w' s p st ((al.get st.shown cu).getD []) ∧ Chg (fun k => ¬ X k) w w' := by
  have HR := Lib.hid (h.on (fun F hF => read_d w p F st cu hF (by decide)))
  rw [ans_eq] at HR
  obtain ⟨t, ht⟩ : ∃ t, (al.get st.shown cu).getD [] = t := ⟨_, rfl⟩
  rw [ht] at HR ⊢
  clear h ht
  go_enter Tryz.func6, Tryz.ntmps6
  go_wp2_with (fail)
  refine HR.out.mono ?_
  rintro e w2 ⟨rfl, h2, ch2⟩
  have H2 := Lib.hid (And.intro h2 ch2)
  clear h2 ch2
  go_wp2_with (fail)
  go_ret
  have hb := (Below.refl w2.heap.size w2).alloc (Nat.le_refl _) (.cells #[ptr p, .string (bs t)] 72)
  have hXl : ∀ k, X k → k < w2.heap.size := by
    obtain ⟨F, k1, k2, k3, k4⟩ := H2.out.1
    exact k4
  have h3 := H2.out.1.mark hb (Y := fun k => X k ∨ k = w2.heap.size) (fun k hk => by rcases hk with e | e; exact .inl e; exact .inr (Nat.le_of_eq e.symm)) (fun k hk => by rcases hk with e | e; exact Nat.lt_of_lt_of_le (hXl k e) hb.size; rw [e]; simp)
  exact ⟨_, rfl, ⟨h3, alloc_new _ _, H2.out.1.below.size, fun e => absurd (hXl _ e) (Nat.lt_irrefl _)⟩, H2.out.2.trans ((Chg.of_below hb).mono (fun _ _ e => e.elim)) fun _ _ e => e⟩

/-- a disk that, its power on again, lives, is synced and holds o -/
def PC (X : Nat → Prop) (w0 w : World) (p : Nat) (o : Option Nm) (R n : Int) : Prop := ∃ st, One X w0 w p st ∧ Cl (powSt st) o R n
def OC (X : Nat → Prop) (w0 w : World) (p : Nat) (o : Option Nm) (R n : Int) : Prop := ∃ st, One X w0 w p st ∧ Cl st o R n
section
variable {X : Nat → Prop} {w0 w w' : World} {s p : Nat} {o : Option Nm} {R n : Int}
theorem KC.disk (h : KC X w0 w s p o R n) : OC X w0 w p o R n := by
  obtain ⟨st, h1, h2⟩ := h
  exact ⟨st, h1.disk, h2⟩
theorem OC.below (h : OC X w0 w p o R n) : Below w0.heap.size w0 w := by
  obtain ⟨st, h1, h2⟩ := h
  exact h1.below
theorem OC.quiet (h : OC X w0 w p o R n) (hb : Below w.heap.size w w') : OC X w0 w' p o R n := by
  obtain ⟨st, h1, h2⟩ := h
  exact ⟨st, h1.quiet hb, h2⟩
theorem OC.mark (h : OC X w0 w p o R n) (hb : Below w.heap.size w w') {Y : Nat → Prop} (hY : ∀ k, Y k → X k ∨ w.heap.size ≤ k) (hYl : ∀ k, Y k → k < w'.heap.size) : OC Y w0 w' p o R n := by
  obtain ⟨st, h1, h2⟩ := h
  exact ⟨st, h1.mark hb hY hYl, h2⟩
theorem Cl.crash {st : dk.St} (h : Cl st o R n) (k q : Int) : Cl (powSt (crashSt st k q)) o R n := by
  obtain ⟨room, last, pend, due, dead, ops⟩ := st
  obtain ⟨h1, h2, h3, h4, h5, h6, h7⟩ := h
  dsimp only at h1 h2 h3 h4 h5 h6 h7
  subst h1 h2 h3 h4 h5
  refine ⟨?_, rfl, rfl, rfl, rfl, h6, h7⟩
  simp [crashSt, powSt, partOf, fold]
theorem OC.crash (h : OC X w0 w p o R n) (ho : olen o ≤ 1000) (hn : n < 1000000000) (k q : Int) : Calls Tryz.prog 21 #[ptr p, .int .i64 k, .int .i64 q] w fun e w' => e = .returned (.tuple #[]) ∧ PC X w0 w' p o R n ∧ Chg (fun k => ¬ X k) w w' := by
  obtain ⟨st, h1, h2⟩ := h
  have hs := h2.small (by omega) (by omega)
  refine (h1.on (fun F hF => crash_d w p F st k q hF (by have := hs.sum; omega) (by have := hs.len; omega))).mono ?_
  rintro e w1 ⟨rfl, h3, h4⟩
  exact ⟨rfl, ⟨_, h3, h2.crash k q⟩, h4⟩
theorem PC.power (h : PC X w0 w p o R n) : Calls Tryz.prog 23 #[ptr p] w fun e w' => e = .returned (.tuple #[]) ∧ OC X w0 w' p o R n ∧ Chg (fun k => ¬ X k) w w' := by
  obtain ⟨st, h1, h2⟩ := h
  refine (h1.on (fun F hF => power_d w p F st hF)).mono ?_
  rintro e w1 ⟨rfl, h3, h4⟩
  exact ⟨rfl, ⟨_, h3, h2⟩, h4⟩
theorem OC.open (h : OC X w0 w p o R n) : Calls Tryz.prog 6 #[ptr p] w fun e w' => ∃ s, e = .returned (ptr s) ∧ KC X w0 w' s p o R n ∧ Chg (fun k => ¬ X k) w w' := by
  obtain ⟨st, h1, h2⟩ := h
  refine (open_x X w0 w p st h1).mono ?_
  rintro e w1 ⟨s, rfl, h3, h4⟩
  rw [h2.shown, base_cu] at h3
  exact ⟨s, rfl, ⟨st, h3, h2⟩, h4⟩
theorem OC.pending (h : OC X w0 w p o R n) : Calls Tryz.prog 14 #[ptr p] w fun e w' => e = .returned (.int .i64 0) ∧ w = w' := by
  obtain ⟨st, h1, h2⟩ := h
  obtain ⟨F, hF⟩ := h1.ex
  have := pending_d w p F st hF
  rw [h2.pend] at this
  exact this
end
/-- a state with an order -/
abbrev LS (R : Int) (ls : AL Nm) (pd : List Chn) (l k q n : Int) : dk.St := ⟨R, ls, pd, some (l, k, q), false, n⟩
/-- what is left of it -/
abbrev CS (R : Int) (ls : AL Nm) (pd : List Chn) (k q n : Int) : dk.St := ⟨R, partOf (fold ls (pd.take (keptN k pd.length))) pd[keptN k pd.length]? q, [], none, true, n⟩
section
variable {R k q n : Int} {ls : AL Nm} {pd : List Chn}
end
theorem cs_nil (R : Int) (ls : AL Nm) (k q n : Int) : (CS R ls [] k q n).last = ls := by simp [partOf, fold]
structure Mini (s : dk.St) : Prop where
  sum : fsum s.last + sumc s.pend ≤ 1073741824
  len : s.last.length + s.pend.length ≤ 1073741824
theorem Mini.crash {X : Nat → Prop} {w0 w : World} {p : Nat} {st : dk.St} (hm : Mini st) (h : One X w0 w p st) (k q : Int) : Calls Tryz.prog 21 #[ptr p, .int .i64 k, .int .i64 q] w (RetOne X w0 w p (crashSt st k q) (.tuple #[])) :=
  h.on (fun F hF => crash_d w p F st k q hF hm.sum hm.len)
end Go.Proofs.YtnjdondkggkfoaaGreat.ks
/-
  For the laws: what they set first, two of different versions, next where nothing is there.
-/
namespace Go.Proofs.YtnjdondkggkfoaaGreat.ks
open Go.ChangeShapes Go.WideShapes Go.ChangeAt Go.RowKit Go.Shelf plain words ord mem pm

theorem op_keep {S : Nat → Prop} {w w' : World} {B : Nat} {v : PV} (h : OP w B v) (hc : Chg S w w') (hS : ∀ k, B ≤ k → k < w.heap.size → ¬ S k) : OP w' B v :=
  ⟨h.n.chg hc (fun g hg => hS g (h.n.lt g hg).1 (h.n.lt g hg).2), h.s.chg hc (fun g hg => hS g (h.s.lt g hg).1 (h.s.lt g hg).2), fun r hr => (h.each r hr).chg hc (fun g hg => hS g ((h.each r hr).lt g hg).1 ((h.each r hr).lt g hg).2)⟩
theorem three_ls (w : World) (g : Nat) (fr : Nat × Nat) (h : w.heap[g]? = some (.cells #[.int .i64 0, .int .i64 1, .int .i64 2] 3 fr)) : Ls NE w w.heap.size (some ⟨g, 0, none⟩) 3 [0, 1, 2] := by
  refine ⟨rfl, rfl, fun j hj => ?_⟩
  have h3 : j = 0 ∨ j = 1 ∨ j = 2 := by have : j < 3 := hj; omega
  have hl := blk_lt h
  rcases h3 with rfl | rfl | rfl
  · exact ⟨g, 0, .int .i64 0, rfl, hl, rfl, by rw [cell_of_row _ _ _ _ _ _ h]; rfl⟩
  · exact ⟨g, 0, .int .i64 1, rfl, hl, rfl, by rw [cell_of_row _ _ _ _ _ _ h]; rfl⟩
  · exact ⟨g, 0, .int .i64 2, rfl, hl, rfl, by rw [cell_of_row _ _ _ _ _ _ h]; rfl⟩
set_option maxRecDepth 100000 in
set_option maxHeartbeats 4000000 in
theorem next0_l (w : World) (v u : PV) (k n a b : Int) :
    Calls Tryz.prog 10 #[v.val, .bool false, stepV k n a b u] w (RetN w (rinitPl [0, 1, 2] 2)) := by
  obtain ⟨w4, hw4⟩ : ∃ w4, (((w.alloc (boxO v)).alloc (stepO k n a b u)).alloc zeroO).alloc zeroO = w4 := ⟨_, rfl⟩
  have hs4 : w4.heap.size = w.heap.size + 1 + 1 + 1 + 1 := by rw [← hw4]; simp
  have hb4 : Below w.heap.size w w4 := by rw [← hw4]; exact ((((Below.refl _ _).alloc (Nat.le_refl _) _).alloc (by simp) _).alloc (by simp; omega) _).alloc (by simp; omega) _
  have gp : pm.Boxed w4 w.heap.size v := by rw [← hw4]; exact alloc_old _ (alloc_old _ (alloc_old _ (alloc_new _ _)))
  have gs : w4.heap[w.heap.size + 1]? = some (stepO k n a b u) := by
    rw [← hw4]
    have := alloc_new (w.alloc (boxO v)) (stepO k n a b u)
    rw [World.size_alloc] at this
    exact alloc_old _ (alloc_old _ this)
  have gr : IsV3 25 w4 (w.heap.size + 1 + 1) (.int .i64 0) (.slice none 0 0) (.slice none 0 0) := by
    rw [← hw4]
    have := alloc_new ((w.alloc (boxO v)).alloc (stepO k n a b u)) zeroO
    rw [World.size_alloc, World.size_alloc] at this
    exact alloc_old _ this
  have gq : IsV3 25 w4 (w.heap.size + 1 + 1 + 1) (.int .i64 0) (.slice none 0 0) (.slice none 0 0) := by
    rw [← hw4]
    have := alloc_new (((w.alloc (boxO v)).alloc (stepO k n a b u)).alloc zeroO) zeroO
    rw [World.size_alloc, World.size_alloc, World.size_alloc] at this
    exact this
  obtain ⟨⟨b0, b1, b2⟩, _, _, _⟩ := isv3_cells gp
  obtain ⟨s1, s2, s3⟩ : w4.cell? ⟨w.heap.size + 1, 1, none⟩ = some (.int .i64 n) ∧ w4.cell? ⟨w.heap.size + 1, 2, none⟩ = some (.int .i64 a) ∧ w4.cell? ⟨w.heap.size + 1, 3, none⟩ = some (.int .i64 b) := by
    refine ⟨?_, ?_, ?_⟩ <;> (rw [cell_of_row _ _ _ _ _ _ gs]; rfl)
  have lp5 := blk_lt gp
  have ls5 := blk_lt gs
  have lr5 := blk_lt gr
  have lq5 := blk_lt gq
  obtain ⟨w5, hw5⟩ : ∃ w5, w4.alloc (.cells #[.int .i64 0, .int .i64 1, .int .i64 2] 3) = w5 := ⟨_, rfl⟩
  have hb45 : Below w4.heap.size w4 w5 := by rw [← hw5]; exact (Below.refl _ _).alloc (Nat.le_refl _) _
  have hs5 : w5.heap.size = w4.heap.size + 1 := by rw [← hw5]; simp
  have gl := three_ls w5 w4.heap.size (0, 0) (by rw [← hw5]; exact alloc_new _ _)
  have HI := Lib.hid (rinit_sy w5 w5.heap.size 3 3 (some ⟨w4.heap.size, 0, none⟩) [0, 1, 2] gl (Nat.le_refl _) (by decide) (by decide) (by decide) 2)
  rw [hs4] at HI
  have gr5 := blk_below hb45 gr (blk_lt gr)
  have gq5 := blk_below hb45 gq (blk_lt gq)
  have lq5 := blk_lt gq5
  have lr5 := blk_lt gr5
  have HW4 := Lib.hid hw4
  have HW5 := Lib.hid hw5
  have HG := Lib.hid (And.intro gr5 gq5)
  have HB := Lib.hid (hb4.trans (hb45.mono (by omega)))
  have HS := Lib.hid (And.intro hs4 hs5)
  clear hw4 hs4 hb4 gp gs gr gq hw5 hb45 hs5 gl gr5 gq5
  go_enter Tryz.func10, Tryz.ntmps10
  go_wp2_with (fail)
  rw [HW4.out]
  rw [HW5.out]
  refine HI.out.mono ?_
  rintro e w6 ⟨x, rfl, hpl, hop, hb6⟩
  have gq6 := blk_below hb6 HG.out.2 lq5
  have gr6 := blk_below hb6 HG.out.1 lr5
  obtain ⟨⟨q0, q1, q2⟩, f0, f1, f2⟩ := isv3_cells gq6
  obtain ⟨⟨r0, r1, r2⟩, e0, e1, e2⟩ := isv3_cells gr6
  have lq := blk_lt gq6
  have lr := blk_lt gr6
  have HX := Lib.hid (And.intro hpl (And.intro hop (And.intro hb6 (And.intro gq6 gr6))))
  clear hpl hop hb6 gq6 gr6
  go_wp2_with (fail)
  have G3 := set3 (a' := .int .i64 x.ver) (b' := .slice x.nA x.nodes.length x.nc) (c' := .slice x.sA x.rs.length x.sc) HX.out.2.2.2.1
  have gr7 := (chg3 w6 (w.heap.size + 1 + 1 + 1) (.int .i64 x.ver) (.slice x.nA x.nodes.length x.nc) (.slice x.sA x.rs.length x.sc)).blk HX.out.2.2.2.2 (by omega)
  have G4 := set3 (a' := .int .i64 x.ver) (b' := .slice x.nA x.nodes.length x.nc) (c' := .slice x.sA x.rs.length x.sc) gr7
  refine bodyPost_ret (results_cell_row rfl _ _ (w.heap.size + 1 + 1) 25 _ _ _ rfl G4 Tryz.underlying25 rfl sizeP) rfl ?_
  have hs4 := HS.out.1
  have hs5 := HS.out.2
  have hb06 := HB.out.trans (HX.out.2.2.1.mono (by omega))
  exact ⟨x, rfl, HX.out.1, op_base (op_chg (op_chg HX.out.2.1 (chg3 _ _ _ _ _) (fun k hk e => by omega)) (chg3 _ _ _ _ _) (fun k hk e => by omega)) (by omega), below_set3 (below_set3 hb06 (by omega) _ _ _) (by omega) _ _ _⟩
end Go.Proofs.YtnjdondkggkfoaaGreat.ks
