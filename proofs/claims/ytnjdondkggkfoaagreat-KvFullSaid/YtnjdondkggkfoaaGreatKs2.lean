/-
  The law's next: a placement behind what is there.
-/
import Derived.Test.YtnjdondkggkfoaaGreatKs
import Derived.Test.YtnjdondkggkfoaaGreatPmAddY
import Derived.Test.YtnjdondkggkfoaaGreatPmRemY
import Derived.Test.YtnjdondkggkfoaaGreatPmRepY
import Derived.Test.YtnjdondkggkfoaaGreatPmDoneY
import Derived.Test.YtnjdondkggkfoaaGreatPmInitM
import Derived.Test.YtnjdondkggkfoaaGreatKvLaw
import Derived.Test.YtnjdondkggkfoaaGreatFree
namespace Go.Proofs.YtnjdondkggkfoaaGreat.ks
open Go.ChangeShapes Go.WideShapes Go.ChangeAt Go.RowKit Go.Shelf plain words ord mem pm

/-- a placement of the call's own -/
def RetN (w : World) (p : Pl) (e : Ending) (w' : World) : Prop := ∃ v : PV, e = .returned v.val ∧ v.pl = p ∧ OP w' w.heap.size v ∧ Below w.heap.size w w'
abbrev stepV (k n a b : Int) (u : PV) : Value := .agg #[.int .i64 k, .int .i64 n, .int .i64 a, .int .i64 b, .int .i64 u.ver, .slice u.nA u.nodes.length u.nc, .slice u.sA u.rs.length u.sc]
abbrev stepO (k n a b : Int) (u : PV) : Obj := .cells #[.int .i64 k, .int .i64 n, .int .i64 a, .int .i64 b, .int .i64 u.ver, .slice u.nA u.nodes.length u.nc, .slice u.sA u.rs.length u.sc] 27
abbrev zeroO : Obj := .cells #[.int .i64 0, .slice none 0 0, .slice none 0 0] 25
theorem op_chg {S : Nat → Prop} {w w' : World} {B : Nat} {v : PV} (h : OP w B v) (hc : Chg S w w') (hS : ∀ k, B ≤ k → ¬ S k) : OP w' B v :=
  ⟨h.n.chg hc (fun g hg => hS g (h.n.lt g hg).1), h.s.chg hc (fun g hg => hS g (h.s.lt g hg).1), fun r hr => (h.each r hr).chg hc (fun g hg => hS g ((h.each r hr).lt g hg).1)⟩
theorem op_base {w : World} {B C : Nat} {v : PV} (h : OP w B v) (hC : C ≤ B) : OP w C v := ⟨h.n.base hC, h.s.base hC, fun r hr => (h.each r hr).base hC⟩
theorem chg3 (w : World) (g : Nat) (a b c : Value) : Chg (fun k => k = g) w (((w.setCell ⟨g, 0, none⟩ a).setCell ⟨g, 1, none⟩ b).setCell ⟨g, 2, none⟩ c) :=
  (((Chg.refl (fun k => k = g) w).setCell (p := ⟨g, 0, none⟩) (fun _ => rfl) _).setCell (p := ⟨g, 1, none⟩) (fun _ => rfl) _).setCell (p := ⟨g, 2, none⟩) (fun _ => rfl) _
set_option maxRecDepth 100000 in
set_option maxHeartbeats 4000000 in
theorem next_l (w : World) (B : Nat) (v u : PV) (k n a b : Int) (h : PVok w B v) (hB : B ≤ w.heap.size) :
    Calls Tryz.prog 10 #[v.val, .bool true, stepV k n a b u] w (RetN w (nextP v.pl a n b)) := by
  obtain ⟨w4, hw4⟩ : ∃ w4, (((w.alloc (boxO v)).alloc (stepO k n a b u)).alloc zeroO).alloc zeroO = w4 := ⟨_, rfl⟩
  have hs4 : w4.heap.size = w.heap.size + 1 + 1 + 1 + 1 := by rw [← hw4]; simp
  have hb4 : Below w.heap.size w w4 := by rw [← hw4]; exact ((((Below.refl _ _).alloc (Nat.le_refl _) _).alloc (by simp) _).alloc (by simp; omega) _).alloc (by simp; omega) _
  have gp : pm.Boxed w4 w.heap.size v := by rw [← hw4]; exact alloc_old _ (alloc_old _ (alloc_old _ (alloc_new _ _)))
  have gs : w4.heap[w.heap.size + 1]? = some (stepO k n a b u) := by
    rw [← hw4]
    have := alloc_new (w.alloc (boxO v)) (stepO k n a b u)
    rw [World.size_alloc] at this
    exact alloc_old _ (alloc_old _ this)
  have gr : IsV3 25 w4 (w.heap.size + 1 + 1) (.int .i64 0) (.slice none 0 0) (.slice none 0 0) := by
    rw [← hw4]
    have := alloc_new ((w.alloc (boxO v)).alloc (stepO k n a b u)) zeroO
    rw [World.size_alloc, World.size_alloc] at this
    exact alloc_old _ this
  have gq : IsV3 25 w4 (w.heap.size + 1 + 1 + 1) (.int .i64 0) (.slice none 0 0) (.slice none 0 0) := by
    rw [← hw4]
    have := alloc_new (((w.alloc (boxO v)).alloc (stepO k n a b u)).alloc zeroO) zeroO
    rw [World.size_alloc, World.size_alloc, World.size_alloc] at this
    exact this
  obtain ⟨⟨b0, b1, b2⟩, _, _, _⟩ := isv3_cells gp
  obtain ⟨s1, s2, s3⟩ : w4.cell? ⟨w.heap.size + 1, 1, none⟩ = some (.int .i64 n) ∧ w4.cell? ⟨w.heap.size + 1, 2, none⟩ = some (.int .i64 a) ∧ w4.cell? ⟨w.heap.size + 1, 3, none⟩ = some (.int .i64 b) := by
    refine ⟨?_, ?_, ?_⟩ <;> (rw [cell_of_row _ _ _ _ _ _ gs]; rfl)
  have lp5 := blk_lt gp
  have ls5 := blk_lt gs
  have lr5 := blk_lt gr
  have lq5 := blk_lt gq
  have hv5 := h.below hb4 hB
  have hB5 : B ≤ w4.heap.size := by omega
  have HW4 := Lib.hid hw4
  have HG := Lib.hid (And.intro gr gq)
  have HB := Lib.hid hb4
  have HC := Lib.hid (And.intro hs4 (And.intro (radd_sy w4 B v hv5 hB5 n) (And.intro (rremove_sy w4 B v hv5 hB5 n) (And.intro (rreplace_sy w4 B v hv5 hB5 n b) (rdone_sy w4 B v hv5 hB5 n b)))))
  unfold nextP
  clear hw4 hs4 hb4 gp gs gr gq hv5 hB5 hB h
  go_enter Tryz.func10, Tryz.ntmps10
  by_cases h0 : a = 0
  · subst h0
    rw [if_pos rfl]
    go_wp2_with (fail)
    rw [HW4.out]
    go_wp2_with (fail)
    refine HC.out.2.1.mono ?_
    rintro e w6 ⟨x, rfl, hpl, hop, hb6⟩
    have gq6 := blk_below hb6 HG.out.2 lq5
    have gr6 := blk_below hb6 HG.out.1 lr5
    obtain ⟨⟨q0, q1, q2⟩, f0, f1, f2⟩ := isv3_cells gq6
    obtain ⟨⟨r0, r1, r2⟩, e0, e1, e2⟩ := isv3_cells gr6
    have lq := blk_lt gq6
    have lr := blk_lt gr6
    have HX := Lib.hid (And.intro hpl (And.intro hop (And.intro hb6 (And.intro gq6 gr6))))
    clear hpl hop hb6 gq6 gr6 b0 b1 b2 s1 s2 s3 lp5 ls5 lr5 lq5
    go_wp2_with (fail)
    have G3 := set3 (a' := .int .i64 x.ver) (b' := .slice x.nA x.nodes.length x.nc) (c' := .slice x.sA x.rs.length x.sc) HX.out.2.2.2.1
    have gr7 := (chg3 w6 (w.heap.size + 1 + 1 + 1) (.int .i64 x.ver) (.slice x.nA x.nodes.length x.nc) (.slice x.sA x.rs.length x.sc)).blk HX.out.2.2.2.2 (by omega)
    have G4 := set3 (a' := .int .i64 x.ver) (b' := .slice x.nA x.nodes.length x.nc) (c' := .slice x.sA x.rs.length x.sc) gr7
    refine bodyPost_ret (results_cell_row rfl _ _ (w.heap.size + 1 + 1) 25 _ _ _ rfl G4 Tryz.underlying25 rfl sizeP) rfl ?_
    have hs5 := HC.out.1
    have hb06 := HB.out.trans (HX.out.2.2.1.mono (by omega))
    exact ⟨x, rfl, HX.out.1, op_base (op_chg (op_chg HX.out.2.1 (chg3 _ _ _ _ _) (fun k hk e => by omega)) (chg3 _ _ _ _ _) (fun k hk e => by omega)) (by omega), below_set3 (below_set3 hb06 (by omega) _ _ _) (by omega) _ _ _⟩
  · rw [if_neg h0]
    by_cases h1 : a = 1
    · subst h1
      rw [if_pos rfl]
      go_wp2_with (fail)
      rw [HW4.out]
      go_wp2_with (fail)
      refine HC.out.2.2.1.mono ?_
      rintro e w6 ⟨x, rfl, hpl, hop, hb6⟩
      have gq6 := blk_below hb6 HG.out.2 lq5
      have gr6 := blk_below hb6 HG.out.1 lr5
      obtain ⟨⟨q0, q1, q2⟩, f0, f1, f2⟩ := isv3_cells gq6
      obtain ⟨⟨r0, r1, r2⟩, e0, e1, e2⟩ := isv3_cells gr6
      have lq := blk_lt gq6
      have lr := blk_lt gr6
      have HX := Lib.hid (And.intro hpl (And.intro hop (And.intro hb6 (And.intro gq6 gr6))))
      clear hpl hop hb6 gq6 gr6 b0 b1 b2 s1 s2 s3 lp5 ls5 lr5 lq5
      go_wp2_with (fail)
      have G3 := set3 (a' := .int .i64 x.ver) (b' := .slice x.nA x.nodes.length x.nc) (c' := .slice x.sA x.rs.length x.sc) HX.out.2.2.2.1
      have gr7 := (chg3 w6 (w.heap.size + 1 + 1 + 1) (.int .i64 x.ver) (.slice x.nA x.nodes.length x.nc) (.slice x.sA x.rs.length x.sc)).blk HX.out.2.2.2.2 (by omega)
      have G4 := set3 (a' := .int .i64 x.ver) (b' := .slice x.nA x.nodes.length x.nc) (c' := .slice x.sA x.rs.length x.sc) gr7
      refine bodyPost_ret (results_cell_row rfl _ _ (w.heap.size + 1 + 1) 25 _ _ _ rfl G4 Tryz.underlying25 rfl sizeP) rfl ?_
      have hs5 := HC.out.1
      have hb06 := HB.out.trans (HX.out.2.2.1.mono (by omega))
      exact ⟨x, rfl, HX.out.1, op_base (op_chg (op_chg HX.out.2.1 (chg3 _ _ _ _ _) (fun k hk e => by omega)) (chg3 _ _ _ _ _) (fun k hk e => by omega)) (by omega), below_set3 (below_set3 hb06 (by omega) _ _ _) (by omega) _ _ _⟩
    · rw [if_neg h1]
      by_cases h2 : a = 2
      · subst h2
        rw [if_pos rfl]
        go_wp2_with (fail)
        rw [HW4.out]
        go_wp2_with (fail)
        refine HC.out.2.2.2.1.mono ?_
        rintro e w6 ⟨x, rfl, hpl, hop, hb6⟩
        have gq6 := blk_below hb6 HG.out.2 lq5
        have gr6 := blk_below hb6 HG.out.1 lr5
        obtain ⟨⟨q0, q1, q2⟩, f0, f1, f2⟩ := isv3_cells gq6
        obtain ⟨⟨r0, r1, r2⟩, e0, e1, e2⟩ := isv3_cells gr6
        have lq := blk_lt gq6
        have lr := blk_lt gr6
        have HX := Lib.hid (And.intro hpl (And.intro hop (And.intro hb6 (And.intro gq6 gr6))))
        clear hpl hop hb6 gq6 gr6 b0 b1 b2 s1 s2 s3 lp5 ls5 lr5 lq5
        go_wp2_with (fail)
        have G3 := set3 (a' := .int .i64 x.ver) (b' := .slice x.nA x.nodes.length x.nc) (c' := .slice x.sA x.rs.length x.sc) HX.out.2.2.2.1
        have gr7 := (chg3 w6 (w.heap.size + 1 + 1 + 1) (.int .i64 x.ver) (.slice x.nA x.nodes.length x.nc) (.slice x.sA x.rs.length x.sc)).blk HX.out.2.2.2.2 (by omega)
        have G4 := set3 (a' := .int .i64 x.ver) (b' := .slice x.nA x.nodes.length x.nc) (c' := .slice x.sA x.rs.length x.sc) gr7
        refine bodyPost_ret (results_cell_row rfl _ _ (w.heap.size + 1 + 1) 25 _ _ _ rfl G4 Tryz.underlying25 rfl sizeP) rfl ?_
        have hs5 := HC.out.1
        have hb06 := HB.out.trans (HX.out.2.2.1.mono (by omega))
        exact ⟨x, rfl, HX.out.1, op_base (op_chg (op_chg HX.out.2.1 (chg3 _ _ _ _ _) (fun k hk e => by omega)) (chg3 _ _ _ _ _) (fun k hk e => by omega)) (by omega), below_set3 (below_set3 hb06 (by omega) _ _ _) (by omega) _ _ _⟩
      · rw [if_neg h2]
        go_wp2_with (fail)
        rw [HW4.out]
        go_wp2_with (fail)
        refine HC.out.2.2.2.2.mono ?_
        rintro e w6 ⟨x, rfl, hpl, hop, hb6⟩
        have gq6 := blk_below hb6 HG.out.2 lq5
        have gr6 := blk_below hb6 HG.out.1 lr5
        obtain ⟨⟨q0, q1, q2⟩, f0, f1, f2⟩ := isv3_cells gq6
        obtain ⟨⟨r0, r1, r2⟩, e0, e1, e2⟩ := isv3_cells gr6
        have lq := blk_lt gq6
        have lr := blk_lt gr6
        have HX := Lib.hid (And.intro hpl (And.intro hop (And.intro hb6 (And.intro gq6 gr6))))
        clear hpl hop hb6 gq6 gr6 b0 b1 b2 s1 s2 s3 lp5 ls5 lr5 lq5
        go_wp2_with (fail)
        have G3 := set3 (a' := .int .i64 x.ver) (b' := .slice x.nA x.nodes.length x.nc) (c' := .slice x.sA x.rs.length x.sc) HX.out.2.2.2.1
        have gr7 := (chg3 w6 (w.heap.size + 1 + 1 + 1) (.int .i64 x.ver) (.slice x.nA x.nodes.length x.nc) (.slice x.sA x.rs.length x.sc)).blk HX.out.2.2.2.2 (by omega)
        have G4 := set3 (a' := .int .i64 x.ver) (b' := .slice x.nA x.nodes.length x.nc) (c' := .slice x.sA x.rs.length x.sc) gr7
        refine bodyPost_ret (results_cell_row rfl _ _ (w.heap.size + 1 + 1) 25 _ _ _ rfl G4 Tryz.underlying25 rfl sizeP) rfl ?_
        have hs5 := HC.out.1
        have hb06 := HB.out.trans (HX.out.2.2.1.mono (by omega))
        exact ⟨x, rfl, HX.out.1, op_base (op_chg (op_chg HX.out.2.1 (chg3 _ _ _ _ _) (fun k hk e => by omega)) (chg3 _ _ _ _ _) (fun k hk e => by omega)) (by omega), below_set3 (below_set3 hb06 (by omega) _ _ _) (by omega) _ _ _⟩
end Go.Proofs.YtnjdondkggkfoaaGreat.ks
/-
  The store's disk by itself: opened anew, crashed, powered; what a cut within Set leaves.
-/
namespace Go.Proofs.YtnjdondkggkfoaaGreat.ks
open Go.ChangeShapes Go.WideShapes Go.ChangeAt Go.RowKit Go.Shelf Go.Maps Go.Sort plain words ord mem al dk

theorem KS.disk {X : Nat → Prop} {w0 w : World} {s p : Nat} {st : dk.St} {tx : Nm} (h : KS X w0 w s p st tx) : One X w0 w p st :=
  h.1.mark (Below.refl _ _) (fun k hk => .inl (.inl hk)) (fun k hk => by
    obtain ⟨F, k1, k2, k3, k4⟩ := h.1
    exact k4 k (.inl hk))
theorem One.of {X Y : Nat → Prop} {w0 w : World} {p : Nat} {st : dk.St} (h : One X w0 w p st) (hY : ∀ k, Y k → X k) : One Y w0 w p st :=
  h.mark (Below.refl _ _) (fun k hk => .inl (hY k hk)) (fun k hk => by
    obtain ⟨F, k1, k2, k3, k4⟩ := h
    exact k4 k (hY k hk))
set_option maxRecDepth 100000 in
theorem open_x (X : Nat → Prop) (w0 w : World) (p : Nat) (st : dk.St) (h : One X w0 w p st) :
    Calls Tryz.prog 6 #[ptr p] w fun e w' => ∃ s, e = .returned (ptr s) ∧ KS X w0 w' s p st ((al.get st.shown cu).getD []) ∧ Chg (fun k => ¬ X k) w w' := by
  have HR := Lib.hid (h.on (fun F hF => read_d w p F st cu hF (by decide)))
  rw [ans_eq] at HR
  obtain ⟨t, ht⟩ : ∃ t, (al.get st.shown cu).getD [] = t := ⟨_, rfl⟩
  rw [ht] at HR ⊢
  clear h ht
  go_enter Tryz.func6, Tryz.ntmps6
  go_wp2_with (fail)
  refine HR.out.mono ?_
  rintro e w2 ⟨rfl, h2, ch2⟩
  have H2 := Lib.hid (And.intro h2 ch2)
  clear h2 ch2
  go_wp2_with (fail)
  go_ret
  have hb := (Below.refl w2.heap.size w2).alloc (Nat.le_refl _) (.cells #[ptr p, .string (bs t)] 72)
  have hXl : ∀ k, X k → k < w2.heap.size := by
    obtain ⟨F, k1, k2, k3, k4⟩ := H2.out.1
    exact k4
  have h3 := H2.out.1.mark hb (Y := fun k => X k ∨ k = w2.heap.size) (fun k hk => by rcases hk with e | e; exact .inl e; exact .inr (Nat.le_of_eq e.symm)) (fun k hk => by rcases hk with e | e; exact Nat.lt_of_lt_of_le (hXl k e) hb.size; rw [e]; simp)
  exact ⟨_, rfl, ⟨h3, alloc_new _ _, H2.out.1.below.size, fun e => absurd (hXl _ e) (Nat.lt_irrefl _)⟩, H2.out.2.trans ((Chg.of_below hb).mono (fun _ _ e => e.elim)) fun _ _ e => e⟩

/-- a disk that, its power on again, lives, is synced and holds o -/
def PC (X : Nat → Prop) (w0 w : World) (p : Nat) (o : Option Nm) (R n : Int) : Prop := ∃ st, One X w0 w p st ∧ Cl (powSt st) o R n
def OC (X : Nat → Prop) (w0 w : World) (p : Nat) (o : Option Nm) (R n : Int) : Prop := ∃ st, One X w0 w p st ∧ Cl st o R n
/-- a new disk: what lay ahead of it stays -/
theorem new_oc (w : World) (R : Int) (hR0 : 0 ≤ R) : Calls Tryz.prog 7 #[.int .i64 R] w fun e w' => ∃ p, e = .returned (ptr p) ∧ OC (fun k => k < w.heap.size) w w' p none R 0 ∧ Below w.heap.size w w' := by
  refine (new_d w R).mono ?_
  rintro e w1 ⟨p, rfl, hp, hd, hb⟩
  refine ⟨p, rfl, ⟨newSt R, ⟨_, hd, fun k hk => ⟨hk.1, fun e => by have := hk.1; omega⟩, hb, fun k hk => Nat.lt_of_lt_of_le hk hb.size⟩, rfl, rfl, rfl, rfl, ?_, Int.le_refl _, Int.le_refl _⟩, hb⟩
  show max R 0 = R
  omega
section
variable {X : Nat → Prop} {w0 w w' : World} {s p : Nat} {o : Option Nm} {R n : Int}
theorem KC.disk (h : KC X w0 w s p o R n) : OC X w0 w p o R n := by
  obtain ⟨st, h1, h2⟩ := h
  exact ⟨st, h1.disk, h2⟩
theorem OC.below (h : OC X w0 w p o R n) : Below w0.heap.size w0 w := by
  obtain ⟨st, h1, h2⟩ := h
  exact h1.below
theorem OC.quiet (h : OC X w0 w p o R n) (hb : Below w.heap.size w w') : OC X w0 w' p o R n := by
  obtain ⟨st, h1, h2⟩ := h
  exact ⟨st, h1.quiet hb, h2⟩
theorem OC.mark (h : OC X w0 w p o R n) (hb : Below w.heap.size w w') {Y : Nat → Prop} (hY : ∀ k, Y k → X k ∨ w.heap.size ≤ k) (hYl : ∀ k, Y k → k < w'.heap.size) : OC Y w0 w' p o R n := by
  obtain ⟨st, h1, h2⟩ := h
  exact ⟨st, h1.mark hb hY hYl, h2⟩
theorem Cl.crash {st : dk.St} (h : Cl st o R n) (k q : Int) : Cl (powSt (crashSt st k q)) o R n := by
  obtain ⟨room, last, pend, due, dead, ops⟩ := st
  obtain ⟨h1, h2, h3, h4, h5, h6, h7⟩ := h
  dsimp only at h1 h2 h3 h4 h5 h6 h7
  subst h1 h2 h3 h4 h5
  refine ⟨?_, rfl, rfl, rfl, rfl, h6, h7⟩
  simp [crashSt, powSt, partOf, fold]
theorem OC.crash (h : OC X w0 w p o R n) (ho : olen o ≤ 1000) (hn : n < 1000000000) (k q : Int) : Calls Tryz.prog 21 #[ptr p, .int .i64 k, .int .i64 q] w fun e w' => e = .returned (.tuple #[]) ∧ PC X w0 w' p o R n ∧ Chg (fun k => ¬ X k) w w' := by
  obtain ⟨st, h1, h2⟩ := h
  have hs := h2.small (by omega) (by omega)
  refine (h1.on (fun F hF => crash_d w p F st k q hF (by have := hs.sum; omega) (by have := hs.len; omega))).mono ?_
  rintro e w1 ⟨rfl, h3, h4⟩
  exact ⟨rfl, ⟨_, h3, h2.crash k q⟩, h4⟩
theorem PC.power (h : PC X w0 w p o R n) : Calls Tryz.prog 23 #[ptr p] w fun e w' => e = .returned (.tuple #[]) ∧ OC X w0 w' p o R n ∧ Chg (fun k => ¬ X k) w w' := by
  obtain ⟨st, h1, h2⟩ := h
  refine (h1.on (fun F hF => power_d w p F st hF)).mono ?_
  rintro e w1 ⟨rfl, h3, h4⟩
  exact ⟨rfl, ⟨_, h3, h2⟩, h4⟩
theorem OC.open (h : OC X w0 w p o R n) : Calls Tryz.prog 6 #[ptr p] w fun e w' => ∃ s, e = .returned (ptr s) ∧ KC X w0 w' s p o R n ∧ Chg (fun k => ¬ X k) w w' := by
  obtain ⟨st, h1, h2⟩ := h
  refine (open_x X w0 w p st h1).mono ?_
  rintro e w1 ⟨s, rfl, h3, h4⟩
  rw [h2.shown, base_cu] at h3
  exact ⟨s, rfl, ⟨st, h3, h2⟩, h4⟩
theorem OC.pending (h : OC X w0 w p o R n) : Calls Tryz.prog 14 #[ptr p] w fun e w' => e = .returned (.int .i64 0) ∧ w = w' := by
  obtain ⟨st, h1, h2⟩ := h
  obtain ⟨F, hF⟩ := h1.ex
  have := pending_d w p F st hF
  rw [h2.pend] at this
  exact this
end
/-- a state with an order -/
abbrev LS (R : Int) (ls : AL Nm) (pd : List Chn) (l k q n : Int) : dk.St := ⟨R, ls, pd, some (l, k, q), false, n⟩
/-- what is left of it -/
abbrev CS (R : Int) (ls : AL Nm) (pd : List Chn) (k q n : Int) : dk.St := ⟨R, partOf (fold ls (pd.take (keptN k pd.length))) pd[keptN k pd.length]? q, [], none, true, n⟩
section
variable {R k q n : Int} {ls : AL Nm} {pd : List Chn}
theorem pw_zero : pw (LS R ls pd 0 k q n) = CS R ls pd k q n := by
  unfold pw
  dsimp only
  rw [if_pos ⟨rfl, rfl⟩]
  rfl
theorem pw_on {l : Int} (h : l ≠ 0) : pw (LS R ls pd l k q n) = LS R ls pd l k q n := by
  unfold pw
  dsimp only
  rw [if_neg (fun e => h e.2)]
theorem do_zero (c : Chn) : doSt (LS R ls pd 0 k q n) c = CS R ls pd k q n ∧ doE (LS R ls pd 0 k q n) = 13 ∧ syncSt (LS R ls pd 0 k q n) = CS R ls pd k q n := by
  unfold doSt doE syncSt
  rw [pw_zero]
  exact ⟨rfl, rfl, rfl⟩
theorem do_on {l : Int} (h : l ≠ 0) (c : Chn) : doSt (LS R ls pd l k q n) c = LS R ls (pd ++ [c]) (l - 1) k q (n + 1) ∧ doE (LS R ls pd l k q n) = 0 ∧ syncSt (LS R ls pd l k q n) = LS R (fold ls pd) [] (l - 1) k q (n + 1) := by
  unfold doSt doE syncSt
  rw [pw_on h]
  exact ⟨rfl, rfl, rfl⟩
end
theorem part_up (ls : AL Nm) (c : Option Chn) (q : Int) (h : ∀ a b, c = some (.app a b) → a = up) : al.get (partOf ls c q) cu = al.get ls cu := by
  unfold partOf
  split
  · rename_i a b
    rw [h a b rfl]
    split
    · exact get_put_other _ cu_up
    · rfl
  · rfl
theorem put_up (A T : Nm) : al.get (al.put (base (some A)) up T) cu = some A := by
  rw [get_put_other _ cu_up]; exact base_cu (some A)
theorem mv_up (A T : Nm) : mv (al.put (base (some A)) up T) up cu = base (some T) := by
  have hsr : al.Srt (al.put (base (some A)) up T) := srt_put (base_srt _) _ _
  unfold mv
  rw [if_neg (Ne.symm cu_up), get_put_same]
  refine ext_base (srt_put (srt_del hsr _) _ _) (base_srt _) fun q => ?_
  by_cases hq : q = cu
  · rw [hq, get_put_same, base_cu]
  · rw [get_put_other _ hq]
    by_cases hq2 : q = up
    · rw [hq2, get_del_same, base_up]
    · rw [get_del_other hq2, get_put_other _ hq2]
      have : ∀ o, al.get (base o) q = none := fun o => get_none.2 fun p hp => by
        cases o with
        | none => cases hp
        | some t => rcases List.mem_singleton.1 hp with rfl; exact Ne.symm hq
      rw [this, this]
theorem kept_one (k : Int) : keptN k 1 = 0 ∨ keptN k 1 = 1 := by unfold keptN; omega
/-- what behind a crash holds cu -/
theorem cs_app (R : Int) (A T : Nm) (k q n : Int) : al.get (CS R (base (some A)) [.app up T] k q n).last cu = some A := by
  show al.get (partOf (fold (base (some A)) ([Chn.app up T].take (keptN k 1))) [Chn.app up T][keptN k 1]? q) cu = some A
  rcases kept_one k with e | e <;> rw [e]
  · refine (part_up _ _ _ fun a b h => ?_).trans (base_cu (some A))
    simp at h; exact h.1.symm
  · refine (part_up _ _ _ fun a b h => ?_).trans ?_
    · simp at h
    · show al.get (al.put (base (some A)) up ((al.get (base (some A)) up).getD [] ++ T)) cu = _
      exact put_up A _
theorem cs_nil (R : Int) (ls : AL Nm) (k q n : Int) : (CS R ls [] k q n).last = ls := by simp [partOf, fold]
theorem cs_ren (R : Int) (A T : Nm) (k q n : Int) : al.get (CS R (al.put (base (some A)) up T) [.ren up cu] k q n).last cu = some A ∨ al.get (CS R (al.put (base (some A)) up T) [.ren up cu] k q n).last cu = some T := by
  show al.get (partOf (fold (al.put (base (some A)) up T) ([Chn.ren up cu].take (keptN k 1))) [Chn.ren up cu][keptN k 1]? q) cu = some A ∨ al.get (partOf (fold (al.put (base (some A)) up T) ([Chn.ren up cu].take (keptN k 1))) [Chn.ren up cu][keptN k 1]? q) cu = some T
  rcases kept_one k with e | e <;> rw [e]
  · left
    refine (part_up _ _ _ fun a b h => ?_).trans (put_up A T)
    simp at h
  · right
    refine (part_up _ _ _ fun a b h => ?_).trans ?_
    · simp at h
    · show al.get (mv (al.put (base (some A)) up T) up cu) cu = _
      rw [mv_up]; exact base_cu (some T)
structure Mini (s : dk.St) : Prop where
  sum : fsum s.last + sumc s.pend ≤ 1073741824
  len : s.last.length + s.pend.length ≤ 1073741824
theorem cr_dead (s : dk.St) (k q : Int) (h : s.dead = true) : crashSt s k q = s := by unfold crashSt; rw [if_pos h]
theorem cut_all {st : dk.St} {A T : Nm} {n : Int} (h : Cl st (some A) 4096 n) (hA : A.length ≤ 1000) (hT : T.length ≤ 1000) (hn : n < 1000000000) (c k q : Int) (hc : c ≤ 9223372036854775807) :
    Can (cutSt st c k q) T ∧ (wrS (cutSt st c k q) T).2 ≠ 12 ∧ Mini (wrS (cutSt st c k q) T).1 ∧
      ∃ o, al.get (powSt (crashSt (wrS (cutSt st c k q) T).1 k q)).shown cu = some o ∧ (o = T ∨ o = A ∧ (wrS (cutSt st c k q) T).2 ≠ 0) := by
  obtain ⟨room, last, pend, due, dead, ops⟩ := st
  obtain ⟨h1, h2, h3, h4, h5, h6, h7⟩ := h
  dsimp only at h1 h2 h3 h4 h5 h6 h7
  subst h1 h2 h3 h4 h5
  obtain ⟨l, hl⟩ : ∃ l, max c 0 = l := ⟨_, rfl⟩
  have hl0 : 0 ≤ l := by omega
  have hl1 : l ≤ 9223372036854775807 := by omega
  have e0 : cutSt (⟨4096, base (some A), [], none, false, ops⟩ : dk.St) c k q = LS 4096 (base (some A)) [] l k q ops := by unfold cutSt; rw [hl]
  rw [e0]
  clear e0 hl hc
  obtain ⟨b, hb⟩ : ∃ b, base (some A) = b := ⟨_, rfl⟩
  rw [hb]
  have bu : al.get b up = none := by rw [← hb]; exact base_up _
  have bc : al.get b cu = some A := by rw [← hb]; exact base_cu _
  have bsum : fsum b = A.length := by rw [← hb]; exact base_sum (some A)
  have blen : b.length = 1 := by rw [← hb]; rfl
  obtain ⟨u, hu⟩ : ∃ u, al.put b up T = u := ⟨_, rfl⟩
  have uu : al.get u up = some T := by rw [← hu]; exact get_put_same _ _ _
  have uc : al.get u cu = some A := by rw [← hu, ← hb]; exact put_up A T
  have usum : fsum u = A.length + T.length := by
    rw [← hu]
    have := sum_put_new (f := List.length) (x := T) bu
    unfold fsum; rw [this]; unfold fsum at bsum; rw [bsum]
  have ulen : u.length ≤ 2 := by have := len_put (l := b) (q := up) (x := T); rw [hu] at this; omega
  have hfu : fold b [.app up T] = u := by
    show al.put b up ((al.get b up).getD [] ++ T) = u
    rw [bu]; exact hu
  have hfr : fold u [.ren up cu] = base (some T) := by
    show mv u up cu = _
    rw [← hu, ← hb]; exact mv_up A T
  have ec : clr (LS 4096 b [] l k q ops) = (LS 4096 b [] l k q ops, 0) := if_pos bu
  have ea : appSt (LS 4096 b [] l k q ops) up T = (doSt (LS 4096 b [] l k q ops) (.app up T), doE (LS 4096 b [] l k q ops)) := by
    unfold appSt
    rw [if_neg (by rw [ok_up]; decide), if_neg (by show ¬ (4096 : Int) < (fsum b : Int) + _; omega)]
  have g0 : stg (LS 4096 b [] l k q ops) T 0 = (LS 4096 b [] l k q ops, 0) := rfl
  have g1 : stg (LS 4096 b [] l k q ops) T 1 = (LS 4096 b [] l k q ops, 0) := ec
  have g2 : stg (LS 4096 b [] l k q ops) T 2 = (doSt (LS 4096 b [] l k q ops) (.app up T), doE (LS 4096 b [] l k q ops)) := by
    show appSt (clr _).1 up T = _
    rw [ec, ea]
  have s0 : Small (LS 4096 b [] l k q ops) := ⟨by show fsum b + 0 ≤ _; omega, by show b.length + 0 ≤ _; omega, h6, by show ops < _; omega, fun x hx => by injection hx with hx; subst hx; exact ⟨hl0, hl1⟩⟩
  have hroom : (clr (LS 4096 b [] l k q ops)).1.room = 4096 := by rw [ec]
  have mk : (∀ i, i < 5 → 2 ≤ i → (∀ j, j ≤ i → (stg (LS 4096 b [] l k q ops) T j).2 = 0) → Small (stg (LS 4096 b [] l k q ops) T i).1) → (wrS (LS 4096 b [] l k q ops) T).2 ≠ 12 → Can (LS 4096 b [] l k q ops) T := fun hh h12 =>
    ⟨⟨fun i hi hz => by
      rcases Nat.lt_or_ge i 2 with h2 | h2
      · rcases (show i = 0 ∨ i = 1 by omega) with rfl | rfl
        · exact s0
        · rw [g1]; exact s0
      · exact hh i hi h2 hz, by rw [hroom]; decide, by rw [hroom]; decide, by omega⟩, fun e => absurd e h12⟩
  by_cases l0 : l = 0
  · subst l0
    obtain ⟨d1, d2, d3⟩ := do_zero (R := 4096) (k := k) (q := q) (n := ops) (ls := b) (pd := []) (.app up T)
    rw [d1, d2] at g2 ea
    have hw : wrS (LS 4096 b [] 0 k q ops) T = (CS 4096 b [] k q ops, 13) := by
      unfold wrS wr2
      rw [ec, if_pos rfl, ea]
      rfl
    rw [hw]
    refine ⟨mk (fun i hi h2 hz => ?_) (by rw [hw]; show (13 : Int) ≠ 12; decide), by show (13 : Int) ≠ 12; decide, ⟨?_, ?_⟩, A, ?_, .inr ⟨rfl, by show (13 : Int) ≠ 0; decide⟩⟩
    · have := hz 2 h2; rw [g2] at this; exact absurd (show (13 : Int) = 0 from this) (by decide)
    · rw [cs_nil]; show fsum b + 0 ≤ _; omega
    · rw [cs_nil]; show b.length + 0 ≤ _; omega
    · rw [cr_dead _ _ _ rfl]
      show al.get (CS 4096 b [] k q ops).last cu = _
      rw [cs_nil]; exact bc
  obtain ⟨d1, d2, d3⟩ := do_on (R := 4096) (k := k) (q := q) (n := ops) (ls := b) (pd := []) l0 (.app up T)
  rw [d1, d2] at g2 ea
  clear d3
  rw [show ([] : List Chn) ++ [.app up T] = [.app up T] from rfl] at g2 ea
  have s2 : Small (LS 4096 b [.app up T] (l - 1) k q (ops + 1)) := ⟨by show fsum b + (T.length + 0) ≤ _; omega, by show b.length + 1 ≤ _; omega, by show 0 ≤ ops + 1; omega, by show ops + 1 < _; omega, fun x hx => by injection hx with hx; subst hx; exact ⟨by show 0 ≤ l - 1; omega, by show l - 1 ≤ _; omega⟩⟩
  have e3 : stg (LS 4096 b [] l k q ops) T 3 = (syncSt (LS 4096 b [.app up T] (l - 1) k q (ops + 1)), doE (LS 4096 b [.app up T] (l - 1) k q (ops + 1))) := by
    show (syncSt (appSt (clr _).1 up T).1, doE (appSt (clr _).1 up T).1) = _
    rw [ec, ea]
  have w3 : wrS (LS 4096 b [] l k q ops) T = wr3 (LS 4096 b [.app up T] (l - 1) k q (ops + 1), 0) := by
    unfold wrS wr2
    rw [ec, if_pos rfl, ea, if_pos rfl]
  by_cases l1 : l - 1 = 0
  · rw [l1] at g2 e3 w3 s2
    obtain ⟨d1, d2, d3⟩ := do_zero (R := 4096) (k := k) (q := q) (n := ops + 1) (ls := b) (pd := [.app up T]) (.app up T)
    rw [d3, d2] at e3
    have hw : wrS (LS 4096 b [] l k q ops) T = (CS 4096 b [.app up T] k q (ops + 1), 13) := by
      rw [w3]; unfold wr3
      show (if doE (LS 4096 b [.app up T] 0 k q (ops + 1)) = 0 then wr4 (syncSt (LS 4096 b [.app up T] 0 k q (ops + 1)), 0) else (syncSt (LS 4096 b [.app up T] 0 k q (ops + 1)), doE (LS 4096 b [.app up T] 0 k q (ops + 1)))) = _
      rw [d2, if_neg (by decide), d3]
    have hlast : fsum (CS 4096 b [.app up T] k q (ops + 1)).last ≤ 2000 ∧ (CS 4096 b [.app up T] k q (ops + 1)).last.length ≤ 2 := by
      show fsum (partOf (fold b ([Chn.app up T].take (keptN k 1))) [Chn.app up T][keptN k 1]? q) ≤ 2000 ∧ (partOf (fold b ([Chn.app up T].take (keptN k 1))) [Chn.app up T][keptN k 1]? q).length ≤ 2
      rcases kept_one k with e | e <;> rw [e]
      · show fsum (if 0 < q then done b (.app up (T.take _)) else b) ≤ 2000 ∧ (if 0 < q then done b (.app up (T.take _)) else b).length ≤ 2
        have hb2 : al.Srt b := by rw [← hb]; exact base_srt _
        split
        · have k1 := done_sum hb2 (.app up (T.take (min q (T.length : Int)).toNat))
          have k2 := done_len b (.app up (T.take (min q (T.length : Int)).toNat))
          simp only [chlen, List.length_take] at k1
          exact ⟨by omega, by omega⟩
        · exact ⟨by omega, by omega⟩
      · show fsum (fold b [.app up T]) ≤ 2000 ∧ (fold b [.app up T]).length ≤ 2
        rw [hfu]; exact ⟨by omega, ulen⟩
    rw [hw]
    refine ⟨mk (fun i hi h2 hz => ?_) (by rw [hw]; show (13 : Int) ≠ 12; decide), by show (13 : Int) ≠ 12; decide, ⟨?_, ?_⟩, A, ?_, .inr ⟨rfl, by show (13 : Int) ≠ 0; decide⟩⟩
    · rcases Nat.lt_or_ge i 3 with h3 | h3
      · obtain rfl : i = 2 := by omega
        rw [g2]; exact s2
      · have := hz 3 h3; rw [e3] at this; exact absurd (show (13 : Int) = 0 from this) (by decide)
    · have := hlast.1; show fsum (CS 4096 b [.app up T] k q (ops + 1)).last + 0 ≤ _; omega
    · have := hlast.2; show (CS 4096 b [.app up T] k q (ops + 1)).last.length + 0 ≤ _; omega
    · rw [cr_dead _ _ _ rfl, ← hb]
      exact cs_app 4096 A T k q (ops + 1)
  obtain ⟨d1, d2, d3⟩ := do_on (R := 4096) (k := k) (q := q) (n := ops + 1) (ls := b) (pd := [.app up T]) l1 (.app up T)
  rw [d3, d2, hfu] at e3
  have w4 : wrS (LS 4096 b [] l k q ops) T = wr4 (LS 4096 u [] (l - 1 - 1) k q (ops + 1 + 1), 0) := by
    rw [w3]; unfold wr3
    show (if doE (LS 4096 b [.app up T] (l - 1) k q (ops + 1)) = 0 then wr4 (syncSt (LS 4096 b [.app up T] (l - 1) k q (ops + 1)), 0) else _) = _
    rw [d2, if_pos rfl, d3, hfu]
  clear d1 d2 d3 w3
  have s3 : Small (LS 4096 u [] (l - 1 - 1) k q (ops + 1 + 1)) := ⟨by show fsum u + 0 ≤ _; omega, by show u.length + 0 ≤ _; omega, by show 0 ≤ ops + 1 + 1; omega, by show ops + 1 + 1 < _; omega, fun x hx => by injection hx with hx; subst hx; exact ⟨by show 0 ≤ l - 1 - 1; omega, by show l - 1 - 1 ≤ _; omega⟩⟩
  have er : renSt (LS 4096 u [] (l - 1 - 1) k q (ops + 1 + 1)) up cu = (doSt (LS 4096 u [] (l - 1 - 1) k q (ops + 1 + 1)) (.ren up cu), doE (LS 4096 u [] (l - 1 - 1) k q (ops + 1 + 1))) := by
    unfold renSt
    rw [if_neg (by rw [ok_up, ok_cu]; decide), if_neg (by show ¬ al.get u up = none; rw [uu]; simp)]
  have e4 : stg (LS 4096 b [] l k q ops) T 4 = renSt (LS 4096 u [] (l - 1 - 1) k q (ops + 1 + 1)) up cu := by
    have : (stg (LS 4096 b [] l k q ops) T 3).1 = LS 4096 u [] (l - 1 - 1) k q (ops + 1 + 1) := by rw [e3]
    show renSt (stg (LS 4096 b [] l k q ops) T 3).1 up cu = _
    rw [this]
  by_cases l2 : l - 1 - 1 = 0
  · rw [l2] at e3 w4 s3 er e4
    obtain ⟨d1, d2, d3⟩ := do_zero (R := 4096) (k := k) (q := q) (n := ops + 1 + 1) (ls := u) (pd := []) (.ren up cu)
    rw [d1, d2] at er
    rw [er] at e4
    have hw : wrS (LS 4096 b [] l k q ops) T = (CS 4096 u [] k q (ops + 1 + 1), 13) := by
      rw [w4]; unfold wr4
      show (if (renSt (LS 4096 u [] 0 k q (ops + 1 + 1)) up cu).2 = 0 then wr5 (renSt (LS 4096 u [] 0 k q (ops + 1 + 1)) up cu) else renSt (LS 4096 u [] 0 k q (ops + 1 + 1)) up cu) = _
      rw [er, if_neg (by show ¬ (13 : Int) = 0; decide)]
    rw [hw]
    refine ⟨mk (fun i hi h2 hz => ?_) (by rw [hw]; show (13 : Int) ≠ 12; decide), by show (13 : Int) ≠ 12; decide, ⟨?_, ?_⟩, A, ?_, .inr ⟨rfl, by show (13 : Int) ≠ 0; decide⟩⟩
    · rcases Nat.lt_or_ge i 4 with h3 | h3
      · rcases (show i = 2 ∨ i = 3 by omega) with rfl | rfl
        · rw [g2]; exact s2
        · rw [e3]; exact s3
      · have := hz 4 h3; rw [e4] at this; exact absurd (show (13 : Int) = 0 from this) (by decide)
    · rw [cs_nil]; show fsum u + 0 ≤ _; omega
    · rw [cs_nil]; show u.length + 0 ≤ _; omega
    · rw [cr_dead _ _ _ rfl]
      show al.get (CS 4096 u [] k q (ops + 1 + 1)).last cu = _
      rw [cs_nil]; exact uc
  obtain ⟨d1, d2, d3⟩ := do_on (R := 4096) (k := k) (q := q) (n := ops + 1 + 1) (ls := u) (pd := []) l2 (.ren up cu)
  rw [d1, d2] at er
  rw [er] at e4
  rw [show ([] : List Chn) ++ [.ren up cu] = [.ren up cu] from rfl] at er e4
  clear d1 d2 d3
  have s4 : Small (LS 4096 u [.ren up cu] (l - 1 - 1 - 1) k q (ops + 1 + 1 + 1)) := ⟨by show fsum u + (0 + 0) ≤ _; omega, by show u.length + 1 ≤ _; omega, by show 0 ≤ ops + 1 + 1 + 1; omega, by show ops + 1 + 1 + 1 < _; omega, fun x hx => by injection hx with hx; subst hx; exact ⟨by show 0 ≤ l - 1 - 1 - 1; omega, by show l - 1 - 1 - 1 ≤ _; omega⟩⟩
  have w5 : wrS (LS 4096 b [] l k q ops) T = (syncSt (LS 4096 u [.ren up cu] (l - 1 - 1 - 1) k q (ops + 1 + 1 + 1)), doE (LS 4096 u [.ren up cu] (l - 1 - 1 - 1) k q (ops + 1 + 1 + 1))) := by
    rw [w4]; unfold wr4
    show (if (renSt (LS 4096 u [] (l - 1 - 1) k q (ops + 1 + 1)) up cu).2 = 0 then wr5 (renSt (LS 4096 u [] (l - 1 - 1) k q (ops + 1 + 1)) up cu) else _) = _
    rw [er, if_pos rfl]
    rfl
  have hsm : ∀ i, i < 5 → 2 ≤ i → (∀ j, j ≤ i → (stg (LS 4096 b [] l k q ops) T j).2 = 0) → Small (stg (LS 4096 b [] l k q ops) T i).1 := fun i hi h2 hz => by
    rcases (show i = 2 ∨ i = 3 ∨ i = 4 by omega) with rfl | rfl | rfl
    · rw [g2]; exact s2
    · rw [e3]; exact s3
    · rw [e4]; exact s4
  by_cases l3 : l - 1 - 1 - 1 = 0
  · rw [l3] at w5
    obtain ⟨d1, d2, d3⟩ := do_zero (R := 4096) (k := k) (q := q) (n := ops + 1 + 1 + 1) (ls := u) (pd := [.ren up cu]) (.ren up cu)
    rw [d3, d2] at w5
    have hlast : fsum (CS 4096 u [.ren up cu] k q (ops + 1 + 1 + 1)).last ≤ 2000 ∧ (CS 4096 u [.ren up cu] k q (ops + 1 + 1 + 1)).last.length ≤ 2 := by
      show fsum (partOf (fold u ([Chn.ren up cu].take (keptN k 1))) [Chn.ren up cu][keptN k 1]? q) ≤ 2000 ∧ (partOf (fold u ([Chn.ren up cu].take (keptN k 1))) [Chn.ren up cu][keptN k 1]? q).length ≤ 2
      rcases kept_one k with e | e <;> rw [e]
      · exact ⟨by show fsum u ≤ 2000; omega, ulen⟩
      · show fsum (fold u [.ren up cu]) ≤ 2000 ∧ (fold u [.ren up cu]).length ≤ 2
        rw [hfr]
        have := base_sum (some T)
        exact ⟨by rw [this]; show T.length ≤ 2000; omega, by show 1 ≤ 2; decide⟩
    rw [w5]
    refine ⟨mk hsm (by rw [w5]; show (13 : Int) ≠ 12; decide), by show (13 : Int) ≠ 12; decide, ⟨?_, ?_⟩, ?_⟩
    · have := hlast.1; show fsum (CS 4096 u [.ren up cu] k q (ops + 1 + 1 + 1)).last + 0 ≤ _; omega
    · have := hlast.2; show (CS 4096 u [.ren up cu] k q (ops + 1 + 1 + 1)).last.length + 0 ≤ _; omega
    · rw [cr_dead _ _ _ rfl]
      have := cs_ren 4096 A T k q (ops + 1 + 1 + 1)
      rw [hb, hu] at this
      rcases this with e | e
      · exact ⟨A, e, .inr ⟨rfl, by show (13 : Int) ≠ 0; decide⟩⟩
      · exact ⟨T, e, .inl rfl⟩
  obtain ⟨d1, d2, d3⟩ := do_on (R := 4096) (k := k) (q := q) (n := ops + 1 + 1 + 1) (ls := u) (pd := [.ren up cu]) l3 (.ren up cu)
  rw [d3, d2, hfr] at w5
  rw [w5]
  refine ⟨mk hsm (by rw [w5]; show (0 : Int) ≠ 12; decide), by show (0 : Int) ≠ 12; decide, ⟨?_, ?_⟩, T, ?_, .inl rfl⟩
  · have := base_sum (some T); show fsum (base (some T)) + 0 ≤ _; rw [this]; show T.length + 0 ≤ _; omega
  · show 1 + 0 ≤ _; decide
  · show al.get (CS 4096 (base (some T)) [] k q (ops + 1 + 1 + 1 + 1)).last cu = _
    rw [cs_nil]; exact base_cu (some T)
/-- where nothing is written -/
theorem cut_idle {st : dk.St} {A : Nm} {n : Int} (h : Cl st (some A) 4096 n) (hA : A.length ≤ 1000) (hn : n < 1000000000) (c k q : Int) :
    Mini (cutSt st c k q) ∧ al.get (powSt (crashSt (cutSt st c k q) k q)).shown cu = some A := by
  obtain ⟨room, last, pend, due, dead, ops⟩ := st
  obtain ⟨h1, h2, h3, h4, h5, h6, h7⟩ := h
  dsimp only at h1 h2 h3 h4 h5 h6 h7
  subst h1 h2 h3 h4 h5
  refine ⟨⟨?_, ?_⟩, ?_⟩
  · have := base_sum (some A); show fsum (base (some A)) + 0 ≤ _; rw [this]; show A.length + 0 ≤ _; omega
  · show 1 + 0 ≤ _; decide
  · show al.get (CS 4096 (base (some A)) [] k q ops).last cu = _
    rw [cs_nil]; exact base_cu (some A)
theorem cut_shown {st : dk.St} {o : Option Nm} {R n : Int} (h : Cl st o R n) (c k q : Int) : al.get (cutSt st c k q).shown cu = o := by
  show al.get st.shown cu = o
  rw [h.shown, base_cu]
theorem Mini.crash {X : Nat → Prop} {w0 w : World} {p : Nat} {st : dk.St} (hm : Mini st) (h : One X w0 w p st) (k q : Int) : Calls Tryz.prog 21 #[ptr p, .int .i64 k, .int .i64 q] w (RetOne X w0 w p (crashSt st k q) (.tuple #[])) :=
  h.on (fun F hF => crash_d w p F st k q hF hm.sum hm.len)
end Go.Proofs.YtnjdondkggkfoaaGreat.ks
/-
  For the laws: what they set first, two of different versions, next where nothing is there.
-/
namespace Go.Proofs.YtnjdondkggkfoaaGreat.ks
open Go.ChangeShapes Go.WideShapes Go.ChangeAt Go.RowKit Go.Shelf plain words ord mem pm

theorem rinit_ok {l : List Int} {z : Int} (h : rinitErr l z = 0) : chk (rinitPl l z) = 0 ∧ (rinitPl l z).ver = 1 := by
  rw [rinitErr_eq] at h
  rw [rinit_pl]
  exact ⟨chk_iff.2 (init_ok h).1, (init_ok h).2.2.1⟩
theorem rinit_no {l : List Int} {z : Int} (h : rinitErr l z ≠ 0) : chk (rinitPl l z) ≠ 0 := by
  unfold rinitPl
  rw [if_neg h]
  exact chk_zero
/-- the first -/
theorem set_first {P : Pl} (hc : chk P = 0) (hv : P.ver = 1) : setE none 4096 0 P = 0 ∧ setO none 4096 0 P = some (kv.encP P) := by
  have h1 := encP_small (chk_iff.1 hc)
  have e : setE none 4096 0 P = 0 := by
    unfold setE
    rw [if_pos hc, if_pos ⟨by show (0 : Int) = (kv.decP []).ver; rw [dec_nil.2]; rfl, by rw [hv]; rfl⟩, if_pos (by show ((0 : Nat) : Int) + _ ≤ _; omega)]
  exact ⟨e, if_pos e⟩
theorem some_ver {P : Pl} (hc : chk P = 0) : (kv.decP ((some (kv.encP P)).getD [])) = P := (dec_enc hc).2
theorem set_yes {P X : Pl} (hc : chk P = 0) (hv : P.ver = 1) (hx : chk X = 0) (hxv : X.ver = P.ver + 1) : setE (some (kv.encP P)) 4096 1 X = 0 ∧ setO (some (kv.encP P)) 4096 1 X = some (kv.encP X) := by
  have h1 := encP_small (chk_iff.1 hc)
  have h2 := encP_small (chk_iff.1 hx)
  have e : setE (some (kv.encP P)) 4096 1 X = 0 := by
    unfold setE
    rw [if_pos hx, some_ver hc, if_pos ⟨hv.symm, by omega⟩, if_pos (by show ((kv.encP P).length : Int) + _ ≤ _; omega)]
  exact ⟨e, if_pos e⟩
theorem set_bad {o : Option al.Nm} {X : Pl} (hx : chk X ≠ 0) : setE o 4096 1 X = 50 ∧ setO o 4096 1 X = o := by
  have e : setE o 4096 1 X = 50 := by unfold setE; rw [if_neg hx]
  exact ⟨e, if_neg (by rw [e]; decide)⟩
theorem olen_enc {P : Pl} (h : chk P = 0) : olen (some (kv.encP P)) ≤ 1000 := by
  have := encP_small (chk_iff.1 h)
  show (kv.encP P).length ≤ 1000
  omega
theorem op_keep {S : Nat → Prop} {w w' : World} {B : Nat} {v : PV} (h : OP w B v) (hc : Chg S w w') (hS : ∀ k, B ≤ k → k < w.heap.size → ¬ S k) : OP w' B v :=
  ⟨h.n.chg hc (fun g hg => hS g (h.n.lt g hg).1 (h.n.lt g hg).2), h.s.chg hc (fun g hg => hS g (h.s.lt g hg).1 (h.s.lt g hg).2), fun r hr => (h.each r hr).chg hc (fun g hg => hS g ((h.each r hr).lt g hg).1 ((h.each r hr).lt g hg).2)⟩
theorem op_below {w w' : World} {B : Nat} {v : PV} (h : OP w B v) (hb : Below w.heap.size w w') : OP w' B v := op_keep h (Chg.of_below hb) (fun _ _ _ e => e)
/-- two of different versions differ -/
theorem same_no (w : World) (v v2 : PV) (hne : v.ver ≠ v2.ver) :
    Calls Tryz.prog 12 #[v.val, v2.val] w fun e w' => e = .returned (.bool false) ∧ Below w.heap.size w w' := by
  obtain ⟨wa, hwa⟩ : ∃ wa, (w.alloc (boxO v)).alloc (boxO v2) = wa := ⟨_, rfl⟩
  have hba : Below w.heap.size w wa := by rw [← hwa]; exact (below_al _ _).trans ((below_al _ _).mono (by simp))
  have gp : pm.Boxed wa w.heap.size v := by rw [← hwa]; exact alloc_old _ (alloc_new _ _)
  have gq : pm.Boxed wa (w.heap.size + 1) v2 := by rw [← hwa]; have := alloc_new (w.alloc (boxO v)) (boxO v2); rwa [World.size_alloc] at this
  obtain ⟨⟨c0, c1, c2⟩, _⟩ := isv3_cells gp
  obtain ⟨⟨d0, d1, d2⟩, _⟩ := isv3_cells gq
  have l1 := blk_lt gp
  have l2 := blk_lt gq
  have HWA := Lib.hid hwa
  have HBA := Lib.hid hba
  clear hwa hba gp gq c1 c2 d1 d2
  go_enter Tryz.func12, Tryz.ntmps12
  go_wp2_with (fail)
  rw [HWA.out]
  go_wp2_with (fail)
  go_ret
  exact ⟨rfl, HBA.out⟩
theorem three_ls (w : World) (g : Nat) (fr : Nat × Nat) (h : w.heap[g]? = some (.cells #[.int .i64 0, .int .i64 1, .int .i64 2] 3 fr)) : Ls NE w w.heap.size (some ⟨g, 0, none⟩) 3 [0, 1, 2] := by
  refine ⟨rfl, rfl, fun j hj => ?_⟩
  have h3 : j = 0 ∨ j = 1 ∨ j = 2 := by have : j < 3 := hj; omega
  have hl := blk_lt h
  rcases h3 with rfl | rfl | rfl
  · exact ⟨g, 0, .int .i64 0, rfl, hl, rfl, by rw [cell_of_row _ _ _ _ _ _ h]; rfl⟩
  · exact ⟨g, 0, .int .i64 1, rfl, hl, rfl, by rw [cell_of_row _ _ _ _ _ _ h]; rfl⟩
  · exact ⟨g, 0, .int .i64 2, rfl, hl, rfl, by rw [cell_of_row _ _ _ _ _ _ h]; rfl⟩
set_option maxRecDepth 100000 in
set_option maxHeartbeats 4000000 in
theorem next0_l (w : World) (v u : PV) (k n a b : Int) :
    Calls Tryz.prog 10 #[v.val, .bool false, stepV k n a b u] w (RetN w (rinitPl [0, 1, 2] 2)) := by
  obtain ⟨w4, hw4⟩ : ∃ w4, (((w.alloc (boxO v)).alloc (stepO k n a b u)).alloc zeroO).alloc zeroO = w4 := ⟨_, rfl⟩
  have hs4 : w4.heap.size = w.heap.size + 1 + 1 + 1 + 1 := by rw [← hw4]; simp
  have hb4 : Below w.heap.size w w4 := by rw [← hw4]; exact ((((Below.refl _ _).alloc (Nat.le_refl _) _).alloc (by simp) _).alloc (by simp; omega) _).alloc (by simp; omega) _
  have gp : pm.Boxed w4 w.heap.size v := by rw [← hw4]; exact alloc_old _ (alloc_old _ (alloc_old _ (alloc_new _ _)))
  have gs : w4.heap[w.heap.size + 1]? = some (stepO k n a b u) := by
    rw [← hw4]
    have := alloc_new (w.alloc (boxO v)) (stepO k n a b u)
    rw [World.size_alloc] at this
    exact alloc_old _ (alloc_old _ this)
  have gr : IsV3 25 w4 (w.heap.size + 1 + 1) (.int .i64 0) (.slice none 0 0) (.slice none 0 0) := by
    rw [← hw4]
    have := alloc_new ((w.alloc (boxO v)).alloc (stepO k n a b u)) zeroO
    rw [World.size_alloc, World.size_alloc] at this
    exact alloc_old _ this
  have gq : IsV3 25 w4 (w.heap.size + 1 + 1 + 1) (.int .i64 0) (.slice none 0 0) (.slice none 0 0) := by
    rw [← hw4]
    have := alloc_new (((w.alloc (boxO v)).alloc (stepO k n a b u)).alloc zeroO) zeroO
    rw [World.size_alloc, World.size_alloc, World.size_alloc] at this
    exact this
  obtain ⟨⟨b0, b1, b2⟩, _, _, _⟩ := isv3_cells gp
  obtain ⟨s1, s2, s3⟩ : w4.cell? ⟨w.heap.size + 1, 1, none⟩ = some (.int .i64 n) ∧ w4.cell? ⟨w.heap.size + 1, 2, none⟩ = some (.int .i64 a) ∧ w4.cell? ⟨w.heap.size + 1, 3, none⟩ = some (.int .i64 b) := by
    refine ⟨?_, ?_, ?_⟩ <;> (rw [cell_of_row _ _ _ _ _ _ gs]; rfl)
  have lp5 := blk_lt gp
  have ls5 := blk_lt gs
  have lr5 := blk_lt gr
  have lq5 := blk_lt gq
  obtain ⟨w5, hw5⟩ : ∃ w5, w4.alloc (.cells #[.int .i64 0, .int .i64 1, .int .i64 2] 3) = w5 := ⟨_, rfl⟩
  have hb45 : Below w4.heap.size w4 w5 := by rw [← hw5]; exact (Below.refl _ _).alloc (Nat.le_refl _) _
  have hs5 : w5.heap.size = w4.heap.size + 1 := by rw [← hw5]; simp
  have gl := three_ls w5 w4.heap.size (0, 0) (by rw [← hw5]; exact alloc_new _ _)
  have HI := Lib.hid (rinit_sy w5 w5.heap.size 3 3 (some ⟨w4.heap.size, 0, none⟩) [0, 1, 2] gl (Nat.le_refl _) (by decide) (by decide) (by decide) 2)
  rw [hs4] at HI
  have gr5 := blk_below hb45 gr (blk_lt gr)
  have gq5 := blk_below hb45 gq (blk_lt gq)
  have lq5 := blk_lt gq5
  have lr5 := blk_lt gr5
  have HW4 := Lib.hid hw4
  have HW5 := Lib.hid hw5
  have HG := Lib.hid (And.intro gr5 gq5)
  have HB := Lib.hid (hb4.trans (hb45.mono (by omega)))
  have HS := Lib.hid (And.intro hs4 hs5)
  clear hw4 hs4 hb4 gp gs gr gq hw5 hb45 hs5 gl gr5 gq5
  go_enter Tryz.func10, Tryz.ntmps10
  go_wp2_with (fail)
  rw [HW4.out]
  rw [HW5.out]
  refine HI.out.mono ?_
  rintro e w6 ⟨x, rfl, hpl, hop, hb6⟩
  have gq6 := blk_below hb6 HG.out.2 lq5
  have gr6 := blk_below hb6 HG.out.1 lr5
  obtain ⟨⟨q0, q1, q2⟩, f0, f1, f2⟩ := isv3_cells gq6
  obtain ⟨⟨r0, r1, r2⟩, e0, e1, e2⟩ := isv3_cells gr6
  have lq := blk_lt gq6
  have lr := blk_lt gr6
  have HX := Lib.hid (And.intro hpl (And.intro hop (And.intro hb6 (And.intro gq6 gr6))))
  clear hpl hop hb6 gq6 gr6
  go_wp2_with (fail)
  have G3 := set3 (a' := .int .i64 x.ver) (b' := .slice x.nA x.nodes.length x.nc) (c' := .slice x.sA x.rs.length x.sc) HX.out.2.2.2.1
  have gr7 := (chg3 w6 (w.heap.size + 1 + 1 + 1) (.int .i64 x.ver) (.slice x.nA x.nodes.length x.nc) (.slice x.sA x.rs.length x.sc)).blk HX.out.2.2.2.2 (by omega)
  have G4 := set3 (a' := .int .i64 x.ver) (b' := .slice x.nA x.nodes.length x.nc) (c' := .slice x.sA x.rs.length x.sc) gr7
  refine bodyPost_ret (results_cell_row rfl _ _ (w.heap.size + 1 + 1) 25 _ _ _ rfl G4 Tryz.underlying25 rfl sizeP) rfl ?_
  have hs4 := HS.out.1
  have hs5 := HS.out.2
  have hb06 := HB.out.trans (HX.out.2.2.1.mono (by omega))
  exact ⟨x, rfl, HX.out.1, op_base (op_chg (op_chg HX.out.2.1 (chg3 _ _ _ _ _) (fun k hk e => by omega)) (chg3 _ _ _ _ _) (fun k hk e => by omega)) (by omega), below_set3 (below_set3 hb06 (by omega) _ _ _) (by omega) _ _ _⟩
end Go.Proofs.YtnjdondkggkfoaaGreat.ks
