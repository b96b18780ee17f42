/-
  The law's next: a placement behind what is there.
-/
import Derived.Test.YtnjdondkggkfoaaKs
import Derived.Test.YtnjdondkggkfoaaPmAddY
import Derived.Test.YtnjdondkggkfoaaPmRemY
import Derived.Test.YtnjdondkggkfoaaPmRepY
import Derived.Test.YtnjdondkggkfoaaPmDoneY
import Derived.Test.YtnjdondkggkfoaaPmInitM
namespace Go.Proofs.Ytnjdondkggkfoaa.ks
open Go.ChangeShapes Go.WideShapes Go.ChangeAt Go.RowKit Go.Shelf plain words ord mem pm

/-- a placement of the call's own -/
def RetN (w : World) (p : Pl) (e : Ending) (w' : World) : Prop := ∃ v : PV, e = .returned v.val ∧ v.pl = p ∧ OP w' w.heap.size v ∧ Below w.heap.size w w'
abbrev stepV (k n a b : Int) (u : PV) : Value := .agg #[.int .i64 k, .int .i64 n, .int .i64 a, .int .i64 b, .int .i64 u.ver, .slice u.nA u.nodes.length u.nc, .slice u.sA u.rs.length u.sc]
abbrev stepO (k n a b : Int) (u : PV) : Obj := .cells #[.int .i64 k, .int .i64 n, .int .i64 a, .int .i64 b, .int .i64 u.ver, .slice u.nA u.nodes.length u.nc, .slice u.sA u.rs.length u.sc] 39
abbrev zeroO : Obj := .cells #[.int .i64 0, .slice none 0 0, .slice none 0 0] 26
theorem op_chg {S : Nat → Prop} {w w' : World} {B : Nat} {v : PV} (h : OP w B v) (hc : Chg S w w') (hS : ∀ k, B ≤ k → ¬ S k) : OP w' B v :=
  ⟨h.n.chg hc (fun g hg => hS g (h.n.lt g hg).1), h.s.chg hc (fun g hg => hS g (h.s.lt g hg).1), fun r hr => (h.each r hr).chg hc (fun g hg => hS g ((h.each r hr).lt g hg).1)⟩
theorem op_base {w : World} {B C : Nat} {v : PV} (h : OP w B v) (hC : C ≤ B) : OP w C v := ⟨h.n.base hC, h.s.base hC, fun r hr => (h.each r hr).base hC⟩
theorem chg3 (w : World) (g : Nat) (a b c : Value) : Chg (fun k => k = g) w (((w.setCell ⟨g, 0, none⟩ a).setCell ⟨g, 1, none⟩ b).setCell ⟨g, 2, none⟩ c) :=
  (((Chg.refl (fun k => k = g) w).setCell (p := ⟨g, 0, none⟩) (fun _ => rfl) _).setCell (p := ⟨g, 1, none⟩) (fun _ => rfl) _).setCell (p := ⟨g, 2, none⟩) (fun _ => rfl) _
set_option maxRecDepth 100000 in
set_option maxHeartbeats 4000000 in
theorem next_l (w : World) (B : Nat) (v u : PV) (k n a b : Int) (h : PVok w B v) (hB : B ≤ w.heap.size) :
    Calls Try.prog 11 #[v.val, .bool true, stepV k n a b u] w (RetN w (nextP v.pl a n b)) := by
  obtain ⟨w4, hw4⟩ : ∃ w4, (((w.alloc (boxO v)).alloc (stepO k n a b u)).alloc zeroO).alloc zeroO = w4 := ⟨_, rfl⟩
  have hs4 : w4.heap.size = w.heap.size + 1 + 1 + 1 + 1 := by rw [← hw4]; simp
  have hb4 : Below w.heap.size w w4 := by rw [← hw4]; exact ((((Below.refl _ _).alloc (Nat.le_refl _) _).alloc (by simp) _).alloc (by simp; omega) _).alloc (by simp; omega) _
  have gp : pm.Boxed w4 w.heap.size v := by rw [← hw4]; exact alloc_old _ (alloc_old _ (alloc_old _ (alloc_new _ _)))
  have gs : w4.heap[w.heap.size + 1]? = some (stepO k n a b u) := by
    rw [← hw4]
    have := alloc_new (w.alloc (boxO v)) (stepO k n a b u)
    rw [World.size_alloc] at this
    exact alloc_old _ (alloc_old _ this)
  have gr : IsV3 26 w4 (w.heap.size + 1 + 1) (.int .i64 0) (.slice none 0 0) (.slice none 0 0) := by
    rw [← hw4]
    have := alloc_new ((w.alloc (boxO v)).alloc (stepO k n a b u)) zeroO
    rw [World.size_alloc, World.size_alloc] at this
    exact alloc_old _ this
  have gq : IsV3 26 w4 (w.heap.size + 1 + 1 + 1) (.int .i64 0) (.slice none 0 0) (.slice none 0 0) := by
    rw [← hw4]
    have := alloc_new (((w.alloc (boxO v)).alloc (stepO k n a b u)).alloc zeroO) zeroO
    rw [World.size_alloc, World.size_alloc, World.size_alloc] at this
    exact this
  obtain ⟨⟨b0, b1, b2⟩, _, _, _⟩ := isv3_cells gp
  obtain ⟨s1, s2, s3⟩ : w4.cell? ⟨w.heap.size + 1, 1, none⟩ = some (.int .i64 n) ∧ w4.cell? ⟨w.heap.size + 1, 2, none⟩ = some (.int .i64 a) ∧ w4.cell? ⟨w.heap.size + 1, 3, none⟩ = some (.int .i64 b) := by
    refine ⟨?_, ?_, ?_⟩ <;> (rw [cell_of_row _ _ _ _ _ _ gs]; rfl)
  have lp5 := blk_lt gp
  have ls5 := blk_lt gs
  have lr5 := blk_lt gr
  have lq5 := blk_lt gq
  have hv5 := h.below hb4 hB
  have hB5 : B ≤ w4.heap.size := by omega
  have HW4 := Lib.hid hw4
  have HG := Lib.hid (And.intro gr gq)
  have HB := Lib.hid hb4
  have HC := Lib.hid (And.intro hs4 (And.intro (radd_sy w4 B v hv5 hB5 n) (And.intro (rremove_sy w4 B v hv5 hB5 n) (And.intro (rreplace_sy w4 B v hv5 hB5 n b) (rdone_sy w4 B v hv5 hB5 n b)))))
  unfold nextP
  clear hw4 hs4 hb4 gp gs gr gq hv5 hB5 hB h
  go_enter Try.func11, Try.ntmps11
  by_cases h0 : a = 0
  · subst h0
    rw [if_pos rfl]
    go_wp2_with (fail)
    rw [HW4.out]
    go_wp2_with (fail)
    refine HC.out.2.1.mono ?_
    rintro e w6 ⟨x, rfl, hpl, hop, hb6⟩
    have gq6 := blk_below hb6 HG.out.2 lq5
    have gr6 := blk_below hb6 HG.out.1 lr5
    obtain ⟨⟨q0, q1, q2⟩, f0, f1, f2⟩ := isv3_cells gq6
    obtain ⟨⟨r0, r1, r2⟩, e0, e1, e2⟩ := isv3_cells gr6
    have lq := blk_lt gq6
    have lr := blk_lt gr6
    have HX := Lib.hid (And.intro hpl (And.intro hop (And.intro hb6 (And.intro gq6 gr6))))
    clear hpl hop hb6 gq6 gr6 b0 b1 b2 s1 s2 s3 lp5 ls5 lr5 lq5
    go_wp2_with (fail)
    have G3 := set3 (a' := .int .i64 x.ver) (b' := .slice x.nA x.nodes.length x.nc) (c' := .slice x.sA x.rs.length x.sc) HX.out.2.2.2.1
    have gr7 := (chg3 w6 (w.heap.size + 1 + 1 + 1) (.int .i64 x.ver) (.slice x.nA x.nodes.length x.nc) (.slice x.sA x.rs.length x.sc)).blk HX.out.2.2.2.2 (by omega)
    have G4 := set3 (a' := .int .i64 x.ver) (b' := .slice x.nA x.nodes.length x.nc) (c' := .slice x.sA x.rs.length x.sc) gr7
    refine bodyPost_ret (results_cell_row rfl _ _ (w.heap.size + 1 + 1) 26 _ _ _ rfl G4 Try.underlying26 rfl sizeP) rfl ?_
    have hs5 := HC.out.1
    have hb06 := HB.out.trans (HX.out.2.2.1.mono (by omega))
    exact ⟨x, rfl, HX.out.1, op_base (op_chg (op_chg HX.out.2.1 (chg3 _ _ _ _ _) (fun k hk e => by omega)) (chg3 _ _ _ _ _) (fun k hk e => by omega)) (by omega), below_set3 (below_set3 hb06 (by omega) _ _ _) (by omega) _ _ _⟩
  · rw [if_neg h0]
    by_cases h1 : a = 1
    · subst h1
      rw [if_pos rfl]
      go_wp2_with (fail)
      rw [HW4.out]
      go_wp2_with (fail)
      refine HC.out.2.2.1.mono ?_
      rintro e w6 ⟨x, rfl, hpl, hop, hb6⟩
      have gq6 := blk_below hb6 HG.out.2 lq5
      have gr6 := blk_below hb6 HG.out.1 lr5
      obtain ⟨⟨q0, q1, q2⟩, f0, f1, f2⟩ := isv3_cells gq6
      obtain ⟨⟨r0, r1, r2⟩, e0, e1, e2⟩ := isv3_cells gr6
      have lq := blk_lt gq6
      have lr := blk_lt gr6
      have HX := Lib.hid (And.intro hpl (And.intro hop (And.intro hb6 (And.intro gq6 gr6))))
      clear hpl hop hb6 gq6 gr6 b0 b1 b2 s1 s2 s3 lp5 ls5 lr5 lq5
      go_wp2_with (fail)
      have G3 := set3 (a' := .int .i64 x.ver) (b' := .slice x.nA x.nodes.length x.nc) (c' := .slice x.sA x.rs.length x.sc) HX.out.2.2.2.1
      have gr7 := (chg3 w6 (w.heap.size + 1 + 1 + 1) (.int .i64 x.ver) (.slice x.nA x.nodes.length x.nc) (.slice x.sA x.rs.length x.sc)).blk HX.out.2.2.2.2 (by omega)
      have G4 := set3 (a' := .int .i64 x.ver) (b' := .slice x.nA x.nodes.length x.nc) (c' := .slice x.sA x.rs.length x.sc) gr7
      refine bodyPost_ret (results_cell_row rfl _ _ (w.heap.size + 1 + 1) 26 _ _ _ rfl G4 Try.underlying26 rfl sizeP) rfl ?_
      have hs5 := HC.out.1
      have hb06 := HB.out.trans (HX.out.2.2.1.mono (by omega))
      exact ⟨x, rfl, HX.out.1, op_base (op_chg (op_chg HX.out.2.1 (chg3 _ _ _ _ _) (fun k hk e => by omega)) (chg3 _ _ _ _ _) (fun k hk e => by omega)) (by omega), below_set3 (below_set3 hb06 (by omega) _ _ _) (by omega) _ _ _⟩
    · rw [if_neg h1]
      by_cases h2 : a = 2
      · subst h2
        rw [if_pos rfl]
        go_wp2_with (fail)
        rw [HW4.out]
        go_wp2_with (fail)
        refine HC.out.2.2.2.1.mono ?_
        rintro e w6 ⟨x, rfl, hpl, hop, hb6⟩
        have gq6 := blk_below hb6 HG.out.2 lq5
        have gr6 := blk_below hb6 HG.out.1 lr5
        obtain ⟨⟨q0, q1, q2⟩, f0, f1, f2⟩ := isv3_cells gq6
        obtain ⟨⟨r0, r1, r2⟩, e0, e1, e2⟩ := isv3_cells gr6
        have lq := blk_lt gq6
        have lr := blk_lt gr6
        have HX := Lib.hid (And.intro hpl (And.intro hop (And.intro hb6 (And.intro gq6 gr6))))
        clear hpl hop hb6 gq6 gr6 b0 b1 b2 s1 s2 s3 lp5 ls5 lr5 lq5
        go_wp2_with (fail)
        have G3 := set3 (a' := .int .i64 x.ver) (b' := .slice x.nA x.nodes.length x.nc) (c' := .slice x.sA x.rs.length x.sc) HX.out.2.2.2.1
        have gr7 := (chg3 w6 (w.heap.size + 1 + 1 + 1) (.int .i64 x.ver) (.slice x.nA x.nodes.length x.nc) (.slice x.sA x.rs.length x.sc)).blk HX.out.2.2.2.2 (by omega)
        have G4 := set3 (a' := .int .i64 x.ver) (b' := .slice x.nA x.nodes.length x.nc) (c' := .slice x.sA x.rs.length x.sc) gr7
        refine bodyPost_ret (results_cell_row rfl _ _ (w.heap.size + 1 + 1) 26 _ _ _ rfl G4 Try.underlying26 rfl sizeP) rfl ?_
        have hs5 := HC.out.1
        have hb06 := HB.out.trans (HX.out.2.2.1.mono (by omega))
        exact ⟨x, rfl, HX.out.1, op_base (op_chg (op_chg HX.out.2.1 (chg3 _ _ _ _ _) (fun k hk e => by omega)) (chg3 _ _ _ _ _) (fun k hk e => by omega)) (by omega), below_set3 (below_set3 hb06 (by omega) _ _ _) (by omega) _ _ _⟩
      · rw [if_neg h2]
        go_wp2_with (fail)
        rw [HW4.out]
        go_wp2_with (fail)
        refine HC.out.2.2.2.2.mono ?_
        rintro e w6 ⟨x, rfl, hpl, hop, hb6⟩
        have gq6 := blk_below hb6 HG.out.2 lq5
        have gr6 := blk_below hb6 HG.out.1 lr5
        obtain ⟨⟨q0, q1, q2⟩, f0, f1, f2⟩ := isv3_cells gq6
        obtain ⟨⟨r0, r1, r2⟩, e0, e1, e2⟩ := isv3_cells gr6
        have lq := blk_lt gq6
        have lr := blk_lt gr6
        have HX := Lib.hid (And.intro hpl (And.intro hop (And.intro hb6 (And.intro gq6 gr6))))
        clear hpl hop hb6 gq6 gr6 b0 b1 b2 s1 s2 s3 lp5 ls5 lr5 lq5
        go_wp2_with (fail)
        have G3 := set3 (a' := .int .i64 x.ver) (b' := .slice x.nA x.nodes.length x.nc) (c' := .slice x.sA x.rs.length x.sc) HX.out.2.2.2.1
        have gr7 := (chg3 w6 (w.heap.size + 1 + 1 + 1) (.int .i64 x.ver) (.slice x.nA x.nodes.length x.nc) (.slice x.sA x.rs.length x.sc)).blk HX.out.2.2.2.2 (by omega)
        have G4 := set3 (a' := .int .i64 x.ver) (b' := .slice x.nA x.nodes.length x.nc) (c' := .slice x.sA x.rs.length x.sc) gr7
        refine bodyPost_ret (results_cell_row rfl _ _ (w.heap.size + 1 + 1) 26 _ _ _ rfl G4 Try.underlying26 rfl sizeP) rfl ?_
        have hs5 := HC.out.1
        have hb06 := HB.out.trans (HX.out.2.2.1.mono (by omega))
        exact ⟨x, rfl, HX.out.1, op_base (op_chg (op_chg HX.out.2.1 (chg3 _ _ _ _ _) (fun k hk e => by omega)) (chg3 _ _ _ _ _) (fun k hk e => by omega)) (by omega), below_set3 (below_set3 hb06 (by omega) _ _ _) (by omega) _ _ _⟩
end Go.Proofs.Ytnjdondkggkfoaa.ks
