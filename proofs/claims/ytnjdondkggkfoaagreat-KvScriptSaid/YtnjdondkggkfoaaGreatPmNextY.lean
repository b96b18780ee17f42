/-
  The document's next: the same lists with the next version.
-/
import Derived.Test.YtnjdondkggkfoaaGreatPmDE
namespace Go.Proofs.YtnjdondkggkfoaaGreat.pm
open Go.ChangeShapes Go.WideShapes Go.ChangeAt Go.RowKit Go.Shelf plain words ord mem

/-- the value with the next version, its lists as they lie -/
def nextV (v : PV) : PV := if v.ver = 1099511627776 then noPV else { v with ver := v.ver + 1 }
theorem nextV_pl (v : PV) : (nextV v).pl = bump v.pl := by
  unfold nextV bump
  by_cases h : v.ver = 1099511627776
  · rw [if_pos h, if_pos (show v.pl.ver = _ from h)]; rfl
  · rw [if_neg h, if_neg (show ¬ v.pl.ver = _ from h)]; rfl
set_option maxHeartbeats 1000000 in
theorem next_y (w : World) (v : PV) (hv : 0 ≤ v.ver ∧ v.ver ≤ 1099511627776) :
    Calls Tryz.prog 76 #[v.val] w fun e w' => e = .returned (.tuple #[(nextV v).val, .int .i64 (bumpErr v.pl)]) ∧ Below w.heap.size w w' := by
  obtain ⟨w2, hw2⟩ : ∃ w2, (w.alloc (boxO v)).alloc (.cells #[.int .i64 0, .slice none 0 0, .slice none 0 0] 25) = w2 := ⟨_, rfl⟩
  have hb2 : Below w.heap.size w w2 := by rw [← hw2]; exact (below_al _ _).trans ((below_al _ _).mono (by simp))
  have gp : Boxed w2 w.heap.size v := by rw [← hw2]; exact alloc_old _ (alloc_new _ _)
  have g2 : IsV3 25 w2 (w.heap.size + 1) (.int .i64 0) (.slice none 0 0) (.slice none 0 0) := by rw [← hw2]; have := alloc_new (w.alloc (boxO v)) (.cells #[.int .i64 0, .slice none 0 0, .slice none 0 0] 25); rwa [World.size_alloc] at this
  have hs2 : w.heap.size + 1 < w2.heap.size := blk_lt g2
  obtain ⟨ver, nA, nc, nodes, sA, sc, rs⟩ := v
  obtain ⟨N, hN⟩ : ∃ N, rs.length = N := ⟨_, rfl⟩
  obtain ⟨nl, hnl⟩ : ∃ nl, nodes.length = nl := ⟨_, rfl⟩
  simp only [PV.val, boxO, Boxed, hN, hnl] at hw2 gp hv ⊢
  have HW2 := Lib.hid hw2
  have HB2 := Lib.hid hb2
  have G2 := Lib.hid g2
  have GP := Lib.hid gp
  have HN := Lib.hid hN
  have HNL := Lib.hid hnl
  obtain ⟨⟨d0, d1, d2⟩, f0, f1, f2⟩ := isv3_cells g2
  obtain ⟨⟨e0, e1, e2⟩, k0, k1, k2⟩ := isv3_cells gp
  clear hw2 hb2 gp g2 hN hnl
  by_cases hmx : ver = 1099511627776
  · have t0 : (ver == 1099511627776) = true := by rw [hmx]; rfl
    have HE := Lib.hid (show bumpErr (⟨ver, nA, nc, nodes, sA, sc, rs⟩ : PV).pl = 1 from if_pos hmx)
    have HQ := Lib.hid (show nextV ⟨ver, nA, nc, nodes, sA, sc, rs⟩ = noPV from if_pos hmx)
    rw [HE.out, HQ.out]
    clear hmx
    go_enter Tryz.func76, Tryz.ntmps76
    go_wp2_with (fail)
    rw [HW2.out]
    go_wp2_with (fail)
    (try simp only [Exit.inBlock, Exit.then])
    refine bodyPost_ret (ret_cell rfl _ _ (w.heap.size + 1) 25 _ _ _ rfl G2.out Tryz.underlying25 rfl sizeP) rfl ?_
    exact ⟨rfl, HB2.out⟩
  · have t0 : (ver == 1099511627776) = false := by simpa using hmx
    have HE := Lib.hid (show bumpErr (⟨ver, nA, nc, nodes, sA, sc, rs⟩ : PV).pl = 0 from if_neg hmx)
    have HQ := Lib.hid (show nextV ⟨ver, nA, nc, nodes, sA, sc, rs⟩ = ⟨ver + 1, nA, nc, nodes, sA, sc, rs⟩ from if_neg hmx)
    have wr1 : IntKind.i64.wrap (ver + 1) = ver + 1 := by rw [IntWalk.i64_in _ (by omega)]
    rw [HE.out, HQ.out]
    simp only [HN.out, HNL.out]
    have hw2 := HW2.out
    go_enter Tryz.func76, Tryz.ntmps76
    go_wp2_with (fail)
    (try simp only [Exit.inBlock, Exit.then])
    have hg : IsV3 25 (w2.setCell ⟨w.heap.size, 0, none⟩ (.int .i64 (ver + 1))) (w.heap.size + 1) (.int .i64 0) (.slice none 0 0) (.slice none 0 0) := (Below.heap_setCell w2 ⟨w.heap.size, 0, none⟩ _ (w.heap.size + 1) (by simp)).trans G2.out
    refine bodyPost_ret (ret_cell rfl _ _ (w.heap.size + 1) 25 _ _ _ rfl (set3 hg) Tryz.underlying25 rfl sizeP) rfl ?_
    exact ⟨rfl, below_set3 (g := w.heap.size + 1) (HB2.out.setCell (p := ⟨w.heap.size, 0, none⟩) (Nat.le_refl _) _) (by omega) _ _ _⟩
end Go.Proofs.YtnjdondkggkfoaaGreat.pm
