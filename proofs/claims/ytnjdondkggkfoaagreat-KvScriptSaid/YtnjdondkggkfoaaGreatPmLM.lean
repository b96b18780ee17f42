/-
  The document's move.
-/
import Derived.Test.YtnjdondkggkfoaaGreatPmDE
import Derived.Test.YtnjdondkggkfoaaGreatPmA
namespace Go.Proofs.YtnjdondkggkfoaaGreat.pm
open Go.ChangeShapes Go.WideShapes Go.ChangeAt Go.RowKit Go.Shelf plain words ord mem

def put (l : List O) (o : O) : List O := own (disown l o.1) o
def giveY (l : List O) (f t : Int) : List O := put (put l (f, 3, -1)) (t, 1, f)
set_option maxHeartbeats 2000000 in
theorem move_y (w : World) (B pb sb : Nat) (v : PV) (h : WP w B pb v) (hsA : v.sA = some ⟨sb, 0, none⟩) (k : Nat) (r : Rw3) (hr : v.rs[k]? = some r) (hn : r.l.length ≤ 900000) (f t : Int) :
    Calls Tryz.prog 75 #[v.val, .int .i64 k, .int .i64 f, .int .i64 t] w (RetOwn w B pb k v sb (giveY r.l f t)) := by
  have hkN : k < v.rs.length := (List.getElem?_eq_some_iff.1 hr).1
  obtain ⟨sb', cur, hsA', hBs, hsl, hcur, hne⟩ := h.srow hkN
  obtain rfl : sb' = sb := by rw [hsA'] at hsA; cases hsA; rfl
  have hcell : w.cell? ⟨sb', k, none⟩ = some r.val := by
    obtain ⟨b, off, e1, _, e2, _⟩ := h.ok.s.at_ hr
    rw [hsA] at e1; cases e1
    simpa using e2
  have hrok := Ow.rwok (h.each r (List.mem_of_getElem? hr)) rfl rfl
  obtain ⟨wa, hwa⟩ : ∃ wa, w.alloc (boxO v) = wa := ⟨_, rfl⟩
  have hba : Below w.heap.size w wa := by rw [← hwa]; exact below_al _ _
  have gp : Boxed wa w.heap.size v := by rw [← hwa]; exact alloc_new _ _
  have hsa : w.heap.size < wa.heap.size := blk_lt gp
  have hB : B ≤ w.heap.size := by have := h.le; have := h.lt; omega
  have HS1 := Lib.hid (set_y wa w.heap.size r.l.length r.c r.A r.l (hrok.ls.below hba (Nat.le_refl _)) (by omega) (by omega) (f, 3, -1))
  have hp1 : (put r.l (f, 3, -1)).length ≤ r.l.length + 1 := by unfold put; rw [own_len]; have : (disown r.l f).length ≤ r.l.length := List.length_filter_le _ _; simp only; omega
  have HWP := Lib.hid h
  obtain ⟨ver, nA, nc, nodes, sA, sc, rs⟩ := v
  obtain rfl : sA = some ⟨sb', 0, none⟩ := hsA
  obtain ⟨N, hN⟩ : ∃ N, rs.length = N := ⟨_, rfl⟩
  obtain ⟨nl, hnl⟩ : ∃ nl, nodes.length = nl := ⟨_, rfl⟩
  simp only at hkN
  rw [hN] at hkN
  simp only [PV.val, boxO, Boxed, hN, hnl] at hwa gp ⊢
  obtain ⟨ra, rc, L⟩ := r
  simp only [Rw3.val] at hcell HS1 hn hp1 ⊢
  obtain ⟨m, hm⟩ : ∃ m, L.length = m := ⟨_, rfl⟩
  rw [hm] at hcell HS1 hn hp1
  have hcw : wa.cell? ⟨sb', k, none⟩ = some (.slice ra m rc) := (hba.cell (p := ⟨sb', k, none⟩) hsl).trans hcell
  obtain ⟨⟨e0, e1, e2⟩, _⟩ := isv3_cells gp
  have HBA := Lib.hid hba
  have GP := Lib.hid gp
  have HR := Lib.hid hr
  have hkz : (k : Int) < (N : Int) := by omega
  have i0 : (0 : Int) ≤ (k : Int) := by omega
  have hsla : sb' < wa.heap.size := by omega
  clear h hrok hba gp hr hsA' hcur hcell hm hN hnl
  go_enter Tryz.func75, Tryz.ntmps75
  go_wp2_with (fail)
  refine HS1.out.mono ?_
  rintro e w1 ⟨g1, c1, rfl, how1, hb1⟩
  obtain ⟨M, hM⟩ : ∃ M, put L (f, 3, -1) = M := ⟨_, rfl⟩
  have hM' : own (disown L f) (f, 3, -1) = M := hM
  simp only [hM'] at how1 ⊢
  rw [hM] at hp1
  have HS2 := Lib.hid (set_y w1.drew w1.heap.size M.length c1 (some ⟨g1, 0, none⟩) M how1.ls.drew (Nat.le_refl _) (by omega) (t, 1, f))
  have HB1 := Lib.hid (HBA.out.trans (hb1.mono (by omega)))
  have gp1 := blk_below hb1 GP.out hsa
  obtain ⟨⟨z0, z1, z2⟩, _⟩ := isv3_cells gp1
  have hs1 := hb1.size
  have hs1' : w.heap.size < w1.heap.size := by omega
  have hsl1 : sb' < w1.heap.size := by omega
  have q2 := Wb.at_ z2
  have HWP1 := Lib.hid (HWP.out.below HB1.out (Nat.le_refl _))
  have HM := Lib.hid hM
  obtain ⟨ml, hml⟩ : ∃ ml, M.length = ml := ⟨_, rfl⟩
  rw [hml] at HS2
  clear hM hM' how1 hb1 gp1 z0 z1 z2 hcw e0 e1 e2 hwa
  go_wp2_with (fail)
  refine wp_region_plan [([0, 1, 2, 3, 4, 5, 6], some (7, false)), ([8], some (9, true)), ([], none)] (by kernel_rfl) (by kernel_rfl) ?_
  refine seg_act _ (by dsimp only [pick, ord.at_]) _ (by dsimp only [pick, ord.at_]) ?_
  repeat (go_big_quiet_step (fail))
  refine wpQuiet_nil ?_
  intro K h1 h2
  clear h2
  go_wp2_with (fail)
  refine HS2.out.mono ?_
  rintro e w2 ⟨g2, c2, rfl, how2, hb2⟩
  obtain ⟨M2, hM2⟩ : ∃ M2, own (disown M t) (t, 1, f) = M2 := ⟨_, rfl⟩
  simp only [hM2] at how2 ⊢
  have hbd : Below w1.heap.size w1 w2 := (Below.refl _ _).drew.trans hb2
  have HB2 := Lib.hid hbd
  have HO2 := Lib.hid how2
  have HM2 := Lib.hid hM2
  have HWP2 := Lib.hid (HWP1.out.below hbd (Nat.le_refl _))
  have HBW := Lib.hid (HB1.out.trans (hbd.mono (by omega)))
  clear hb2 hbd how2 hM2
  go_wp2_with (fail)
  refine h1 _ _ HB2.out ?_
  clear h1
  have hrn : ({ ver := ver, nA := nA, nc := nc, nodes := nodes, sA := some ⟨sb', 0, none⟩, sc := sc, rs := rs } : PV).rs[k]? = some ⟨ra, rc, L⟩ := HR.out
  obtain ⟨sb2, cur2, e2', _, _, hcur2, _⟩ := HWP2.out.srow (List.getElem?_eq_some_iff.1 hrn).1
  simp only [Option.some.injEq, Addr.mk.injEq, and_true, true_and] at e2'
  subst e2'
  have hf2 : w2.frozen? ⟨sb', k, none⟩ = false := frozen_of_row _ _ _ _ _ hcur2
  obtain ⟨b2, off2, e3, _, e4, _⟩ := HWP2.out.ok.s.at_ hrn
  have hk2 : ∃ y, w2.cell? ⟨sb', k, none⟩ = some y := ⟨_, by cases e3; simpa using e4⟩
  obtain ⟨y2, hk2⟩ := hk2
  clear e3 e4 hcur2
  refine seg_write _ (by dsimp only [pick, ord.at_]) _ (by dsimp only [pick, ord.at_]) ?_
  repeat (go_big_quiet_step (fail))
  refine wpQuiet_nil ?_
  intro K4 h4
  go_wp2_with (fail)
  refine seg_end _ (by dsimp only [pick, ord.at_]) ?_
  refine wpQuiet_nil (NoPanic.normal ?_)
  clear q2 hk2 hf2
  go_wp2_with (fail)
  refine bodyPost_ret (results_none rfl _ _ _) rfl ?_
  refine ⟨rfl, ⟨some ⟨g2, 0, none⟩, c2, M2⟩, ?_, ?_, ?_⟩
  · rw [← HM2.out, ← HM.out]; rfl
  · exact HWP2.out.put rfl (List.getElem?_eq_some_iff.1 hrn).1 ⟨some ⟨g2, 0, none⟩, c2, M2⟩ (HO2.out.base (by show B ≤ w1.heap.size; omega))
  · exact ((Chg.of_below HBW.out).mono (S' := fun b => b = sb') (fun _ _ h => h.elim)).setCell (p := ⟨sb', k, none⟩) (fun _ => rfl) _
end Go.Proofs.YtnjdondkggkfoaaGreat.pm
/-
  The document's Owns.
-/
namespace Go.Proofs.YtnjdondkggkfoaaGreat.pm
open Go.ChangeShapes Go.WideShapes Go.ChangeAt Go.RowKit Go.Shelf plain words ord mem

def owns (l : List O) (n : Int) : Bool := fis (byNode n) l && (fnd (byNode n) l).2.1 != 3
end Go.Proofs.YtnjdondkggkfoaaGreat.pm
