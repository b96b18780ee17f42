/-
  The document's move.
-/
import Derived.Test.YtheanpcbjjogfaaPmDE
import Derived.Test.YtheanpcbjjogfaaPmA
namespace Go.Proofs.Ytheanpcbjjogfaa.pm
open Go.ChangeShapes Go.WideShapes Go.ChangeAt Go.RowKit Go.Shelf plain words ord mem

def put (l : List O) (o : O) : List O := own (disown l o.1) o
def giveY (l : List O) (f t : Int) : List O := put (put l (f, 3, -1)) (t, 1, f)
end Go.Proofs.Ytheanpcbjjogfaa.pm
/-
  The document's Owns.
-/
namespace Go.Proofs.Ytheanpcbjjogfaa.pm
open Go.ChangeShapes Go.WideShapes Go.ChangeAt Go.RowKit Go.Shelf plain words ord mem

def owns (l : List O) (n : Int) : Bool := fis (byNode n) l && (fnd (byNode n) l).2.1 != 3
set_option maxHeartbeats 1000000 in
theorem owns_y (w : World) (B : Nat) (v : PV) (h : PVok w B v) (hB : B ≤ w.heap.size) (s n : Int) :
    Calls Try.prog 17 #[v.val, .int .i64 s, .int .i64 n] w fun e w' => e = .returned (.bool (owns (shardAt v.pl.ss s) n)) ∧ Below w.heap.size w w' := by
  obtain ⟨wa, hwa⟩ : ∃ wa, w.alloc (boxO v) = wa := ⟨_, rfl⟩
  have hba : Below w.heap.size w wa := by rw [← hwa]; exact below_al _ _
  have gp : Boxed wa w.heap.size v := by rw [← hwa]; exact alloc_new _ _
  have hsa := hba.size
  have HF := Lib.hid (rfind_y wa B v (h.below hba hB) (by omega) s n)
  obtain ⟨o, ho⟩ : ∃ o, fnd (byNode n) (shardAt v.pl.ss s) = o := ⟨_, rfl⟩
  obtain ⟨q, hq⟩ : ∃ q, fis (byNode n) (shardAt v.pl.ss s) = q := ⟨_, rfl⟩
  have HE := Lib.hid (show owns (shardAt v.pl.ss s) n = (q && o.2.1 != 3) by unfold owns; rw [ho, hq])
  rw [ho, hq] at HF
  rw [HE.out]
  obtain ⟨o1, o2, o3⟩ := o
  obtain ⟨ver, nA, nc, nodes, sA, sc, rs⟩ := v
  obtain ⟨N, hN⟩ : ∃ N, rs.length = N := ⟨_, rfl⟩
  obtain ⟨nl, hnl⟩ : ∃ nl, nodes.length = nl := ⟨_, rfl⟩
  simp only [PV.val, boxO, Boxed, hN, hnl] at hwa gp HF ⊢
  obtain ⟨⟨e0, e1, e2⟩, _⟩ := isv3_cells gp
  have hpl := blk_lt gp
  have HBA := Lib.hid hba
  clear h hba gp hN hnl ho hq
  go_enter Try.func17, Try.ntmps17
  have HWA := Lib.hid hwa
  clear hwa
  go_wp2_with (fail)
  rw [HWA.out]
  go_wp2_with (fail)
  refine HF.out.mono ?_
  rintro e w2 ⟨rfl, hb2⟩
  obtain ⟨w3, hw3⟩ : ∃ w3, w2.alloc (.cells #[.int .i64 o1, .int .i64 o2, .int .i64 o3] 42) = w3 := ⟨_, rfl⟩
  have hb3 : Below w2.heap.size w2 w3 := by rw [← hw3]; exact below_al _ _
  have g3 : IsV3 42 w3 w2.heap.size (.int .i64 o1) (.int .i64 o2) (.int .i64 o3) := by rw [← hw3]; exact alloc_new _ _
  obtain ⟨⟨c0, c1, c2⟩, _⟩ := isv3_cells g3
  have hl3 := blk_lt g3
  have HB3 := Lib.hid (HBA.out.trans ((hb2.trans (hb3.mono hb2.size)).mono hsa))
  clear hb2 hb3 g3
  cases q with
  | false =>
    go_wp2_with (fail)
    go_ret
    exact ⟨by simp, HB3.out⟩
  | true =>
    go_wp2_with (fail)
    go_ret
    exact ⟨by simp_all, HB3.out⟩
end Go.Proofs.Ytheanpcbjjogfaa.pm
