/-
  The walk of the law MergeOrder.
-/
import Derived.Test.YtemmfcinpkfoiaaPlain
import Derived.Test.YtemmfcinpkfoiaaChecked
import Derived.ProofKit
import Derived.Outline
import Derived.Handy
import Derived.Below
import Derived.BigQuiet
import Derived.Deep.QuietTactic
import Derived.Deep.RegionHeld3
import Derived.Lib.Hide
import Derived.Deep.DeepCutAuto
import Derived.Lib.SmallJoins
import Derived.Test.YtemmfcinpkfoiaaPoint
namespace Go.Proofs.Ytemmfcinpkfoiaa.lawMergeOrder
open Go.ChangeShapes Go.WideShapes Go.ChangeAt Go.RowKit plain words

/-- a wins against b -/
def wins (v0 s0 v1 s1 : Int) : Bool := decide (s1 < s0) || (s0 == s1 && decide (v1 < v0))
theorem below2 (w : World) (a b : Obj) : Below w.heap.size w ((w.alloc a).alloc b) := ((Below.refl _ _).alloc (Nat.le_refl _) _).alloc (by simp) _
theorem wins_x (t0 v0 s0 t1 v1 s1 : Int) (w : World) (r : Bool) (hr : wins v0 s0 v1 s1 = r) :
    Calls Try.prog 15 #[.agg #[.int .i64 t0, .int .u64 v0, .int .u64 s0], .agg #[.int .i64 t1, .int .u64 v1, .int .u64 s1]] w fun e w' => e = .returned (.bool r) ∧ Below w.heap.size w w' := by
  subst hr
  unfold wins
  rcases Int.lt_trichotomy s1 s0 with h | h | h
  · go_enter Try.func15, Try.ntmps15
    go_wp2_with fail
    go_ret
    exact ⟨ret_bool (by simp [h]), below2 _ _ _⟩
  · subst h
    have h1 : ¬ s1 < s1 := by omega
    have h2 : (s1 == s1) = true := by simp
    go_enter Try.func15, Try.ntmps15
    go_wp2_with fail
    go_ret
    exact ⟨ret_bool (by simp), below2 _ _ _⟩
  · have h1 : ¬ s1 < s0 := by omega
    have h2 : (s0 == s1) = false := by simp; omega
    go_enter Try.func15, Try.ntmps15
    go_wp2_with fail
    go_ret
    exact ⟨ret_bool (by simp [h1, h2]), below2 _ _ _⟩
def Cells (H : Nat) (a00 a01 a02 a10 a11 a12 a20 a21 a22 : Int) (w' : World) : Prop :=
  (w'.cell? ⟨H, 0, none⟩ = some (.int .i64 a00) ∧ w'.cell? ⟨H, 1, none⟩ = some (.int .u64 a01) ∧ w'.cell? ⟨H, 2, none⟩ = some (.int .u64 a02)) ∧
  (w'.cell? ⟨H + 1, 0, none⟩ = some (.int .i64 a10) ∧ w'.cell? ⟨H + 1, 1, none⟩ = some (.int .u64 a11) ∧ w'.cell? ⟨H + 1, 2, none⟩ = some (.int .u64 a12)) ∧
  (w'.cell? ⟨H + 1 + 1, 0, none⟩ = some (.int .i64 a20) ∧ w'.cell? ⟨H + 1 + 1, 1, none⟩ = some (.int .u64 a21) ∧ w'.cell? ⟨H + 1 + 1, 2, none⟩ = some (.int .u64 a22)) ∧
  (w'.cell? ⟨H + 1 + 1 + 1, 0, none⟩ = some (.int .i64 a10) ∧ w'.cell? ⟨H + 1 + 1 + 1, 1, none⟩ = some (.int .u64 a01) ∧ w'.cell? ⟨H + 1 + 1 + 1, 2, none⟩ = some (.int .u64 a02))
theorem three (w : World) (b : Nat) (x y z : Value) (t : TypeId) (h : w.heap[b]? = some (.cells #[x, y, z] t (0, 0))) : w.cell? ⟨b, 0, none⟩ = some x ∧ w.cell? ⟨b, 1, none⟩ = some y ∧ w.cell? ⟨b, 2, none⟩ = some z :=
  ⟨by rw [cell_of_row _ _ _ _ _ _ h]; rfl, by rw [cell_of_row _ _ _ _ _ _ h]; rfl, by rw [cell_of_row _ _ _ _ _ _ h]; rfl⟩
theorem alloc_new (w : World) (o : Obj) : (w.alloc o).heap[w.heap.size]? = some o := by
  show (w.heap.push o)[w.heap.size]? = some o
  simp
theorem four (w : World) (A B C D : Obj) : ((((w.alloc A).alloc B).alloc C).alloc D).heap[w.heap.size]? = some A ∧ ((((w.alloc A).alloc B).alloc C).alloc D).heap[w.heap.size + 1]? = some B ∧ ((((w.alloc A).alloc B).alloc C).alloc D).heap[w.heap.size + 1 + 1]? = some C ∧ ((((w.alloc A).alloc B).alloc C).alloc D).heap[w.heap.size + 1 + 1 + 1]? = some D := by
  have e1 : w.heap.size + 1 = (w.alloc A).heap.size := by simp
  have e2 : w.heap.size + 1 + 1 = ((w.alloc A).alloc B).heap.size := by simp
  have e3 : w.heap.size + 1 + 1 + 1 = (((w.alloc A).alloc B).alloc C).heap.size := by simp
  refine ⟨?_, ?_, ?_, ?_⟩
  · rw [Below.heap_alloc _ _ _ (by omega), Below.heap_alloc _ _ _ (by omega), Below.heap_alloc _ _ _ (by omega), alloc_new]
  · rw [Below.heap_alloc _ _ _ (by omega), Below.heap_alloc _ _ _ (by omega), e1, alloc_new]
  · rw [Below.heap_alloc _ _ _ (by omega), e2, alloc_new]
  · rw [e3, alloc_new]
theorem Cells.keep {H : Nat} {a00 a01 a02 a10 a11 a12 a20 a21 a22 : Int} {w w' : World} (h : Cells H a00 a01 a02 a10 a11 a12 a20 a21 a22 w) (hb : Below w.heap.size w w') (hs : H + 4 ≤ w.heap.size) : Cells H a00 a01 a02 a10 a11 a12 a20 a21 a22 w' := by
  obtain ⟨⟨c1, c2, c3⟩, ⟨c4, c5, c6⟩, ⟨c7, c8, c9⟩, c10, c11, c12⟩ := h
  exact ⟨⟨(hb.cell (by simp only; omega)).trans c1, (hb.cell (by simp only; omega)).trans c2, (hb.cell (by simp only; omega)).trans c3⟩, ⟨(hb.cell (by simp only; omega)).trans c4, (hb.cell (by simp only; omega)).trans c5, (hb.cell (by simp only; omega)).trans c6⟩, ⟨(hb.cell (by simp only; omega)).trans c7, (hb.cell (by simp only; omega)).trans c8, (hb.cell (by simp only; omega)).trans c9⟩, (hb.cell (by simp only; omega)).trans c10, (hb.cell (by simp only; omega)).trans c11, (hb.cell (by simp only; omega)).trans c12⟩
/-- the program's and the document's order is one -/
theorem wins_one (v0 s0 v1 s1 : Int) : (wins v0 s0 v1 s1 && wins v1 s1 v0 s0) = false ∧ (wins v0 s0 v1 s1 || wins v1 s1 v0 s0) = !(v0 == v1 && s0 == s1) := by
  unfold wins
  rcases Int.lt_trichotomy s0 s1 with h | rfl | h
  · have h1 : ¬ s1 < s0 := by omega
    have h2 : s0 ≠ s1 := by omega
    have h3 : s1 ≠ s0 := by omega
    constructor <;> simp [h, h1, h2, h3]
  · have h0 : ¬ s0 < s0 := by omega
    rcases Int.lt_trichotomy v0 v1 with h | rfl | h
    · have h1 : ¬ v1 < v0 := by omega
      have h2 : v0 ≠ v1 := by omega
      constructor <;> simp [h, h1, h2, h0]
    · constructor <;> simp
    · have h1 : ¬ v0 < v1 := by omega
      have h2 : v0 ≠ v1 := by omega
      constructor <;> simp [h, h1, h2, h0]
  · have h1 : ¬ s0 < s1 := by omega
    have h2 : s0 ≠ s1 := by omega
    have h3 : s1 ≠ s0 := by omega
    constructor <;> simp [h, h1, h2, h3]
theorem wins_trans (v0 s0 v1 s1 v2 s2 : Int) : wins v0 s0 v1 s1 = true → wins v1 s1 v2 s2 = true → wins v0 s0 v2 s2 = true := by
  unfold wins
  simp
  omega

set_option maxHeartbeats 4000000 in
set_option maxRecDepth 100000 in
theorem walk_core (a00 a01 a02 a10 a11 a12 a20 a21 a22 : Int) (w : World) (rab rba rbc rac : Bool) (hab : wins a01 a02 a11 a12 = rab) (hba : wins a11 a12 a01 a02 = rba) (hbc : wins a11 a12 a21 a22 = rbc) (hac : wins a01 a02 a21 a22 = rac)
    (h1 : (rab && rba) = false) (q : Bool) (hq : (a01 == a11 && a02 == a12) = q) (h2 : (rab || rba) = !q) (h3 : rab = true → rbc = true → rac = true) :
    Calls Try.prog 3 #[.agg #[.int .i64 a00, .int .u64 a01, .int .u64 a02], .agg #[.int .i64 a10, .int .u64 a11, .int .u64 a12], .agg #[.int .i64 a20, .int .u64 a21, .int .u64 a22]] w fun e w' => e = .returned (.bool true) ∧ Below w.heap.size w w' := by
  obtain ⟨A, hA⟩ : ∃ A, Obj.cells #[Value.int .i64 a00, .int .u64 a01, .int .u64 a02] 24 (0, 0) = A := ⟨_, rfl⟩
  obtain ⟨B, hB⟩ : ∃ A, Obj.cells #[Value.int .i64 a10, .int .u64 a11, .int .u64 a12] 24 (0, 0) = A := ⟨_, rfl⟩
  obtain ⟨C, hC⟩ : ∃ A, Obj.cells #[Value.int .i64 a20, .int .u64 a21, .int .u64 a22] 24 (0, 0) = A := ⟨_, rfl⟩
  obtain ⟨D, hD⟩ : ∃ A, Obj.cells #[Value.int .i64 a10, .int .u64 a01, .int .u64 a02] 24 (0, 0) = A := ⟨_, rfl⟩
  obtain ⟨f0, f1, f2, f3⟩ := four w A B C D
  have hcells : Cells w.heap.size a00 a01 a02 a10 a11 a12 a20 a21 a22 ((((w.alloc A).alloc B).alloc C).alloc D) :=
    ⟨three _ _ _ _ _ _ (by rw [f0, hA]), three _ _ _ _ _ _ (by rw [f1, hB]), three _ _ _ _ _ _ (by rw [f2, hC]), three _ _ _ _ _ _ (by rw [f3, hD])⟩
  have hbel : Below w.heap.size w ((((w.alloc A).alloc B).alloc C).alloc D) := (((Below.refl _ _).alloc (Nat.le_refl _) _).alloc (by simp) _).alloc (by simp; omega) _ |>.alloc (by simp; omega) _
  have hsz : ((((w.alloc A).alloc B).alloc C).alloc D).heap.size = w.heap.size + 4 := by simp
  have HC := Lib.hid hcells
  have HBL := Lib.hid hbel
  have HSZ := Lib.hid hsz
  have HA := Lib.hid hA
  have HB := Lib.hid hB
  have HCc := Lib.hid hC
  have HD := Lib.hid hD
  clear f0 f1 f2 f3 hcells hbel hsz hA hB hC hD
  go_enter Try.func3, Try.ntmps3
  go_wp2_with fail
  rw [HA.out, HB.out, HCc.out, HD.out]
  obtain ⟨wR, hwR⟩ : ∃ wR, ((((w.alloc A).alloc B).alloc C).alloc D) = wR := ⟨_, rfl⟩
  rw [hwR] at HC HBL HSZ ⊢
  clear hwR HA HB HCc HD A B C D
  obtain ⟨H, hH⟩ : ∃ H, w.heap.size = H := ⟨_, rfl⟩
  rw [hH] at HC HBL HSZ ⊢
  have HH := Lib.hid hH
  clear hH
  have hwab := fun w => wins_x a00 a01 a02 a10 a11 a12 w rab hab
  have hwba := fun w => wins_x a10 a11 a12 a00 a01 a02 w rba hba
  have hwbc := fun w => wins_x a10 a11 a12 a20 a21 a22 w rbc hbc
  have hwac := fun w => wins_x a00 a01 a02 a20 a21 a22 w rac hac
  have HAB := Lib.hid hwab
  have HBA := Lib.hid hwba
  have HBC := Lib.hid hwbc
  have HAC := Lib.hid hwac
  have HQ := Lib.hid hq
  have H3 := Lib.hid h3
  clear hwab hwba hwbc hwac hab hba hbc hac hq h3
  have hs := HSZ.out
  obtain ⟨⟨c1, c2, c3⟩, ⟨c4, c5, c6⟩, ⟨c7, c8, c9⟩, c10, c11, c12⟩ := HC.out
  have l0 : H < wR.heap.size := by omega
  have l1 : H + 1 < wR.heap.size := by omega
  have l2 : H + 1 + 1 < wR.heap.size := by omega
  have l3 : H + 1 + 1 + 1 < wR.heap.size := by omega
  have hcs := Wb.cells wR
  clear hs HSZ
  have hE : ∀ u : World, (binOp .eql 24 (.agg #[.int .i64 a10, .int .u64 a01, .int .u64 a02]) (.agg #[.int .i64 a10, .int .u64 a11, .int .u64 a12])).run Try.prog u = .ok (.bool q) u := fun u => by
    rw [eq_point, ← HQ.out]; simp
  have hG := guard_point
  cases rab <;> cases rba <;> cases q <;> simp at h1 h2 <;> clear h1
  all_goals
    refine wp_region_wb wR (Below.refl _ _) (by kernel_rfl) (by kernel_rfl) ?_
    repeat (go_big_quiet_step ((go_at_call 15; first | with_reducible exact wb_call (HAB.out _) | with_reducible exact wb_call (HBA.out _) | with_reducible exact wb_call (HBC.out _) | with_reducible exact wb_call (HAC.out _))))
    refine wpQuiet_nil ?_
    rintro _ ⟨u, rfl⟩
    clear hE hG
    go_wp2_with fail
  all_goals
    go_wp2_with ((go_at_call 15; first | (with_reducible refine (HAB.out _).mono ?_) | (with_reducible refine (HBC.out _).mono ?_) | (with_reducible refine (HAC.out _).mono ?_)); rintro e w1 ⟨rfl, hb1⟩; obtain ⟨u1, rfl⟩ := wb_next hb1; clear hb1)
  all_goals
    go_ret
    refine ⟨ret_bool ?_, by rw [HH.out]; exact HBL.out.trans (Below.mono (Wb.h _) (by have := HBL.out.size; rw [HH.out] at this; exact this))⟩
    first | rfl | exact H3.out trivial (by assumption) | simp_all

set_option maxRecDepth 100000 in
theorem walk_ok (a00 a01 a02 a10 a11 a12 a20 a21 a22 : Int) (w : World) (w00 : (Lit.int .i64 a00).wf = true) (w01 : (Lit.int .u64 a01).wf = true) (w02 : (Lit.int .u64 a02).wf = true) (w10 : (Lit.int .i64 a10).wf = true) (w11 : (Lit.int .u64 a11).wf = true) (w12 : (Lit.int .u64 a12).wf = true) (w20 : (Lit.int .i64 a20).wf = true) (w21 : (Lit.int .u64 a21).wf = true) (w22 : (Lit.int .u64 a22).wf = true) :
    Calls Try.prog 3 #[.agg #[.int .i64 a00, .int .u64 a01, .int .u64 a02], .agg #[.int .i64 a10, .int .u64 a11, .int .u64 a12], .agg #[.int .i64 a20, .int .u64 a21, .int .u64 a22]] w fun e w' => e = .returned (.bool true) ∧ Below w.heap.size w w' := by
  obtain ⟨h1, h2⟩ := wins_one a01 a02 a11 a12
  exact walk_core a00 a01 a02 a10 a11 a12 a20 a21 a22 w _ _ _ _ rfl rfl rfl rfl h1 _ rfl h2 (wins_trans a01 a02 a11 a12 a21 a22)
end Go.Proofs.Ytemmfcinpkfoiaa.lawMergeOrder
