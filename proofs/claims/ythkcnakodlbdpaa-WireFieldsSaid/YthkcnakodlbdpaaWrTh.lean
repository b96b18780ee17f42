/-
  Messages: law13's theirs.
-/
import Derived.Test.YthkcnakodlbdpaaWrHv
namespace Go.Proofs.Ythkcnakodlbdpaa.wr
open Go.ChangeShapes Go.WideShapes Go.ChangeAt Go.RowKit plain words ord mem uvs uvc cl

theorem mv_all {w : World} {mb : Nat} {a : MV} {t : TypeId} (h : V w mb a.cells t) : w.cell? ⟨mb, 0, none⟩ = some (.int .i64 a.m.kind) ∧ w.cell? ⟨mb, 1, none⟩ = some (.int .i64 a.m.seq) ∧ w.cell? ⟨mb, 2, none⟩ = some (.int .i64 a.m.epoch) ∧ w.cell? ⟨mb, 3, none⟩ = some (.int .i64 a.m.space) ∧ w.cell? ⟨mb, 4, none⟩ = some (.int .i64 a.m.shard) ∧ w.cell? ⟨mb, 5, none⟩ = some (.string (cl.tx a.m.id)) ∧ w.cell? ⟨mb, 6, none⟩ = some (.int .i64 a.m.block) ∧ w.cell? ⟨mb, 7, none⟩ = some (.int .i64 a.m.rf) ∧ w.cell? ⟨mb, 8, none⟩ = some (.int .i64 a.m.rt) ∧ w.cell? ⟨mb, 9, none⟩ = some (.int .i64 a.m.p.1) ∧ w.cell? ⟨mb, 10, none⟩ = some (.int .u64 a.m.p.2.1) ∧ w.cell? ⟨mb, 11, none⟩ = some (.int .u64 a.m.p.2.2) ∧ w.cell? ⟨mb, 12, none⟩ = some (.int .i64 a.m.err) ∧ w.cell? ⟨mb, 13, none⟩ = some (.bool a.m.more) ∧ w.cell? ⟨mb, 14, none⟩ = some (.slice a.pA a.m.pts.length a.pc) ∧ w.cell? ⟨mb, 15, none⟩ = some (.slice a.mA a.m.mts.length a.mc) := by
  refine ⟨?_, ?_, ?_, ?_, ?_, ?_, ?_, ?_, ?_, ?_, ?_, ?_, ?_, ?_, ?_, ?_⟩ <;> (rw [cell_of_row _ _ _ _ _ _ h]; rfl)
theorem set16 {w : World} {g : Nat} {t : TypeId} {u0 u1 u2 u3 u4 u5 u6 u7 u8 u9 u10 u11 u12 u13 u14 u15 : Value} (h : w.heap[g]? = some (.cells #[u0, u1, u2, u3, u4, u5, u6, u7, u8, u9, u10, u11, u12, u13, u14, u15] t (0, 0))) (v0 v1 v2 v3 v4 v5 v6 v7 v8 v9 v10 v11 v12 v13 v14 v15 : Value) :
    ((((((((((((((((w.setCell ⟨g, 0, none⟩ v0).setCell ⟨g, 1, none⟩ v1).setCell ⟨g, 2, none⟩ v2).setCell ⟨g, 3, none⟩ v3).setCell ⟨g, 4, none⟩ v4).setCell ⟨g, 5, none⟩ v5).setCell ⟨g, 6, none⟩ v6).setCell ⟨g, 7, none⟩ v7).setCell ⟨g, 8, none⟩ v8).setCell ⟨g, 9, none⟩ v9).setCell ⟨g, 10, none⟩ v10).setCell ⟨g, 11, none⟩ v11).setCell ⟨g, 12, none⟩ v12).setCell ⟨g, 13, none⟩ v13).setCell ⟨g, 14, none⟩ v14).setCell ⟨g, 15, none⟩ v15).heap[g]? = some (.cells #[v0, v1, v2, v3, v4, v5, v6, v7, v8, v9, v10, v11, v12, v13, v14, v15] t (0, 0)) := by
  have h0 := h
  have h1 : (w.setCell ⟨g, 0, none⟩ v0).heap[g]? = some (.cells #[v0, u1, u2, u3, u4, u5, u6, u7, u8, u9, u10, u11, u12, u13, u14, u15] t (0, 0)) := by rw [heap_setCell_same _ _ _ _ _ _ h0]; rfl
  have h2 : ((w.setCell ⟨g, 0, none⟩ v0).setCell ⟨g, 1, none⟩ v1).heap[g]? = some (.cells #[v0, v1, u2, u3, u4, u5, u6, u7, u8, u9, u10, u11, u12, u13, u14, u15] t (0, 0)) := by rw [heap_setCell_same _ _ _ _ _ _ h1]; rfl
  have h3 : (((w.setCell ⟨g, 0, none⟩ v0).setCell ⟨g, 1, none⟩ v1).setCell ⟨g, 2, none⟩ v2).heap[g]? = some (.cells #[v0, v1, v2, u3, u4, u5, u6, u7, u8, u9, u10, u11, u12, u13, u14, u15] t (0, 0)) := by rw [heap_setCell_same _ _ _ _ _ _ h2]; rfl
  have h4 : ((((w.setCell ⟨g, 0, none⟩ v0).setCell ⟨g, 1, none⟩ v1).setCell ⟨g, 2, none⟩ v2).setCell ⟨g, 3, none⟩ v3).heap[g]? = some (.cells #[v0, v1, v2, v3, u4, u5, u6, u7, u8, u9, u10, u11, u12, u13, u14, u15] t (0, 0)) := by rw [heap_setCell_same _ _ _ _ _ _ h3]; rfl
  have h5 : (((((w.setCell ⟨g, 0, none⟩ v0).setCell ⟨g, 1, none⟩ v1).setCell ⟨g, 2, none⟩ v2).setCell ⟨g, 3, none⟩ v3).setCell ⟨g, 4, none⟩ v4).heap[g]? = some (.cells #[v0, v1, v2, v3, v4, u5, u6, u7, u8, u9, u10, u11, u12, u13, u14, u15] t (0, 0)) := by rw [heap_setCell_same _ _ _ _ _ _ h4]; rfl
  have h6 : ((((((w.setCell ⟨g, 0, none⟩ v0).setCell ⟨g, 1, none⟩ v1).setCell ⟨g, 2, none⟩ v2).setCell ⟨g, 3, none⟩ v3).setCell ⟨g, 4, none⟩ v4).setCell ⟨g, 5, none⟩ v5).heap[g]? = some (.cells #[v0, v1, v2, v3, v4, v5, u6, u7, u8, u9, u10, u11, u12, u13, u14, u15] t (0, 0)) := by rw [heap_setCell_same _ _ _ _ _ _ h5]; rfl
  have h7 : (((((((w.setCell ⟨g, 0, none⟩ v0).setCell ⟨g, 1, none⟩ v1).setCell ⟨g, 2, none⟩ v2).setCell ⟨g, 3, none⟩ v3).setCell ⟨g, 4, none⟩ v4).setCell ⟨g, 5, none⟩ v5).setCell ⟨g, 6, none⟩ v6).heap[g]? = some (.cells #[v0, v1, v2, v3, v4, v5, v6, u7, u8, u9, u10, u11, u12, u13, u14, u15] t (0, 0)) := by rw [heap_setCell_same _ _ _ _ _ _ h6]; rfl
  have h8 : ((((((((w.setCell ⟨g, 0, none⟩ v0).setCell ⟨g, 1, none⟩ v1).setCell ⟨g, 2, none⟩ v2).setCell ⟨g, 3, none⟩ v3).setCell ⟨g, 4, none⟩ v4).setCell ⟨g, 5, none⟩ v5).setCell ⟨g, 6, none⟩ v6).setCell ⟨g, 7, none⟩ v7).heap[g]? = some (.cells #[v0, v1, v2, v3, v4, v5, v6, v7, u8, u9, u10, u11, u12, u13, u14, u15] t (0, 0)) := by rw [heap_setCell_same _ _ _ _ _ _ h7]; rfl
  have h9 : (((((((((w.setCell ⟨g, 0, none⟩ v0).setCell ⟨g, 1, none⟩ v1).setCell ⟨g, 2, none⟩ v2).setCell ⟨g, 3, none⟩ v3).setCell ⟨g, 4, none⟩ v4).setCell ⟨g, 5, none⟩ v5).setCell ⟨g, 6, none⟩ v6).setCell ⟨g, 7, none⟩ v7).setCell ⟨g, 8, none⟩ v8).heap[g]? = some (.cells #[v0, v1, v2, v3, v4, v5, v6, v7, v8, u9, u10, u11, u12, u13, u14, u15] t (0, 0)) := by rw [heap_setCell_same _ _ _ _ _ _ h8]; rfl
  have h10 : ((((((((((w.setCell ⟨g, 0, none⟩ v0).setCell ⟨g, 1, none⟩ v1).setCell ⟨g, 2, none⟩ v2).setCell ⟨g, 3, none⟩ v3).setCell ⟨g, 4, none⟩ v4).setCell ⟨g, 5, none⟩ v5).setCell ⟨g, 6, none⟩ v6).setCell ⟨g, 7, none⟩ v7).setCell ⟨g, 8, none⟩ v8).setCell ⟨g, 9, none⟩ v9).heap[g]? = some (.cells #[v0, v1, v2, v3, v4, v5, v6, v7, v8, v9, u10, u11, u12, u13, u14, u15] t (0, 0)) := by rw [heap_setCell_same _ _ _ _ _ _ h9]; rfl
  have h11 : (((((((((((w.setCell ⟨g, 0, none⟩ v0).setCell ⟨g, 1, none⟩ v1).setCell ⟨g, 2, none⟩ v2).setCell ⟨g, 3, none⟩ v3).setCell ⟨g, 4, none⟩ v4).setCell ⟨g, 5, none⟩ v5).setCell ⟨g, 6, none⟩ v6).setCell ⟨g, 7, none⟩ v7).setCell ⟨g, 8, none⟩ v8).setCell ⟨g, 9, none⟩ v9).setCell ⟨g, 10, none⟩ v10).heap[g]? = some (.cells #[v0, v1, v2, v3, v4, v5, v6, v7, v8, v9, v10, u11, u12, u13, u14, u15] t (0, 0)) := by rw [heap_setCell_same _ _ _ _ _ _ h10]; rfl
  have h12 : ((((((((((((w.setCell ⟨g, 0, none⟩ v0).setCell ⟨g, 1, none⟩ v1).setCell ⟨g, 2, none⟩ v2).setCell ⟨g, 3, none⟩ v3).setCell ⟨g, 4, none⟩ v4).setCell ⟨g, 5, none⟩ v5).setCell ⟨g, 6, none⟩ v6).setCell ⟨g, 7, none⟩ v7).setCell ⟨g, 8, none⟩ v8).setCell ⟨g, 9, none⟩ v9).setCell ⟨g, 10, none⟩ v10).setCell ⟨g, 11, none⟩ v11).heap[g]? = some (.cells #[v0, v1, v2, v3, v4, v5, v6, v7, v8, v9, v10, v11, u12, u13, u14, u15] t (0, 0)) := by rw [heap_setCell_same _ _ _ _ _ _ h11]; rfl
  have h13 : (((((((((((((w.setCell ⟨g, 0, none⟩ v0).setCell ⟨g, 1, none⟩ v1).setCell ⟨g, 2, none⟩ v2).setCell ⟨g, 3, none⟩ v3).setCell ⟨g, 4, none⟩ v4).setCell ⟨g, 5, none⟩ v5).setCell ⟨g, 6, none⟩ v6).setCell ⟨g, 7, none⟩ v7).setCell ⟨g, 8, none⟩ v8).setCell ⟨g, 9, none⟩ v9).setCell ⟨g, 10, none⟩ v10).setCell ⟨g, 11, none⟩ v11).setCell ⟨g, 12, none⟩ v12).heap[g]? = some (.cells #[v0, v1, v2, v3, v4, v5, v6, v7, v8, v9, v10, v11, v12, u13, u14, u15] t (0, 0)) := by rw [heap_setCell_same _ _ _ _ _ _ h12]; rfl
  have h14 : ((((((((((((((w.setCell ⟨g, 0, none⟩ v0).setCell ⟨g, 1, none⟩ v1).setCell ⟨g, 2, none⟩ v2).setCell ⟨g, 3, none⟩ v3).setCell ⟨g, 4, none⟩ v4).setCell ⟨g, 5, none⟩ v5).setCell ⟨g, 6, none⟩ v6).setCell ⟨g, 7, none⟩ v7).setCell ⟨g, 8, none⟩ v8).setCell ⟨g, 9, none⟩ v9).setCell ⟨g, 10, none⟩ v10).setCell ⟨g, 11, none⟩ v11).setCell ⟨g, 12, none⟩ v12).setCell ⟨g, 13, none⟩ v13).heap[g]? = some (.cells #[v0, v1, v2, v3, v4, v5, v6, v7, v8, v9, v10, v11, v12, v13, u14, u15] t (0, 0)) := by rw [heap_setCell_same _ _ _ _ _ _ h13]; rfl
  have h15 : (((((((((((((((w.setCell ⟨g, 0, none⟩ v0).setCell ⟨g, 1, none⟩ v1).setCell ⟨g, 2, none⟩ v2).setCell ⟨g, 3, none⟩ v3).setCell ⟨g, 4, none⟩ v4).setCell ⟨g, 5, none⟩ v5).setCell ⟨g, 6, none⟩ v6).setCell ⟨g, 7, none⟩ v7).setCell ⟨g, 8, none⟩ v8).setCell ⟨g, 9, none⟩ v9).setCell ⟨g, 10, none⟩ v10).setCell ⟨g, 11, none⟩ v11).setCell ⟨g, 12, none⟩ v12).setCell ⟨g, 13, none⟩ v13).setCell ⟨g, 14, none⟩ v14).heap[g]? = some (.cells #[v0, v1, v2, v3, v4, v5, v6, v7, v8, v9, v10, v11, v12, v13, v14, u15] t (0, 0)) := by rw [heap_setCell_same _ _ _ _ _ _ h14]; rfl
  have h16 : ((((((((((((((((w.setCell ⟨g, 0, none⟩ v0).setCell ⟨g, 1, none⟩ v1).setCell ⟨g, 2, none⟩ v2).setCell ⟨g, 3, none⟩ v3).setCell ⟨g, 4, none⟩ v4).setCell ⟨g, 5, none⟩ v5).setCell ⟨g, 6, none⟩ v6).setCell ⟨g, 7, none⟩ v7).setCell ⟨g, 8, none⟩ v8).setCell ⟨g, 9, none⟩ v9).setCell ⟨g, 10, none⟩ v10).setCell ⟨g, 11, none⟩ v11).setCell ⟨g, 12, none⟩ v12).setCell ⟨g, 13, none⟩ v13).setCell ⟨g, 14, none⟩ v14).setCell ⟨g, 15, none⟩ v15).heap[g]? = some (.cells #[v0, v1, v2, v3, v4, v5, v6, v7, v8, v9, v10, v11, v12, v13, v14, v15] t (0, 0)) := by rw [heap_setCell_same _ _ _ _ _ _ h15]; rfl
  exact h16
theorem info16 : (Try.prog.info? 37).map (·.size) = some 16 := by kernel_rfl
set_option maxHeartbeats 4000000 in
set_option maxRecDepth 100000 in
theorem theirs_w (w : World) (a : MV) :
    Calls Try.prog 11 #[a.val] w fun e w' => e = .returned (.agg a.cells) ∧ Below w.heap.size w w' := by
  obtain ⟨N, hN⟩ : ∃ N, w.heap.size = N := ⟨_, rfl⟩
  obtain ⟨wa, hwa⟩ : ∃ wa, (w.alloc (.cells a.cells 31)).alloc (.cells #[.int .i64 0, .int .i64 0, .int .i64 0, .int .i64 0, .int .i64 0, .string ⟨#[]⟩, .int .i64 0, .int .i64 0, .int .i64 0, .int .i64 0, .int .u64 0, .int .u64 0, .int .i64 0, .bool false, .slice none 0 0, .slice none 0 0] 37) = wa := ⟨_, rfl⟩
  have hba : Below w.heap.size w wa := by rw [← hwa]; exact ((Below.refl _ _).alloc (Nat.le_refl _) _).alloc (by simp) _
  have gp : V wa N a.cells 31 := by rw [← hwa, ← hN]; exact alloc_old _ (alloc_new _ _)
  have gq : wa.heap[N + 1]? = some (.cells #[.int .i64 0, .int .i64 0, .int .i64 0, .int .i64 0, .int .i64 0, .string ⟨#[]⟩, .int .i64 0, .int .i64 0, .int .i64 0, .int .i64 0, .int .u64 0, .int .u64 0, .int .i64 0, .bool false, .slice none 0 0, .slice none 0 0] 37 (0, 0)) := by
    rw [← hwa, ← hN]
    have := alloc_new (w.alloc (.cells a.cells 31)) (.cells #[.int .i64 0, .int .i64 0, .int .i64 0, .int .i64 0, .int .i64 0, .string ⟨#[]⟩, .int .i64 0, .int .i64 0, .int .i64 0, .int .i64 0, .int .u64 0, .int .u64 0, .int .i64 0, .bool false, .slice none 0 0, .slice none 0 0] 37)
    rwa [World.size_alloc] at this
  obtain ⟨c0, c1, c2, c3, c4, c5, c6, c7, c8, c9, c10, c11, c12, c13, c14, c15⟩ := mv_all gp
  have hpw := blk_lt gp
  have hqw := blk_lt gq
  have d0 : wa.cell? ⟨N + 1, 0, none⟩ = some (.int .i64 0) := by rw [cell_of_row _ _ _ _ _ _ gq]; rfl
  have d1 : wa.cell? ⟨N + 1, 1, none⟩ = some (.int .i64 0) := by rw [cell_of_row _ _ _ _ _ _ gq]; rfl
  have d2 : wa.cell? ⟨N + 1, 2, none⟩ = some (.int .i64 0) := by rw [cell_of_row _ _ _ _ _ _ gq]; rfl
  have d3 : wa.cell? ⟨N + 1, 3, none⟩ = some (.int .i64 0) := by rw [cell_of_row _ _ _ _ _ _ gq]; rfl
  have d4 : wa.cell? ⟨N + 1, 4, none⟩ = some (.int .i64 0) := by rw [cell_of_row _ _ _ _ _ _ gq]; rfl
  have d5 : wa.cell? ⟨N + 1, 5, none⟩ = some (.string ⟨#[]⟩) := by rw [cell_of_row _ _ _ _ _ _ gq]; rfl
  have d6 : wa.cell? ⟨N + 1, 6, none⟩ = some (.int .i64 0) := by rw [cell_of_row _ _ _ _ _ _ gq]; rfl
  have d7 : wa.cell? ⟨N + 1, 7, none⟩ = some (.int .i64 0) := by rw [cell_of_row _ _ _ _ _ _ gq]; rfl
  have d8 : wa.cell? ⟨N + 1, 8, none⟩ = some (.int .i64 0) := by rw [cell_of_row _ _ _ _ _ _ gq]; rfl
  have d9 : wa.cell? ⟨N + 1, 9, none⟩ = some (.int .i64 0) := by rw [cell_of_row _ _ _ _ _ _ gq]; rfl
  have d10 : wa.cell? ⟨N + 1, 10, none⟩ = some (.int .u64 0) := by rw [cell_of_row _ _ _ _ _ _ gq]; rfl
  have d11 : wa.cell? ⟨N + 1, 11, none⟩ = some (.int .u64 0) := by rw [cell_of_row _ _ _ _ _ _ gq]; rfl
  have d12 : wa.cell? ⟨N + 1, 12, none⟩ = some (.int .i64 0) := by rw [cell_of_row _ _ _ _ _ _ gq]; rfl
  have d13 : wa.cell? ⟨N + 1, 13, none⟩ = some (.bool false) := by rw [cell_of_row _ _ _ _ _ _ gq]; rfl
  have d14 : wa.cell? ⟨N + 1, 14, none⟩ = some (.slice none 0 0) := by rw [cell_of_row _ _ _ _ _ _ gq]; rfl
  have d15 : wa.cell? ⟨N + 1, 15, none⟩ = some (.slice none 0 0) := by rw [cell_of_row _ _ _ _ _ _ gq]; rfl
  have f0 := frozen_of_row wa (N + 1) 0 _ _ gq
  have f1 := frozen_of_row wa (N + 1) 1 _ _ gq
  have f2 := frozen_of_row wa (N + 1) 2 _ _ gq
  have f3 := frozen_of_row wa (N + 1) 3 _ _ gq
  have f4 := frozen_of_row wa (N + 1) 4 _ _ gq
  have f5 := frozen_of_row wa (N + 1) 5 _ _ gq
  have f6 := frozen_of_row wa (N + 1) 6 _ _ gq
  have f7 := frozen_of_row wa (N + 1) 7 _ _ gq
  have f8 := frozen_of_row wa (N + 1) 8 _ _ gq
  have f9 := frozen_of_row wa (N + 1) 9 _ _ gq
  have f10 := frozen_of_row wa (N + 1) 10 _ _ gq
  have f11 := frozen_of_row wa (N + 1) 11 _ _ gq
  have f12 := frozen_of_row wa (N + 1) 12 _ _ gq
  have f13 := frozen_of_row wa (N + 1) 13 _ _ gq
  have f14 := frozen_of_row wa (N + 1) 14 _ _ gq
  have f15 := frozen_of_row wa (N + 1) 15 _ _ gq
  have HBA := Lib.hid hba
  have GQ := Lib.hid gq
  have HN := Lib.hid hN
  obtain ⟨ar, har⟩ : ∃ ar, a.cells = ar := ⟨_, rfl⟩
  have HAR := Lib.hid har
  unfold MV.val
  rw [har] at hwa ⊢
  clear hba gp gq har
  go_enter Try.func11, Try.ntmps11
  go_wp2_with (fail)
  have hle : w.heap.size ≤ N + 1 := by rw [HN.out]; omega
  refine bodyPost_ret (results_cell_row rfl _ _ (N + 1) 37 _ _ _ rfl (set16 GQ.out _ _ _ _ _ _ _ _ _ _ _ _ _ _ _ _) Try.underlying37 rfl info16) rfl ?_
  exact ⟨by rw [← HAR.out]; rfl, ((((((((((((((((HBA.out.setCell (p := ⟨N + 1, 0, none⟩) hle _).setCell (p := ⟨N + 1, 1, none⟩) hle _).setCell (p := ⟨N + 1, 2, none⟩) hle _).setCell (p := ⟨N + 1, 3, none⟩) hle _).setCell (p := ⟨N + 1, 4, none⟩) hle _).setCell (p := ⟨N + 1, 5, none⟩) hle _).setCell (p := ⟨N + 1, 6, none⟩) hle _).setCell (p := ⟨N + 1, 7, none⟩) hle _).setCell (p := ⟨N + 1, 8, none⟩) hle _).setCell (p := ⟨N + 1, 9, none⟩) hle _).setCell (p := ⟨N + 1, 10, none⟩) hle _).setCell (p := ⟨N + 1, 11, none⟩) hle _).setCell (p := ⟨N + 1, 12, none⟩) hle _).setCell (p := ⟨N + 1, 13, none⟩) hle _).setCell (p := ⟨N + 1, 14, none⟩) hle _).setCell (p := ⟨N + 1, 15, none⟩) hle _)⟩
end Go.Proofs.Ythkcnakodlbdpaa.wr
