/-
  Messages: law13's heavy.
-/
import Derived.Test.YthkcnakodlbdpaaWrIn
import Derived.Test.YthkcnakodlbdpaaWrYM
namespace Go.Proofs.Ythkcnakodlbdpaa.wr
open Go.ChangeShapes Go.WideShapes Go.ChangeAt Go.RowKit plain words ord mem uvs uvc cl

/-- not too much -/
def Few (m : Msg) : Prop := m.id.length ≤ 16384 ∧ m.pts.length ≤ 16384 ∧ m.mts.length ≤ 16384 ∧ ∀ x ∈ m.mts, x.1.length ≤ 16384
def RetHv (m : Msg) (e : Ending) : Prop := ∃ hv : Bool, e = .returned (.bool hv) ∧ (hv = false → Few m)
theorem mv_cells {w : World} {mb : Nat} {a : MV} {t : TypeId} (h : V w mb a.cells t) : w.cell? ⟨mb, 5, none⟩ = some (.string (cl.tx a.m.id)) ∧ w.cell? ⟨mb, 14, none⟩ = some (.slice a.pA a.m.pts.length a.pc) ∧ w.cell? ⟨mb, 15, none⟩ = some (.slice a.mA a.m.mts.length a.mc) := by
  refine ⟨?_, ?_, ?_⟩ <;> (rw [cell_of_row _ _ _ _ _ _ h]; rfl)
set_option maxHeartbeats 2000000 in
set_option maxRecDepth 100000 in
theorem heavy_w (w : World) (B : Nat) (a : MV) (h : MVok w B a) (hB : B ≤ w.heap.size) :
    Calls Try.prog 8 #[a.val] w fun e w' => RetHv a.m e ∧ Below w.heap.size w w' := by
  obtain ⟨wa, hwa⟩ : ∃ wa, w.alloc (.cells a.cells 31) = wa := ⟨_, rfl⟩
  have hba : Below w.heap.size w wa := by rw [← hwa]; exact below_al _ _
  have gp : V wa w.heap.size a.cells 31 := by rw [← hwa]; exact alloc_new _ _
  obtain ⟨c5, c14, c15⟩ := mv_cells gp
  have hpw := blk_lt gp
  have ht := h.t.below hba hB
  obtain ⟨f1, f2, f3⟩ := h.few
  have htn := h.tn
  have htc := h.tcap
  obtain ⟨mA, hmA⟩ : ∃ mA, a.mA = mA := ⟨_, rfl⟩
  obtain ⟨mc, hmc⟩ : ∃ mc, a.mc = mc := ⟨_, rfl⟩
  rw [hmA] at c15 ht htn
  rw [hmc] at c15 htn htc
  obtain ⟨S, hS⟩ : ∃ S, cl.tx a.m.id = S := ⟨_, rfl⟩
  have hsz : S.size = a.m.id.length := by rw [← hS]; exact cl.tx_size _
  rw [hS] at c5
  obtain ⟨I, hI⟩ : ∃ I, a.m.id.length = I := ⟨_, rfl⟩
  obtain ⟨L, hL⟩ : ∃ L, a.m.pts.length = L := ⟨_, rfl⟩
  obtain ⟨N, hN⟩ : ∃ N, a.m.mts.length = N := ⟨_, rfl⟩
  rw [hI] at f1 hsz
  rw [hL] at f2 c14
  rw [hN] at f3 c15 ht htc
  obtain ⟨hc1, hc2⟩ := htc
  have HSI := Lib.hid hsz
  have HFEW := Lib.hid (show (I + L + N ≤ 16384 ∧ ∀ x ∈ a.m.mts, x.1.length ≤ 16384) → Few a.m from fun hh => ⟨by rw [hI]; omega, by rw [hL]; omega, by rw [hN]; omega, hh.2⟩)
  have HT := Lib.hid ht
  have HBA := Lib.hid hba
  have HN := Lib.hid hN
  obtain ⟨M, hM⟩ : ∃ M, a.m.mts = M := ⟨_, rfl⟩
  rw [hM] at HT HFEW HN
  obtain ⟨ar, har⟩ : ∃ ar, a.val = Value.agg ar ∧ w.alloc (.cells ar 31) = wa := ⟨_, rfl, hwa⟩
  rw [har.1]
  have hwa' := har.2
  have s0 : (S.size : Int) = (I : Int) := by rw [hsz]
  have e1 : IntKind.i64.wrap ((I : Int) + (L : Int)) = (I : Int) + (L : Int) := by rw [IntWalk.i64_in _ (by omega)]
  have e2 : IntKind.i64.wrap ((I : Int) + (L : Int) + (N : Int)) = (I : Int) + (L : Int) + (N : Int) := by rw [IntWalk.i64_in _ (by omega)]
  clear hmA hmc h hwa hba gp ht hM hS hI hL hN har hsz
  go_enter Try.func8, Try.ntmps8
  go_wp2_with (fail)
  go_loopg [3, 4] N (fun gg s3 s4 wr => ∃ (i : Nat) (z : Int), s4 = .int .i64 i ∧ s3 = .int .i64 z ∧ 0 ≤ z ∧ z ≤ 1000000000000000 ∧ i ≤ N ∧ N - i ≤ gg ∧ Aside (z ≤ 16384 → I + L + N ≤ 16384 ∧ ∀ j x, j < i → M[j]? = some x → x.1.length ≤ 16384) ∧ Aside ((I : Int) + L + N ≤ z) ∧ wr = wa)
  case atStart => exact ⟨0, (I : Int) + L + N, rfl, by first | rfl | (rw [e1, e2]), by omega, by omega, Nat.zero_le _, by omega, fun hz => ⟨by omega, fun j x hj => absurd hj (Nat.not_lt_zero _)⟩, Int.le_refl _, rfl⟩
  case round =>
    obtain ⟨i, z, rfl, rfl, z0, zM, hi, hg, HZ, HW, rfl⟩ := hrel
    by_cases hlt : i < N
    · have hltz : (i : Int) < (N : Int) := by omega
      have i0 : (0 : Int) ≤ (i : Int) := by omega
      by_cases hz : z ≤ 16384
      · obtain ⟨x, hx⟩ := HT.out.get hlt
        obtain ⟨ba, oa, eA, _, xa0, _⟩ := mt_cells HT.out hx
        subst eA
        have hbal : ba < wr.heap.size := World.block_lt_of_cell? wr _ xa0
        obtain ⟨X, hX⟩ : ∃ X, cl.tx x.1 = X := ⟨_, rfl⟩
        rw [hX] at xa0
        have hXs : X.size = x.1.length := by rw [← hX]; exact cl.tx_size _
        obtain ⟨K, hK⟩ : ∃ K, x.1.length = K := ⟨_, rfl⟩
        rw [hK] at hXs
        have k0 : (X.size : Int) = (K : Int) := by rw [hXs]
        have HH := Lib.hid (show ∀ v : Int, v ≤ 16384 → v = z + min (K : Int) 1048576 → I + L + N ≤ 16384 ∧ ∀ j x, j < i + 1 → M[j]? = some x → x.1.length ≤ 16384 from fun v hv he => by
          obtain ⟨q1, q2⟩ := HZ.out hz
          refine ⟨q1, fun j y hj hy => ?_⟩
          by_cases hji : j < i
          · exact q2 j y hji hy
          · have : j = i := by omega
            subst this
            rw [hx] at hy
            injection hy with hy
            subst hy
            omega)
        have HHW := Lib.hid (show ∀ v : Int, v = z + min (K : Int) 1048576 → (I : Int) + L + N ≤ v from fun v he => by have := HW.out; omega)
        clear hx hX hXs hK HZ HW
        by_cases hK2 : (K : Int) ≤ 1048576
        · have k2 : IntKind.i64.wrap (z + (K : Int)) = z + (K : Int) := by rw [IntWalk.i64_in _ (by omega)]
          go_wp2_with (fail)
          all_goals
            go_roundg (N - (i + 1))
            case measure => omega
            case rel => exact ⟨i + 1, z + min (K : Int) 1048576, by go_num, by first | rfl | (congr 1; omega), by omega, by omega, by omega, by omega, fun hv => HH.out _ hv rfl, HHW.out _ rfl, rfl⟩
        · have k2 : IntKind.i64.wrap (z + 1048576) = z + 1048576 := by rw [IntWalk.i64_in _ (by omega)]
          go_wp2_with (fail)
          all_goals
            go_roundg (N - (i + 1))
            case measure => omega
            case rel => exact ⟨i + 1, z + min (K : Int) 1048576, by go_num, by first | rfl | (congr 1; omega), by omega, by omega, by omega, by omega, fun hv => HH.out _ hv rfl, HHW.out _ rfl, rfl⟩
      · have hz1 : 16384 < z := by omega
        clear hz
        go_wp2_with (fail)
        go_ret
        exact ⟨⟨true, by first | rfl | simp, fun e => by cases e⟩, HBA.out⟩
    · have hltz : ¬ (i : Int) < (N : Int) := by omega
      have hin : i = N := by omega
      by_cases hz : z ≤ 16384
      · have hz1 : ¬ 16384 < z := by omega
        have HF := Lib.hid (show Few a.m from HFEW.out ⟨(HZ.out hz).1, fun x hx => by
          obtain ⟨j, hj, hjx⟩ := List.getElem_of_mem hx
          exact (HZ.out hz).2 j x (by rw [hin, ← HN.out]; exact hj) (by rw [List.getElem?_eq_getElem hj, hjx])⟩)
        clear hz hin
        go_wp2_with (fail)
        go_ret
        exact ⟨⟨false, by first | rfl | simp, fun _ => HF.out⟩, HBA.out⟩
      · have hz1 : 16384 < z := by omega
        clear hz hin
        go_wp2_with (fail)
        go_ret
        exact ⟨⟨true, by first | rfl | simp, fun e => by cases e⟩, HBA.out⟩
end Go.Proofs.Ythkcnakodlbdpaa.wr
