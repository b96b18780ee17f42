/-
  Placements: law18's large.
-/
import Derived.Test.YtheanpcbjjogfaaPmA
import Derived.Test.YtheanpcbjjogfaaPmDE
namespace Go.Proofs.Ytheanpcbjjogfaa.bt
open Go.ChangeShapes Go.WideShapes Go.ChangeAt Go.RowKit Go.Shelf plain words ord mem pm

def stepLG (z : Int) (m : Nat) : Int := if z ≤ 1024 then IntKind.i64.wrap (z + min (m : Int) 1048576) else z
theorem stepLG_stop (ms : List Nat) {z : Int} (h : ¬ z ≤ 1024) : ms.foldl stepLG z = z := by
  induction ms with
  | nil => rfl
  | cons m ms ih =>
    rw [List.foldl_cons, show stepLG z m = z from if_neg h]
    exact ih
/-- whether a placement is too large -/
def largeB (v : PV) : Bool := decide (1024 < (v.rs.map fun r => r.l.length).foldl stepLG (IntKind.i64.wrap ((v.nodes.length : Int) + (v.rs.length : Int))))
theorem wrapEqL (x : Int) : IntKind.i64.wrap x = wrap64 x := by rw [IntKind.wrap_i64]; unfold wrap64; rfl
set_option maxHeartbeats 1000000 in
theorem large_l (w : World) (B : Nat) (v : PV) (h : PVok w B v) (hB : B ≤ w.heap.size) :
    Calls Try.prog 4 #[v.val] w fun e w' => e = .returned (.bool (largeB v)) ∧ Below w.heap.size w w' := by
  obtain ⟨wa, hwa⟩ : ∃ wa, w.alloc (boxO v) = wa := ⟨_, rfl⟩
  have hba : Below w.heap.size w wa := by rw [← hwa]; exact below_al _ _
  have gp : pm.Boxed wa w.heap.size v := by rw [← hwa]; exact alloc_new _ _
  have hl := h.len.1
  have hs := h.s.below hba hB
  obtain ⟨hvb, hhb⟩ : ∃ hvb, largeB v = hvb := ⟨_, rfl⟩
  rw [hhb]
  have hhv := hhb
  unfold largeB at hhv
  clear h hhb
  obtain ⟨ver, nA, nc, nodes, sA, sc, rs⟩ := v
  obtain ⟨N, hN⟩ : ∃ N, rs.length = N := ⟨_, rfl⟩
  obtain ⟨nl, hnl⟩ : ∃ nl, nodes.length = nl := ⟨_, rfl⟩
  simp only [PV.val, boxO, pm.Boxed, hN, hnl] at hl hwa gp hs hhv ⊢
  obtain ⟨ms, hms⟩ : ∃ ms, rs.map (fun r => r.l.length) = ms := ⟨_, rfl⟩
  rw [hms, wrapEqL] at hhv
  have HMS := Lib.hid hms
  have HHV := Lib.hid hhv
  clear hms hhv
  have hpw : w.heap.size < wa.heap.size := blk_lt gp
  obtain ⟨⟨c0, c1, c2⟩, _⟩ := isv3_cells gp
  have HWA := Lib.hid hwa
  have HBA := Lib.hid hba
  have HS := Lib.hid hs
  have HN := Lib.hid hN
  clear hwa hba gp hs hnl hN c0
  go_enter Try.func4, Try.ntmps4
  go_wp2_with (fail)
  rw [HWA.out]
  go_loopg [3, 4] N (fun gg s3 s4 wr => ∃ (i : Nat) (z : Int), s4 = .int .i64 i ∧ s3 = .int .i64 z ∧ i ≤ N ∧ N - i ≤ gg ∧ Aside (decide (1024 < (ms.drop i).foldl stepLG z) = hvb) ∧ wr = wa)
  case atStart => exact ⟨0, _, rfl, rfl, by omega, by omega, HHV.out, rfl⟩
  case round =>
    obtain ⟨i, z, rfl, rfl, hi, hg, HZ, rfl⟩ := hrel
    by_cases hlt : i < N
    · have hltz : (i : Int) < (N : Int) := by omega
      have i0 : (0 : Int) ≤ (i : Int) := by omega
      by_cases hz : z ≤ 1024
      · have hzz : decide (z ≤ 1024) = true := decide_eq_true hz
        obtain ⟨r, hr⟩ : ∃ r, rs[i]? = some r := ⟨_, List.getElem?_eq_getElem (by rw [HN.out]; exact hlt)⟩
        obtain ⟨b, off, rfl, hb, l0, ho⟩ := HS.out.at_ hr
        have hbw : b < wr.heap.size := by omega
        obtain ⟨rA, rc, rl⟩ := r
        rw [show Rw3.val ⟨rA, rc, rl⟩ = .slice rA rl.length rc from rfl] at l0
        have hol := ho.len
        simp only at hol
        obtain ⟨m, hm⟩ : ∃ m, rl.length = m := ⟨_, rfl⟩
        rw [hm] at l0 hol
        have hmi : ms[i]? = some m := by rw [← HMS.out]; simp [hr, hm]
        have HST := Lib.hid (show decide (1024 < (ms.drop (i + 1)).foldl stepLG (stepLG z m)) = hvb by
          have h1 := HZ.out
          obtain ⟨hlt2, e⟩ := List.getElem?_eq_some_iff.1 hmi
          rw [List.drop_eq_getElem_cons hlt2, List.foldl_cons, e] at h1
          exact h1)
        have HSZ := Lib.hid (show stepLG z m = wrap64 (z + min (m : Int) 1048576) by unfold stepLG; rw [if_pos hz, wrapEqL])
        clear hr ho hm hmi
        go_wp2_with (fail)
        all_goals
          go_roundg (N - (i + 1))
          case measure => omega
          case rel =>
            refine ⟨i + 1, _, by go_num, rfl, by omega, by omega, ?_, rfl⟩
            show _ = _
            rw [← HST.out, HSZ.out]
            (try (congr 4; omega))
      · have hzz : decide (z ≤ 1024) = false := decide_eq_false hz
        go_wp2_with (fail)
        go_ret
        have h1 := HZ.out
        rw [stepLG_stop _ (by omega)] at h1
        exact ⟨by rw [← h1, show decide ((1024 : Int) < z) = true from decide_eq_true (by omega)]; rfl, HBA.out⟩
    · obtain rfl : i = N := by omega
      have hltz : ¬ (i : Int) < (i : Int) := by omega
      go_wp2_with (fail)
      go_ret
      have h1 := HZ.out
      rw [List.drop_eq_nil_of_le (by rw [← HMS.out, List.length_map, HN.out]; exact Nat.le_refl _)] at h1
      exact ⟨by rw [← h1]; rfl, HBA.out⟩
end Go.Proofs.Ytheanpcbjjogfaa.bt
