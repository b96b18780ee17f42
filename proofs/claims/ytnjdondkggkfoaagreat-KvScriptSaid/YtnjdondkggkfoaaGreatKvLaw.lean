/-
  Placements: the law's heavy and same.
-/
import Derived.Test.YtnjdondkggkfoaaGreatPmA
import Derived.Test.YtnjdondkggkfoaaGreatPmDE
namespace Go.Proofs.YtnjdondkggkfoaaGreat.kv
open Go.ChangeShapes Go.WideShapes Go.ChangeAt Go.RowKit Go.Shelf plain words ord mem pm

def stepKH (z : Int) (m : Nat) : Int := if z ≤ 1024 then IntKind.i64.wrap (z + min (m : Int) 1048576) else z
theorem stepKH_stop (ms : List Nat) {z : Int} (h : ¬ z ≤ 1024) : ms.foldl stepKH z = z := by
  induction ms with
  | nil => rfl
  | cons m ms ih =>
    rw [List.foldl_cons, show stepKH z m = z from if_neg h]
    exact ih
/-- whether a placement is too large -/
def heavyKB (v : PV) : Bool := decide (1024 < (v.rs.map fun r => r.l.length).foldl stepKH (IntKind.i64.wrap ((v.nodes.length : Int) + (v.rs.length : Int))))
theorem wrapEqK (x : Int) : IntKind.i64.wrap x = wrap64 x := by rw [IntKind.wrap_i64]; unfold wrap64; rfl
set_option maxHeartbeats 1000000 in
theorem heavy_kl (w : World) (B : Nat) (v : PV) (h : PVok w B v) (hB : B ≤ w.heap.size) :
    Calls Tryz.prog 17 #[v.val] w fun e w' => e = .returned (.bool (heavyKB v)) ∧ Below w.heap.size w w' := by
  obtain ⟨wa, hwa⟩ : ∃ wa, w.alloc (boxO v) = wa := ⟨_, rfl⟩
  have hba : Below w.heap.size w wa := by rw [← hwa]; exact below_al _ _
  have gp : pm.Boxed wa w.heap.size v := by rw [← hwa]; exact alloc_new _ _
  have hl := h.len.1
  have hs := h.s.below hba hB
  obtain ⟨hvb, hhb⟩ : ∃ hvb, heavyKB v = hvb := ⟨_, rfl⟩
  rw [hhb]
  have hhv := hhb
  unfold heavyKB at hhv
  clear h hhb
  obtain ⟨ver, nA, nc, nodes, sA, sc, rs⟩ := v
  obtain ⟨N, hN⟩ : ∃ N, rs.length = N := ⟨_, rfl⟩
  obtain ⟨nl, hnl⟩ : ∃ nl, nodes.length = nl := ⟨_, rfl⟩
  simp only [PV.val, boxO, pm.Boxed, hN, hnl] at hl hwa gp hs hhv ⊢
  obtain ⟨ms, hms⟩ : ∃ ms, rs.map (fun r => r.l.length) = ms := ⟨_, rfl⟩
  rw [hms, wrapEqK] at hhv
  have HMS := Lib.hid hms
  have HHV := Lib.hid hhv
  clear hms hhv
  have hpw : w.heap.size < wa.heap.size := blk_lt gp
  obtain ⟨⟨c0, c1, c2⟩, _⟩ := isv3_cells gp
  have HWA := Lib.hid hwa
  have HBA := Lib.hid hba
  have HS := Lib.hid hs
  have HN := Lib.hid hN
  clear hwa hba gp hs hnl hN c0
  go_enter Tryz.func17, Tryz.ntmps17
  go_wp2_with (fail)
  rw [HWA.out]
  go_loopg [3, 4] N (fun gg s3 s4 wr => ∃ (i : Nat) (z : Int), s4 = .int .i64 i ∧ s3 = .int .i64 z ∧ i ≤ N ∧ N - i ≤ gg ∧ Aside (decide (1024 < (ms.drop i).foldl stepKH z) = hvb) ∧ wr = wa)
  case atStart => exact ⟨0, _, rfl, rfl, by omega, by omega, HHV.out, rfl⟩
  case round =>
    obtain ⟨i, z, rfl, rfl, hi, hg, HZ, rfl⟩ := hrel
    by_cases hlt : i < N
    · have hltz : (i : Int) < (N : Int) := by omega
      have i0 : (0 : Int) ≤ (i : Int) := by omega
      by_cases hz : z ≤ 1024
      · have hzz : decide (z ≤ 1024) = true := decide_eq_true hz
        obtain ⟨r, hr⟩ : ∃ r, rs[i]? = some r := ⟨_, List.getElem?_eq_getElem (by rw [HN.out]; exact hlt)⟩
        obtain ⟨b, off, rfl, hb, l0, ho⟩ := HS.out.at_ hr
        have hbw : b < wr.heap.size := by omega
        obtain ⟨rA, rc, rl⟩ := r
        rw [show Rw3.val ⟨rA, rc, rl⟩ = .slice rA rl.length rc from rfl] at l0
        have hol := ho.len
        simp only at hol
        obtain ⟨m, hm⟩ : ∃ m, rl.length = m := ⟨_, rfl⟩
        rw [hm] at l0 hol
        have hmi : ms[i]? = some m := by rw [← HMS.out]; simp [hr, hm]
        have HST := Lib.hid (show decide (1024 < (ms.drop (i + 1)).foldl stepKH (stepKH z m)) = hvb by
          have h1 := HZ.out
          obtain ⟨hlt2, e⟩ := List.getElem?_eq_some_iff.1 hmi
          rw [List.drop_eq_getElem_cons hlt2, List.foldl_cons, e] at h1
          exact h1)
        have HSZ := Lib.hid (show stepKH z m = wrap64 (z + min (m : Int) 1048576) by unfold stepKH; rw [if_pos hz, wrapEqK])
        clear hr ho hm hmi
        go_wp2_with (fail)
        all_goals
          go_roundg (N - (i + 1))
          case measure => omega
          case rel =>
            refine ⟨i + 1, _, by go_num, rfl, by omega, by omega, ?_, rfl⟩
            show _ = _
            rw [← HST.out, HSZ.out]
            (try (congr 4; omega))
      · have hzz : decide (z ≤ 1024) = false := decide_eq_false hz
        go_wp2_with (fail)
        go_ret
        have h1 := HZ.out
        rw [stepKH_stop _ (by omega)] at h1
        exact ⟨by rw [← h1, show decide ((1024 : Int) < z) = true from decide_eq_true (by omega)]; rfl, HBA.out⟩
    · obtain rfl : i = N := by omega
      have hltz : ¬ (i : Int) < (i : Int) := by omega
      go_wp2_with (fail)
      go_ret
      have h1 := HZ.out
      rw [List.drop_eq_nil_of_le (by rw [← HMS.out, List.length_map, HN.out]; exact Nat.le_refl _)] at h1
      exact ⟨by rw [← h1]; rfl, HBA.out⟩
end Go.Proofs.YtnjdondkggkfoaaGreat.kv
namespace Go.Proofs.YtnjdondkggkfoaaGreat.kv
open Go.ChangeShapes Go.WideShapes Go.ChangeAt Go.RowKit Go.Shelf plain words ord mem pm
theorem neq_owner_k (a b c : Int) (w : World) : (binOp .neq 68 (.agg #[.int .i64 a, .int .i64 b, .int .i64 c]) (.agg #[.int .i64 a, .int .i64 b, .int .i64 c])).run Tryz.prog w = .ok (.bool false) w := by
  have hS : Tryz.prog.underlying 68 = some (.struct (Tryz.prog.fieldsOf 68)) := by kernel_rfl
  have hp : Tryz.prog.stoodInHeld 68 = false := by kernel_rfl
  have u3 := Tryz.underlying3
  have a3 := Tryz.isAgg3
  have z3 := Tryz.sizeOf3
  rw [run_neq_struct, show (10000 : Nat) = 9999 + 1 from rfl, run_equalIn_agg w 9999 68 _ _ hS hp]
  simp only [Program.fieldsOf, Tryz.underlying68]
  go_simp
set_option maxHeartbeats 4000000 in
theorem same_k (w : World) (B : Nat) (v v2 : PV) (h : PVok w B v) (h2 : PVok w B v2) (hB : B ≤ w.heap.size) (he : v.pl = v2.pl) :
    Calls Tryz.prog 12 #[v.val, v2.val] w fun e w' => e = .returned (.bool true) ∧ Below w.heap.size w w' := by
  obtain ⟨wa, hwa⟩ : ∃ wa, (w.alloc (boxO v)).alloc (boxO v2) = wa := ⟨_, rfl⟩
  have hba : Below w.heap.size w wa := by rw [← hwa]; exact (below_al _ _).trans ((below_al _ _).mono (by simp))
  have gp : pm.Boxed wa w.heap.size v := by rw [← hwa]; exact alloc_old _ (alloc_new _ _)
  have gq : pm.Boxed wa (w.heap.size + 1) v2 := by rw [← hwa]; have := alloc_new (w.alloc (boxO v)) (boxO v2); rwa [World.size_alloc] at this
  have hsa : w.heap.size + 1 < wa.heap.size := blk_lt gq
  have HH := Lib.hid (fun (u : World) (hu : Below wa.heap.size wa u) => ((h.below hba hB).below hu (by omega)))
  have HH2 := Lib.hid (fun (u : World) (hu : Below wa.heap.size wa u) => ((h2.below hba hB).below hu (by omega)))
  have hl1 := h.len.1
  have hl2 := h.len.2
  have hver : v.ver = v2.ver := congrArg Pl.ver he
  have hnod : v.nodes = v2.nodes := congrArg Pl.nodes he
  have hss : v.rs.map (·.l) = v2.rs.map (·.l) := congrArg Pl.ss he
  obtain ⟨ver, nA, nc, nodes, sA, sc, rs⟩ := v
  obtain ⟨ver2, nA2, nc2, nodes2, sA2, sc2, rs2⟩ := v2
  simp only at hver hnod hss
  subst hver hnod
  have hlen : rs.length = rs2.length := by have := congrArg List.length hss; simpa using this
  obtain ⟨N, hN⟩ : ∃ N, rs.length = N := ⟨_, rfl⟩
  have hN2 : rs2.length = N := by rw [← hlen]; exact hN
  obtain ⟨nl, hnl⟩ : ∃ nl, nodes.length = nl := ⟨_, rfl⟩
  simp only [PV.val, boxO, pm.Boxed, hN, hN2, hnl] at hwa gp gq hl1 hl2 ⊢
  have HWA := Lib.hid hwa
  have HBA := Lib.hid hba
  have GP := Lib.hid gp
  have GQ := Lib.hid gq
  have HN := Lib.hid hN
  have HN2 := Lib.hid hN2
  have HNL := Lib.hid hnl
  have HSS := Lib.hid hss
  have HRF := Lib.hid (Below.refl wa.heap.size wa)
  clear h h2 he hss hlen hwa hba gp gq hN hN2 hnl
  go_enter Tryz.func12, Tryz.ntmps12
  go_wp2_with (fail)
  rw [HWA.out]
  go_loopg [4, 5] nl (fun gg s4 s5 wr => ∃ i : Nat, s5 = .int .i64 i ∧ s4 = .bool false ∧ i ≤ nl ∧ nl - i ≤ gg ∧ Aside (Below wa.heap.size wa wr))
  case atStart => exact ⟨0, rfl, rfl, by omega, by omega, HRF.out⟩
  case round =>
    obtain ⟨i, rfl, rfl, hi, hg, HB⟩ := hrel
    have hsr := HB.out.size
    obtain ⟨⟨c0, c1, c2⟩, _⟩ := isv3_cells (blk_below HB.out GP.out (by omega))
    obtain ⟨⟨d0, d1, d2⟩, _⟩ := isv3_cells (blk_below HB.out GQ.out (by omega))
    have hw1 : w.heap.size < wr.heap.size := by omega
    have hw2 : w.heap.size + 1 < wr.heap.size := by omega
    by_cases hlt : i < nl
    · have hltz : (i : Int) < (nl : Int) := by omega
      have i0 : (0 : Int) ≤ (i : Int) := by omega
      obtain ⟨x, hx⟩ : ∃ x, nodes[i]? = some x := ⟨_, List.getElem?_eq_getElem (by rw [HNL.out]; exact hlt)⟩
      obtain ⟨b, off, hA, hb, l0⟩ := num_at (HH.out wr HB.out).n hx
      obtain ⟨b2, off2, hA2, hb2, l1⟩ := num_at (HH2.out wr HB.out).n hx
      simp only at hA hA2
      subst hA hA2
      have hbw : b < wr.heap.size := by omega
      have hbw2 : b2 < wr.heap.size := by omega
      have hxx : (x != x) = false := by simp
      clear hx
      go_wp2_with (fail)
      have q1 := Wb.at_ c1
      have q2 := Wb.at_ d1
      have q3 := Wb.at_ l0
      have q4 := Wb.at_ l1
      refine wp_region_plan [([0, 1, 2, 3, 4, 5, 6, 7, 8, 9, 10], none)] (by kernel_rfl) (by kernel_rfl) ?_
      refine seg_end _ (by dsimp only [pick, ord.at_]) ?_
      repeat (go_big_quiet_step (fail))
      refine wpQuiet_nil ?_
      refine NoPanic.normal ?_
      clear q1 q2 q3 q4 c0 c1 c2 d0 d1 d2 l0 l1
      go_wp2_with (fail)
      go_roundg (nl - (i + 1))
      case measure => omega
      case rel => exact ⟨i + 1, by go_num, rfl, by omega, by omega, HB.out.drew⟩
    · obtain rfl : i = nl := by omega
      have hltz : ¬ (i : Int) < (i : Int) := by omega
      obtain ⟨w1, hw1e⟩ : ∃ w1, w1 = wr := ⟨wr, rfl⟩
      obtain rfl := hw1e
      go_wp2_with (fail)
      clear c0 c1 c2 d0 d1 d2
      go_loopg [4, 6, 7] N (fun gg s4 s6 s7 wq => ∃ i : Nat, s6 = .int .i64 i ∧ s4 = .bool false ∧ i ≤ N ∧ N - i ≤ gg ∧ Aside (Below wa.heap.size wa wq))
      case atStart => exact ⟨0, rfl, rfl, by omega, by omega, HB.out⟩
      case round =>
        obtain ⟨j, rfl, rfl, hj, hg2, HB2⟩ := hrel
        have hsr2 := HB2.out.size
        obtain ⟨⟨c0, c1, c2⟩, _⟩ := isv3_cells (blk_below HB2.out GP.out (by omega))
        obtain ⟨⟨d0, d1, d2⟩, _⟩ := isv3_cells (blk_below HB2.out GQ.out (by omega))
        have hw3 : w.heap.size < wr.heap.size := by omega
        have hw4 : w.heap.size + 1 < wr.heap.size := by omega
        by_cases hlt2 : j < N
        · have hltz2 : (j : Int) < (N : Int) := by omega
          have j0 : (0 : Int) ≤ (j : Int) := by omega
          obtain ⟨r, hr⟩ : ∃ r, rs[j]? = some r := ⟨_, List.getElem?_eq_getElem (by rw [HN.out]; exact hlt2)⟩
          obtain ⟨r2, hr2⟩ : ∃ r2, rs2[j]? = some r2 := ⟨_, List.getElem?_eq_getElem (by rw [HN2.out]; exact hlt2)⟩
          have hrr : r.l = r2.l := by
            have h1 : (rs.map (·.l))[j]? = some r.l := by simp [hr]
            have h2 : (rs2.map (·.l))[j]? = some r2.l := by simp [hr2]
            rw [HSS.out, h2] at h1
            exact (Option.some.inj h1).symm
          obtain ⟨b, off, hA, hb, l0, ho⟩ := (HH.out wr HB2.out).s.at_ hr
          obtain ⟨b2, off2, hA2, hb2, l1, ho2⟩ := (HH2.out wr HB2.out).s.at_ hr2
          simp only at hA hA2
          subst hA hA2
          have hbw : b < wr.heap.size := by omega
          have hbw2 : b2 < wr.heap.size := by omega
          have HO := Lib.hid (show ∀ u, Below wr.heap.size wr u → Ls OE u B r.A r.l.length r.l from fun u hu => (ho.below hu (by omega)).ls)
          have HO2 := Lib.hid (show ∀ u, Below wr.heap.size wr u → Ls OE u B r2.A r.l.length r.l from fun u hu => by rw [hrr]; exact (ho2.below hu (by omega)).ls)
          have hol := ho.len
          obtain ⟨rA, rc, L⟩ := r
          obtain ⟨rA2, rc2, L2⟩ := r2
          simp only at hrr
          subst hrr
          obtain ⟨m, hm⟩ : ∃ m, L.length = m := ⟨_, rfl⟩
          simp only [Rw3.val, hm] at l0 l1 HO HO2 hol
          have HM := Lib.hid hm
          have L0 := Lib.hid (fun (u : World) (hu : Below wr.heap.size wr u) => (hu.cell (p := ⟨b, off + j, none⟩) hbw).trans l0)
          have L1 := Lib.hid (fun (u : World) (hu : Below wr.heap.size wr u) => (hu.cell (p := ⟨b2, off2 + j, none⟩) hbw2).trans l1)
          have hmm : ((m : Int) != (m : Int)) = false := by simp
          have HR0 := Lib.hid (Below.refl wr.heap.size wr).drew
          clear hr hr2 ho ho2 hm
          go_wp2_with (fail)
          have q1 := Wb.at_ c2
          have q2 := Wb.at_ d2
          have q3 := Wb.at_ l0
          have q4 := Wb.at_ l1
          refine wp_region_plan [([0, 1, 2, 3, 4, 5, 6, 7, 8, 9, 10, 11, 12], none)] (by kernel_rfl) (by kernel_rfl) ?_
          refine seg_end _ (by dsimp only [pick, ord.at_]) ?_
          repeat (go_big_quiet_step (fail))
          refine wpQuiet_nil ?_
          refine NoPanic.normal ?_
          clear q1 q2 q3 q4 c0 c1 c2 d0 d1 d2 l0 l1
          obtain ⟨wv, hwv⟩ : ∃ wv, wv = wr := ⟨wr, rfl⟩
          obtain rfl := hwv
          go_wp2_with (fail)
          go_loopg [4, 7] m (fun gg3 s4 s7 wz => ∃ k : Nat, s7 = .int .i64 k ∧ s4 = .bool false ∧ k ≤ m ∧ m - k ≤ gg3 ∧ Aside (Below wv.heap.size wv wz))
          case atStart => exact ⟨0, rfl, rfl, by omega, by omega, HR0.out⟩
          case round =>
            obtain ⟨k, rfl, rfl, hk, hg3, HB3⟩ := hrel
            have hsr3 := HB3.out.size
            have HB23 := Lib.hid (HB2.out.trans (HB3.out.mono hsr2))
            obtain ⟨⟨c0, c1, c2⟩, _⟩ := isv3_cells (blk_below HB23.out GP.out (by omega))
            obtain ⟨⟨d0, d1, d2⟩, _⟩ := isv3_cells (blk_below HB23.out GQ.out (by omega))
            have l0 := L0.out wr HB3.out
            have l1 := L1.out wr HB3.out
            have hw5 : w.heap.size < wr.heap.size := by omega
            have hw6 : w.heap.size + 1 < wr.heap.size := by omega
            have hbw5 : b < wr.heap.size := by omega
            have hbw6 : b2 < wr.heap.size := by omega
            by_cases hlt3 : k < m
            · have hltz3 : (k : Int) < (m : Int) := by omega
              have k0 : (0 : Int) ≤ (k : Int) := by omega
              obtain ⟨x, hx⟩ : ∃ x, L[k]? = some x := ⟨_, List.getElem?_eq_getElem (by rw [HM.out]; exact hlt3)⟩
              obtain ⟨b3, off3, hA3, hb3, y0, y1, y2⟩ := own_at (HO.out wr HB3.out) hx
              obtain ⟨b4, off4, hA4, hb4, z0, z1, z2⟩ := own_at (HO2.out wr HB3.out) hx
              obtain ⟨x1, x2, x3⟩ := x
              subst hA3 hA4
              simp only at y0 y1 y2 z0 z1 z2
              have hbw7 : b3 < wr.heap.size := by omega
              have hbw8 : b4 < wr.heap.size := by omega
              have hE : ∀ u : World, (binOp .neq 68 (.agg #[.int .i64 x1, .int .i64 x2, .int .i64 x3]) (.agg #[.int .i64 x1, .int .i64 x2, .int .i64 x3])).run Tryz.prog u = .ok (.bool false) u := fun u => neq_owner_k x1 x2 x3 u
              have hG := guard_owner
              clear hx
              go_wp2_with (fail)
              have q1 := Wb.at_ c2
              have q2 := Wb.at_ d2
              have q3 := Wb.at_ l0
              have q4 := Wb.at_ l1
              have q5 := Wb.at_ y0
              have q6 := Wb.at_ y1
              have q7 := Wb.at_ y2
              have q8 := Wb.at_ z0
              have q9 := Wb.at_ z1
              have q10 := Wb.at_ z2
              refine wp_region_plan [([0, 1, 2, 3, 4, 5, 6, 7, 8, 9, 10, 11, 12, 13, 14, 15, 16], none)] (by kernel_rfl) (by kernel_rfl) ?_
              refine seg_end _ (by dsimp only [pick, ord.at_]) ?_
              repeat (go_big_quiet_step (fail))
              refine wpQuiet_nil ?_
              refine NoPanic.normal ?_
              clear q1 q2 q3 q4 q5 q6 q7 q8 q9 q10 hE hG c0 c1 c2 d0 d1 d2 l0 l1 y0 y1 y2 z0 z1 z2
              go_wp2_with (fail)
              go_roundg (m - (k + 1))
              case measure => omega
              case rel => exact ⟨k + 1, by go_num, rfl, by omega, by omega, HB3.out.drew⟩
            · obtain rfl : k = m := by omega
              have hltz3 : ¬ (k : Int) < (k : Int) := by omega
              go_wp2_with (fail)
              go_roundg (N - (j + 1))
              case measure => omega
              case rel => exact ⟨j + 1, by go_num, rfl, by omega, by omega, HB23.out⟩
        · obtain rfl : j = N := by omega
          have hltz2 : ¬ (j : Int) < (j : Int) := by omega
          have HBW := Lib.hid (HBA.out.trans (HB2.out.mono HBA.out.size))
          go_wp2_with (fail)
          go_ret
          exact ⟨rfl, HBW.out⟩
end Go.Proofs.YtnjdondkggkfoaaGreat.kv
