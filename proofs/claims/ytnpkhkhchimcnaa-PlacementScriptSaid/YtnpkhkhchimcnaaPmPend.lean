/-
  Placements: the law's first that comes.
-/
import Derived.Test.YtnpkhkhchimcnaaPmRefB
import Derived.Test.YtnpkhkhchimcnaaPmD
namespace Go.Proofs.Ytnpkhkhchimcnaa.pm
open Go.ChangeShapes Go.WideShapes Go.ChangeAt Go.RowKit Go.Shelf plain words ord mem

/-- the first shard with one that comes, and who that is -/
def pend (ss : List (List O)) : Int × Int := if busy ss then ((ss.findIdx coming : Nat), ((at_ ss (ss.findIdx coming)).find? fun o => o.2.1 == 1).elim 0 (·.1)) else (-1, -1)
theorem find_first {α : Type} {p : α → Bool} {l : List α} {k : Nat} {x : α} (hx : l[k]? = some x) (hp : p x = true) (h : ∀ (j : Nat) (y : α), j < k → l[j]? = some y → p y = false) : l.find? p = some x ∧ l.findIdx p = k := by
  obtain ⟨hk, rfl⟩ := List.getElem?_eq_some_iff.1 hx
  refine ⟨?_, (List.findIdx_eq hk).2 ⟨hp, fun j hj => h j _ hj (List.getElem?_eq_getElem (by omega))⟩⟩
  rw [List.find?_eq_some_iff_getElem]
  exact ⟨hp, k, hk, rfl, fun j hj => by simp [h j _ hj (List.getElem?_eq_getElem (by omega))]⟩
theorem pend_hit {ss : List (List O)} {i k : Nat} {l : List O} {o : O} (hl : ss[i]? = some l) (ho : l[k]? = some o) (h1 : (o.2.1 == 1) = true) (hi : ∀ (j : Nat) (y : List O), j < i → ss[j]? = some y → coming y = false)
    (hk : ∀ (j : Nat) (y : O), j < k → l[j]? = some y → (y.2.1 == 1) = false) : pend ss = ((i : Int), o.1) := by
  have hc : coming l = true := any_hit ho h1
  have hf := (find_first hl hc hi).2
  have hat : at_ ss i = l := by unfold at_; rw [hl]; rfl
  unfold pend
  rw [busy_hit hl hc, if_pos rfl, hf, hat, (find_first (p := fun o : O => o.2.1 == 1) ho h1 hk).1]
  rfl
theorem pend_none {ss : List (List O)} (h : busy ss = false) : pend ss = (-1, -1) := by unfold pend; rw [h]; rfl
/-- where one comes, it is told -/
theorem pend_some {ss : List (List O)} (h : busy ss = true) : ∃ (i : Nat) (l : List O) (n f : Int), pend ss = ((i : Int), n) ∧ ss[i]? = some l ∧ (n, 1, f) ∈ l := by
  have hi : ss.findIdx coming < ss.length := List.findIdx_lt_length.2 (by obtain ⟨x, hx, hp⟩ := List.any_eq_true.1 h; exact ⟨x, hx, hp⟩)
  have hl : ss[ss.findIdx coming]? = some ss[ss.findIdx coming] := List.getElem?_eq_getElem hi
  have hat : at_ ss (ss.findIdx coming) = ss[ss.findIdx coming] := by unfold at_; rw [hl]; rfl
  have hc : coming ss[ss.findIdx coming] = true := List.findIdx_getElem
  cases hf : (ss[ss.findIdx coming]).find? (fun o => o.2.1 == 1) with
  | none =>
    obtain ⟨x, hx, hp⟩ := List.any_eq_true.1 hc
    have := List.find?_eq_none.1 hf x hx
    exact absurd hp this
  | some o =>
    have h1 := List.find?_some hf
    have h2 := List.mem_of_find?_eq_some hf
    obtain ⟨n, s, f⟩ := o
    simp at h1
    subst h1
    refine ⟨_, _, n, f, ?_, hl, h2⟩
    unfold pend
    rw [h, if_pos rfl, hat, hf]
    rfl
set_option maxHeartbeats 1000000 in
theorem pending_l (w : World) (B : Nat) (v : PV) (h : PVok w B v) (hB : B ≤ w.heap.size) :
    Calls Try.prog 18 #[v.val] w fun e w' => e = .returned (.tuple #[.int .i64 (pend v.pl.ss).1, .int .i64 (pend v.pl.ss).2]) ∧ Below w.heap.size w w' := by
  obtain ⟨wa, hwa⟩ : ∃ wa, w.alloc (boxO v) = wa := ⟨_, rfl⟩
  have hba : Below w.heap.size w wa := by rw [← hwa]; exact below_al _ _
  have gp : Boxed wa w.heap.size v := by rw [← hwa]; exact alloc_new _ _
  have hl := h.len.1
  have hs := h.s.below hba hB
  have hP : v.pl.ss = v.rs.map (·.l) := rfl
  obtain ⟨ss, hss⟩ : ∃ ss, v.pl.ss = ss := ⟨_, rfl⟩
  rw [hss] at hP ⊢
  clear h hss
  obtain ⟨ver, nA, nc, nodes, sA, sc, rs⟩ := v
  obtain ⟨N, hN⟩ : ∃ N, rs.length = N := ⟨_, rfl⟩
  obtain ⟨nl, hnl⟩ : ∃ nl, nodes.length = nl := ⟨_, rfl⟩
  simp only [PV.val, boxO, Boxed, hN, hnl] at hl hwa gp hs hP ⊢
  have hpw : w.heap.size < wa.heap.size := blk_lt gp
  obtain ⟨⟨c0, c1, c2⟩, _⟩ := isv3_cells gp
  have HWA := Lib.hid hwa
  have HBA := Lib.hid hba
  have HS := Lib.hid hs
  have HP := Lib.hid hP
  have HN := Lib.hid hN
  clear hwa hba gp hs hP hnl hN c0 c1
  go_enter Try.func18, Try.ntmps18
  go_wp2_with (fail)
  rw [HWA.out]
  go_loopg [2, 3, 4, 5] N (fun gg s2 s3 s4 s5 wr => ∃ i : Nat, s4 = .int .i64 i ∧ i ≤ N ∧ N - i ≤ gg ∧ s2 = .int .i64 0 ∧ s3 = .int .i64 0 ∧ Aside (∀ (j : Nat) (y : List O), j < i → ss[j]? = some y → coming y = false) ∧ wr = wa)
  case atStart => exact ⟨0, rfl, by omega, by omega, rfl, rfl, fun j y hj => by omega, rfl⟩
  case round =>
    obtain ⟨i, rfl, hi, hg, rfl, rfl, HU, rfl⟩ := hrel
    by_cases hlt : i < N
    · have hltz : (i : Int) < (N : Int) := by omega
      obtain ⟨r, hr⟩ : ∃ r, rs[i]? = some r := ⟨_, List.getElem?_eq_getElem (by rw [HN.out]; exact hlt)⟩
      obtain ⟨b, off, rfl, hb, l0, ho⟩ := HS.out.at_ hr
      have hbw : b < wr.heap.size := by omega
      have HL := Lib.hid (show ss[i]? = some r.l by rw [HP.out]; simp [hr])
      obtain ⟨rA, rc, rl⟩ := r
      rw [show Rw3.val ⟨rA, rc, rl⟩ = .slice rA rl.length rc from rfl] at l0
      have hol := ho.len
      simp only at hol HL
      obtain ⟨m, hm⟩ : ∃ m, rl.length = m := ⟨_, rfl⟩
      rw [hm] at l0 hol
      have HO := Lib.hid (show Ls OE wr B rA m rl from hm ▸ ho.ls)
      clear hr ho
      go_wp2_with (fail)
      go_loopg [2, 3, 5] m (fun gg2 t2 t3 t5 wq => ∃ k : Nat, t5 = .int .i64 k ∧ k ≤ m ∧ m - k ≤ gg2 ∧ t2 = .int .i64 0 ∧ t3 = .int .i64 0 ∧ Aside (∀ (j : Nat) (y : O), j < k → rl[j]? = some y → (y.2.1 == 1) = false) ∧ wq = wr)
      case atStart => exact ⟨0, rfl, by omega, by omega, rfl, rfl, fun j y hj => by omega, rfl⟩
      case round =>
        obtain ⟨k, rfl, hk, hg2, rfl, rfl, HU2, rfl⟩ := hrel
        by_cases hlt2 : k < m
        · have hltz2 : (k : Int) < (m : Int) := by omega
          have i0 : (0 : Int) ≤ (i : Int) := by omega
          have k0 : (0 : Int) ≤ (k : Int) := by omega
          obtain ⟨x, hx⟩ := HO.out.get hlt2
          obtain ⟨b2, off2, rfl, hb2, l1, l2, l3⟩ := own_at HO.out hx
          have hbw2 : b2 < wr.heap.size := by omega
          have HX := Lib.hid hx
          obtain ⟨x1, x2, x3⟩ := x
          simp only at l1 l2 l3
          clear hx
          by_cases hq : x2 = 1
          · have t : (x2 == 1) = true := by simp [hq]
            have HQ := Lib.hid (pend_hit HL.out HX.out t HU.out HU2.out)
            clear hq
            go_wp2_with (fail)
            have q0 := Wb.at_ c2
            have q1 := Wb.at_ l0
            have q2 := Wb.at_ l1
            refine wp_region_plan [([0, 1, 2, 3, 4, 5, 6, 7, 8, 9, 10, 11], none)] (by kernel_rfl) (by kernel_rfl) ?_
            refine seg_end _ (by dsimp only [pick, ord.at_]) ?_
            repeat (go_big_quiet_step (fail))
            refine wpQuiet_nil ?_
            refine NoPanic.normal ?_
            clear q0 q1 q2
            go_wp2_with (fail)
            (try simp only [Exit.inBlock, Exit.then])
            refine bodyPost_ret (results_tmp2 rfl _ _ _) rfl ?_
            rw [HQ.out]
            exact ⟨rfl, HBA.out.drew⟩
          · have t : (x2 == 1) = false := by simp [hq]
            have HU3 := Lib.hid (below_step (p := fun o : O => o.2.1 == 1) HX.out t HU2.out)
            clear hq
            go_wp2_with (fail)
            go_roundg (m - (k + 1))
            case measure => omega
            case rel => exact ⟨k + 1, by go_num, by omega, by omega, rfl, rfl, HU3.out, rfl⟩
        · obtain rfl : k = m := by omega
          have hltz2 : ¬ (k : Int) < (k : Int) := by omega
          have HU3 := Lib.hid (below_step (p := coming) HL.out (show coming rl = false from below_all hm HU2.out) HU.out)
          go_wp2_with (fail)
          go_roundg (N - (i + 1))
          case measure => omega
          case rel => exact ⟨i + 1, by go_num, by omega, by omega, rfl, rfl, HU3.out, rfl⟩
    · obtain rfl : i = N := by omega
      have hltz : ¬ (i : Int) < (i : Int) := by omega
      have HQ := Lib.hid (show pend ss = (-1, -1) from pend_none (show busy ss = false from below_all (by rw [HP.out, List.length_map, HN.out]) HU.out))
      go_wp2_with (fail)
      (try simp only [Exit.inBlock, Exit.then])
      refine bodyPost_ret (results_tmp2 rfl _ _ _) rfl ?_
      rw [HQ.out]
      exact ⟨rfl, HBA.out⟩
end Go.Proofs.Ytnpkhkhchimcnaa.pm
/-
  Placements: the law's comparison of two that are the same.
-/
namespace Go.Proofs.Ytnpkhkhchimcnaa.pm
open Go.ChangeShapes Go.WideShapes Go.ChangeAt Go.RowKit Go.Shelf plain words ord mem

theorem neq_owner (a b c : Int) (w : World) : (binOp .neq 44 (.agg #[.int .i64 a, .int .i64 b, .int .i64 c]) (.agg #[.int .i64 a, .int .i64 b, .int .i64 c])).run Try.prog w = .ok (.bool false) w := by
  have hS : Try.prog.underlying 44 = some (.struct (Try.prog.fieldsOf 44)) := by kernel_rfl
  have hp : Try.prog.stoodInHeld 44 = false := by kernel_rfl
  have u3 := Try.underlying3
  have a3 := Try.isAgg3
  have z3 := Try.sizeOf3
  rw [run_neq_struct, show (10000 : Nat) = 9999 + 1 from rfl, run_equalIn_agg w 9999 44 _ _ hS hp]
  simp only [Program.fieldsOf, Try.underlying44]
  go_simp
set_option maxHeartbeats 4000000 in
theorem same_l (w : World) (B : Nat) (v v2 : PV) (h : PVok w B v) (h2 : PVok w B v2) (hB : B ≤ w.heap.size) (he : v.pl = v2.pl) :
    Calls Try.prog 24 #[v.val, v2.val] w fun e w' => e = .returned (.bool true) ∧ Below w.heap.size w w' := by
  obtain ⟨wa, hwa⟩ : ∃ wa, (w.alloc (boxO v)).alloc (boxO v2) = wa := ⟨_, rfl⟩
  have hba : Below w.heap.size w wa := by rw [← hwa]; exact (below_al _ _).trans ((below_al _ _).mono (by simp))
  have gp : Boxed wa w.heap.size v := by rw [← hwa]; exact alloc_old _ (alloc_new _ _)
  have gq : Boxed wa (w.heap.size + 1) v2 := by rw [← hwa]; have := alloc_new (w.alloc (boxO v)) (boxO v2); rwa [World.size_alloc] at this
  have hsa : w.heap.size + 1 < wa.heap.size := blk_lt gq
  have HH := Lib.hid (fun (u : World) (hu : Below wa.heap.size wa u) => ((h.below hba hB).below hu (by omega)))
  have HH2 := Lib.hid (fun (u : World) (hu : Below wa.heap.size wa u) => ((h2.below hba hB).below hu (by omega)))
  have hl1 := h.len.1
  have hl2 := h.len.2
  have hver : v.ver = v2.ver := congrArg Pl.ver he
  have hnod : v.nodes = v2.nodes := congrArg Pl.nodes he
  have hss : v.rs.map (·.l) = v2.rs.map (·.l) := congrArg Pl.ss he
  obtain ⟨ver, nA, nc, nodes, sA, sc, rs⟩ := v
  obtain ⟨ver2, nA2, nc2, nodes2, sA2, sc2, rs2⟩ := v2
  simp only at hver hnod hss
  subst hver hnod
  have hlen : rs.length = rs2.length := by have := congrArg List.length hss; simpa using this
  obtain ⟨N, hN⟩ : ∃ N, rs.length = N := ⟨_, rfl⟩
  have hN2 : rs2.length = N := by rw [← hlen]; exact hN
  obtain ⟨nl, hnl⟩ : ∃ nl, nodes.length = nl := ⟨_, rfl⟩
  simp only [PV.val, boxO, Boxed, hN, hN2, hnl] at hwa gp gq hl1 hl2 ⊢
  have HWA := Lib.hid hwa
  have HBA := Lib.hid hba
  have GP := Lib.hid gp
  have GQ := Lib.hid gq
  have HN := Lib.hid hN
  have HN2 := Lib.hid hN2
  have HNL := Lib.hid hnl
  have HSS := Lib.hid hss
  have HRF := Lib.hid (Below.refl wa.heap.size wa)
  clear h h2 he hss hlen hwa hba gp gq hN hN2 hnl
  go_enter Try.func24, Try.ntmps24
  go_wp2_with (fail)
  rw [HWA.out]
  go_loopg [4, 5] nl (fun gg s4 s5 wr => ∃ i : Nat, s5 = .int .i64 i ∧ s4 = .bool false ∧ i ≤ nl ∧ nl - i ≤ gg ∧ Aside (Below wa.heap.size wa wr))
  case atStart => exact ⟨0, rfl, rfl, by omega, by omega, HRF.out⟩
  case round =>
    obtain ⟨i, rfl, rfl, hi, hg, HB⟩ := hrel
    have hsr := HB.out.size
    obtain ⟨⟨c0, c1, c2⟩, _⟩ := isv3_cells (blk_below HB.out GP.out (by omega))
    obtain ⟨⟨d0, d1, d2⟩, _⟩ := isv3_cells (blk_below HB.out GQ.out (by omega))
    have hw1 : w.heap.size < wr.heap.size := by omega
    have hw2 : w.heap.size + 1 < wr.heap.size := by omega
    by_cases hlt : i < nl
    · have hltz : (i : Int) < (nl : Int) := by omega
      have i0 : (0 : Int) ≤ (i : Int) := by omega
      obtain ⟨x, hx⟩ : ∃ x, nodes[i]? = some x := ⟨_, List.getElem?_eq_getElem (by rw [HNL.out]; exact hlt)⟩
      obtain ⟨b, off, hA, hb, l0⟩ := num_at (HH.out wr HB.out).n hx
      obtain ⟨b2, off2, hA2, hb2, l1⟩ := num_at (HH2.out wr HB.out).n hx
      simp only at hA hA2
      subst hA hA2
      have hbw : b < wr.heap.size := by omega
      have hbw2 : b2 < wr.heap.size := by omega
      have hxx : (x != x) = false := by simp
      clear hx
      go_wp2_with (fail)
      have q1 := Wb.at_ c1
      have q2 := Wb.at_ d1
      have q3 := Wb.at_ l0
      have q4 := Wb.at_ l1
      refine wp_region_plan [([0, 1, 2, 3, 4, 5, 6, 7, 8, 9, 10], none)] (by kernel_rfl) (by kernel_rfl) ?_
      refine seg_end _ (by dsimp only [pick, ord.at_]) ?_
      repeat (go_big_quiet_step (fail))
      refine wpQuiet_nil ?_
      refine NoPanic.normal ?_
      clear q1 q2 q3 q4 c0 c1 c2 d0 d1 d2 l0 l1
      go_wp2_with (fail)
      go_roundg (nl - (i + 1))
      case measure => omega
      case rel => exact ⟨i + 1, by go_num, rfl, by omega, by omega, HB.out.drew⟩
    · obtain rfl : i = nl := by omega
      have hltz : ¬ (i : Int) < (i : Int) := by omega
      obtain ⟨w1, hw1e⟩ : ∃ w1, w1 = wr := ⟨wr, rfl⟩
      obtain rfl := hw1e
      go_wp2_with (fail)
      clear c0 c1 c2 d0 d1 d2
      go_loopg [4, 6, 7] N (fun gg s4 s6 s7 wq => ∃ i : Nat, s6 = .int .i64 i ∧ s4 = .bool false ∧ i ≤ N ∧ N - i ≤ gg ∧ Aside (Below wa.heap.size wa wq))
      case atStart => exact ⟨0, rfl, rfl, by omega, by omega, HB.out⟩
      case round =>
        obtain ⟨j, rfl, rfl, hj, hg2, HB2⟩ := hrel
        have hsr2 := HB2.out.size
        obtain ⟨⟨c0, c1, c2⟩, _⟩ := isv3_cells (blk_below HB2.out GP.out (by omega))
        obtain ⟨⟨d0, d1, d2⟩, _⟩ := isv3_cells (blk_below HB2.out GQ.out (by omega))
        have hw3 : w.heap.size < wr.heap.size := by omega
        have hw4 : w.heap.size + 1 < wr.heap.size := by omega
        by_cases hlt2 : j < N
        · have hltz2 : (j : Int) < (N : Int) := by omega
          have j0 : (0 : Int) ≤ (j : Int) := by omega
          obtain ⟨r, hr⟩ : ∃ r, rs[j]? = some r := ⟨_, List.getElem?_eq_getElem (by rw [HN.out]; exact hlt2)⟩
          obtain ⟨r2, hr2⟩ : ∃ r2, rs2[j]? = some r2 := ⟨_, List.getElem?_eq_getElem (by rw [HN2.out]; exact hlt2)⟩
          have hrr : r.l = r2.l := by
            have h1 : (rs.map (·.l))[j]? = some r.l := by simp [hr]
            have h2 : (rs2.map (·.l))[j]? = some r2.l := by simp [hr2]
            rw [HSS.out, h2] at h1
            exact (Option.some.inj h1).symm
          obtain ⟨b, off, hA, hb, l0, ho⟩ := (HH.out wr HB2.out).s.at_ hr
          obtain ⟨b2, off2, hA2, hb2, l1, ho2⟩ := (HH2.out wr HB2.out).s.at_ hr2
          simp only at hA hA2
          subst hA hA2
          have hbw : b < wr.heap.size := by omega
          have hbw2 : b2 < wr.heap.size := by omega
          have HO := Lib.hid (show ∀ u, Below wr.heap.size wr u → Ls OE u B r.A r.l.length r.l from fun u hu => (ho.below hu (by omega)).ls)
          have HO2 := Lib.hid (show ∀ u, Below wr.heap.size wr u → Ls OE u B r2.A r.l.length r.l from fun u hu => by rw [hrr]; exact (ho2.below hu (by omega)).ls)
          have hol := ho.len
          obtain ⟨rA, rc, L⟩ := r
          obtain ⟨rA2, rc2, L2⟩ := r2
          simp only at hrr
          subst hrr
          obtain ⟨m, hm⟩ : ∃ m, L.length = m := ⟨_, rfl⟩
          simp only [Rw3.val, hm] at l0 l1 HO HO2 hol
          have HM := Lib.hid hm
          have L0 := Lib.hid (fun (u : World) (hu : Below wr.heap.size wr u) => (hu.cell (p := ⟨b, off + j, none⟩) hbw).trans l0)
          have L1 := Lib.hid (fun (u : World) (hu : Below wr.heap.size wr u) => (hu.cell (p := ⟨b2, off2 + j, none⟩) hbw2).trans l1)
          have hmm : ((m : Int) != (m : Int)) = false := by simp
          have HR0 := Lib.hid (Below.refl wr.heap.size wr).drew
          clear hr hr2 ho ho2 hm
          go_wp2_with (fail)
          have q1 := Wb.at_ c2
          have q2 := Wb.at_ d2
          have q3 := Wb.at_ l0
          have q4 := Wb.at_ l1
          refine wp_region_plan [([0, 1, 2, 3, 4, 5, 6, 7, 8, 9, 10, 11, 12], none)] (by kernel_rfl) (by kernel_rfl) ?_
          refine seg_end _ (by dsimp only [pick, ord.at_]) ?_
          repeat (go_big_quiet_step (fail))
          refine wpQuiet_nil ?_
          refine NoPanic.normal ?_
          clear q1 q2 q3 q4 c0 c1 c2 d0 d1 d2 l0 l1
          obtain ⟨wv, hwv⟩ : ∃ wv, wv = wr := ⟨wr, rfl⟩
          obtain rfl := hwv
          go_wp2_with (fail)
          go_loopg [4, 7] m (fun gg3 s4 s7 wz => ∃ k : Nat, s7 = .int .i64 k ∧ s4 = .bool false ∧ k ≤ m ∧ m - k ≤ gg3 ∧ Aside (Below wv.heap.size wv wz))
          case atStart => exact ⟨0, rfl, rfl, by omega, by omega, HR0.out⟩
          case round =>
            obtain ⟨k, rfl, rfl, hk, hg3, HB3⟩ := hrel
            have hsr3 := HB3.out.size
            have HB23 := Lib.hid (HB2.out.trans (HB3.out.mono hsr2))
            obtain ⟨⟨c0, c1, c2⟩, _⟩ := isv3_cells (blk_below HB23.out GP.out (by omega))
            obtain ⟨⟨d0, d1, d2⟩, _⟩ := isv3_cells (blk_below HB23.out GQ.out (by omega))
            have l0 := L0.out wr HB3.out
            have l1 := L1.out wr HB3.out
            have hw5 : w.heap.size < wr.heap.size := by omega
            have hw6 : w.heap.size + 1 < wr.heap.size := by omega
            have hbw5 : b < wr.heap.size := by omega
            have hbw6 : b2 < wr.heap.size := by omega
            by_cases hlt3 : k < m
            · have hltz3 : (k : Int) < (m : Int) := by omega
              have k0 : (0 : Int) ≤ (k : Int) := by omega
              obtain ⟨x, hx⟩ : ∃ x, L[k]? = some x := ⟨_, List.getElem?_eq_getElem (by rw [HM.out]; exact hlt3)⟩
              obtain ⟨b3, off3, hA3, hb3, y0, y1, y2⟩ := own_at (HO.out wr HB3.out) hx
              obtain ⟨b4, off4, hA4, hb4, z0, z1, z2⟩ := own_at (HO2.out wr HB3.out) hx
              obtain ⟨x1, x2, x3⟩ := x
              subst hA3 hA4
              simp only at y0 y1 y2 z0 z1 z2
              have hbw7 : b3 < wr.heap.size := by omega
              have hbw8 : b4 < wr.heap.size := by omega
              have hE : ∀ u : World, (binOp .neq 44 (.agg #[.int .i64 x1, .int .i64 x2, .int .i64 x3]) (.agg #[.int .i64 x1, .int .i64 x2, .int .i64 x3])).run Try.prog u = .ok (.bool false) u := fun u => neq_owner x1 x2 x3 u
              have hG := guard_owner
              clear hx
              go_wp2_with (fail)
              have q1 := Wb.at_ c2
              have q2 := Wb.at_ d2
              have q3 := Wb.at_ l0
              have q4 := Wb.at_ l1
              have q5 := Wb.at_ y0
              have q6 := Wb.at_ y1
              have q7 := Wb.at_ y2
              have q8 := Wb.at_ z0
              have q9 := Wb.at_ z1
              have q10 := Wb.at_ z2
              refine wp_region_plan [([0, 1, 2, 3, 4, 5, 6, 7, 8, 9, 10, 11, 12, 13, 14, 15, 16], none)] (by kernel_rfl) (by kernel_rfl) ?_
              refine seg_end _ (by dsimp only [pick, ord.at_]) ?_
              repeat (go_big_quiet_step (fail))
              refine wpQuiet_nil ?_
              refine NoPanic.normal ?_
              clear q1 q2 q3 q4 q5 q6 q7 q8 q9 q10 hE hG c0 c1 c2 d0 d1 d2 l0 l1 y0 y1 y2 z0 z1 z2
              go_wp2_with (fail)
              go_roundg (m - (k + 1))
              case measure => omega
              case rel => exact ⟨k + 1, by go_num, rfl, by omega, by omega, HB3.out.drew⟩
            · obtain rfl : k = m := by omega
              have hltz3 : ¬ (k : Int) < (k : Int) := by omega
              go_wp2_with (fail)
              go_roundg (N - (j + 1))
              case measure => omega
              case rel => exact ⟨j + 1, by go_num, rfl, by omega, by omega, HB23.out⟩
        · obtain rfl : j = N := by omega
          have hltz2 : ¬ (j : Int) < (j : Int) := by omega
          have HBW := Lib.hid (HBA.out.trans (HB2.out.mono HBA.out.size))
          go_wp2_with (fail)
          go_ret
          exact ⟨rfl, HBW.out⟩
end Go.Proofs.Ytnpkhkhchimcnaa.pm
