/-
  Placements: the law's first that comes.
-/
import Derived.Test.YtnpkhkhchimcnaaPmRefB
import Derived.Test.YtnpkhkhchimcnaaPmD
namespace Go.Proofs.Ytnpkhkhchimcnaa.pm
open Go.ChangeShapes Go.WideShapes Go.ChangeAt Go.RowKit Go.Shelf plain words ord mem

/-- the first shard with one that comes, and who that is -/
def pend (ss : List (List O)) : Int × Int := if busy ss then ((ss.findIdx coming : Nat), ((at_ ss (ss.findIdx coming)).find? fun o => o.2.1 == 1).elim 0 (·.1)) else (-1, -1)
theorem find_first {α : Type} {p : α → Bool} {l : List α} {k : Nat} {x : α} (hx : l[k]? = some x) (hp : p x = true) (h : ∀ (j : Nat) (y : α), j < k → l[j]? = some y → p y = false) : l.find? p = some x ∧ l.findIdx p = k := by
  obtain ⟨hk, rfl⟩ := List.getElem?_eq_some_iff.1 hx
  refine ⟨?_, (List.findIdx_eq hk).2 ⟨hp, fun j hj => h j _ hj (List.getElem?_eq_getElem (by omega))⟩⟩
  rw [List.find?_eq_some_iff_getElem]
  exact ⟨hp, k, hk, rfl, fun j hj => by simp [h j _ hj (List.getElem?_eq_getElem (by omega))]⟩
theorem pend_hit {ss : List (List O)} {i k : Nat} {l : List O} {o : O} (hl : ss[i]? = some l) (ho : l[k]? = some o) (h1 : (o.2.1 == 1) = true) (hi : ∀ (j : Nat) (y : List O), j < i → ss[j]? = some y → coming y = false)
    (hk : ∀ (j : Nat) (y : O), j < k → l[j]? = some y → (y.2.1 == 1) = false) : pend ss = ((i : Int), o.1) := by
  have hc : coming l = true := any_hit ho h1
  have hf := (find_first hl hc hi).2
  have hat : at_ ss i = l := by unfold at_; rw [hl]; rfl
  unfold pend
  rw [busy_hit hl hc, if_pos rfl, hf, hat, (find_first (p := fun o : O => o.2.1 == 1) ho h1 hk).1]
  rfl
theorem pend_none {ss : List (List O)} (h : busy ss = false) : pend ss = (-1, -1) := by unfold pend; rw [h]; rfl
/-- where one comes, it is told -/
theorem pend_some {ss : List (List O)} (h : busy ss = true) : ∃ (i : Nat) (l : List O) (n f : Int), pend ss = ((i : Int), n) ∧ ss[i]? = some l ∧ (n, 1, f) ∈ l := by
  have hi : ss.findIdx coming < ss.length := List.findIdx_lt_length.2 (by obtain ⟨x, hx, hp⟩ := List.any_eq_true.1 h; exact ⟨x, hx, hp⟩)
  have hl : ss[ss.findIdx coming]? = some ss[ss.findIdx coming] := List.getElem?_eq_getElem hi
  have hat : at_ ss (ss.findIdx coming) = ss[ss.findIdx coming] := by unfold at_; rw [hl]; rfl
  have hc : coming ss[ss.findIdx coming] = true := List.findIdx_getElem
  cases hf : (ss[ss.findIdx coming]).find? (fun o => o.2.1 == 1) with
  | none =>
    obtain ⟨x, hx, hp⟩ := List.any_eq_true.1 hc
    have := List.find?_eq_none.1 hf x hx
    exact absurd hp this
  | some o =>
    have h1 := List.find?_some hf
    have h2 := List.mem_of_find?_eq_some hf
    obtain ⟨n, s, f⟩ := o
    simp at h1
    subst h1
    refine ⟨_, _, n, f, ?_, hl, h2⟩
    unfold pend
    rw [h, if_pos rfl, hat, hf]
    rfl
set_option maxHeartbeats 1000000 in
theorem pending_l (w : World) (B : Nat) (v : PV) (h : PVok w B v) (hB : B ≤ w.heap.size) :
    Calls Try.prog 18 #[v.val] w fun e w' => e = .returned (.tuple #[.int .i64 (pend v.pl.ss).1, .int .i64 (pend v.pl.ss).2]) ∧ Below w.heap.size w w' := by
  obtain ⟨wa, hwa⟩ : ∃ wa, w.alloc (boxO v) = wa := ⟨_, rfl⟩
  have hba : Below w.heap.size w wa := by rw [← hwa]; exact below_al _ _
  have gp : Boxed wa w.heap.size v := by rw [← hwa]; exact alloc_new _ _
  have hl := h.len.1
  have hs := h.s.below hba hB
  have hP : v.pl.ss = v.rs.map (·.l) := rfl
  obtain ⟨ss, hss⟩ : ∃ ss, v.pl.ss = ss := ⟨_, rfl⟩
  rw [hss] at hP ⊢
  clear h hss
  obtain ⟨ver, nA, nc, nodes, sA, sc, rs⟩ := v
  obtain ⟨N, hN⟩ : ∃ N, rs.length = N := ⟨_, rfl⟩
  obtain ⟨nl, hnl⟩ : ∃ nl, nodes.length = nl := ⟨_, rfl⟩
  simp only [PV.val, boxO, Boxed, hN, hnl] at hl hwa gp hs hP ⊢
  have hpw : w.heap.size < wa.heap.size := blk_lt gp
  obtain ⟨⟨c0, c1, c2⟩, _⟩ := isv3_cells gp
  have HWA := Lib.hid hwa
  have HBA := Lib.hid hba
  have HS := Lib.hid hs
  have HP := Lib.hid hP
  have HN := Lib.hid hN
  clear hwa hba gp hs hP hnl hN c0 c1
  go_enter Try.func18, Try.ntmps18
  go_wp2_with (fail)
  rw [HWA.out]
  go_loopg [2, 3, 4, 5] N (fun gg s2 s3 s4 s5 wr => ∃ i : Nat, s4 = .int .i64 i ∧ i ≤ N ∧ N - i ≤ gg ∧ s2 = .int .i64 0 ∧ s3 = .int .i64 0 ∧ Aside (∀ (j : Nat) (y : List O), j < i → ss[j]? = some y → coming y = false) ∧ wr = wa)
  case atStart => exact ⟨0, rfl, by omega, by omega, rfl, rfl, fun j y hj => by omega, rfl⟩
  case round =>
    obtain ⟨i, rfl, hi, hg, rfl, rfl, HU, rfl⟩ := hrel
    by_cases hlt : i < N
    · have hltz : (i : Int) < (N : Int) := by omega
      obtain ⟨r, hr⟩ : ∃ r, rs[i]? = some r := ⟨_, List.getElem?_eq_getElem (by rw [HN.out]; exact hlt)⟩
      obtain ⟨b, off, rfl, hb, l0, ho⟩ := HS.out.at_ hr
      have hbw : b < wr.heap.size := by omega
      have HL := Lib.hid (show ss[i]? = some r.l by rw [HP.out]; simp [hr])
      obtain ⟨rA, rc, rl⟩ := r
      rw [show Rw3.val ⟨rA, rc, rl⟩ = .slice rA rl.length rc from rfl] at l0
      have hol := ho.len
      simp only at hol HL
      obtain ⟨m, hm⟩ : ∃ m, rl.length = m := ⟨_, rfl⟩
      rw [hm] at l0 hol
      have HO := Lib.hid (show Ls OE wr B rA m rl from hm ▸ ho.ls)
      clear hr ho
      go_wp2_with (fail)
      go_loopg [2, 3, 5] m (fun gg2 t2 t3 t5 wq => ∃ k : Nat, t5 = .int .i64 k ∧ k ≤ m ∧ m - k ≤ gg2 ∧ t2 = .int .i64 0 ∧ t3 = .int .i64 0 ∧ Aside (∀ (j : Nat) (y : O), j < k → rl[j]? = some y → (y.2.1 == 1) = false) ∧ wq = wr)
      case atStart => exact ⟨0, rfl, by omega, by omega, rfl, rfl, fun j y hj => by omega, rfl⟩
      case round =>
        obtain ⟨k, rfl, hk, hg2, rfl, rfl, HU2, rfl⟩ := hrel
        by_cases hlt2 : k < m
        · have hltz2 : (k : Int) < (m : Int) := by omega
          have i0 : (0 : Int) ≤ (i : Int) := by omega
          have k0 : (0 : Int) ≤ (k : Int) := by omega
          obtain ⟨x, hx⟩ := HO.out.get hlt2
          obtain ⟨b2, off2, rfl, hb2, l1, l2, l3⟩ := own_at HO.out hx
          have hbw2 : b2 < wr.heap.size := by omega
          have HX := Lib.hid hx
          obtain ⟨x1, x2, x3⟩ := x
          simp only at l1 l2 l3
          clear hx
          by_cases hq : x2 = 1
          · have t : (x2 == 1) = true := by simp [hq]
            have HQ := Lib.hid (pend_hit HL.out HX.out t HU.out HU2.out)
            clear hq
            go_wp2_with (fail)
            have q0 := Wb.at_ c2
            have q1 := Wb.at_ l0
            have q2 := Wb.at_ l1
            refine wp_region_plan [([0, 1, 2, 3, 4, 5, 6, 7, 8, 9, 10, 11], none)] (by kernel_rfl) (by kernel_rfl) ?_
            refine seg_end _ (by dsimp only [pick, ord.at_]) ?_
            repeat (go_big_quiet_step (fail))
            refine wpQuiet_nil ?_
            refine NoPanic.normal ?_
            clear q0 q1 q2
            go_wp2_with (fail)
            (try simp only [Exit.inBlock, Exit.then])
            refine bodyPost_ret (results_tmp2 rfl _ _ _) rfl ?_
            rw [HQ.out]
            exact ⟨rfl, HBA.out.drew⟩
          · have t : (x2 == 1) = false := by simp [hq]
            have HU3 := Lib.hid (below_step (p := fun o : O => o.2.1 == 1) HX.out t HU2.out)
            clear hq
            go_wp2_with (fail)
            go_roundg (m - (k + 1))
            case measure => omega
            case rel => exact ⟨k + 1, by go_num, by omega, by omega, rfl, rfl, HU3.out, rfl⟩
        · obtain rfl : k = m := by omega
          have hltz2 : ¬ (k : Int) < (k : Int) := by omega
          have HU3 := Lib.hid (below_step (p := coming) HL.out (show coming rl = false from below_all hm HU2.out) HU.out)
          go_wp2_with (fail)
          go_roundg (N - (i + 1))
          case measure => omega
          case rel => exact ⟨i + 1, by go_num, by omega, by omega, rfl, rfl, HU3.out, rfl⟩
    · obtain rfl : i = N := by omega
      have hltz : ¬ (i : Int) < (i : Int) := by omega
      have HQ := Lib.hid (show pend ss = (-1, -1) from pend_none (show busy ss = false from below_all (by rw [HP.out, List.length_map, HN.out]) HU.out))
      go_wp2_with (fail)
      (try simp only [Exit.inBlock, Exit.then])
      refine bodyPost_ret (results_tmp2 rfl _ _ _) rfl ?_
      rw [HQ.out]
      exact ⟨rfl, HBA.out⟩
end Go.Proofs.Ytnpkhkhchimcnaa.pm
