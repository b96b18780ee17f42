/-
  Placements: the document's node, has, Find, Owns, Load; the library's Index and Contains at numbers.
-/
import Derived.Test.YtnpkhkhchimcnaaPmFind
namespace Go.Proofs.Ytnpkhkhchimcnaa.pm
open Go.ChangeShapes Go.WideShapes Go.ChangeAt Go.RowKit Go.Shelf plain words ord mem

theorem any_hit {α : Type} {l : List α} {p : α → Bool} {i : Nat} {x : α} (h : l[i]? = some x) (hp : p x = true) : l.any p = true := List.any_eq_true.2 ⟨x, List.mem_of_getElem? h, hp⟩
theorem any_none {α : Type} {l : List α} {p : α → Bool} (h : ∀ (j : Nat) (x : α), l[j]? = some x → p x = false) : l.any p = false := by
  rw [List.any_eq_false]
  intro x hx
  obtain ⟨j, hj, rfl⟩ := List.getElem_of_mem hx
  simp [h j _ (List.getElem?_eq_getElem hj)]
theorem below_step {α : Type} {l : List α} {p : α → Bool} {i : Nat} {x : α} (hx : l[i]? = some x) (hp : p x = false) (h : ∀ (j : Nat) (y : α), j < i → l[j]? = some y → p y = false) : ∀ (j : Nat) (y : α), j < i + 1 → l[j]? = some y → p y = false := fun j y hj hy => by
  rcases Nat.lt_or_ge j i with h1 | h1
  · exact h j y h1 hy
  · obtain rfl : j = i := by omega
    rw [hx] at hy; cases hy; exact hp
theorem below_all {α : Type} {l : List α} {p : α → Bool} {n : Nat} (hn : l.length = n) (h : ∀ (j : Nat) (y : α), j < n → l[j]? = some y → p y = false) : l.any p = false := any_none fun j x hx => by
  refine h j x ?_ hx
  obtain ⟨hj, _⟩ := List.getElem?_eq_some_iff.1 hx
  omega
def isNodeB (n : Int) : Bool := decide (0 ≤ n) && decide (n < 8)
theorem isNodeB_iff (n : Int) : isNodeB n = true ↔ isNode n := by simp [isNodeB, isNode]
theorem node_y (w : World) (n : Int) : Calls Try.prog 34 #[.int .i64 n] w fun e w' => e = .returned (.bool (isNodeB n)) ∧ Below w.heap.size w w' := by
  go_enter Try.func34, Try.ntmps34
  by_cases h : (0 : Int) ≤ n
  · go_wp2_with (fail)
    all_goals (go_ret; exact ⟨by simp_all [isNodeB], Below.refl _ _⟩)
  · go_wp2_with (fail)
    all_goals (go_ret; exact ⟨by simp_all [isNodeB]; try omega, Below.refl _ _⟩)
theorem has_y (w : World) (B n c : Nat) (A : Option Addr) (l : List Int) (h : Ls NE w B A n l) (hB : B ≤ w.heap.size) (hn : n ≤ 9223372036854775807) (k : Int) :
    Calls Try.prog 35 #[.slice A n c, .int .i64 k] w fun e w' => e = .returned (.bool (has l k)) ∧ Below w.heap.size w w' := by
  have HH := Lib.hid h
  have HL := Lib.hid h.1
  clear h
  go_enter Try.func35, Try.ntmps35
  go_wp2_with (fail)
  go_loopg [4, 5] n (fun gg s4 s5 wr => ∃ i : Nat, s5 = .int .i64 i ∧ i ≤ n ∧ n - i ≤ gg ∧ s4 = .bool false ∧ Aside (∀ (j : Nat) (y : Int), j < i → l[j]? = some y → (y == k) = false) ∧ Aside (Below w.heap.size w wr))
  case atStart => exact ⟨0, rfl, by omega, by omega, rfl, fun j y hj => by omega, Below.refl _ _⟩
  case round =>
    obtain ⟨i, rfl, hi, hg, rfl, HN, HB⟩ := hrel
    by_cases hlt : i < n
    · have hltz : (i : Int) < (n : Int) := by omega
      obtain ⟨x, hx⟩ := HH.out.get hlt
      have hs := HB.out.size
      obtain ⟨b, off, rfl, hb, l0⟩ := num_at (HH.out.below HB.out hB) hx
      have hbw : b < wr.heap.size := by omega
      have HX := Lib.hid hx
      clear hx
      cases hq : x == k with
      | true =>
        have HQ := Lib.hid (show has l k = true from any_hit HX.out hq)
        go_wp2_with (fail)
        go_ret
        rw [HQ.out]
        exact ⟨rfl, HB.out⟩
      | false =>
        go_wp2_with (fail)
        go_roundg (n - (i + 1))
        case measure => omega
        case rel => exact ⟨i + 1, by go_num, by omega, by omega, rfl, below_step HX.out hq HN.out, HB.out⟩
    · obtain rfl : i = n := by omega
      have hltz : ¬ (i : Int) < (i : Int) := by omega
      have HQ := Lib.hid (show has l k = false from below_all HL.out HN.out)
      go_wp2_with (fail)
      go_ret
      rw [HQ.out]
      exact ⟨rfl, HB.out⟩
theorem index_x (w : World) (B n c : Nat) (A : Option Addr) (l : List Int) (h : Ls NE w B A n l) (hB : B ≤ w.heap.size) (hn : n ≤ 9223372036854775807) (k : Int) :
    Calls Try.prog 64 #[.slice A n c, .int .i64 k] w fun e w' => (∃ z : Int, e = .returned (.int .i64 z) ∧ (decide (0 ≤ z)) = has l k) ∧ Below w.heap.size w w' := by
  have HH := Lib.hid h
  have HL := Lib.hid h.1
  clear h
  go_enter Try.func64, Try.ntmps64
  go_wp2_with (fail)
  go_loopg [4, 5, 8] n (fun gg s4 s5 s8 wr => ∃ i : Nat, s8 = .int .i64 i ∧ i ≤ n ∧ n - i ≤ gg ∧ s4 = .int .i64 0 ∧ Aside (∀ (j : Nat) (y : Int), j < i → l[j]? = some y → (y == k) = false) ∧ Aside (Below w.heap.size w wr))
  case atStart => exact ⟨0, rfl, by omega, by omega, rfl, fun j y hj => by omega, Below.refl _ _⟩
  case round =>
    obtain ⟨i, rfl, hi, hg, rfl, HN, HB⟩ := hrel
    by_cases hlt : i < n
    · have hltz : (i : Int) < (n : Int) := by omega
      obtain ⟨x, hx⟩ := HH.out.get hlt
      have hs := HB.out.size
      obtain ⟨b, off, rfl, hb, l0⟩ := num_at (HH.out.below HB.out hB) hx
      have hbw : b < wr.heap.size := by omega
      have HX := Lib.hid hx
      clear hx
      cases hq : k == x with
      | true =>
        have HQ := Lib.hid (show has l k = true from any_hit HX.out (by simp at hq ⊢; omega))
        go_wp2_with (fail)
        go_ret
        exact ⟨⟨_, rfl, by rw [HQ.out]; simp⟩, HB.out⟩
      | false =>
        have HQ := Lib.hid (show (x == k) = false by simp at hq ⊢; omega)
        go_wp2_with (fail)
        go_roundg (n - (i + 1))
        case measure => omega
        case rel => exact ⟨i + 1, by go_num, by omega, by omega, rfl, below_step HX.out HQ.out HN.out, HB.out⟩
    · obtain rfl : i = n := by omega
      have hltz : ¬ (i : Int) < (i : Int) := by omega
      have HQ := Lib.hid (show has l k = false from below_all HL.out HN.out)
      go_wp2_with (fail)
      go_ret
      exact ⟨⟨_, rfl, by rw [HQ.out]; decide⟩, HB.out⟩
theorem contains_x (w : World) (B n c : Nat) (A : Option Addr) (l : List Int) (h : Ls NE w B A n l) (hB : B ≤ w.heap.size) (hn : n ≤ 9223372036854775807) (k : Int) :
    Calls Try.prog 39 #[.slice A n c, .int .i64 k] w fun e w' => e = .returned (.bool (has l k)) ∧ Below w.heap.size w w' := by
  have HI := Lib.hid (index_x w B n c A l h hB hn k)
  clear h
  go_enter Try.func39, Try.ntmps39
  go_wp2_with (fail)
  refine HI.out.mono ?_
  rintro e w2 ⟨⟨z, rfl, hz⟩, hb⟩
  have HZ := Lib.hid hz
  have HB := Lib.hid hb
  clear hz hb HI
  by_cases h0 : (0 : Int) ≤ z
  · go_wp2_with (fail)
    go_ret
    rw [← HZ.out]
    exact ⟨by simp [h0], HB.out⟩
  · go_wp2_with (fail)
    go_ret
    rw [← HZ.out]
    exact ⟨by simp [h0], HB.out⟩
set_option maxHeartbeats 1000000 in
theorem rfind_y (w : World) (B : Nat) (v : PV) (h : PVok w B v) (hB : B ≤ w.heap.size) (s n : Int) :
    Calls Try.prog 23 #[v.val, .int .i64 s, .int .i64 n] w fun e w' => e = .returned (.tuple #[oV (fnd (byNode n) (shardAt v.pl.ss s)), .bool (fis (byNode n) (shardAt v.pl.ss s))]) ∧ Below w.heap.size w w' := by
  obtain ⟨ver, nA, nc, nodes, sA, sc, rs⟩ := v
  obtain ⟨wa, hwa⟩ : ∃ wa, (w.alloc (boxO ⟨ver, nA, nc, nodes, sA, sc, rs⟩)).alloc zeroO = wa := ⟨_, rfl⟩
  have hba : Below w.heap.size w wa := by rw [← hwa]; exact (below_al _ _).alloc (by simp) _
  have gr : IsV3 44 wa (w.heap.size + 1) (.int .i64 0) (.int .i64 0) (.int .i64 0) := by rw [← hwa]; have := alloc_new (w.alloc (boxO ⟨ver, nA, nc, nodes, sA, sc, rs⟩)) zeroO; rwa [World.size_alloc] at this
  have gp : IsV3 25 wa w.heap.size (.int .i64 ver) (.slice nA nodes.length nc) (.slice sA rs.length sc) := by rw [← hwa]; exact alloc_old _ (alloc_new w _)
  have hsz : w.heap.size + 1 < wa.heap.size := blk_lt gr
  have hl := h.len.1
  obtain ⟨N, hN⟩ : ∃ N, rs.length = N := ⟨_, rfl⟩
  obtain ⟨ss, hss⟩ : ∃ ss, rs.map (·.l) = ss := ⟨_, rfl⟩
  obtain ⟨nl, hnl⟩ : ∃ nl, nodes.length = nl := ⟨_, rfl⟩
  have hsl : ss.length = N := by rw [← hss, List.length_map, hN]
  have hs := h.s
  simp only [PV.pl, PV.val, boxO, hN, hss, hnl] at hl hwa hs gp ⊢
  have HWA := Lib.hid hwa
  have HBA := Lib.hid hba
  have GR := Lib.hid gr
  have HH := Lib.hid hs
  have HN := Lib.hid hN
  have HSS := Lib.hid hss
  have HSL := Lib.hid hsl
  have HP := Lib.hid gp
  clear h hwa hba hN hss hs hnl hsl gr gp
  have HE := Lib.hid (fnd_none (p := byNode n) (l := []) (by simp))
  by_cases hneg : s < 0
  · have he := Lib.hid (shardAt_neg (ss := ss) hneg)
    go_enter Try.func23, Try.ntmps23
    go_wp2_with (fail)
    (try simp only [Exit.inBlock, Exit.then])
    rw [HWA.out]
    refine bodyPost_ret (ret_cell rfl _ _ (w.heap.size + 1) 44 _ _ _ rfl GR.out Try.underlying44 rfl sizeO) rfl ?_
    rw [he.out, HE.out.1, HE.out.2]
    exact ⟨rfl, HBA.out⟩
  · obtain ⟨k, rfl⟩ : ∃ k : Nat, s = (k : Int) := ⟨s.toNat, by omega⟩
    have hneg2 : decide ((k : Int) < 0) = false := by simp
    by_cases hout : N ≤ k
    · have he := Lib.hid (shardAt_out (ss := ss) (k := k) (by rw [HSL.out]; exact hout))
      have hge : ((N : Nat) : Int) ≤ (k : Int) := by omega
      go_enter Try.func23, Try.ntmps23
      go_wp2_with (fail)
      (try simp only [Exit.inBlock, Exit.then])
      rw [HWA.out]
      refine bodyPost_ret (ret_cell rfl _ _ (w.heap.size + 1) 44 _ _ _ rfl GR.out Try.underlying44 rfl sizeO) rfl ?_
      rw [he.out, HE.out.1, HE.out.2]
      exact ⟨rfl, HBA.out⟩
    · have hlt : k < N := by omega
      have hge : ¬ ((N : Nat) : Int) ≤ (k : Int) := by omega
      obtain ⟨r, hr⟩ : ∃ r, rs[k]? = some r := ⟨_, List.getElem?_eq_getElem (by rw [HN.out]; exact hlt)⟩
      obtain ⟨b, off, rfl, hb, l0, ho⟩ := HH.out.at_ hr
      have he := Lib.hid (shardAt_in (show ss[k]? = some r.l by rw [← HSS.out]; simp [hr]))
      obtain ⟨rA, rc, rl⟩ := r
      have hol := ho.len
      simp only at hol
      rw [show Rw3.val ⟨rA, rc, rl⟩ = .slice rA rl.length rc from rfl] at l0
      obtain ⟨m, hm⟩ : ∃ m, rl.length = m := ⟨_, rfl⟩
      rw [hm] at l0 hol
      have HO := Lib.hid (show Ls OE w B rA m rl from hm ▸ ho.ls)
      have HM := Lib.hid hm
      have hbw : b < w.heap.size := by omega
      have hbw1 : b < w.heap.size + 1 := by omega
      clear hr ho hm
      go_enter Try.func23, Try.ntmps23
      go_wp2_with (fail)
      rw [HWA.out]
      go_loopg [7, 9] m (fun gg s7 s9 wr => ∃ i : Nat, s9 = .int .i64 i ∧ i ≤ m ∧ m - i ≤ gg ∧ s7 = .bool false ∧ Aside (∀ (j : Nat) (hj : j < rl.length), j < i → byNode n rl[j] = false) ∧ wr = wa)
      case atStart => exact ⟨0, rfl, by omega, by omega, rfl, fun j hj hj2 => by omega, rfl⟩
      case round =>
        obtain ⟨i, rfl, hi, hg, rfl, HN2, rfl⟩ := hrel
        by_cases hlt2 : i < m
        · have hltz : (i : Int) < (m : Int) := by omega
          obtain ⟨x, hx⟩ := HO.out.get hlt2
          obtain ⟨b2, off2, rfl, hb2, l1, l2, l3⟩ := own_at (HO.out.below HBA.out hB) hx
          have hbw2 : b2 < wr.heap.size := by omega
          obtain ⟨x1, x2, x3⟩ := x
          have HX := Lib.hid hx
          clear hx
          cases hq : x1 == n with
          | true =>
            have HQ := Lib.hid (fnd_some HX.out (show byNode n (x1, x2, x3) = true from hq) HN2.out)
            obtain ⟨⟨c0, c1, c2⟩, f0, f1, f2⟩ := isv3_cells GR.out
            go_wp2_with (fail)
            (try simp only [Exit.inBlock, Exit.then])
            refine bodyPost_ret (ret_cell rfl _ _ (w.heap.size + 1) 44 _ _ _ rfl (set3 GR.out) Try.underlying44 rfl sizeO) rfl ?_
            rw [he.out, HQ.out.1, HQ.out.2]
            exact ⟨rfl, below_set3 HBA.out (by omega) _ _ _⟩
          | false =>
            go_wp2_with (fail)
            go_roundg (m - (i + 1))
            case measure => omega
            case rel =>
              refine ⟨i + 1, by go_num, by omega, by omega, rfl, fun j hj hj2 => ?_, rfl⟩
              rcases Nat.lt_or_ge j i with h | h
              · exact HN2.out j hj h
              · obtain rfl : j = i := by omega
                obtain ⟨_, hx2⟩ := List.getElem?_eq_some_iff.1 HX.out
                rw [hx2]; exact hq
        · obtain rfl : i = m := by omega
          have hltz : ¬ (i : Int) < (i : Int) := by omega
          have HQ := Lib.hid (fnd_none (p := byNode n) (fun j hj => HN2.out j hj (by rw [← HM.out]; exact hj)))
          obtain ⟨⟨c0, c1, c2⟩, f0, f1, f2⟩ := isv3_cells GR.out
          go_wp2_with (fail)
          (try simp only [Exit.inBlock, Exit.then])
          refine bodyPost_ret (ret_cell rfl _ _ (w.heap.size + 1) 44 _ _ _ rfl (set3 GR.out) Try.underlying44 rfl sizeO) rfl ?_
          rw [he.out, HQ.out.1, HQ.out.2]
          exact ⟨rfl, below_set3 HBA.out (by omega) _ _ _⟩
end Go.Proofs.Ytnpkhkhchimcnaa.pm
