/-
  The names of a volume's files: the program's.
-/
import Derived.Test.YtoiiaeoaenghfaaDoorFn
namespace Go.Proofs.YtoiiaeoaenghfaaDoor.fn
open Go.ChangeShapes Go.WideShapes Go.ChangeAt Go.RowKit plain words ord mem Go.Shelf

def has (P : By) : Bool := pl.contains P
theorem has_yes {P : By} {i : Nat} (hi : i < 7) (h : pa i = P) : has P = true := by
  subst h
  have h7 : i = 0 ∨ i = 1 ∨ i = 2 ∨ i = 3 ∨ i = 4 ∨ i = 5 ∨ i = 6 := by omega
  rcases h7 with rfl | rfl | rfl | rfl | rfl | rfl | rfl <;> rfl
theorem has_no {P : By} (h : ∀ j, j < 7 → pa j ≠ P) : has P = false := by
  unfold has
  rw [List.contains_eq_any_beq, List.any_eq_false]
  intro x hx
  obtain ⟨j, hj, hg⟩ := List.getElem_of_mem hx
  have := h j hj
  unfold pa at this
  rw [List.getD_eq_getElem?_getD, List.getElem?_eq_getElem hj, Option.getD_some, hg] at this
  simpa using fun e => this e.symm
def ans (a b c d : Int) (P : By) : Value := if may a b c d && has P then .tuple #[.string (tx (nameS a b c d P)), .int .i64 0] else .tuple #[.string ⟨#[]⟩, .int .i64 1]
theorem tx_neq (a b : By) : ((tx a).toList == (tx b).toList) = decide (a = b) := by
  have e : ∀ x : By, (tx x).toList = x := fun x => by unfold tx; simp [ByteArray.toList_mk]
  rw [e, e, Bool.eq_iff_iff]; simp
set_option maxRecDepth 100000 in
set_option maxHeartbeats 1000000 in
theorem Name_y (a b c d : Int) (P : By) (hP : P.length ≤ 4096) (w : World) : Calls Tryd.prog 5 #[.agg #[.int .i64 a, .int .i64 b, .int .i64 c, .int .i64 d], .string (tx P)] w fun e w' => e = .returned (ans a b c d P) ∧ Below w.heap.size w w' := by
  obtain ⟨m, hm⟩ : ∃ m, may a b c d = m := ⟨_, rfl⟩
  obtain ⟨R, hR⟩ : ∃ R, ans a b c d P = R := ⟨_, rfl⟩
  have HM := Lib.hid (fun w => may_y a b c d w)
  rw [hm] at HM
  rw [hR]
  have HHR := Lib.hid hR
  have HHM := Lib.hid hm
  have HPP := Lib.hid hP
  clear hm hR hP
  go_enter Tryd.func5, Tryd.ntmps5
  go_wp2_with (fail)
  obtain ⟨w0, hw0⟩ : ∃ wv, (w.alloc (Obj.cells #[.int .i64 a, .int .i64 b, .int .i64 c, .int .i64 d] 28)) = wv := ⟨_, rfl⟩
  have c0 : ∀ j, w0.cell? ⟨w.heap.size, j, none⟩ = (#[.int .i64 a, .int .i64 b, .int .i64 c, .int .i64 d] : Array Value)[j]? := fun j => by rw [← hw0, ca]
  have hl0 : w.heap.size < w0.heap.size := by rw [← hw0]; exact la _ _
  have HB0 := Lib.hid (show Below w.heap.size w w0 from hw0 ▸ ba _ _)
  have HC0 := Lib.hid c0
  have HL0 := Lib.hid hl0
  rw [hw0]
  clear hw0 c0 hl0
  refine (parts_y _).mono ?_
  rintro e w1 ⟨L, rfl, hc1, hL1, hb1⟩
  have HB1 := Lib.hid (HB0.out.trans (hb1.mono HB0.out.size))
  have HC1 := Lib.hid (fun j => (hb1.cell (p := ⟨w.heap.size, j, none⟩) HL0.out).trans (HC0.out j))
  have HC := Lib.hid hc1
  have HL := Lib.hid hL1
  have HL2 := Lib.hid (Nat.lt_of_lt_of_le HL0.out hb1.size)
  clear hc1 hL1 hb1
  go_wp2_with (fail)
  go_loopg [7] 7 (fun gg s7 wr => ∃ (i : Nat), s7 = .int .i64 i ∧ i ≤ 7 ∧ 7 - i ≤ gg ∧ Aside (Below w1.heap.size w1 wr) ∧ Aside (∀ j, j < i → pa j ≠ P) ∧ Aside (0 < i → m = true))
  case atStart => exact ⟨0, rfl, by omega, by omega, Below.refl _ _, fun j hj => by omega, fun h => by omega⟩
  case round =>
    obtain ⟨i, rfl, hi, hg, W, HN, HI⟩ := hrel
    obtain ⟨wv, rfl⟩ : ∃ wv, wv = wr := ⟨wr, rfl⟩
    have g0 : wv.cell? ⟨w.heap.size, 0, none⟩ = some (.int .i64 a) := (W.out.cell (p := ⟨w.heap.size, 0, none⟩) HL2.out).trans (HC1.out 0)
    have g1 : wv.cell? ⟨w.heap.size, 1, none⟩ = some (.int .i64 b) := (W.out.cell (p := ⟨w.heap.size, 1, none⟩) HL2.out).trans (HC1.out 1)
    have g2 : wv.cell? ⟨w.heap.size, 2, none⟩ = some (.int .i64 c) := (W.out.cell (p := ⟨w.heap.size, 2, none⟩) HL2.out).trans (HC1.out 2)
    have g3 : wv.cell? ⟨w.heap.size, 3, none⟩ = some (.int .i64 d) := (W.out.cell (p := ⟨w.heap.size, 3, none⟩) HL2.out).trans (HC1.out 3)
    have gl : w.heap.size < wv.heap.size := Nat.lt_of_lt_of_le HL2.out W.out.size
    by_cases hlt : i < 7
    · have i1 : (i : Int) < 7 := by omega
      have i0 : (0 : Int) ≤ (i : Int) := by omega
      cases m with
      | false =>
        go_wp2_with (go_at_call 10; refine (HM.out _).mono ?_; rintro e w2 ⟨rfl, hb2⟩; have HB2 := Lib.hid (W.out.trans (hb2.mono W.out.size)); clear hb2)
        go_ret2
        exact ⟨by rw [← HHR.out]; unfold ans; rw [HHM.out]; rfl, HB1.out.trans (HB2.out.mono HB1.out.size)⟩
      | true =>
        have FACT : ∀ w2, Below w1.heap.size w1 w2 → w2.cell? ⟨L, i, none⟩ = some (.string (tx (pa i))) ∧ L < w2.heap.size ∧ w.heap.size < w2.heap.size ∧ w2.cell? ⟨w.heap.size, 0, none⟩ = some (.int .i64 a) ∧ w2.cell? ⟨w.heap.size, 1, none⟩ = some (.int .i64 b) ∧ w2.cell? ⟨w.heap.size, 2, none⟩ = some (.int .i64 c) ∧ w2.cell? ⟨w.heap.size, 3, none⟩ = some (.int .i64 d) := fun w2 h =>
          ⟨(h.cell (p := ⟨L, i, none⟩) HL.out).trans (HC.out i hlt), Nat.lt_of_lt_of_le HL.out h.size, Nat.lt_of_lt_of_le HL2.out h.size, (h.cell (p := ⟨w.heap.size, 0, none⟩) HL2.out).trans (HC1.out 0), (h.cell (p := ⟨w.heap.size, 1, none⟩) HL2.out).trans (HC1.out 1), (h.cell (p := ⟨w.heap.size, 2, none⟩) HL2.out).trans (HC1.out 2), (h.cell (p := ⟨w.heap.size, 3, none⟩) HL2.out).trans (HC1.out 3)⟩
        have HF := Lib.hid FACT
        have hq := tx_neq (pa i) P
        clear FACT
        by_cases hE : pa i = P
        · rw [show decide (pa i = P) = true by simpa using hE] at hq
          have HHE := Lib.hid hE
          have HNY := Lib.hid (name_y a b c d HHM.out P HPP.out)
          clear hE
          go_wp2_with (first
            | (go_at_call 10; refine (HM.out _).mono ?_; rintro e w2 ⟨rfl, hb2⟩; have HB2 := Lib.hid (W.out.trans (hb2.mono W.out.size)); clear hb2; obtain ⟨k0, k1, k2, k3, k4, k5, k6⟩ := HF.out _ HB2.out)
            | (go_at_call 11; refine (HNY.out _).mono ?_; rintro e w3 ⟨rfl, hb3⟩; have HB3 := Lib.hid (HB2.out.trans (hb3.mono HB2.out.size)); clear hb3))
          go_ret2
          exact ⟨by rw [← HHR.out]; unfold ans; rw [HHM.out, has_yes hlt HHE.out]; rfl, HB1.out.trans (HB3.out.mono HB1.out.size)⟩
        · rw [show decide (pa i = P) = false by simpa using hE] at hq
          have HHE := Lib.hid hE
          clear hE
          go_wp2_with (first
            | (go_at_call 10; refine (HM.out _).mono ?_; rintro e w2 ⟨rfl, hb2⟩; have HB2 := Lib.hid (W.out.trans (hb2.mono W.out.size)); clear hb2; obtain ⟨k0, k1, k2, k3, k4, k5, k6⟩ := HF.out _ HB2.out))
          go_roundg (7 - (i + 1))
          case measure => omega
          case rel =>
            refine ⟨i + 1, by go_num, by omega, by omega, HB2.out, ?_, fun _ => by first | trivial | rfl⟩
            intro j hj
            rcases Nat.lt_or_ge j i with h' | h'
            · exact HN.out j h'
            · obtain rfl : j = i := by omega
              exact HHE.out
    · have i1 : ¬ (i : Int) < 7 := by omega
      go_wp2_with (fail)
      go_ret2
      exact ⟨by rw [← HHR.out]; unfold ans; rw [has_no (fun j hj => HN.out j (by omega)), Bool.and_false]; rfl, HB1.out.trans (W.out.mono HB1.out.size)⟩
/-! ### the program's -/
structure Lay (w : World) : Prop where
  pts : ∀ j, j < 7 → w.cell? ⟨0, j, none⟩ = some (.string (tx (pa j)))
  tab : Lib.TabIs Tryd.prog w "internal/strconv.uint64pow10" .u64 Lib.pow10Tab
theorem var_below {P : Program} {w w' : World} {n : String} {cs : Array Value} (h : w.var? P n = some cs) (hb : Below w.heap.size w w') : w'.var? P n = some cs := by
  unfold World.var? at h ⊢
  cases hg : P.globalNamed n with
  | none => simp [hg] at h
  | some g =>
    simp only [hg, Option.bind_some] at h ⊢
    have hlt : g < w.heap.size := by
      rcases Nat.lt_or_ge g w.heap.size with h' | h'
      · exact h'
      · simp [Array.getElem?_eq_none h'] at h
    rw [hb.block g hlt]
    exact h
theorem Lay.below {w w' : World} (h : Lay w) (hb : Below w.heap.size w w') : Lay w' :=
  ⟨fun j hj => (hb.cell (p := ⟨0, j, none⟩) (World.block_lt_of_cell? w _ (h.pts j hj))).trans (h.pts j hj), var_below h.tab hb⟩
theorem below_gr (w : World) (k : Nat) (os : Array Obj) : Below w.heap.size w (Go.Sort.grow (w.drewN k) os) :=
  ⟨rfl, rfl, rfl, by show w.heap.size ≤ (w.heap ++ os).size; rw [Array.size_append]; omega, fun j hj => by
    show (w.heap ++ os)[j]? = w.heap[j]?
    rw [Array.getElem?_append_left hj]⟩
theorem itoa_x (a : Int) (h : 0 ≤ a ∧ a ≤ 1099511627776) (w : World) (hl : Lay w) : Calls Tryd.prog 12 #[.int .i64 a] w fun e w' => e = .returned (.string (tx (dg a))) ∧ Below w.heap.size w w' := by
  have HI := Any.strconv_Itoa laysM171 a (by omega) (by omega) w hl.tab
  have e1 : laysM171_ren.f 171 = 12 := by rfl
  rw [e1, show a = ((a.toNat : Nat) : Int) from by omega, Lib.itoa_nonneg a.toNat] at HI
  rw [show dg a = Lib.decDigits a.toNat from rfl, show a = ((a.toNat : Nat) : Int) from by omega]
  exact HI.mono fun e w' ⟨he, k, os, hw⟩ => ⟨by rw [he]; rfl, hw ▸ below_gr _ k os⟩
set_option maxRecDepth 100000 in
theorem isPart_x (P : By) (w : World) (hl : Lay w) : Calls Tryd.prog 7 #[.string (tx P)] w fun e w' => e = .returned (.bool (has P)) ∧ w' = w := by
  have k0 := hl.pts 0 (by omega)
  have k1 := hl.pts 1 (by omega)
  have k2 := hl.pts 2 (by omega)
  have k3 := hl.pts 3 (by omega)
  have k4 := hl.pts 4 (by omega)
  have k5 := hl.pts 5 (by omega)
  have k6 := hl.pts 6 (by omega)
  have kl := World.block_lt_of_cell? w _ k0
  clear hl
  obtain ⟨m, hm⟩ : ∃ m, has P = m := ⟨_, rfl⟩
  have HM := Lib.hid hm
  rw [hm]
  clear hm
  go_enter Tryd.func7, Tryd.ntmps7
  obtain ⟨PV, hPV⟩ : ∃ PV : Array Value, #[.string (tx (pa 0)), .string (tx (pa 1)), .string (tx (pa 2)), .string (tx (pa 3)), .string (tx (pa 4)), .string (tx (pa 5)), .string (tx (pa 6))] = PV := ⟨_, rfl⟩
  have HI : ∀ i, i < 7 → ∀ u, (Instr.index 37 (.agg PV) (.int .i64 (i : Nat))).run Tryd.prog u = .ok (.string (tx (pa i))) u := by
    intro i hi u
    rw [← hPV]
    have h7 : i = 0 ∨ i = 1 ∨ i = 2 ∨ i = 3 ∨ i = 4 ∨ i = 5 ∨ i = 6 := by omega
    rcases h7 with rfl | rfl | rfl | rfl | rfl | rfl | rfl <;> (show _ = _; kernel_rfl)
  have HII := Lib.hid HI
  clear HI
  go_wp2_with (fail)
  clear k0 k1 k2 k3 k4 k5 k6 hPV
  go_loopg [6, 4, 2] 7 (fun gg s6 s4 s2 wr => ∃ (i : Nat), s6 = .int .i64 i ∧ i ≤ 7 ∧ 7 - i ≤ gg ∧ wr = w ∧ Aside (∀ j, j < i → pa j ≠ P))
  case atStart => exact ⟨0, rfl, by omega, by omega, rfl, fun j hj => by omega⟩
  case round =>
    obtain ⟨i, rfl, hi, hg, rfl, HN⟩ := hrel
    by_cases hlt : i < 7
    · have i1 : (i : Int) < 7 := by omega
      have hix := HII.out i hlt
      have hq := tx_neq (pa i) P
      by_cases hE : pa i = P
      · rw [show decide (pa i = P) = true by simpa using hE] at hq
        have HHE := Lib.hid hE
        clear hE
        go_wp2_with (fail)
        go_ret
        exact ⟨ret_bool (by rw [← HM.out, has_yes hlt HHE.out]), rfl⟩
      · rw [show decide (pa i = P) = false by simpa using hE] at hq
        have HHE := Lib.hid hE
        clear hE
        go_wp2_with (fail)
        go_roundg (7 - (i + 1))
        case measure => omega
        case rel =>
          refine ⟨i + 1, by go_num, by omega, by omega, rfl, ?_⟩
          intro j hj
          rcases Nat.lt_or_ge j i with h' | h'
          · exact HN.out j h'
          · obtain rfl : j = i := by omega
            exact HHE.out
    · have i1 : ¬ (i : Int) < 7 := by omega
      go_wp2_with (fail)
      go_ret
      exact ⟨ret_bool (by rw [← HM.out, has_no (fun j hj => HN.out j (by omega))]), rfl⟩
theorem name_eq (a b c d : Int) (P : By) : [118] ++ (Lib.join [dg a, dg b, dg c, dg d] [45]) ++ [46] ++ P = nameS a b c d P := by
  simp [Lib.join, List.intercalate, List.intersperse, nameS]
set_option maxRecDepth 100000 in
set_option maxHeartbeats 4000000 in
theorem name_x (a b c d : Int) (h : may a b c d = true) (P : By) (hP : P.length ≤ 4096) (w : World) (hlay : Lay w) : Calls Tryd.prog 8 #[.agg #[.int .i64 a, .int .i64 b, .int .i64 c, .int .i64 d], .string (tx P)] w fun e w' => e = .returned (.string (tx (nameS a b c d P))) ∧ Below w.heap.size w w' := by
  have hm := of_decide_eq_true h
  have l1 := dg_len (a := a) (by omega)
  have l2 := dg_len (a := b) (by omega)
  have l3 := dg_len (a := c) (by omega)
  have l4 := dg_len (a := d) (by omega)
  have H1 := Lib.hid (fun (w' : World) (hb : Below w.heap.size w w') => itoa_x a (by omega) w' (hlay.below hb))
  have H2 := Lib.hid (fun (w' : World) (hb : Below w.heap.size w w') => itoa_x b (by omega) w' (hlay.below hb))
  have H3 := Lib.hid (fun (w' : World) (hb : Below w.heap.size w w') => itoa_x c (by omega) w' (hlay.below hb))
  have H4 := Lib.hid (fun (w' : World) (hb : Below w.heap.size w w') => itoa_x d (by omega) w' (hlay.below hb))
  have hE := name_eq a b c d P
  clear hm h hlay
  obtain ⟨A, hA⟩ : ∃ A, dg a = A := ⟨_, rfl⟩
  obtain ⟨B, hB⟩ : ∃ B, dg b = B := ⟨_, rfl⟩
  obtain ⟨C, hC⟩ : ∃ C, dg c = C := ⟨_, rfl⟩
  obtain ⟨D, hD⟩ : ∃ D, dg d = D := ⟨_, rfl⟩
  obtain ⟨S9, k9⟩ : ∃ S, nameS a b c d P = S := ⟨_, rfl⟩
  rw [hA, hB, hC, hD, k9] at hE
  rw [k9]
  rw [hA] at H1 l1
  rw [hB] at H2 l2
  rw [hC] at H3 l3
  rw [hD] at H4 l4
  clear hA hB hC hD k9
  have hJL : (Lib.join [A, B, C, D] [45]).length ≤ 55 := by
    simp [Lib.join, List.intercalate, List.intersperse]; omega
  have HJ := Lib.hid (fun (u : World) (bk : Nat) (hc : ∀ (j : Nat) x, ([tx A, tx B, tx C, tx D] : List ByteArray)[j]? = some x → u.cell? ⟨bk, 0 + j, none⟩ = some (.string x)) (hbk : bk < u.heap.size) =>
    Any.strings_Join lays156 Builder_Extra_156 bk 0 4 [tx A, tx B, tx C, tx D] ⟨#[45]⟩ u hc hbk (by simp) (by simp) (by
      simp only [List.map_cons, List.map_nil, tx_list]
      have : (Lib.join [A, B, C, D] [45]).length ≤ 140737488355328 := by omega
      exact this))
  have e1 : lays156_ren.f 156 = 13 := by rfl
  rw [e1] at HJ
  simp only [List.map_cons, List.map_nil, tx_list, List.length_cons, List.length_nil, Nat.zero_add] at HJ
  clear e1
  obtain ⟨J, hJ⟩ : ∃ J, Lib.join [A, B, C, D] [45] = J := ⟨_, rfl⟩
  rw [hJ, show (({ data := J.toArray } : ByteArray)) = tx J from rfl] at HJ
  rw [hJ] at hE hJL
  clear hJ
  obtain ⟨S1, k1⟩ : ∃ S, ([118] : By) ++ J = S := ⟨_, rfl⟩
  obtain ⟨S2, k2⟩ : ∃ S, S1 ++ ([46] : By) = S := ⟨_, rfl⟩
  rw [k1, k2] at hE
  have n1 := congrArg List.length k1
  have n2 := congrArg List.length k2
  simp only [List.length_append, List.length_singleton] at n1 n2
  have q1 : ¬ 9223372036854775807 < 1 + J.length := by omega
  have q2 : ¬ 9223372036854775807 < S1.length + 1 := by omega
  have q3 : ¬ 9223372036854775807 < S2.length + P.length := by omega
  have z1 : (⟨#[118]⟩ : ByteArray) ++ tx J = tx S1 := (tx_add [118] J).trans (by rw [k1])
  have z2 : tx S1 ++ (⟨#[46]⟩ : ByteArray) = tx S2 := (tx_add S1 [46]).trans (by rw [k2])
  have z3 : tx S2 ++ tx P = tx S9 := (tx_add S2 P).trans (by rw [hE])
  have tz := tx_size
  clear n1 n2 k1 k2 hE hJL hP l1 l2 l3 l4
  go_enter Tryd.func8, Tryd.ntmps8
  go_wp2_with (fail)
  obtain ⟨wv, hwv⟩ : ∃ wv, (w.alloc (Obj.cells #[.int .i64 a, .int .i64 b, .int .i64 c, .int .i64 d] 23)) = wv := ⟨_, rfl⟩
  have HB0 := Lib.hid (show Below w.heap.size w wv from hwv ▸ ba _ _)
  have c0 : wv.cell? ⟨w.heap.size, 0, none⟩ = some (.int .i64 a) := by rw [← hwv, ca]; rfl
  have c1 : wv.cell? ⟨w.heap.size, 1, none⟩ = some (.int .i64 b) := by rw [← hwv, ca]; rfl
  have c2 : wv.cell? ⟨w.heap.size, 2, none⟩ = some (.int .i64 c) := by rw [← hwv, ca]; rfl
  have c3 : wv.cell? ⟨w.heap.size, 3, none⟩ = some (.int .i64 d) := by rw [← hwv, ca]; rfl
  have hl : w.heap.size < wv.heap.size := by rw [← hwv]; exact la _ _
  have p0 := Wb.at_ c0
  have p1 := Wb.at_ c1
  have p2 := Wb.at_ c2
  have p3 := Wb.at_ c3
  rw [hwv]
  clear hwv c0 c1 c2 c3
  refine wp_region_plan [([0, 1, 3, 4, 6, 7, 9, 10], some (2, false)), ([], some (5, false)), ([], some (8, false)), ([], some (11, false)), ([], some (12, false)), ([13], none)] (by kernel_rfl) (by kernel_rfl) ?_
  refine seg_act _ (by dsimp only [pick, at_]) _ (by dsimp only [pick, at_]) ?_
  repeat (go_big_quiet_step (fail))
  refine wpQuiet_nil ?_
  intro KK1 h1 h2
  clear h1 p0 p1 p2 p3
  go_wp2_with (fail)
  refine (H1.out _ HB0.out.drew).mono ?_
  rintro e w1 ⟨rfl, hb⟩
  have G1 := Lib.hid (HB0.out.trans (Below.mono ((Below.refl wv.heap.size wv).drew.trans hb) HB0.out.size))
  have HN1 := Lib.hid ((Below.refl wv.heap.size wv).drew.trans hb)
  clear hb
  go_wp2_with (fail)
  refine h2 _ _ HN1.out ?_
  clear h2
  refine seg_act _ (by dsimp only [pick, at_]) _ (by dsimp only [pick, at_]) ?_
  repeat (go_big_quiet_step (fail))
  refine wpQuiet_nil ?_
  intro KK2 h1 h2
  clear h1
  go_wp2_with (fail)
  refine (H2.out _ G1.out).mono ?_
  rintro e w2 ⟨rfl, hb⟩
  have G2 := Lib.hid (G1.out.trans (Below.mono hb G1.out.size))
  have HN2 := Lib.hid hb
  clear hb
  go_wp2_with (fail)
  refine h2 _ _ HN2.out ?_
  clear h2
  refine seg_act _ (by dsimp only [pick, at_]) _ (by dsimp only [pick, at_]) ?_
  repeat (go_big_quiet_step (fail))
  refine wpQuiet_nil ?_
  intro KK3 h1 h2
  clear h1
  go_wp2_with (fail)
  refine (H3.out _ G2.out).mono ?_
  rintro e w3 ⟨rfl, hb⟩
  have G3 := Lib.hid (G2.out.trans (Below.mono hb G2.out.size))
  have HN3 := Lib.hid hb
  clear hb
  go_wp2_with (fail)
  refine h2 _ _ HN3.out ?_
  clear h2
  refine seg_act _ (by dsimp only [pick, at_]) _ (by dsimp only [pick, at_]) ?_
  repeat (go_big_quiet_step (fail))
  refine wpQuiet_nil ?_
  intro KK4 h1 h2
  clear h1
  go_wp2_with (fail)
  refine (H4.out _ G3.out).mono ?_
  rintro e w4 ⟨rfl, hb⟩
  have G4 := Lib.hid (G3.out.trans (Below.mono hb G3.out.size))
  have HN4 := Lib.hid hb
  clear hb
  go_wp2_with (fail)
  refine h2 _ _ HN4.out ?_
  clear h2
  refine seg_act _ (by dsimp only [pick, at_]) _ (by dsimp only [pick, at_]) ?_
  repeat (go_big_quiet_step (fail))
  refine wpQuiet_nil ?_
  intro KK5 h1 h2
  clear h1
  go_wp2_with (fail)
  obtain ⟨w6, hw6⟩ : ∃ w6, (w4.alloc (Obj.cells #[.string (tx A), .string (tx B), .string (tx C), .string (tx D)] 9))= w6 := ⟨_, rfl⟩
  have HB2 := Lib.hid (show Below w4.heap.size w4 w6 from hw6 ▸ ba w4 _)
  have HL2 := Lib.hid (show w4.heap.size < w6.heap.size from hw6 ▸ la w4 _)
  have HC2 := Lib.hid (show ∀ (j : Nat) x, ([tx A, tx B, tx C, tx D] : List ByteArray)[j]? = some x → w6.cell? ⟨w4.heap.size, j, none⟩ = some (.string x) from fun j x hx => by
    rw [← hw6]
    refine (ca w4 _ _ j).trans ?_
    match j, hx with
    | 0, hx | 1, hx | 2, hx | 3, hx => cases hx; rfl)
  rw [hw6]
  clear hw6
  refine h2 _ _ HB2.out ?_
  refine seg_end _ (by dsimp only [pick, at_]) ?_
  repeat (go_big_quiet_step (fail))
  refine wpQuiet_nil ?_
  refine NoPanic.normal ?_
  clear h2
  go_wp2_with (go_at_call 13; refine (HJ.out _ _ HC2.out HL2.out).mono ?_; rintro e w7 ⟨rfl, hb3⟩; have HB3 := Lib.hid (HB2.out.trans (hb3.mono HB2.out.size)); clear hb3)
  go_ret
  exact ⟨rfl, G4.out.trans (HB3.out.mono G4.out.size)⟩
set_option maxRecDepth 100000 in
theorem Name_x (a b c d : Int) (P : By) (hP : P.length ≤ 4096) (w : World) (hlay : Lay w) : Calls Tryd.prog 4 #[.agg #[.int .i64 a, .int .i64 b, .int .i64 c, .int .i64 d], .string (tx P)] w fun e w' => e = .returned (ans a b c d P) ∧ Below w.heap.size w w' := by
  obtain ⟨R, hR⟩ : ∃ R, ans a b c d P = R := ⟨_, rfl⟩
  obtain ⟨m, hm⟩ : ∃ m, may a b c d = m := ⟨_, rfl⟩
  obtain ⟨q, hq⟩ : ∃ q, has P = q := ⟨_, rfl⟩
  have HM := Lib.hid (permitted_x a b c d)
  have HQ := Lib.hid (isPart_x P)
  have HLY := Lib.hid hlay
  have HR := Lib.hid hR
  have HHM := Lib.hid hm
  have HHQ := Lib.hid hq
  rw [hm] at HM
  rw [hq] at HQ
  rw [hR]
  have HPP := Lib.hid hP
  clear hm hq hR hlay hP
  unfold ans at HR
  rw [HHM.out, HHQ.out] at HR
  cases m <;> cases q
  case true.true =>
    have HN := Lib.hid (name_x a b c d HHM.out P HPP.out)
    go_enter Tryd.func4, Tryd.ntmps4
    go_wp2_with (fail)
    obtain ⟨wv, hwv⟩ : ∃ wv, (w.alloc (Obj.cells #[.int .i64 a, .int .i64 b, .int .i64 c, .int .i64 d] 23)) = wv := ⟨_, rfl⟩
    have HB0 := Lib.hid (show Below w.heap.size w wv from hwv ▸ ba _ _)
    have c0 : ∀ j, wv.cell? ⟨w.heap.size, j, none⟩ = (#[.int .i64 a, .int .i64 b, .int .i64 c, .int .i64 d] : Array Value)[j]? := fun j => by rw [← hwv, ca]
    have HF := Lib.hid (show ∀ w2, Below wv.heap.size wv w2 → w.heap.size < w2.heap.size ∧ w2.cell? ⟨w.heap.size, 0, none⟩ = some (.int .i64 a) ∧ w2.cell? ⟨w.heap.size, 1, none⟩ = some (.int .i64 b) ∧ w2.cell? ⟨w.heap.size, 2, none⟩ = some (.int .i64 c) ∧ w2.cell? ⟨w.heap.size, 3, none⟩ = some (.int .i64 d) from fun w2 h =>
      have hl : w.heap.size < wv.heap.size := hwv ▸ la _ _
      ⟨Nat.lt_of_lt_of_le hl h.size, (h.cell (p := ⟨w.heap.size, 0, none⟩) hl).trans (c0 0), (h.cell (p := ⟨w.heap.size, 1, none⟩) hl).trans (c0 1), (h.cell (p := ⟨w.heap.size, 2, none⟩) hl).trans (c0 2), (h.cell (p := ⟨w.heap.size, 3, none⟩) hl).trans (c0 3)⟩)
    rw [hwv]
    clear hwv c0
    obtain ⟨k0, k1, k2, k3, k4⟩ := HF.out _ (Below.refl _ _)
    go_wp2_with (first
      | (go_at_call 6; refine (HM.out _).mono ?_; rintro e w1 ⟨rfl, hb1⟩; clear k0 k1 k2 k3 k4; obtain ⟨k0, k1, k2, k3, k4⟩ := HF.out _ hb1; have HB1 := Lib.hid (HB0.out.trans (hb1.mono HB0.out.size)); have HL1 := Lib.hid (HLY.out.below HB1.out); clear hb1)
      | (go_at_call 7; refine (HQ.out _ HL1.out).mono ?_; rintro e w2 ⟨rfl, rfl⟩)
      | (go_at_call 8; refine (HN.out _ (HLY.out.below (by exact HB1.out))).mono ?_; rintro e w3 ⟨rfl, hb3⟩; have HB3 := Lib.hid (HB1.out.trans (hb3.mono HB1.out.size)); clear hb3))
    go_ret2
    exact ⟨by rw [← HR.out]; rfl, HB3.out⟩
  all_goals
    go_enter Tryd.func4, Tryd.ntmps4
    go_wp2_with (fail)
    obtain ⟨wv, hwv⟩ : ∃ wv, (w.alloc (Obj.cells #[.int .i64 a, .int .i64 b, .int .i64 c, .int .i64 d] 23)) = wv := ⟨_, rfl⟩
    have HB0 := Lib.hid (show Below w.heap.size w wv from hwv ▸ ba _ _)
    have c0 : ∀ j, wv.cell? ⟨w.heap.size, j, none⟩ = (#[.int .i64 a, .int .i64 b, .int .i64 c, .int .i64 d] : Array Value)[j]? := fun j => by rw [← hwv, ca]
    have HF := Lib.hid (show ∀ w2, Below wv.heap.size wv w2 → w.heap.size < w2.heap.size ∧ w2.cell? ⟨w.heap.size, 0, none⟩ = some (.int .i64 a) ∧ w2.cell? ⟨w.heap.size, 1, none⟩ = some (.int .i64 b) ∧ w2.cell? ⟨w.heap.size, 2, none⟩ = some (.int .i64 c) ∧ w2.cell? ⟨w.heap.size, 3, none⟩ = some (.int .i64 d) from fun w2 h =>
      have hl : w.heap.size < wv.heap.size := hwv ▸ la _ _
      ⟨Nat.lt_of_lt_of_le hl h.size, (h.cell (p := ⟨w.heap.size, 0, none⟩) hl).trans (c0 0), (h.cell (p := ⟨w.heap.size, 1, none⟩) hl).trans (c0 1), (h.cell (p := ⟨w.heap.size, 2, none⟩) hl).trans (c0 2), (h.cell (p := ⟨w.heap.size, 3, none⟩) hl).trans (c0 3)⟩)
    rw [hwv]
    clear hwv c0
    obtain ⟨k0, k1, k2, k3, k4⟩ := HF.out _ (Below.refl _ _)
    go_wp2_with (first
      | (go_at_call 6; refine (HM.out _).mono ?_; rintro e w1 ⟨rfl, hb1⟩; clear k0 k1 k2 k3 k4; obtain ⟨k0, k1, k2, k3, k4⟩ := HF.out _ hb1; have HB1 := Lib.hid (HB0.out.trans (hb1.mono HB0.out.size)); have HL1 := Lib.hid (HLY.out.below HB1.out); clear hb1)
      | (go_at_call 7; refine (HQ.out _ HL1.out).mono ?_; rintro e w2 ⟨rfl, rfl⟩))
    go_ret2
    exact ⟨by rw [← HR.out]; rfl, HB1.out⟩
end Go.Proofs.YtoiiaeoaenghfaaDoor.fn
