/-
  The first row of owners that is what is sought; whether a placement is busy.
-/
import Derived.Test.YtnpkhkhchimcnaaPmA
import Derived.Test.YtnpkhkhchimcnaaPmB
namespace Go.Proofs.Ytnpkhkhchimcnaa.pm
open Go.ChangeShapes Go.WideShapes Go.ChangeAt Go.RowKit Go.Shelf plain words ord mem

/-- what is asked of a test of rows -/
def PredL (g : Nat) (lb : Array Value) (p : List O → Bool) (rs : List Rw3) (B : Nat) (w : World) : Prop :=
  ∀ (W : World) (r : Rw3), r ∈ rs → RwOk W B r → Below w.heap.size w W → Calls Try.prog g (#[r.val] ++ lb) W fun e w' => e = .returned (.bool (p r.l)) ∧ Below W.heap.size W w'
def IxL (p : List O → Bool) (l : List (List O)) (z : Int) : Prop := (z = -1 ∧ ∀ (j : Nat) (x : List O), l[j]? = some x → p x = false) ∨ ∃ k : Nat, z = k ∧ ∃ x, l[k]? = some x ∧ p x = true ∧ ∀ (j : Nat) (y : List O), j < k → l[j]? = some y → p y = false
theorem any_of_none {l : List (List O)} {p : List O → Bool} (h : ∀ (j : Nat) (x : List O), l[j]? = some x → p x = false) : l.any p = false :=
  List.any_eq_false.2 fun x hx => by
    obtain ⟨j, hj⟩ := List.mem_iff_getElem?.1 hx
    simp [h j x hj]
theorem any_of_some {l : List (List O)} {p : List O → Bool} {k : Nat} {x : List O} (hx : l[k]? = some x) (h : p x = true) : l.any p = true :=
  List.any_eq_true.2 ⟨x, List.mem_of_getElem? hx, h⟩
theorem rs_at {rs : List Rw3} {i : Nat} {r : Rw3} (h : rs[i]? = some r) : (rs.map (·.l))[i]? = some r.l := by rw [List.getElem?_map, h]; rfl
theorem rs_step {rs : List Rw3} {p : List O → Bool} {i : Nat} {r : Rw3} (h : rs[i]? = some r) (hp : p r.l = false) (hl : ∀ (j : Nat) (y : List O), j < i → (rs.map (·.l))[j]? = some y → p y = false) : ∀ (j : Nat) (y : List O), j < i + 1 → (rs.map (·.l))[j]? = some y → p y = false := fun j y hj hy => by
  rcases Nat.lt_or_ge j i with h1 | h1
  · exact hl j y h1 hy
  · obtain rfl : j = i := by omega
    rw [rs_at h] at hy; cases hy; exact hp
set_option maxHeartbeats 1000000 in
theorem searchR_x (w : World) (B n c : Nat) (A : Option Addr) (rs : List Rw3) (h : Rws w B A n rs) (hB : B ≤ w.heap.size) (hn : n ≤ 9223372036854775807) (g : Nat) (lb : Array Value) (p : List O → Bool)
    (eg : ∀ args w, (callFunc g args).run Try.prog w = .ok (.enter g args) w) (hp : PredL g lb p rs B w) :
    Calls Try.prog 65 #[.slice A n c, .func (.func g) #[] lb] w fun e w' => (∃ v, e = .returned (.tuple #[v, .bool ((rs.map (·.l)).any p)])) ∧ Below w.heap.size w w' := by
  have hl := h.ls.1
  have HH := Lib.hid h
  have HP := Lib.hid hp
  have HL := Lib.hid hl
  clear h hp hl
  go_enter Try.func65, Try.ntmps65
  go_wp2_with (fail)
  go_loopg [4, 5, 7, 11] n (fun gg s4 s5 s7 s11 wr => ∃ i : Nat, s11 = .int .i64 i ∧ i ≤ n ∧ n - i ≤ gg ∧ s4 = .slice none 0 0 ∧ s5 = .bool false ∧ Aside (∀ (j : Nat) (y : List O), j < i → (rs.map (·.l))[j]? = some y → p y = false) ∧ Aside (Below w.heap.size w wr))
  case atStart => exact ⟨0, rfl, by omega, by omega, rfl, rfl, fun j y hj hj2 => by omega, Below.refl _ _⟩
  case round =>
    obtain ⟨i, rfl, hi, hg, rfl, rfl, HN, HB⟩ := hrel
    have hs := HB.out.size
    by_cases hlt : i < n
    · have hltz : (i : Int) < (n : Int) := by omega
      obtain ⟨r, hr⟩ : ∃ r, rs[i]? = some r := ⟨_, List.getElem?_eq_getElem (by have := HL.out; omega)⟩
      obtain ⟨b, off, hAe, hb, l0, hrok⟩ := (HH.out.below HB.out hB).at_ hr
      subst hAe
      have hbw : b < wr.heap.size := by omega
      have HC := Lib.hid (HP.out wr r (List.mem_of_getElem? hr) hrok HB.out)
      have HX := Lib.hid hr
      obtain ⟨ra, rc, L⟩ := r
      simp only [Rw3.val] at l0 HC
      obtain ⟨m, hm⟩ : ∃ m, L.length = m := ⟨_, rfl⟩
      rw [hm] at l0 HC
      clear hr hrok hm
      go_wp2_with (fail)
      refine HC.out.mono ?_
      rintro e w2 ⟨rfl, hb2⟩
      have HB2 := Lib.hid (HB.out.trans (hb2.mono hs))
      clear hb2 HC l0
      cases hq : p L with
      | true =>
        have HQ := Lib.hid (any_of_some (p := p) (rs_at HX.out) hq)
        go_wp2_with (fail)
        (try simp only [Exit.inBlock, Exit.then])
        refine bodyPost_ret (results_tmp2 rfl _ _ _) rfl ?_
        rw [HQ.out]
        exact ⟨⟨_, rfl⟩, HB2.out⟩
      | false =>
        have HN2 := Lib.hid (rs_step (p := p) HX.out hq HN.out)
        go_wp2_with (fail)
        go_roundg (n - (i + 1))
        case measure => omega
        case rel => exact ⟨i + 1, by go_num, by omega, by omega, rfl, rfl, HN2.out, HB2.out⟩
    · obtain rfl : i = n := by omega
      have hltz : ¬ (i : Int) < (i : Int) := by omega
      have HQ := Lib.hid (any_of_none (p := p) (l := rs.map (·.l)) (fun j x hx => HN.out j x (by have := (List.getElem?_eq_some_iff.1 hx).1; rw [List.length_map, HL.out] at this; exact this) hx))
      go_wp2_with (fail)
      (try simp only [Exit.inBlock, Exit.then])
      refine bodyPost_ret (results_tmp2 rfl _ _ _) rfl ?_
      have hq2 := HQ.out
      rw [List.any_map] at hq2
      rw [hq2]
      exact ⟨⟨_, rfl⟩, HB.out⟩
set_option maxHeartbeats 1000000 in
theorem indexR_x (w : World) (B n c : Nat) (A : Option Addr) (rs : List Rw3) (h : Rws w B A n rs) (hB : B ≤ w.heap.size) (hn : n ≤ 9223372036854775807) (g : Nat) (lb : Array Value) (p : List O → Bool)
    (eg : ∀ args w, (callFunc g args).run Try.prog w = .ok (.enter g args) w) (hp : PredL g lb p rs B w) :
    Calls Try.prog 70 #[.slice A n c, .func (.func g) #[] lb] w fun e w' => (∃ z : Int, e = .returned (.int .i64 z) ∧ IxL p (rs.map (·.l)) z) ∧ Below w.heap.size w w' := by
  have hl := h.ls.1
  have HH := Lib.hid h
  have HP := Lib.hid hp
  have HL := Lib.hid hl
  clear h hp hl
  go_enter Try.func70, Try.ntmps70
  go_wp2_with (fail)
  go_loopg [4, 5, 8] n (fun gg s4 s5 s8 wr => ∃ i : Nat, s8 = .int .i64 i ∧ i ≤ n ∧ n - i ≤ gg ∧ s4 = .int .i64 0 ∧ Aside (∀ (j : Nat) (y : List O), j < i → (rs.map (·.l))[j]? = some y → p y = false) ∧ Aside (Below w.heap.size w wr))
  case atStart => exact ⟨0, rfl, by omega, by omega, rfl, fun j y hj hj2 => by omega, Below.refl _ _⟩
  case round =>
    obtain ⟨i, rfl, hi, hg, rfl, HN, HB⟩ := hrel
    have hs := HB.out.size
    by_cases hlt : i < n
    · have hltz : (i : Int) < (n : Int) := by omega
      obtain ⟨r, hr⟩ : ∃ r, rs[i]? = some r := ⟨_, List.getElem?_eq_getElem (by have := HL.out; omega)⟩
      obtain ⟨b, off, hAe, hb, l0, hrok⟩ := (HH.out.below HB.out hB).at_ hr
      subst hAe
      have hbw : b < wr.heap.size := by omega
      have HC := Lib.hid (HP.out wr r (List.mem_of_getElem? hr) hrok HB.out)
      have HX := Lib.hid hr
      obtain ⟨ra, rc, L⟩ := r
      simp only [Rw3.val] at l0 HC
      obtain ⟨m, hm⟩ : ∃ m, L.length = m := ⟨_, rfl⟩
      rw [hm] at l0 HC
      clear hr hrok hm
      go_wp2_with (fail)
      refine HC.out.mono ?_
      rintro e w2 ⟨rfl, hb2⟩
      have HB2 := Lib.hid (HB.out.trans (hb2.mono hs))
      clear hb2 HC l0
      cases hq : p L with
      | true =>
        go_wp2_with (fail)
        go_ret
        exact ⟨⟨i, rfl, .inr ⟨i, rfl, L, rs_at HX.out, hq, HN.out⟩⟩, HB2.out⟩
      | false =>
        have HN2 := Lib.hid (rs_step (p := p) HX.out hq HN.out)
        go_wp2_with (fail)
        go_roundg (n - (i + 1))
        case measure => omega
        case rel => exact ⟨i + 1, by go_num, by omega, by omega, rfl, HN2.out, HB2.out⟩
    · obtain rfl : i = n := by omega
      have hltz : ¬ (i : Int) < (i : Int) := by omega
      go_wp2_with (fail)
      go_ret
      exact ⟨⟨-1, rfl, .inl ⟨rfl, fun j x hx => HN.out j x (by have := (List.getElem?_eq_some_iff.1 hx).1; rw [List.length_map, HL.out] at this; exact this) hx⟩⟩, HB.out⟩
theorem busy1_x (W : World) (B : Nat) (r : Rw3) (h : RwOk W B r) (hB : B ≤ W.heap.size) :
    Calls Try.prog 66 #[r.val] W fun e w' => e = .returned (.bool (coming r.l)) ∧ Below W.heap.size W w' := by
  have eg : ∀ args w, (callFunc 67 args).run Try.prog w = .ok (.enter 67 args) w := enters_of Try.func67 (by kernel_rfl) rfl
  have hs := search_x W B r.l.length r.c r.A r.l h.ls hB (by have := h.cap; have := h.most; omega) 67 #[] (fun o => o.2.1 == 1) eg (fun W o _ => busy11_x W o)
  have hfis : fis (fun o : O => o.2.1 == 1) r.l = coming r.l := List.isSome_find?
  rw [hfis] at hs
  have HS := Lib.hid hs
  obtain ⟨f1, f2, f3⟩ : ∃ a b c, fnd (fun o : O => o.2.1 == 1) r.l = (a, b, c) := ⟨_, _, _, rfl⟩
  obtain ⟨ra, rc, L⟩ := r
  simp only [Rw3.val] at HS ⊢
  clear h hs hfis
  go_enter Try.func66, Try.ntmps66
  go_wp2_with (fail)
  refine HS.out.mono ?_
  rintro e w2 ⟨rfl, hb2⟩
  have HB2 := Lib.hid hb2
  clear hb2
  go_wp2_with (fail)
  go_ret
  exact ⟨rfl, HB2.out.alloc (by have := HB2.out.size; omega) _⟩
theorem busy_x (w : World) (B : Nat) (v : PV) (h : PVok w B v) (hB : B ≤ w.heap.size) :
    Calls Try.prog 40 #[v.val] w fun e w' => e = .returned (.bool (busy v.pl.ss)) ∧ Below w.heap.size w w' := by
  have eg : ∀ args w, (callFunc 66 args).run Try.prog w = .ok (.enter 66 args) w := enters_of Try.func66 (by kernel_rfl) rfl
  obtain ⟨wa, hwa⟩ : ∃ wa, w.alloc (boxO v) = wa := ⟨_, rfl⟩
  have hba : Below w.heap.size w wa := by rw [← hwa]; exact below_al _ _
  have gp : Boxed wa w.heap.size v := by rw [← hwa]; exact alloc_new _ _
  have hsa := hba.size
  have hs := searchR_x wa B v.rs.length v.sc v.sA v.rs (h.s.below hba hB) (by omega) (by have := h.sc; have := h.sm; omega) 66 #[] coming eg
    (fun W r _ hr hW => busy1_x W B r hr (by have := hW.size; omega))
  have HS := Lib.hid hs
  have HWA := Lib.hid hwa
  have HBA := Lib.hid hba
  obtain ⟨⟨e0, e1, e2⟩, _⟩ := isv3_cells gp
  obtain ⟨ver, nA, nc, nodes, sA, sc, rs⟩ := v
  obtain ⟨N, hN⟩ : ∃ N, rs.length = N := ⟨_, rfl⟩
  obtain ⟨M, hM⟩ : ∃ M, nodes.length = M := ⟨_, rfl⟩
  obtain ⟨bz, hbz⟩ : ∃ bz, (rs.map (·.l)).any coming = bz := ⟨_, rfl⟩
  simp only [boxO, hN, hM] at HS HWA e0 e1 e2
  rw [hbz] at HS
  have HBZ := Lib.hid hbz
  have HN := Lib.hid hN
  have HM := Lib.hid hM
  have hpl := blk_lt gp
  show Calls _ _ #[.agg #[.int .i64 ver, .slice nA nodes.length nc, .slice sA rs.length sc]] _ _
  rw [hN, hM]
  clear h hs hwa hba gp hN hM hbz
  show Calls _ _ _ _ fun e w' => e = .returned (.bool ((rs.map (·.l)).any coming)) ∧ _
  rw [HBZ.out]
  go_enter Try.func40, Try.ntmps40
  go_wp2_with (fail)
  rw [HWA.out]
  go_wp2_with (fail)
  refine HS.out.mono ?_
  rintro e w2 ⟨⟨v, rfl⟩, hb2⟩
  have HB2 := Lib.hid (HBA.out.trans (hb2.mono hsa))
  clear hb2
  go_wp2_with (fail)
  go_ret
  exact ⟨rfl, HB2.out⟩
end Go.Proofs.Ytnpkhkhchimcnaa.pm
