/-
  The walk of the law RangesNormal.
-/
import Derived.Test.YtemmfcinpkfoiaaRgProg3
import Derived.Test.YtemmfcinpkfoiaaSteps
namespace Go.Proofs.Ytemmfcinpkfoiaa.rg
open Go.ChangeShapes Go.WideShapes Go.ChangeAt Go.RowKit plain words ord mem

theorem rgs_of {w : World} {A : Option Addr} {n c : Nat} (h : IsPairs .i64 .i64 w A n c) : ∃ l, Rgs w w.heap.size A n l ∧ (A = none → c = 0) ∧ n ≤ c ∧ c ≤ 9223372036854775807 := by
  rcases h with ⟨rfl, rfl, rfl⟩ | ⟨x, rfl, h1, h2, h3⟩
  · exact ⟨[], Rgs.none0 _ _, fun _ => rfl, Nat.le_refl _, by omega⟩
  · unfold maxLen at h2
    have h4 : ∀ i : Fin n, ∃ r : R, w.cell? (x.add (i.1 * 2)) = some (.int .i64 r.1) ∧ w.cell? (x.add (i.1 * 2 + 1)) = some (.int .i64 r.2) := fun i => by
      obtain ⟨n0, n1, h5, h6, _⟩ := h3 i.1 i.2
      exact ⟨(n0, n1), h5, h6⟩
    obtain ⟨f, hf⟩ := Classical.axiomOfChoice h4
    refine ⟨List.ofFn f, ⟨by simp, by rw [cs_len rgE_len]; simp, fun j hj => ?_⟩, fun e => (by cases e), h1, h2⟩
    have hj2 : j / 2 < n := by omega
    obtain ⟨b, off, spot⟩ := x
    obtain ⟨e0, e1⟩ := hf ⟨j / 2, hj2⟩
    have hspot : spot = none := by
      have := World.cell?_spot (hf ⟨0, by omega⟩).1
      simpa [Addr.add] using this
    subst hspot
    simp only [words.add_plain] at e0 e1
    have hb : b < w.heap.size := World.block_lt_of_cell? w _ e0
    have h6 : (List.ofFn f)[j / 2]? = some (f ⟨j / 2, hj2⟩) := by simp [hj2]
    have h7 := cs_at (k := 2) rgE_len (List.ofFn f) (j / 2) _ h6 (j % 2) (by omega)
    rw [show j / 2 * 2 + j % 2 = j from by omega] at h7
    rcases Nat.mod_two_eq_zero_or_one j with e | e
    · rw [e] at h7
      have e2 : j / 2 * 2 = j := by omega
      rw [e2] at e0
      exact ⟨b, off, _, rfl, hb, h7, e0⟩
    · rw [e] at h7
      have e2 : j / 2 * 2 + 1 = j := by omega
      rw [e2] at e1
      exact ⟨b, off, _, rfl, hb, h7, e1⟩
theorem nf_at {l : List R} {b : Int} (h : NFb b l) {i : Nat} (hi : i < l.length) : l[i].1 < l[i].2 := h.ne _ (List.getElem_mem hi)
theorem nf_next {l : List R} {b : Int} (h : NFb b l) {i : Nat} (hi : i + 1 < l.length) : l[i].2 < l[i + 1].1 := by
  induction l generalizing b i with
  | nil => simp at hi
  | cons x l ih =>
    obtain ⟨h1, h2, h3⟩ := h
    cases i with
    | zero =>
      cases l with
      | nil => simp at hi
      | cons y l => exact h3.1
    | succ i => exact ih h3 (by simpa using hi)
theorem any_has (l : List R) (t : Int) : l.any (hasB t) = true ↔ hasR l t := by
  rw [List.any_eq_true]
  constructor
  · rintro ⟨x, hx, h⟩
    simp [hasB] at h
    exact ⟨x, hx, h⟩
  · rintro ⟨x, hx, h⟩
    exact ⟨x, hx, by simp [hasB, h]⟩
theorem any_norm (l : List R) (t : Int) : (normR l).any (hasB t) = l.any (hasB t) := by
  rw [Bool.eq_iff_iff, any_has, any_has, (normR_nf l).2]
end Go.Proofs.Ytemmfcinpkfoiaa.rg
namespace Go.Proofs.Ytemmfcinpkfoiaa.lawRangesNormal
open Go.ChangeShapes Go.WideShapes Go.ChangeAt Go.RowKit plain words ord mem rg

set_option maxHeartbeats 1000000 in
set_option maxRecDepth 100000 in
theorem walk_ok (A : Option Addr) (n c : Nat) (t : Int) (w : World) (h0 : IsPairs .i64 .i64 w A n c) (w1 : (Lit.int .i64 t).wf = true) :
    Calls Try.prog 12 #[.slice A n c, .int .i64 t] w fun e w' => e = .returned (.bool true) ∧ Below w.heap.size w w' := by
  obtain ⟨l, h, hA, hc1, hc2⟩ := rgs_of h0
  clear h0 w1
  have hl := h.1
  by_cases hbig : 512 < n
  · have hbz : (512 : Int) < (n : Int) := by omega
    clear h hA
    go_enter Try.func12, Try.ntmps12
    go_wp2_with fail
    go_ret
    exact ⟨rfl, Below.refl _ _⟩
  · have hbz : ¬ (512 : Int) < (n : Int) := by omega
    have hno := norm_x w w.heap.size n c A l h hA (Nat.le_refl _) (by omega)
    have hnl := normR_le l
    have HH := Lib.hid h
    have HNO := Lib.hid hno
    obtain ⟨N, hN⟩ : ∃ N, normR l = N := ⟨_, rfl⟩
    obtain ⟨bb, hnf⟩ := (normR_nf l).1
    have HAN := Lib.hid (any_norm l t)
    have HID := Lib.hid (normR_idem l)
    rw [hN] at HNO hnf HAN HID hnl
    have HNF := Lib.hid hnf
    have HNE := Lib.hid hN
    clear h hno hnf hN
    go_enter Try.func12, Try.ntmps12
    go_wp2_with fail
    refine HNO.out.mono ?_
    rintro e w1 ⟨v1, rfl, hown1, hb1⟩
    obtain ⟨A1, c1, rfl, hA1, hc11, hc12⟩ := hown1.form
    have hs1 := hb1.size
    have HO1 := Lib.hid hown1
    have HB1 := Lib.hid hb1
    clear hown1 hb1 HNO
    go_wp2_with fail
    go_loopg [6] N.length (fun gg s6 wr => ∃ (i : Nat), i ≤ N.length ∧ N.length - i ≤ gg ∧ s6 = .int .i64 i ∧ Aside (Below w1.heap.size w1 wr))
    case atStart => exact ⟨0, Nat.zero_le _, by omega, rfl, Below.refl _ _⟩
    case round =>
      obtain ⟨i, hi, hg, rfl, BW⟩ := hrel
      have hsw := BW.out.size
      have HR := Lib.hid (HO1.out.rgs.below BW.out (Nat.le_refl _))
      by_cases hlt : i < N.length
      · have hltz : (i : Int) < (N.length : Int) := by omega
        obtain ⟨b, off, hAe, hb, l1, l2⟩ := HR.out.at_ hlt
        cases hAe
        have hx12 := nf_at HNF.out hlt
        obtain ⟨x, hx⟩ : ∃ x, N[i]'(by omega) = x := ⟨_, rfl⟩
        rw [hx] at l1 l2 hx12
        obtain ⟨x1, x2⟩ := x
        have hbw : b < wr.heap.size := by omega
        simp only at hx12
        by_cases hi0 : i = 0
        · subst hi0
          clear hx
          simp only [Nat.zero_mul, Nat.add_zero] at l1 l2
          have hlz : (0 : Int) < (N.length : Int) := by omega
          clear hltz
          go_wp2_with fail
          have q0 := Wb.at_ l1
          have q1 := Wb.at_ l2
          have hq : decide (x2 ≤ x1) = false := by simp; omega
          refine wp_region_plan [([0, 1, 2, 3, 4, 5, 6, 7, 8, 9, 10, 11, 12, 13, 14, 15, 16, 17, 18, 19, 20, 21, 22, 23, 24, 25, 26, 27, 28], none)] (by kernel_rfl) (by kernel_rfl) ?_
          refine seg_end _ (by dsimp only [pick, at_]) ?_
          repeat (go_big_quiet_step (fail))
          refine wpQuiet_nil ?_
          refine NoPanic.normal ?_
          clear q0 q1 hq
          go_wp2_with (fail)
          go_roundg (N.length - (0 + 1))
          case measure => omega
          case rel => exact ⟨0 + 1, by omega, by omega, by go_num, BW.out.drew⟩
        · obtain ⟨k, rfl⟩ : ∃ k, i = k + 1 := ⟨i - 1, by omega⟩
          have hk1 : k < N.length := by omega
          obtain ⟨b', off', hAe', hb', m1, m2⟩ := HR.out.at_ hk1
          cases hAe'
          have hxn := nf_next HNF.out (i := k) (by omega)
          rw [hx] at hxn
          obtain ⟨y, hy⟩ : ∃ y, N[k]'(by omega) = y := ⟨_, rfl⟩
          rw [hy] at m1 m2 hxn
          obtain ⟨y1, y2⟩ := y
          simp only at hxn
          have hk0 : (0 : Int) < ((k : Int) + 1) := by omega
          have hkm : ((k : Int) + 1 - 1) = (k : Int) := by omega
          have hwm : IntKind.i64.wrap ((k : Int) + 1 - 1) = (k : Int) := by rw [hkm]; exact IntWalk.i64_in _ (by omega)
          clear hx hy
          go_wp2_with fail
          have q0 := Wb.at_ l1
          have q1 := Wb.at_ l2
          have q3 := Wb.at_ m2
          have hq : decide (x2 ≤ x1) = false := by simp; omega
          have hq2 : decide (x1 ≤ y2) = false := by simp; omega
          refine wp_region_plan [([0, 1, 2, 3, 4, 5, 6, 7, 8, 9, 10, 11, 12, 13, 14, 15, 16, 17, 18, 19, 20, 21, 22, 23, 24, 25, 26, 27, 28], none)] (by kernel_rfl) (by kernel_rfl) ?_
          refine seg_end _ (by dsimp only [pick, at_]) ?_
          repeat (go_big_quiet_step (fail))
          refine wpQuiet_nil ?_
          refine NoPanic.normal ?_
          clear q0 q1 q3 hq hq2
          go_wp2_with (fail)
          go_roundg (N.length - (k + 1 + 1))
          case measure => omega
          case rel => exact ⟨k + 1 + 1, by omega, by omega, by go_num, BW.out.drew⟩
      · have hltz : ¬ (i : Int) < (N.length : Int) := by omega
        obtain rfl : i = N.length := by omega
        have hn2 := norm_x wr w1.heap.size N.length c1 A1 N HR.out hA1 hsw (by omega)
        rw [HID.out] at hn2
        have HN2 := Lib.hid hn2
        clear hn2
        go_wp2_with fail
        refine HN2.out.mono ?_
        rintro e w2 ⟨v2, rfl, hown2, hb2⟩
        obtain ⟨A2, c2, rfl, _, _, _⟩ := hown2.form
        have hs2 := hb2.size
        have hsame := same_x w2 w2.heap.size N.length c2 w1.heap.size N.length c1 A2 A1 N N hown2.rgs (Nat.le_refl _) (HR.out.below hb2 hsw) (by omega) (by omega) true (by simp)
        have HS := Lib.hid hsame
        have HB2 := Lib.hid ((HB1.out.trans (BW.out.mono hs1)).trans (hb2.mono (by omega)))
        clear hsame hown2 HN2
        go_wp2_with fail
        refine HS.out.mono ?_
        rintro e w3 ⟨rfl, hb3⟩
        have hs3 := hb3.size
        have HB3 := Lib.hid (HB2.out.trans (hb3.mono HB2.out.size))
        have hb13 : Below w1.heap.size wr w3 := (hb2.mono hsw).trans (hb3.mono (by omega))
        have hhas := has_x w3 w1.heap.size N.length c1 A1 N (HR.out.below hb13 (Nat.le_refl _)) (by omega) (by omega) t
        rw [HAN.out] at hhas
        obtain ⟨q, hq⟩ : ∃ q, l.any (hasB t) = q := ⟨_, rfl⟩
        rw [hq] at hhas
        have HHAS := Lib.hid hhas
        have HQ := Lib.hid hq
        have HRO := Lib.hid (HR.out.below hb13 (Nat.le_refl _))
        clear hb2 hb3 hb13 hhas hq HS HB2 HR HAN
        go_wp2_with fail
        refine HHAS.out.mono ?_
        rintro e w4 ⟨rfl, hb4⟩
        have hs4 := hb4.size
        have HB4 := Lib.hid (HB3.out.trans (hb4.mono HB3.out.size))
        have hrh := rhas_x w4 w.heap.size n c A l (HH.out.below HB4.out (Nat.le_refl _)) HB4.out.size (by omega) t
        rw [HQ.out] at hrh
        have HRH := Lib.hid hrh
        clear hrh HHAS HB3
        go_wp2_with fail
        refine HRH.out.mono ?_
        rintro e w5 ⟨rfl, hb5⟩
        have hs5 := hb5.size
        have HB5 := Lib.hid (HB4.out.trans (hb5.mono HB4.out.size))
        have hrn := rnorm_x w5 w.heap.size n c A l (HH.out.below HB5.out (Nat.le_refl _)) HB5.out.size (by omega)
        rw [HNE.out] at hrn
        have HRN := Lib.hid hrn
        have HRO5 := Lib.hid ((HRO.out.below hb4 (by omega)).below hb5 (by omega))
        clear hrn HRH HB4 hb4 hb5 HRO
        cases q
        all_goals
          go_wp2_with fail
          refine HRN.out.mono ?_
          rintro e w6 ⟨v6, rfl, hown6, hb6⟩
          obtain ⟨A6, c6, rfl, _, _, _⟩ := hown6.form
          have hs6 := hb6.size
          have hsame := same_x w6 w1.heap.size N.length c1 w6.heap.size N.length c6 A1 A6 N N (HRO5.out.below hb6 (by omega)) (by omega) hown6.rgs (Nat.le_refl _) (by omega) true (by simp)
          have HS := Lib.hid hsame
          have HB6 := Lib.hid (HB5.out.trans (hb6.mono HB5.out.size))
          clear hsame hown6 hb6
          go_wp2_with fail
          refine HS.out.mono ?_
          rintro e w7 ⟨rfl, hb7⟩
          go_wp2_with fail
          go_ret
          exact ⟨rfl, HB6.out.trans (hb7.mono HB6.out.size)⟩
end Go.Proofs.Ytemmfcinpkfoiaa.lawRangesNormal
