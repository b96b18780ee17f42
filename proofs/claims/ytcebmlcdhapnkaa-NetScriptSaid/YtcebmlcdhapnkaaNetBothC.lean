/-
  Net: one call on each of the two nets.
-/
import Derived.Test.YtcebmlcdhapnkaaNetBoth
namespace Go.Proofs.Ytcebmlcdhapnkaa.net
open Go.ChangeShapes Go.WideShapes Go.ChangeAt Go.RowKit plain words ord mem

def dropped (P : List Msg) (i : Int) : Int × List Msg := if inP P i = true then (0, P.eraseIdx i.toNat) else (11, P)
theorem in_nat {P : List Msg} {i : Int} (h : inP P i = true) : ∃ k : Nat, i = (k : Int) ∧ k < P.length := by
  simp only [inP, Bool.and_eq_true, decide_eq_true_eq] at h
  exact ⟨i.toNat, by omega, by omega⟩
section
variable {H0 : Nat} {w wr : World} {p1 p2 : Nat} {F : Nat → Prop} {r1 r2 : Option Nat} {P1 P2 : List Msg}
theorem drop_b1 (h : Both H0 w wr p1 p2 (fun _ => False) r1 r2 P1 P2) (hP : P1.length ≤ 256) (i : Int) :
    Calls Try.prog 19 #[.pointer (some ⟨p1, 0, none⟩), .int .i64 i] wr fun e w' => e = .returned (.int .i64 (dropped P1 i).1) ∧ ∃ r', Both H0 w w' p1 p2 (fun _ => False) r' r2 (dropped P1 i).2 P2 ∧ Chg (fun b => b = p1 ∨ some b = r1) wr w' := by
  unfold dropped
  by_cases hi : inP P1 i = true
  · rw [if_pos hi]
    obtain ⟨k, rfl, hk⟩ := in_nat hi
    refine (drop_x wr p1 r1 P1 h.n1.net (by omega) k hk).mono ?_
    rintro e w' ⟨r', rfl, hN, hc, hr⟩
    refine ⟨rfl, r', h.one (hN.fence _ (fun _ e => e.elim)) hc (fun g hg => ?_), hc⟩
    rcases hr with e | ⟨q, e, e2⟩
    · exact .inl (e ▸ hg)
    · rw [hg] at e; cases e; exact .inr e2
  · rw [if_neg hi]
    refine (drop_no wr p1 r1 P1 h.n1.net i (by simpa using hi)).mono ?_
    rintro e w' ⟨rfl, rfl⟩
    exact ⟨rfl, r1, h, Chg.refl _ _⟩
theorem drop_b2 (h : Both H0 w wr p1 p2 (fun _ => False) r1 r2 P1 P2) (hP : P2.length ≤ 256) (hS : ∀ m ∈ P2, m.2.2.length ≤ 32768) (i : Int) :
    Calls Try.prog 24 #[.pointer (some ⟨p2, 0, none⟩), .int .i64 i] wr fun e w' => e = .returned (.int .i64 (dropped P2 i).1) ∧ ∃ r', Both H0 w w' p1 p2 (fun _ => False) r1 r' P1 (dropped P2 i).2 ∧ Chg (fun b => b = p2 ∨ some b = r2) wr w' := by
  unfold dropped
  by_cases hi : inP P2 i = true
  · rw [if_pos hi]
    obtain ⟨k, rfl, hk⟩ := in_nat hi
    obtain ⟨x, y, bs, hm⟩ : ∃ x y bs, P2[k]? = some (x, y, bs) := ⟨P2[k].1, P2[k].2.1, P2[k].2.2, List.getElem?_eq_getElem hk⟩
    have hl : bs.length ≤ 32768 := hS _ (List.mem_of_getElem? hm)
    refine (drop_y _ wr p2 r2 P2 h.n2 (by omega) k x y bs hm (by omega)).mono ?_
    rintro e w' ⟨rfl, r', hN, hc, hr⟩
    exact ⟨rfl, r', h.two hN hc hr, hc⟩
  · rw [if_neg hi]
    refine (drop_ny _ wr p2 r2 P2 h.n2 i (by simpa using hi)).mono ?_
    rintro e w' ⟨rfl, hb⟩
    exact ⟨rfl, r2, h.below hb, (Chg.of_below hb).mono (fun _ _ e => e.elim)⟩
def doubled (P : List Msg) (i : Int) : Int × List Msg := if inP P i = true then (match P[i.toNat]? with | some m => sent P m | none => (11, P)) else (11, P)
theorem double_b2 (h : Both H0 w wr p1 p2 (fun _ => False) r1 r2 P1 P2) (hP : P2.length ≤ 256) (hS : ∀ m ∈ P2, m.2.2.length ≤ 32768) (i : Int) :
    Calls Try.prog 25 #[.pointer (some ⟨p2, 0, none⟩), .int .i64 i] wr fun e w' => e = .returned (.int .i64 (doubled P2 i).1) ∧ ∃ r', Both H0 w w' p1 p2 (fun _ => False) r1 r' P1 (doubled P2 i).2 ∧ Chg (fun b => b = p2 ∨ some b = r2) wr w' := by
  unfold doubled
  by_cases hi : inP P2 i = true
  · rw [if_pos hi]
    obtain ⟨k, rfl, hk⟩ := in_nat hi
    obtain ⟨x, y, bs, hm⟩ : ∃ x y bs, P2[k]? = some (x, y, bs) := ⟨P2[k].1, P2[k].2.1, P2[k].2.2, List.getElem?_eq_getElem hk⟩
    have hl : bs.length ≤ 32768 := hS _ (List.mem_of_getElem? hm)
    simp only [Int.toNat_natCast, hm]
    refine (double_y _ wr (fun _ e => e.elim) p2 r2 P2 h.n2 hP k x y bs hm (by omega)).mono ?_
    rintro e w' ⟨rfl, r', hN, hc, hr⟩
    exact ⟨rfl, r', h.two hN hc hr, hc⟩
  · rw [if_neg hi]
    refine (double_ny _ wr p2 r2 P2 h.n2 i (by simpa using hi)).mono ?_
    rintro e w' ⟨rfl, hb⟩
    exact ⟨rfl, r2, h.below hb, (Chg.of_below hb).mono (fun _ _ e => e.elim)⟩
theorem double_b1 (h : Both H0 w wr p1 p2 (fun _ => False) r1 r2 P1 P2) (hP : P1.length ≤ 256) (hS : ∀ m ∈ P1, m.2.2.length ≤ 32768) (i : Int) :
    Calls Try.prog 18 #[.pointer (some ⟨p1, 0, none⟩), .int .i64 i] wr fun e w' => e = .returned (.int .i64 (doubled P1 i).1) ∧ ∃ r', Both H0 w w' p1 p2 (fun _ => False) r' r2 (doubled P1 i).2 P2 ∧ Chg (fun b => b = p1 ∨ some b = r1) wr w' := by
  unfold doubled
  by_cases hi : inP P1 i = true
  · rw [if_pos hi]
    obtain ⟨k, rfl, hk⟩ := in_nat hi
    obtain ⟨x, y, bs, hm⟩ : ∃ x y bs, P1[k]? = some (x, y, bs) := ⟨P1[k].1, P1[k].2.1, P1[k].2.2, List.getElem?_eq_getElem hk⟩
    have hl : bs.length ≤ 32768 := hS _ (List.mem_of_getElem? hm)
    simp only [Int.toNat_natCast, hm]
    by_cases hf : P1.length < 256
    · rw [show sent P1 (x, y, bs) = (0, P1 ++ [(x, y, bs)]) by unfold sent; rw [if_neg (by simp only; omega), if_neg (by omega)]]
      refine (double_x wr p1 r1 P1 h.n1.net hf k x y bs hm (by omega)).mono ?_
      rintro e w' ⟨r', rfl, hN, hc, hr⟩
      refine ⟨rfl, r', h.one (hN.fence _ (fun _ e => e.elim)) hc (fun g hg => ?_), hc⟩
      rcases hr with e | ⟨q, e, e2⟩
      · exact .inl (e ▸ hg)
      · rw [hg] at e; cases e; exact .inr e2
    · rw [show sent P1 (x, y, bs) = (12, P1) by unfold sent; rw [if_neg (by simp only; omega), if_pos (by omega)]]
      refine (double_full wr p1 r1 P1 h.n1.net (by omega) k hk).mono ?_
      rintro e w' ⟨rfl, hb⟩
      exact ⟨rfl, r1, h.below hb, (Chg.of_below hb).mono (fun _ _ e => e.elim)⟩
  · rw [if_neg hi]
    refine (double_no wr p1 r1 P1 h.n1.net i (by simpa using hi)).mono ?_
    rintro e w' ⟨rfl, rfl⟩
    exact ⟨rfl, r1, h, Chg.refl _ _⟩
theorem doubled_ok {P : List Msg} (hP : P.length ≤ 256) (hS : ∀ m ∈ P, m.2.2.length ≤ 32768) (i : Int) : (doubled P i).2.length ≤ 256 ∧ ∀ m ∈ (doubled P i).2, m.2.2.length ≤ 32768 := by
  unfold doubled
  split
  · split
    · rename_i m hm
      unfold sent
      split
      · exact ⟨hP, hS⟩
      · split
        · exact ⟨hP, hS⟩
        · refine ⟨by simp; omega, fun a ha => ?_⟩
          rcases List.mem_append.1 ha with ha | ha
          · exact hS a ha
          · obtain rfl : a = m := by simpa using ha
            omega
    · exact ⟨hP, hS⟩
  · exact ⟨hP, hS⟩
theorem dropped_ok {P : List Msg} (hP : P.length ≤ 256) (hS : ∀ m ∈ P, m.2.2.length ≤ 32768) (i : Int) : (dropped P i).2.length ≤ 256 ∧ ∀ m ∈ (dropped P i).2, m.2.2.length ≤ 32768 := by
  unfold dropped
  split
  · exact ⟨Nat.le_trans (List.length_eraseIdx_le _ _) hP, fun m hm => hS m (List.eraseIdx_subset hm)⟩
  · exact ⟨hP, hS⟩
end
end Go.Proofs.Ytcebmlcdhapnkaa.net
