/-
  Net: Take on each of the two nets.
-/
import Derived.Test.YtcebmlcdhapnkaaNetBothC
namespace Go.Proofs.Ytcebmlcdhapnkaa.net
open Go.ChangeShapes Go.WideShapes Go.ChangeAt Go.RowKit plain words ord mem

def taken (P : List Msg) (i : Int) : Int × Msg × List Msg := if inP P i = true then (match P[i.toNat]? with | some m => (0, m, P.eraseIdx i.toNat) | none => (11, (0, 0, []), P)) else (11, (0, 0, []), P)
section
variable {H0 : Nat} {w wr : World} {p1 p2 : Nat} {F : Nat → Prop} {r1 r2 : Option Nat} {P1 P2 : List Msg}
theorem own_nil0 (w : World) : w.ownsRow 0 5 1 (.slice none 0 0) 0 (u8s []) := ⟨rfl, .inl ⟨rfl, rfl⟩⟩
theorem take_b1 (h : Both H0 w wr p1 p2 (fun _ => False) r1 r2 P1 P2) (hP : P1.length ≤ 256) (i : Int) :
    Calls Try.prog 16 #[.pointer (some ⟨p1, 0, none⟩), .int .i64 i] wr fun e w' => ∃ x y n A c bs r', e = .returned (.tuple #[.agg #[.int .i64 x, .int .i64 y, .slice A n c], .int .i64 (taken P1 i).1]) ∧ w'.ownsRow 0 5 1 (.slice A n c) n (u8s bs) ∧ (x, y, bs) = (taken P1 i).2.1 ∧ Both H0 w w' p1 p2 (fun _ => False) r' r2 (taken P1 i).2.2 P2 ∧ Chg (fun b => b = p1 ∨ some b = r1) wr w' := by
  unfold taken
  by_cases hi : inP P1 i = true
  · rw [if_pos hi]
    obtain ⟨k, rfl, hk⟩ := in_nat hi
    obtain ⟨x, y, bs, hm⟩ : ∃ x y bs, P1[k]? = some (x, y, bs) := ⟨P1[k].1, P1[k].2.1, P1[k].2.2, List.getElem?_eq_getElem hk⟩
    simp only [Int.toNat_natCast, hm]
    refine (take_x wr p1 r1 P1 h.n1.net (by omega) k x y bs hm bs.length rfl).mono ?_
    rintro e w' ⟨r', A, c, rfl, hown, hN, hc, hr⟩
    refine ⟨x, y, bs.length, A, c, bs, r', rfl, own_base hown (Nat.zero_le _), rfl, h.one (hN.fence _ (fun _ e => e.elim)) hc (fun g hg => ?_), hc⟩
    rcases hr with e | ⟨q, e, e2⟩
    · exact .inl (e ▸ hg)
    · rw [hg] at e; cases e; exact .inr e2
  · rw [if_neg hi]
    refine (take_no wr p1 r1 P1 h.n1.net i (by simpa using hi)).mono ?_
    rintro e w' ⟨rfl, hb⟩
    exact ⟨0, 0, 0, none, 0, [], r1, rfl, own_nil0 _, rfl, h.below hb, (Chg.of_below hb).mono (fun _ _ e => e.elim)⟩
theorem take_b2 (h : Both H0 w wr p1 p2 (fun _ => False) r1 r2 P1 P2) (hP : P2.length ≤ 256) (hS : ∀ m ∈ P2, m.2.2.length ≤ 32768) (i : Int) :
    Calls Try.prog 23 #[.pointer (some ⟨p2, 0, none⟩), .int .i64 i] wr fun e w' => ∃ x y n A c bs r', e = .returned (.tuple #[.agg #[.int .i64 x, .int .i64 y, .slice A n c], .int .i64 (taken P2 i).1]) ∧ Bs w' w'.heap.size A n bs ∧ (x, y, bs) = (taken P2 i).2.1 ∧ Both H0 w w' p1 p2 (fun _ => False) r1 r' P1 (taken P2 i).2.2 ∧ Chg (fun b => b = p2 ∨ some b = r2) wr w' := by
  unfold taken
  by_cases hi : inP P2 i = true
  · rw [if_pos hi]
    obtain ⟨k, rfl, hk⟩ := in_nat hi
    obtain ⟨x, y, bs, hm⟩ : ∃ x y bs, P2[k]? = some (x, y, bs) := ⟨P2[k].1, P2[k].2.1, P2[k].2.2, List.getElem?_eq_getElem hk⟩
    have hl : bs.length ≤ 32768 := hS _ (List.mem_of_getElem? hm)
    simp only [Int.toNat_natCast, hm]
    refine (take_y _ wr p2 r2 P2 h.n2 (by omega) k x y bs hm (by omega) bs.length rfl).mono ?_
    rintro e w' ⟨r', A, c, rfl, hbs, hN, hc, hr⟩
    exact ⟨x, y, bs.length, A, c, bs, r', rfl, hbs, rfl, h.two hN hc hr, hc⟩
  · rw [if_neg hi]
    refine (take_ny _ wr p2 r2 P2 h.n2 i (by simpa using hi)).mono ?_
    rintro e w' ⟨rfl, hb⟩
    exact ⟨0, 0, 0, none, 0, [], r2, rfl, Rd.nil _ _ _, rfl, h.below hb, (Chg.of_below hb).mono (fun _ _ e => e.elim)⟩
theorem taken_ok {P : List Msg} (hP : P.length ≤ 256) (hS : ∀ m ∈ P, m.2.2.length ≤ 32768) (i : Int) : (taken P i).2.2.length ≤ 256 ∧ ∀ m ∈ (taken P i).2.2, m.2.2.length ≤ 32768 := by
  unfold taken
  split
  · split
    · exact ⟨Nat.le_trans (List.length_eraseIdx_le _ _) hP, fun m hm => hS m (List.eraseIdx_subset hm)⟩
    · exact ⟨hP, hS⟩
  · exact ⟨hP, hS⟩
end
end Go.Proofs.Ytcebmlcdhapnkaa.net
