/-
  Net: Send and At on each of the two nets.
-/
import Derived.Test.YtcebmlcdhapnkaaNetBothT
namespace Go.Proofs.Ytcebmlcdhapnkaa.net
open Go.ChangeShapes Go.WideShapes Go.ChangeAt Go.RowKit plain words ord mem

section
variable {H0 : Nat} {w wr : World} {p1 p2 : Nat} {F : Nat → Prop} {r1 r2 : Option Nat} {P1 P2 : List Msg}
theorem send_b1 (h : Both H0 w wr p1 p2 F r1 r2 P1 P2) (hF : ∀ g, F g → g < wr.heap.size) (x y : Int) (B n c : Nat) (A : Option Addr) (bs : List UInt8) (hb : Bs wr B A n bs) (hA : A = none → c = 0) (hB : B ≤ wr.heap.size) (hn : n ≤ 9223372036854775807) :
    Calls Try.prog 14 #[.pointer (some ⟨p1, 0, none⟩), .int .i64 x, .int .i64 y, .slice A n c] wr fun e w' => e = .returned (.int .i64 (sent P1 (x, y, bs)).1) ∧ ∃ r', Both H0 w w' p1 p2 F r' r2 (sent P1 (x, y, bs)).2 P2 ∧ Chg (fun b => b = p1 ∨ some b = r1) wr w' := by
  refine (send_f F wr hF p1 r1 P1 h.n1 x y B n c A bs hb hA hB hn).mono ?_
  rintro e w' ⟨r', rfl, hN, hc, hr⟩
  refine ⟨rfl, r', h.one hN hc (fun g hg => ?_), hc⟩
  rcases hr with e | ⟨q, e, e2⟩
  · exact .inl (e ▸ hg)
  · rw [hg] at e; cases e; exact .inr e2
theorem send_b2 (h : Both H0 w wr p1 p2 F r1 r2 P1 P2) (hF : ∀ g, F g → g < wr.heap.size) (x y : Int) (B n c : Nat) (A : Option Addr) (bs : List UInt8) (hb : Bs wr B A n bs) (hA : A = none → c = 0) (hB : B ≤ wr.heap.size) (hn : n ≤ 9223372036854775807) (hP : P2.length ≤ 256) :
    Calls Try.prog 22 #[.pointer (some ⟨p2, 0, none⟩), .int .i64 x, .int .i64 y, .slice A n c] wr fun e w' => e = .returned (.int .i64 (sent P2 (x, y, bs)).1) ∧ ∃ r', Both H0 w w' p1 p2 F r1 r' P1 (sent P2 (x, y, bs)).2 ∧ Chg (fun b => b = p2 ∨ some b = r2) wr w' := by
  refine (send_y F wr hF p2 r2 P2 h.n2 x y B n c A bs hb hA hB hn hP).mono ?_
  rintro e w' ⟨r', rfl, hN, hc, hr⟩
  refine ⟨rfl, r', h.two hN hc (fun g hg => ?_), hc⟩
  rcases hr with e | ⟨q, e, e2⟩
  · exact .inl (e ▸ hg)
  · rw [hg] at e; cases e; exact .inr e2
theorem sent_ok {P : List Msg} (hP : P.length ≤ 256) (hS : ∀ m ∈ P, m.2.2.length ≤ 32768) (m : Msg) : (sent P m).2.length ≤ 256 ∧ ∀ a ∈ (sent P m).2, a.2.2.length ≤ 32768 := by
  unfold sent
  split
  · exact ⟨hP, hS⟩
  · split
    · exact ⟨hP, hS⟩
    · refine ⟨by simp; omega, fun a ha => ?_⟩
      rcases List.mem_append.1 ha with ha | ha
      · exact hS a ha
      · obtain rfl : a = m := by simpa using ha
        omega
theorem at_b1 (h : Both H0 w wr p1 p2 F r1 r2 P1 P2) (hS : ∀ m ∈ P1, m.2.2.length ≤ 32768) (i : Int) :
    Calls Try.prog 17 #[.pointer (some ⟨p1, 0, none⟩), .int .i64 i] wr fun e w' => ∃ x y n A c bs, e = .returned (.tuple #[.agg #[.int .i64 x, .int .i64 y, .slice A n c], .bool (inP P1 i)]) ∧ n ≤ 32768 ∧ w'.ownsRow wr.heap.size 5 1 (.slice A n c) n (u8s bs) ∧ Below wr.heap.size wr w' := by
  by_cases hi : inP P1 i = true
  · rw [hi]
    obtain ⟨k, rfl, hk⟩ := in_nat hi
    obtain ⟨x, y, bs, hm⟩ : ∃ x y bs, P1[k]? = some (x, y, bs) := ⟨P1[k].1, P1[k].2.1, P1[k].2.2, List.getElem?_eq_getElem hk⟩
    have hl : bs.length ≤ 32768 := hS _ (List.mem_of_getElem? hm)
    refine (at_x wr p1 r1 P1 h.n1.net k x y bs hm (by omega) bs.length rfl).mono ?_
    rintro e w' ⟨A, c, rfl, ho, hb⟩
    exact ⟨x, y, bs.length, A, c, bs, rfl, hl, ho, hb⟩
  · have hi' : inP P1 i = false := by simpa using hi
    rw [hi']
    refine (at_no wr p1 r1 P1 h.n1.net i hi').mono ?_
    rintro e w' ⟨rfl, hb⟩
    exact ⟨0, 0, 0, none, 0, [], rfl, by omega, ⟨rfl, .inl ⟨rfl, rfl⟩⟩, hb⟩
theorem at_b2 (h : Both H0 w wr p1 p2 F r1 r2 P1 P2) (hS : ∀ m ∈ P2, m.2.2.length ≤ 32768) (i : Int) :
    Calls Try.prog 26 #[.pointer (some ⟨p2, 0, none⟩), .int .i64 i] wr fun e w' => ∃ x y n A c, e = .returned (.tuple #[.agg #[.int .i64 x, .int .i64 y, .slice A n c], .bool (inP P2 i)]) ∧ Below wr.heap.size wr w' := by
  by_cases hi : inP P2 i = true
  · rw [hi]
    obtain ⟨k, rfl, hk⟩ := in_nat hi
    obtain ⟨x, y, bs, hm⟩ : ∃ x y bs, P2[k]? = some (x, y, bs) := ⟨P2[k].1, P2[k].2.1, P2[k].2.2, List.getElem?_eq_getElem hk⟩
    have hl : bs.length ≤ 32768 := hS _ (List.mem_of_getElem? hm)
    refine (at_y F wr p2 r2 P2 h.n2 k x y bs hm (by omega) bs.length rfl).mono ?_
    rintro e w' ⟨A, c, rfl, ho, hb⟩
    exact ⟨x, y, bs.length, A, c, rfl, hb⟩
  · have hi' : inP P2 i = false := by simpa using hi
    rw [hi']
    refine (at_ny F wr p2 r2 P2 h.n2 i hi').mono ?_
    rintro e w' ⟨rfl, hb⟩
    exact ⟨0, 0, 0, none, 0, rfl, hb⟩
end
end Go.Proofs.Ytcebmlcdhapnkaa.net
