/-
  Ranges: the ends of a normal list, and when its length is nought.
-/
import Derived.Test.YtemmfcinpkfoiaaLawRangesNormal
namespace Go.Proofs.Ytemmfcinpkfoiaa.rg
open Go.ChangeShapes Go.WideShapes Go.ChangeAt Go.RowKit plain words ord mem

def InR (l : List R) : Prop := ∀ x ∈ l, (-9223372036854775808 ≤ x.1 ∧ x.1 ≤ 9223372036854775807) ∧ -9223372036854775808 ≤ x.2 ∧ x.2 ≤ 9223372036854775807
theorem norm_ends {l : List R} {lo hi : Int} (h : ∀ x ∈ l, lo ≤ x.1 ∧ x.2 ≤ hi) : ∀ x ∈ normR l, lo ≤ x.1 ∧ x.2 ≤ hi := by
  intro x hx
  obtain ⟨b, hnf⟩ := (normR_nf l).1
  have hne := hnf.ne x hx
  have h1 : hasR (normR l) x.1 := ⟨x, hx, by omega, hne⟩
  have h2 : hasR (normR l) (x.2 - 1) := ⟨x, hx, by omega, by omega⟩
  rw [(normR_nf l).2] at h1 h2
  obtain ⟨y, hy, a1, a2⟩ := h1
  obtain ⟨z, hz, c1, c2⟩ := h2
  have := h y hy
  have := h z hz
  omega
theorem NFb.rebase {b b' : Int} {l : List R} (h : NFb b l) (hb : ∀ x ∈ l, b' < x.1) : NFb b' l := by
  cases l with
  | nil => trivial
  | cons x l => exact ⟨hb x (by simp), h.2⟩
theorem len_zero {l : List R} (h : InR l) : (IntKind.u64.wrap (lenI (normR l)) = 0) ↔ normR l = [] := by
  have he := norm_ends (l := l) (lo := -9223372036854775808) (hi := 9223372036854775807) fun x hx => ⟨(h x hx).1.1, (h x hx).2.2⟩
  obtain ⟨b, hnf⟩ := (normR_nf l).1
  have h2 := (hnf.rebase (b' := -9223372036854775809) fun x hx => by have := (he x hx).1; omega).len 9223372036854775807 (fun x hx => (he x hx).2) (by omega)
  rw [wrap64]
  constructor
  · intro e
    refine List.eq_nil_of_length_eq_zero ?_
    omega
  · intro e
    rw [e]
    rfl
/-- a list of ranges that came in: its numbers lie in 64 bits *-/
theorem rgs_in {w : World} {A : Option Addr} {n c : Nat} (h : IsPairs .i64 .i64 w A n c) {l : List R} {B : Nat} (hr : Rgs w B A n l) : InR l := by
  intro x hx
  obtain ⟨i, hi, rfl⟩ := List.mem_iff_getElem.1 hx
  have hin : i < n := by rw [← hr.1]; exact hi
  obtain ⟨b, off, rfl, _, c1, c2⟩ := hr.at_ hin
  rcases h with ⟨h0, _⟩ | ⟨a, ha, h1, h2, h3⟩
  · cases h0
  · cases ha
    obtain ⟨n0, n1, e1, e2, w1, w2⟩ := h3 i hin
    rw [words.add_plain] at e1 e2
    rw [c1] at e1
    rw [show off + i * 2 + 1 = off + (i * 2 + 1) from by omega, e2] at c2
    injection e1 with e1
    injection e1 with _ e1
    injection c2 with c2
    injection c2 with _ c2
    subst e1
    subst c2
    have b1 := wf_i64 w1
    have b2 := wf_i64 w2
    exact ⟨b1, b2⟩
end Go.Proofs.Ytemmfcinpkfoiaa.rg
