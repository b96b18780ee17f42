/-
  Placements: steps and placements that came in.
-/
import Derived.Test.YtnpkhkhchimcnaaLsOf
import Derived.Test.YtnpkhkhchimcnaaPmA
import Derived.Lib.SmallJoins
namespace Go.Proofs.Ytnpkhkhchimcnaa.pm
open Go.ChangeShapes Go.WideShapes Go.ChangeAt Go.RowKit Go.Deep plain words ord mem

def TE : El O := ⟨oE, 3, 37, oE_len, oE_one, by decide⟩
theorem steps_of {H : Type} {enc : TypeId × Value → H} {W : World} {a : Option Addr} {len cap : Nat} {d : DataW H} {p : List MemPlace}
    (h0 : DataW.Trod enc Try.prog W 0 (fun _ => true) true 48 (.slice a len cap) d p) : IsLs TE (fun _ => True) W a len cap :=
  ls_of TE (fun _ => True) Try.underlying48 Try.underlying37 (by kernel_rfl) (by kernel_rfl) (by kernel_rfl) (fun vs hv => by
    obtain ⟨n0, e0, _⟩ := reads_int Try.underlying3 (hv 0 _ rfl)
    obtain ⟨n1, e1, _⟩ := reads_int Try.underlying3 (hv 1 _ rfl)
    obtain ⟨n2, e2, _⟩ := reads_int Try.underlying3 (hv 2 _ rfl)
    refine ⟨(n0, n1, n2), fun j hj => ?_, trivial⟩
    have h4 : j = 0 ∨ j = 1 ∨ j = 2 := by have : j < 3 := hj; omega
    rcases h4 with rfl | rfl | rfl
    · rw [e0]; rfl
    · rw [e1]; rfl
    · rw [e2]; rfl) h0
theorem step_at {w : World} {B n i : Nat} {A : Option Addr} {l : List O} (h : Ls TE w B A n l) {o : O} (hx : l[i]? = some o) :
    ∃ b off, A = some ⟨b, off, none⟩ ∧ b < B ∧ w.cell? ⟨b, off + i * 3, none⟩ = some (.int .i64 o.1) ∧ w.cell? ⟨b, off + i * 3 + 1, none⟩ = some (.int .i64 o.2.1) ∧ w.cell? ⟨b, off + i * 3 + 2, none⟩ = some (.int .i64 o.2.2) := by
  obtain ⟨b, off, e, hb, hc⟩ := h.at_ hx
  exact ⟨b, off, e, hb, hc 0 (by decide), hc 1 (by decide), hc 2 (by decide)⟩
end Go.Proofs.Ytnpkhkhchimcnaa.pm
