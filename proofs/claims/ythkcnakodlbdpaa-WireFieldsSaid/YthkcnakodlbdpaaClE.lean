/-
  The commit log's Encode.
-/
import Derived.Test.YthkcnakodlbdpaaClR
import Derived.Test.YthkcnakodlbdpaaRowStr
import Derived.Test.YthkcnakodlbdpaaTxt
namespace Go.Proofs.Ythkcnakodlbdpaa.cl
open Go.ChangeShapes Go.WideShapes Go.ChangeAt Go.RowKit plain words ord mem uvs uvc

def encB (r : Rec) : By := if err r = 0 then enc r else []
theorem encB_ok {r : Rec} (h : err r = 0) : encB r = enc r := by unfold encB; rw [if_pos h]
theorem encB_no {r : Rec} {e : Int} (h : err r = e) (he : e ≠ 0) : encB r = [] := by unfold encB; rw [if_neg (by rw [h]; exact he)]
def RetEnc (w : World) (r : Rec) (e : Ending) (w' : World) : Prop :=
  ∃ A c, e = .returned (.tuple #[.slice A (encB r).length c, .int .i64 (err r)]) ∧ w'.ownsRow w.heap.size 5 1 (.slice A (encB r).length c) (encB r).length (u8s (encB r)) ∧ Below w.heap.size w w' ∧ (A = none → c = 0)
theorem ret_no {w w' : World} {r : Rec} {e : Int} (h : err r = e) (he : e ≠ 0) (hb : Below w.heap.size w w') : RetEnc w r (.returned (.tuple #[.slice none 0 0, .int .i64 e])) w' := by
  refine ⟨none, 0, by rw [encB_no h he, h]; rfl, ?_, hb, fun _ => rfl⟩
  rw [encB_no h he]
  exact ⟨by simp [u8s], .inl ⟨rfl, rfl⟩⟩
section
variable {w0 w w' : World} {r : Rec} {B : Nat} {l l' : By}
end
theorem err1 {r : Rec} (h : r.sp < 0 ∨ 4 ≤ r.sp ∨ r.t < 0 ∨ 1099511627776 < r.t) : err r = 1 := by unfold err; rw [if_pos h]
theorem err80 {r : Rec} (h : ¬ (r.sp < 0 ∨ 4 ≤ r.sp ∨ r.t < 0 ∨ 1099511627776 < r.t)) (h2 : r.id.length < 1 ∨ 16 < r.id.length) : err r = 80 := by unfold err; rw [if_neg h, if_pos h2]
end Go.Proofs.Ythkcnakodlbdpaa.cl
