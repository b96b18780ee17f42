/-
  Records as values and as cells.
-/
import Derived.Test.YthkcnakodlbdpaaClN2
namespace Go.Proofs.Ythkcnakodlbdpaa.cl
open Go.ChangeShapes Go.WideShapes Go.ChangeAt Go.RowKit plain words ord mem uvs uvc

/-- a text -/
def tx (a : By) : ByteArray := ⟨a.toArray⟩
theorem tx_list (a : By) : (tx a).data.toList = a := by simp [tx]
theorem tx_size (a : By) : (tx a).size = a.length := by show a.toArray.size = _; simp
theorem ba_tx (s : ByteArray) : ∃ a, s = tx a := ⟨s.data.toList, by cases s; simp [tx]⟩
def rc (r : Rec) : List Value := [.int .i64 r.sp, .string (tx r.id), .int .i64 r.t, .int .u64 r.v, .int .u64 r.s]
def rv (r : Rec) : Value := .agg (rc r).toArray
end Go.Proofs.Ythkcnakodlbdpaa.cl
