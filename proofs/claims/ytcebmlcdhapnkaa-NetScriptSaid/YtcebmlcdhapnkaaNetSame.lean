/-
  Two packets compared, as the laws of net do it.
-/
import Derived.Test.YtcebmlcdhapnkaaNet
namespace Go.Proofs.Ytcebmlcdhapnkaa.net
open Go.ChangeShapes Go.WideShapes Go.ChangeAt Go.RowKit plain words ord mem

def sameM (a b : Msg) : Bool := a.1 == b.1 && a.2.1 == b.2.1 && a.2.2 == b.2.2
theorem sameM_eq (a b : Msg) : sameM a b = true ↔ a = b := by
  obtain ⟨x, y, l⟩ := a
  obtain ⟨x', y', l'⟩ := b
  simp [sameM, and_assoc]
theorem bytes_list (l : List UInt8) : (⟨l.toArray⟩ : ByteArray).toList = l := by rw [ByteArray.toList_eq]
set_option maxHeartbeats 1000000 in
theorem same_x (w : World) (x y x' y' : Int) (n c n' c' : Nat) (A A' : Option Addr) (bs bs' : List UInt8) (h : Bs w w.heap.size A n bs) (h' : Bs w w.heap.size A' n' bs') :
    Calls Try.prog 20 #[.agg #[.int .i64 x, .int .i64 y, .slice A n c], .agg #[.int .i64 x', .int .i64 y', .slice A' n' c']] w fun e w' => e = .returned (.bool (sameM (x, y, bs) (x', y', bs'))) ∧ Below w.heap.size w w' := by
  obtain ⟨P1, hP1⟩ : ∃ o, Obj.cells #[.int .i64 x, .int .i64 y, .slice A n c] 32 (0, 0) = o := ⟨_, rfl⟩
  obtain ⟨P2, hP2⟩ : ∃ o, Obj.cells #[.int .i64 x', .int .i64 y', .slice A' n' c'] 32 (0, 0) = o := ⟨_, rfl⟩
  have hb : Below w.heap.size w ((w.alloc P1).alloc P2) := ((Below.refl _ _).alloc (Nat.le_refl _) _).alloc (by simp) _
  have k0 := conv_string (P := Try.prog) (c := c) (h.below hb (Nat.le_refl _)) 28 9 5 Try.underlying28 Try.underlying9 Try.underlying5
  have k1 := conv_string (P := Try.prog) (c := c') (h'.below hb (Nat.le_refl _)) 28 9 5 Try.underlying28 Try.underlying9 Try.underlying5
  subst hP1 hP2
  have HB := Lib.hid hb
  clear hb h h'
  unfold sameM
  by_cases ex : x = x'
  · by_cases ey : y = y'
    · subst ex ey
      go_enter Try.func20, Try.ntmps20
      go_wp2_with (fail)
      go_ret
      exact ⟨ret_bool (by simp [bytes_list]), HB.out⟩
    · have ey' : (y == y') = false := by simpa using ey
      subst ex
      go_enter Try.func20, Try.ntmps20
      go_wp2_with (fail)
      go_ret
      exact ⟨ret_bool (by simp [ey']), HB.out⟩
  · have ex' : (x == x') = false := by simpa using ex
    go_enter Try.func20, Try.ntmps20
    go_wp2_with (fail)
    go_ret
    exact ⟨ret_bool (by simp [ex']), HB.out⟩
end Go.Proofs.Ytcebmlcdhapnkaa.net
