/-
  The packets that are sent of a list.
-/
import Derived.Test.YtcebmlcdhapnkaaNetRemove
import Derived.Test.YtcebmlcdhapnkaaBRows
namespace Go.Proofs.Ytcebmlcdhapnkaa.net
open Go.ChangeShapes Go.WideShapes Go.ChangeAt Go.RowKit plain words ord mem

/-- the packets that are sent of a list to 0, numbered from i on *-/
def pendz : Nat → List (List UInt8) → List Msg
  | _, [] => []
  | i, b :: ls => if 32768 < b.length then pendz (i + 1) ls else ((i : Int), 0, b) :: pendz (i + 1) ls
theorem pendz_append (i : Nat) (a b : List (List UInt8)) : pendz i (a ++ b) = pendz i a ++ pendz (i + a.length) b := by
  induction a generalizing i with
  | nil => simp [pendz]
  | cons x a ih =>
    have e : i + 1 + a.length = i + (a.length + 1) := by omega
    simp only [List.cons_append, pendz, List.length_cons, ih, e]
    split <;> simp
theorem pendz_len (i : Nat) (a : List (List UInt8)) : (pendz i a).length ≤ a.length := by
  induction a generalizing i with
  | nil => simp [pendz]
  | cons x a ih =>
    simp only [pendz]
    have := ih (i + 1)
    split <;> simp <;> omega
theorem pendz_take {ls : List (List UInt8)} {k : Nat} {b : List UInt8} (h : ls[k]? = some b) : pendz 0 (ls.take (k + 1)) = if 32768 < b.length then pendz 0 (ls.take k) else pendz 0 (ls.take k) ++ [((k : Int), 0, b)] := by
  have hk : k < ls.length := by
    rcases Nat.lt_or_ge k ls.length with h1 | h1
    · exact h1
    · rw [List.getElem?_eq_none h1] at h; cases h
  rw [take_succ_of h, pendz_append, Nat.zero_add, List.length_take, Nat.min_eq_left (by omega)]
  simp only [pendz]
  split <;> simp
theorem pendz_size (i : Nat) (a : List (List UInt8)) : ∀ m ∈ pendz i a, m.2.2.length ≤ 32768 := by
  induction a generalizing i with
  | nil => simp [pendz]
  | cons x a ih =>
    intro m hm
    simp only [pendz] at hm
    split at hm
    · exact ih _ m hm
    · rcases List.mem_cons.1 hm with rfl | hm
      · simp only; omega
      · exact ih _ m hm
/-- one Send of the loop *-/
theorem pendz_send {ls : List (List UInt8)} {k n : Nat} {bs : List UInt8} (hn : n ≤ 256) (hk : k < n) (h : ls[k]? = some bs) : sent (pendz 0 (ls.take k)) ((k : Int), 0, bs) = (if 32768 < bs.length then 1 else 0, pendz 0 (ls.take (k + 1))) := by
  have h1 := pendz_len 0 (ls.take k)
  have h2 : (ls.take k).length ≤ k := List.length_take_le _ _
  rw [pendz_take h]
  unfold sent
  by_cases hb : 32768 < bs.length
  · rw [if_pos hb, if_pos hb, if_pos hb]
  · rw [if_neg hb, if_neg hb, if_neg hb, if_neg (by omega)]
end Go.Proofs.Ytcebmlcdhapnkaa.net
