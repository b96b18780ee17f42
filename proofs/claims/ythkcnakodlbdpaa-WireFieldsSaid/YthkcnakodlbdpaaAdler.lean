/-
  Adler: the program's and the document's own loop are one fold.
-/
import Derived.Test.YthkcnakodlbdpaaRows
import Derived.Test.YthkcnakodlbdpaaWords
import Derived.ProofKit
import Derived.Outline
import Derived.Handy
namespace Go.Proofs.Ythkcnakodlbdpaa.adler
open Go.ChangeShapes Go.WideShapes Go.ChangeAt Go.RowKit plain words

def step (p : Int × Int) (c : UInt8) : Int × Int := ((p.1 + (c.toNat : Int)) % 65521, (p.2 + (p.1 + (c.toNat : Int)) % 65521) % 65521)
def adl (bs : List UInt8) : Int × Int := bs.foldl step (1, 0)
def sum (bs : List UInt8) : Int := (adl bs).2 * 65536 + (adl bs).1
theorem adl_snoc (l : List UInt8) (c : UInt8) : adl (l ++ [c]) = step (adl l) c := by simp [adl]
theorem adl_bd (l : List UInt8) : 0 ≤ (adl l).1 ∧ (adl l).1 ≤ 65520 ∧ 0 ≤ (adl l).2 ∧ (adl l).2 ≤ 65520 := by
  suffices h : ∀ (l : List UInt8) (p : Int × Int), 0 ≤ p.1 ∧ p.1 ≤ 65520 ∧ 0 ≤ p.2 ∧ p.2 ≤ 65520 → 0 ≤ (l.foldl step p).1 ∧ (l.foldl step p).1 ≤ 65520 ∧ 0 ≤ (l.foldl step p).2 ∧ (l.foldl step p).2 ≤ 65520 from h l (1, 0) ⟨by decide, by decide, by decide, by decide⟩
  intro l
  induction l with
  | nil => intro p h; exact h
  | cons c l ih =>
    intro p h
    rw [List.foldl_cons]
    exact ih _ (by unfold step; simp only; omega)

end Go.Proofs.Ythkcnakodlbdpaa.adler
