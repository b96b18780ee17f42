/-
  Placements: steps and placements that came in.
-/
import Derived.Test.YtkajdfflolilhaaLsOf
import Derived.Test.YtkajdfflolilhaaPmA
import Derived.Lib.SmallJoins
namespace Go.Proofs.Ytkajdfflolilhaa.pm
open Go.ChangeShapes Go.WideShapes Go.ChangeAt Go.RowKit Go.Deep plain words ord mem

end Go.Proofs.Ytkajdfflolilhaa.pm
