/-
  'append' of lists in a round of a loop over a function.
-/
import Derived.Test.YtnjdondkggkfoaaGreatLst
import Derived.OwnWalkIn
namespace Go.Proofs.YtnjdondkggkfoaaGreat.mem
open Go.ChangeShapes Go.WideShapes Go.ChangeAt Go.RowKit plain words ord

end Go.Proofs.YtnjdondkggkfoaaGreat.mem
