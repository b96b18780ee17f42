/-
  Placements: steps and placements that came in.
-/
import Derived.Test.YtdbhoglbmphjjaaLsOf
import Derived.Test.YtdbhoglbmphjjaaPmA
import Derived.Lib.SmallJoins
namespace Go.Proofs.Ytdbhoglbmphjjaa.pm
open Go.ChangeShapes Go.WideShapes Go.ChangeAt Go.RowKit Go.Deep plain words ord mem

end Go.Proofs.Ytdbhoglbmphjjaa.pm
