/-
  A region that draws its order, inside a round of a loop over a function: what holds by a plan holds in the round, too; marks at a function's end.
-/
import Derived.Test.YtnjdondkggkfoaaGreatOrd
import Derived.Test.YtnjdondkggkfoaaGreatMem
import Derived.RangeFuncNested
import Derived.RangeFuncBound
import Derived.RangeFuncCalls
import Derived.RangeFuncLeaves
import Derived.Shelf.Abstract
import Derived.WalkKit
import Derived.OwnWalkIn
import Derived.TacticsInMore
import Derived.LoopNIn
import Derived.LoopIn
import Derived.OrdersIn
namespace Go.Proofs.YtnjdondkggkfoaaGreat.ord
open Go Go.RowKit words mem

/-- only the way on -/
def OnN (Q : Act → World → Prop) : Exit → Act → World → Prop := fun e a w => e = .normal ∧ Q a w
def noDefer (l : List Oper) : Bool := l.all fun o => match o.op with | .defer _ => false | _ => true
/-- the marks that loops over functions have left at a function's end -/
def mark_ (D : Nat) : Deferred := { target := .collected D, args := #[] }
end Go.Proofs.YtnjdondkggkfoaaGreat.ord
