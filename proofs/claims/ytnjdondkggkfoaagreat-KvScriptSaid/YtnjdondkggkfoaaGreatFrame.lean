/-
  What every frame of this seat uses.
-/
import Derived.Test.YtnjdondkggkfoaaGreatRows
import Derived.Test.YtnjdondkggkfoaaGreatWords
import Derived.WalkKit
import Derived.ProofKit
import Derived.OpenShut
import Derived.ShutString
import Derived.ChangeOld
import Derived.Below
namespace Go.Proofs.YtnjdondkggkfoaaGreat.frame
open Go.ChangeShapes Go.WideShapes Go.ChangeAt Go.RowKit words

theorem own : ownKnob Tryz.prog.godebug = none := by kernel_rfl
theorem laidOut : laidOutB Tryz.prog = true := by kernel_rfl

end Go.Proofs.YtnjdondkggkfoaaGreat.frame
