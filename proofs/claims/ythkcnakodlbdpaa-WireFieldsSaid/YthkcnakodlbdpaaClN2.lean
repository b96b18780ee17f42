/-
  The commit log's Encode: the closure that writes a number of a fixed width.
-/
import Derived.Test.YthkcnakodlbdpaaClN
import Derived.Test.YthkcnakodlbdpaaLst
namespace Go.Proofs.Ythkcnakodlbdpaa.cl
open Go.ChangeShapes Go.WideShapes Go.ChangeAt Go.RowKit plain words ord mem uvs uvc

end Go.Proofs.Ythkcnakodlbdpaa.cl
