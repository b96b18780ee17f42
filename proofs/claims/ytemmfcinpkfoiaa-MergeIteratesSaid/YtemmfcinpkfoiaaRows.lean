/-
  No cell of these rows narrows 'for every input' (looked for: loops, veiled, ifaces, maps, wideKeys, modest, calm, conditions, laid).
  DERIVED. THE GIVEN ROWS OF THIS SEAT. 12 by the template 'for every input the law returns true; each argument reads behind the call as it read before'; 0 by the template 'total and deterministic' (their statements: YtemmfcinpkfoiaaTotals.lean).
  GIVEN WITH THE SEED: the statements are not yours to turn. If you find one false, say at which input.
  Laid BY PROGRAM, IN A SANDBOX (cutbox-rows.mjs): the forced cells as the released guide's own fill.sh prints them over the translation 4417e248e9f9ff13… (all of the seat's roots in one cut). By AI agents, Wed Nov 11 2026. No macro, syntax, notation, axiom, sorry.
-/
import Derived.Test.YtemmfcinpkfoiaaChecked
import GoSem.Claim
import GoSem.ClaimJoined
import GoSem.ClaimMapViews
import Derived.JoinedTies
import Derived.KernelRfl
namespace Go.Proofs.Ytemmfcinpkfoiaa
/- THE CELL 'sum', in the pinned program and in every row, IS THE sha256 OF THE DUMP (.gsa) THAT YtemmfcinpkfoiaaProg.lean LOADS. Nothing in Lean hashes anything: it is a label: what it is worth is what the hold of that sum in a sandbox is worth. -/
noncomputable def Try.pinned : Pinned := { name := "ytemmfcinpkfoiaa", sum := "4417e248e9f9ff135892488499c250579c88fa0151b123d79b40c0c6ab2b7c4f", checked := Try.checked }
namespace Rows
def none {H : Type} : Left H := { results := [], args := [] }

/-- 'thermographlaw06.MergeOrder': WHATEVER THE INPUT: true; the input reads as it did. -/
def mergeOrderSpec : ChangeSpec := { name := "mergeOrder", fn := fun _ => fun
  | [d1, d2, d3] => { results := [.lit (.bool true)], args := [d1, d2, d3] }
  | _ => none }
def mergeOrderRow : OpenClaim := { program := "ytemmfcinpkfoiaa", sum := "4417e248e9f9ff135892488499c250579c88fa0151b123d79b40c0c6ab2b7c4f", func := "thermograph/thermographlaw06.MergeOrder", spec := "mergeOrder", apart := false }
def MergeOrderSaid : Prop := mergeOrderRow.holds Try.pinned (OpenSpec.ofChange mergeOrderSpec)

/-- ITS FALSE NEIGHBOUR: 'it returns false'. Refute it at one input. -/
def mergeOrderWrong : ChangeSpec := { name := "mergeOrder", fn := fun _ => fun
  | [d1, d2, d3] => { results := [.lit (.bool false)], args := [d1, d2, d3] }
  | _ => none }
def MergeOrderWrongFalsely : Prop := mergeOrderRow.holds Try.pinned (OpenSpec.ofChange mergeOrderWrong)

/-- 'thermographlaw06.MergeAgain': WHATEVER THE INPUT: true; the input reads as it did. -/
def mergeAgainSpec : ChangeSpec := { name := "mergeAgain", fn := fun _ => fun
  | [d1, d2] => { results := [.lit (.bool true)], args := [d1, d2] }
  | _ => none }
def mergeAgainRow : OpenClaim := { program := "ytemmfcinpkfoiaa", sum := "4417e248e9f9ff135892488499c250579c88fa0151b123d79b40c0c6ab2b7c4f", func := "thermograph/thermographlaw06.MergeAgain", spec := "mergeAgain", unfollowed := true, recurses := true, apart := false }
def MergeAgainSaid : Prop := mergeAgainRow.holds Try.pinned (OpenSpec.ofChange mergeAgainSpec)

/-- ITS FALSE NEIGHBOUR: 'it returns false'. Refute it at one input. -/
def mergeAgainWrong : ChangeSpec := { name := "mergeAgain", fn := fun _ => fun
  | [d1, d2] => { results := [.lit (.bool false)], args := [d1, d2] }
  | _ => none }
def MergeAgainWrongFalsely : Prop := mergeAgainRow.holds Try.pinned (OpenSpec.ofChange mergeAgainWrong)

/-- 'thermographlaw06.MergeViews': WHATEVER THE INPUT: true; the input reads as it did. -/
def mergeViewsSpec : ChangeSpec := { name := "mergeViews", fn := fun _ => fun
  | [d1, d2] => { results := [.lit (.bool true)], args := [d1, d2] }
  | _ => none }
def mergeViewsRow : OpenClaim := { program := "ytemmfcinpkfoiaa", sum := "4417e248e9f9ff135892488499c250579c88fa0151b123d79b40c0c6ab2b7c4f", func := "thermograph/thermographlaw06.MergeViews", spec := "mergeViews", unfollowed := true, recurses := true, apart := false }
def MergeViewsSaid : Prop := mergeViewsRow.holds Try.pinned (OpenSpec.ofChange mergeViewsSpec)

/-- ITS FALSE NEIGHBOUR: 'it returns false'. Refute it at one input. -/
def mergeViewsWrong : ChangeSpec := { name := "mergeViews", fn := fun _ => fun
  | [d1, d2] => { results := [.lit (.bool false)], args := [d1, d2] }
  | _ => none }
def MergeViewsWrongFalsely : Prop := mergeViewsRow.holds Try.pinned (OpenSpec.ofChange mergeViewsWrong)

/-- 'thermographlaw06.MergeIterates': WHATEVER THE INPUT: true; the input reads as it did. -/
def mergeIteratesSpec : ChangeSpec := { name := "mergeIterates", fn := fun _ => fun
  | [d] => { results := [.lit (.bool true)], args := [d] }
  | _ => none }
def mergeIteratesRow : OpenClaim := { program := "ytemmfcinpkfoiaa", sum := "4417e248e9f9ff135892488499c250579c88fa0151b123d79b40c0c6ab2b7c4f", func := "thermograph/thermographlaw06.MergeIterates", spec := "mergeIterates", unfollowed := true, recurses := true, apart := false }
def MergeIteratesSaid : Prop := mergeIteratesRow.holds Try.pinned (OpenSpec.ofChange mergeIteratesSpec)

/-- ITS FALSE NEIGHBOUR: 'it returns false'. Refute it at one input. -/
def mergeIteratesWrong : ChangeSpec := { name := "mergeIterates", fn := fun _ => fun
  | [d] => { results := [.lit (.bool false)], args := [d] }
  | _ => none }
def MergeIteratesWrongFalsely : Prop := mergeIteratesRow.holds Try.pinned (OpenSpec.ofChange mergeIteratesWrong)

/-- 'thermographlaw06.MergeParts': WHATEVER THE INPUT: true; the input reads as it did. -/
def mergePartsSpec : ChangeSpec := { name := "mergeParts", fn := fun _ => fun
  | [d1, d2] => { results := [.lit (.bool true)], args := [d1, d2] }
  | _ => none }
def mergePartsRow : OpenClaim := { program := "ytemmfcinpkfoiaa", sum := "4417e248e9f9ff135892488499c250579c88fa0151b123d79b40c0c6ab2b7c4f", func := "thermograph/thermographlaw06.MergeParts", spec := "mergeParts", unfollowed := true, recurses := true, apart := false }
def MergePartsSaid : Prop := mergePartsRow.holds Try.pinned (OpenSpec.ofChange mergePartsSpec)

/-- ITS FALSE NEIGHBOUR: 'it returns false'. Refute it at one input. -/
def mergePartsWrong : ChangeSpec := { name := "mergeParts", fn := fun _ => fun
  | [d1, d2] => { results := [.lit (.bool false)], args := [d1, d2] }
  | _ => none }
def MergePartsWrongFalsely : Prop := mergePartsRow.holds Try.pinned (OpenSpec.ofChange mergePartsWrong)

/-- 'thermographlaw06.MergeBest': WHATEVER THE INPUT: true; the input reads as it did. -/
def mergeBestSpec : ChangeSpec := { name := "mergeBest", fn := fun _ => fun
  | [d] => { results := [.lit (.bool true)], args := [d] }
  | _ => none }
def mergeBestRow : OpenClaim := { program := "ytemmfcinpkfoiaa", sum := "4417e248e9f9ff135892488499c250579c88fa0151b123d79b40c0c6ab2b7c4f", func := "thermograph/thermographlaw06.MergeBest", spec := "mergeBest", unfollowed := true, recurses := true, apart := false }
def MergeBestSaid : Prop := mergeBestRow.holds Try.pinned (OpenSpec.ofChange mergeBestSpec)

/-- ITS FALSE NEIGHBOUR: 'it returns false'. Refute it at one input. -/
def mergeBestWrong : ChangeSpec := { name := "mergeBest", fn := fun _ => fun
  | [d] => { results := [.lit (.bool false)], args := [d] }
  | _ => none }
def MergeBestWrongFalsely : Prop := mergeBestRow.holds Try.pinned (OpenSpec.ofChange mergeBestWrong)

/-- 'thermographlaw06.MergeCuts': WHATEVER THE INPUT: true; the input reads as it did. -/
def mergeCutsSpec : ChangeSpec := { name := "mergeCuts", fn := fun _ => fun
  | [d1, d2] => { results := [.lit (.bool true)], args := [d1, d2] }
  | _ => none }
def mergeCutsRow : OpenClaim := { program := "ytemmfcinpkfoiaa", sum := "4417e248e9f9ff135892488499c250579c88fa0151b123d79b40c0c6ab2b7c4f", func := "thermograph/thermographlaw06.MergeCuts", spec := "mergeCuts", unfollowed := true, recurses := true, apart := false }
def MergeCutsSaid : Prop := mergeCutsRow.holds Try.pinned (OpenSpec.ofChange mergeCutsSpec)

/-- ITS FALSE NEIGHBOUR: 'it returns false'. Refute it at one input. -/
def mergeCutsWrong : ChangeSpec := { name := "mergeCuts", fn := fun _ => fun
  | [d1, d2] => { results := [.lit (.bool false)], args := [d1, d2] }
  | _ => none }
def MergeCutsWrongFalsely : Prop := mergeCutsRow.holds Try.pinned (OpenSpec.ofChange mergeCutsWrong)

/-- 'thermographlaw16.RangesOrder': WHATEVER THE INPUT: true; the input reads as it did. -/
def rangesOrderSpec : ChangeSpec := { name := "rangesOrder", fn := fun _ => fun
  | [d1, d2] => { results := [.lit (.bool true)], args := [d1, d2] }
  | _ => none }
def rangesOrderRow : OpenClaim := { program := "ytemmfcinpkfoiaa", sum := "4417e248e9f9ff135892488499c250579c88fa0151b123d79b40c0c6ab2b7c4f", func := "thermograph/thermographlaw16.RangesOrder", spec := "rangesOrder", unfollowed := true, recurses := true, apart := false }
def RangesOrderSaid : Prop := rangesOrderRow.holds Try.pinned (OpenSpec.ofChange rangesOrderSpec)

/-- ITS FALSE NEIGHBOUR: 'it returns false'. Refute it at one input. -/
def rangesOrderWrong : ChangeSpec := { name := "rangesOrder", fn := fun _ => fun
  | [d1, d2] => { results := [.lit (.bool false)], args := [d1, d2] }
  | _ => none }
def RangesOrderWrongFalsely : Prop := rangesOrderRow.holds Try.pinned (OpenSpec.ofChange rangesOrderWrong)

/-- 'thermographlaw16.RangesSets': WHATEVER THE INPUT: true; the input reads as it did. -/
def rangesSetsSpec : ChangeSpec := { name := "rangesSets", fn := fun _ => fun
  | [d1, d2, d3] => { results := [.lit (.bool true)], args := [d1, d2, d3] }
  | _ => none }
def rangesSetsRow : OpenClaim := { program := "ytemmfcinpkfoiaa", sum := "4417e248e9f9ff135892488499c250579c88fa0151b123d79b40c0c6ab2b7c4f", func := "thermograph/thermographlaw16.RangesSets", spec := "rangesSets", unfollowed := true, recurses := true, apart := false }
def RangesSetsSaid : Prop := rangesSetsRow.holds Try.pinned (OpenSpec.ofChange rangesSetsSpec)

/-- ITS FALSE NEIGHBOUR: 'it returns false'. Refute it at one input. -/
def rangesSetsWrong : ChangeSpec := { name := "rangesSets", fn := fun _ => fun
  | [d1, d2, d3] => { results := [.lit (.bool false)], args := [d1, d2, d3] }
  | _ => none }
def RangesSetsWrongFalsely : Prop := rangesSetsRow.holds Try.pinned (OpenSpec.ofChange rangesSetsWrong)

/-- 'thermographlaw16.RangesNormal': WHATEVER THE INPUT: true; the input reads as it did. -/
def rangesNormalSpec : ChangeSpec := { name := "rangesNormal", fn := fun _ => fun
  | [d1, d2] => { results := [.lit (.bool true)], args := [d1, d2] }
  | _ => none }
def rangesNormalRow : OpenClaim := { program := "ytemmfcinpkfoiaa", sum := "4417e248e9f9ff135892488499c250579c88fa0151b123d79b40c0c6ab2b7c4f", func := "thermograph/thermographlaw16.RangesNormal", spec := "rangesNormal", unfollowed := true, recurses := true, apart := false }
def RangesNormalSaid : Prop := rangesNormalRow.holds Try.pinned (OpenSpec.ofChange rangesNormalSpec)

/-- ITS FALSE NEIGHBOUR: 'it returns false'. Refute it at one input. -/
def rangesNormalWrong : ChangeSpec := { name := "rangesNormal", fn := fun _ => fun
  | [d1, d2] => { results := [.lit (.bool false)], args := [d1, d2] }
  | _ => none }
def RangesNormalWrongFalsely : Prop := rangesNormalRow.holds Try.pinned (OpenSpec.ofChange rangesNormalWrong)

/-- 'thermographlaw16.RangesBack': WHATEVER THE INPUT: true; the input reads as it did. -/
def rangesBackSpec : ChangeSpec := { name := "rangesBack", fn := fun _ => fun
  | [d1, d2, d3] => { results := [.lit (.bool true)], args := [d1, d2, d3] }
  | _ => none }
def rangesBackRow : OpenClaim := { program := "ytemmfcinpkfoiaa", sum := "4417e248e9f9ff135892488499c250579c88fa0151b123d79b40c0c6ab2b7c4f", func := "thermograph/thermographlaw16.RangesBack", spec := "rangesBack", unfollowed := true, recurses := true, apart := false }
def RangesBackSaid : Prop := rangesBackRow.holds Try.pinned (OpenSpec.ofChange rangesBackSpec)

/-- ITS FALSE NEIGHBOUR: 'it returns false'. Refute it at one input. -/
def rangesBackWrong : ChangeSpec := { name := "rangesBack", fn := fun _ => fun
  | [d1, d2, d3] => { results := [.lit (.bool false)], args := [d1, d2, d3] }
  | _ => none }
def RangesBackWrongFalsely : Prop := rangesBackRow.holds Try.pinned (OpenSpec.ofChange rangesBackWrong)

/-- 'thermographlaw16.RangesLen': WHATEVER THE INPUT: true; the input reads as it did. -/
def rangesLenSpec : ChangeSpec := { name := "rangesLen", fn := fun _ => fun
  | [d1, d2] => { results := [.lit (.bool true)], args := [d1, d2] }
  | _ => none }
def rangesLenRow : OpenClaim := { program := "ytemmfcinpkfoiaa", sum := "4417e248e9f9ff135892488499c250579c88fa0151b123d79b40c0c6ab2b7c4f", func := "thermograph/thermographlaw16.RangesLen", spec := "rangesLen", unfollowed := true, recurses := true, apart := false }
def RangesLenSaid : Prop := rangesLenRow.holds Try.pinned (OpenSpec.ofChange rangesLenSpec)

/-- ITS FALSE NEIGHBOUR: 'it returns false'. Refute it at one input. -/
def rangesLenWrong : ChangeSpec := { name := "rangesLen", fn := fun _ => fun
  | [d1, d2] => { results := [.lit (.bool false)], args := [d1, d2] }
  | _ => none }
def RangesLenWrongFalsely : Prop := rangesLenRow.holds Try.pinned (OpenSpec.ofChange rangesLenWrong)

/- THE SECOND FORM. 'bulk': how many values and letters a reading holds, each counted each time it is reached (what is shared counts as often as it is met; a slice's spare places count too). A statement '..UptoSaid' is the law's where the arguments, and the package variables that the reading takes, are together of bulk at most 1048576: NARROWER than '..Said'. Prove '..Said' where nothing that the law and all that it calls make is longer than what came in: it says more and counts as full. Else prove '..UptoSaid'. A law counts once. -/
mutual
def uptoBulk {H : Type} : DataW H → Nat
  | .lit (.string bytes) => bytes.length + 1
  | .lit _ => 1
  | .nil => 1
  | .ptr d => uptoBulk d + 1
  | .slice elems spare => uptoBulkAll elems + uptoBulkAll spare + 1
  | .agg parts => uptoBulkAll parts + 1
  | .iface _ d => uptoBulk d + 1
  | .map entries => uptoBulkEntries entries + 1
  | .held _ => 1
def uptoBulkAll {H : Type} : List (DataW H) → Nat
  | [] => 0
  | d :: r => uptoBulk d + uptoBulkAll r
def uptoBulkEntries {H : Type} : List (Lit × DataW H) → Nat
  | [] => 0
  | x :: r => uptoBulkEntry x + uptoBulkEntries r
def uptoBulkEntry {H : Type} : Lit × DataW H → Nat
  | (.string bytes, d) => bytes.length + uptoBulk d + 1
  | (_, d) => uptoBulk d + 1
 end
def uptoSmall : (H : Type) → List (DataW H) → Bool := fun _ ds => decide (uptoBulkAll ds ≤ 1048576)
def OpenSpec.upto (s : _root_.Go.ChangeSpec) : _root_.Go.OpenSpec := { _root_.Go.OpenSpec.ofChange s with cond := some uptoSmall }

/-- 'thermographlaw06.MergeOrder', WHERE WHAT IT READS IS OF BULK AT MOST 1048576: true; the input reads as it did. -/
def mergeOrderUptoRow : OpenClaim := { program := "ytemmfcinpkfoiaa", sum := "4417e248e9f9ff135892488499c250579c88fa0151b123d79b40c0c6ab2b7c4f", func := "thermograph/thermographlaw06.MergeOrder", spec := "mergeOrder", apart := false, narrowed := true }
def MergeOrderUptoSaid : Prop := mergeOrderUptoRow.holds Try.pinned (OpenSpec.upto mergeOrderSpec)

/-- 'thermographlaw06.MergeAgain', WHERE WHAT IT READS IS OF BULK AT MOST 1048576: true; the input reads as it did. -/
def mergeAgainUptoRow : OpenClaim := { program := "ytemmfcinpkfoiaa", sum := "4417e248e9f9ff135892488499c250579c88fa0151b123d79b40c0c6ab2b7c4f", func := "thermograph/thermographlaw06.MergeAgain", spec := "mergeAgain", unfollowed := true, recurses := true, apart := false, narrowed := true }
def MergeAgainUptoSaid : Prop := mergeAgainUptoRow.holds Try.pinned (OpenSpec.upto mergeAgainSpec)

/-- 'thermographlaw06.MergeViews', WHERE WHAT IT READS IS OF BULK AT MOST 1048576: true; the input reads as it did. -/
def mergeViewsUptoRow : OpenClaim := { program := "ytemmfcinpkfoiaa", sum := "4417e248e9f9ff135892488499c250579c88fa0151b123d79b40c0c6ab2b7c4f", func := "thermograph/thermographlaw06.MergeViews", spec := "mergeViews", unfollowed := true, recurses := true, apart := false, narrowed := true }
def MergeViewsUptoSaid : Prop := mergeViewsUptoRow.holds Try.pinned (OpenSpec.upto mergeViewsSpec)

/-- 'thermographlaw06.MergeIterates', WHERE WHAT IT READS IS OF BULK AT MOST 1048576: true; the input reads as it did. -/
def mergeIteratesUptoRow : OpenClaim := { program := "ytemmfcinpkfoiaa", sum := "4417e248e9f9ff135892488499c250579c88fa0151b123d79b40c0c6ab2b7c4f", func := "thermograph/thermographlaw06.MergeIterates", spec := "mergeIterates", unfollowed := true, recurses := true, apart := false, narrowed := true }
def MergeIteratesUptoSaid : Prop := mergeIteratesUptoRow.holds Try.pinned (OpenSpec.upto mergeIteratesSpec)

/-- 'thermographlaw06.MergeParts', WHERE WHAT IT READS IS OF BULK AT MOST 1048576: true; the input reads as it did. -/
def mergePartsUptoRow : OpenClaim := { program := "ytemmfcinpkfoiaa", sum := "4417e248e9f9ff135892488499c250579c88fa0151b123d79b40c0c6ab2b7c4f", func := "thermograph/thermographlaw06.MergeParts", spec := "mergeParts", unfollowed := true, recurses := true, apart := false, narrowed := true }
def MergePartsUptoSaid : Prop := mergePartsUptoRow.holds Try.pinned (OpenSpec.upto mergePartsSpec)

/-- 'thermographlaw06.MergeBest', WHERE WHAT IT READS IS OF BULK AT MOST 1048576: true; the input reads as it did. -/
def mergeBestUptoRow : OpenClaim := { program := "ytemmfcinpkfoiaa", sum := "4417e248e9f9ff135892488499c250579c88fa0151b123d79b40c0c6ab2b7c4f", func := "thermograph/thermographlaw06.MergeBest", spec := "mergeBest", unfollowed := true, recurses := true, apart := false, narrowed := true }
def MergeBestUptoSaid : Prop := mergeBestUptoRow.holds Try.pinned (OpenSpec.upto mergeBestSpec)

/-- 'thermographlaw06.MergeCuts', WHERE WHAT IT READS IS OF BULK AT MOST 1048576: true; the input reads as it did. -/
def mergeCutsUptoRow : OpenClaim := { program := "ytemmfcinpkfoiaa", sum := "4417e248e9f9ff135892488499c250579c88fa0151b123d79b40c0c6ab2b7c4f", func := "thermograph/thermographlaw06.MergeCuts", spec := "mergeCuts", unfollowed := true, recurses := true, apart := false, narrowed := true }
def MergeCutsUptoSaid : Prop := mergeCutsUptoRow.holds Try.pinned (OpenSpec.upto mergeCutsSpec)

/-- 'thermographlaw16.RangesOrder', WHERE WHAT IT READS IS OF BULK AT MOST 1048576: true; the input reads as it did. -/
def rangesOrderUptoRow : OpenClaim := { program := "ytemmfcinpkfoiaa", sum := "4417e248e9f9ff135892488499c250579c88fa0151b123d79b40c0c6ab2b7c4f", func := "thermograph/thermographlaw16.RangesOrder", spec := "rangesOrder", unfollowed := true, recurses := true, apart := false, narrowed := true }
def RangesOrderUptoSaid : Prop := rangesOrderUptoRow.holds Try.pinned (OpenSpec.upto rangesOrderSpec)

/-- 'thermographlaw16.RangesSets', WHERE WHAT IT READS IS OF BULK AT MOST 1048576: true; the input reads as it did. -/
def rangesSetsUptoRow : OpenClaim := { program := "ytemmfcinpkfoiaa", sum := "4417e248e9f9ff135892488499c250579c88fa0151b123d79b40c0c6ab2b7c4f", func := "thermograph/thermographlaw16.RangesSets", spec := "rangesSets", unfollowed := true, recurses := true, apart := false, narrowed := true }
def RangesSetsUptoSaid : Prop := rangesSetsUptoRow.holds Try.pinned (OpenSpec.upto rangesSetsSpec)

/-- 'thermographlaw16.RangesNormal', WHERE WHAT IT READS IS OF BULK AT MOST 1048576: true; the input reads as it did. -/
def rangesNormalUptoRow : OpenClaim := { program := "ytemmfcinpkfoiaa", sum := "4417e248e9f9ff135892488499c250579c88fa0151b123d79b40c0c6ab2b7c4f", func := "thermograph/thermographlaw16.RangesNormal", spec := "rangesNormal", unfollowed := true, recurses := true, apart := false, narrowed := true }
def RangesNormalUptoSaid : Prop := rangesNormalUptoRow.holds Try.pinned (OpenSpec.upto rangesNormalSpec)

/-- 'thermographlaw16.RangesBack', WHERE WHAT IT READS IS OF BULK AT MOST 1048576: true; the input reads as it did. -/
def rangesBackUptoRow : OpenClaim := { program := "ytemmfcinpkfoiaa", sum := "4417e248e9f9ff135892488499c250579c88fa0151b123d79b40c0c6ab2b7c4f", func := "thermograph/thermographlaw16.RangesBack", spec := "rangesBack", unfollowed := true, recurses := true, apart := false, narrowed := true }
def RangesBackUptoSaid : Prop := rangesBackUptoRow.holds Try.pinned (OpenSpec.upto rangesBackSpec)

/-- 'thermographlaw16.RangesLen', WHERE WHAT IT READS IS OF BULK AT MOST 1048576: true; the input reads as it did. -/
def rangesLenUptoRow : OpenClaim := { program := "ytemmfcinpkfoiaa", sum := "4417e248e9f9ff135892488499c250579c88fa0151b123d79b40c0c6ab2b7c4f", func := "thermograph/thermographlaw16.RangesLen", spec := "rangesLen", unfollowed := true, recurses := true, apart := false, narrowed := true }
def RangesLenUptoSaid : Prop := rangesLenUptoRow.holds Try.pinned (OpenSpec.upto rangesLenSpec)

end Rows
end Go.Proofs.Ytemmfcinpkfoiaa
