/-
  No cell of these rows narrows 'for every input' (looked for: loops, veiled, ifaces, maps, wideKeys, modest, calm, conditions, laid).
  DERIVED. THE GIVEN ROWS OF THIS SEAT. 3 by the template 'for every input the law returns true; each argument reads behind the call as it read before'; 0 by the template 'total and deterministic' (their statements: YtnjdondkggkfoaaTotals.lean).
  GIVEN WITH THE SEED: the statements are not yours to turn. If you find one false, say at which input.
  Laid BY PROGRAM, IN A SANDBOX (cutbox-rows.mjs): the forced cells as the released guide's own fill.sh prints them over the translation 2c136972db564d16… (all of the seat's roots in one cut). By AI agents, Wed Nov 11 2026. No macro, syntax, notation, axiom, sorry.
-/
import Derived.Test.YtnjdondkggkfoaaChecked
import GoSem.Claim
import GoSem.ClaimJoined
import GoSem.ClaimMapViews
import Derived.JoinedTies
import Derived.KernelRfl
namespace Go.Proofs.Ytnjdondkggkfoaa
/- THE CELL 'sum', in the pinned program and in every row, IS THE sha256 OF THE DUMP (.gsa) THAT YtnjdondkggkfoaaProg.lean LOADS. Nothing in Lean hashes anything: it is a label: what it is worth is what the hold of that sum in a sandbox is worth. -/
noncomputable def Try.pinned : Pinned := { name := "ytnjdondkggkfoaa", sum := "2c136972db564d16341abfccb4039ca08327a7f8a7f1743d3c3bf60be7515f18", checked := Try.checked }
namespace Rows
def none {H : Type} : Left H := { results := [], args := [] }

/-- 'thermographlaw15.KvAgain': WHATEVER THE INPUT: true; the input reads as it did. -/
def kvAgainSpec : ChangeSpec := { name := "kvAgain", fn := fun _ => fun
  | [d1, d2, d3] => { results := [.lit (.bool true)], args := [d1, d2, d3] }
  | _ => none }
def kvAgainRow : OpenClaim := { program := "ytnjdondkggkfoaa", sum := "2c136972db564d16341abfccb4039ca08327a7f8a7f1743d3c3bf60be7515f18", func := "thermograph/thermographlaw15.KvAgain", spec := "kvAgain", inPlace := ["internal/abi.NoEscape"], unfollowed := true, recurses := true, apart := false }
def KvAgainSaid : Prop := kvAgainRow.holds Try.pinned (OpenSpec.ofChange kvAgainSpec)

/-- ITS FALSE NEIGHBOUR: 'it returns false'. Refute it at one input. -/
def kvAgainWrong : ChangeSpec := { name := "kvAgain", fn := fun _ => fun
  | [d1, d2, d3] => { results := [.lit (.bool false)], args := [d1, d2, d3] }
  | _ => none }
def KvAgainWrongFalsely : Prop := kvAgainRow.holds Try.pinned (OpenSpec.ofChange kvAgainWrong)

/-- 'thermographlaw15.KvCuts': WHATEVER THE INPUT: true; the input reads as it did. -/
def kvCutsSpec : ChangeSpec := { name := "kvCuts", fn := fun _ => fun
  | [d1, d2, d3, d4, d5, d6] => { results := [.lit (.bool true)], args := [d1, d2, d3, d4, d5, d6] }
  | _ => none }
def kvCutsRow : OpenClaim := { program := "ytnjdondkggkfoaa", sum := "2c136972db564d16341abfccb4039ca08327a7f8a7f1743d3c3bf60be7515f18", func := "thermograph/thermographlaw15.KvCuts", spec := "kvCuts", inPlace := ["internal/abi.NoEscape"], unfollowed := true, recurses := true, apart := false }
def KvCutsSaid : Prop := kvCutsRow.holds Try.pinned (OpenSpec.ofChange kvCutsSpec)

/-- ITS FALSE NEIGHBOUR: 'it returns false'. Refute it at one input. -/
def kvCutsWrong : ChangeSpec := { name := "kvCuts", fn := fun _ => fun
  | [d1, d2, d3, d4, d5, d6] => { results := [.lit (.bool false)], args := [d1, d2, d3, d4, d5, d6] }
  | _ => none }
def KvCutsWrongFalsely : Prop := kvCutsRow.holds Try.pinned (OpenSpec.ofChange kvCutsWrong)

/-- 'thermographlaw15.KvOne': WHATEVER THE INPUT: true; the input reads as it did. -/
def kvOneSpec : ChangeSpec := { name := "kvOne", fn := fun _ => fun
  | [d1, d2, d3, d4] => { results := [.lit (.bool true)], args := [d1, d2, d3, d4] }
  | _ => none }
def kvOneRow : OpenClaim := { program := "ytnjdondkggkfoaa", sum := "2c136972db564d16341abfccb4039ca08327a7f8a7f1743d3c3bf60be7515f18", func := "thermograph/thermographlaw15.KvOne", spec := "kvOne", inPlace := ["internal/abi.NoEscape"], unfollowed := true, recurses := true, apart := false }
def KvOneSaid : Prop := kvOneRow.holds Try.pinned (OpenSpec.ofChange kvOneSpec)

/-- ITS FALSE NEIGHBOUR: 'it returns false'. Refute it at one input. -/
def kvOneWrong : ChangeSpec := { name := "kvOne", fn := fun _ => fun
  | [d1, d2, d3, d4] => { results := [.lit (.bool false)], args := [d1, d2, d3, d4] }
  | _ => none }
def KvOneWrongFalsely : Prop := kvOneRow.holds Try.pinned (OpenSpec.ofChange kvOneWrong)

/- THE SECOND FORM. 'bulk': how many values and letters a reading holds, each counted each time it is reached (what is shared counts as often as it is met; a slice's spare places count too). A statement '..UptoSaid' is the law's where the arguments, and the package variables that the reading takes, are together of bulk at most 1048576: NARROWER than '..Said'. Prove '..Said' where nothing that the law and all that it calls make is longer than what came in: it says more and counts as full. Else prove '..UptoSaid'. A law counts once. -/
mutual
def uptoBulk {H : Type} : DataW H → Nat
  | .lit (.string bytes) => bytes.length + 1
  | .lit _ => 1
  | .nil => 1
  | .ptr d => uptoBulk d + 1
  | .slice elems spare => uptoBulkAll elems + uptoBulkAll spare + 1
  | .agg parts => uptoBulkAll parts + 1
  | .iface _ d => uptoBulk d + 1
  | .map entries => uptoBulkEntries entries + 1
  | .held _ => 1
def uptoBulkAll {H : Type} : List (DataW H) → Nat
  | [] => 0
  | d :: r => uptoBulk d + uptoBulkAll r
def uptoBulkEntries {H : Type} : List (Lit × DataW H) → Nat
  | [] => 0
  | x :: r => uptoBulkEntry x + uptoBulkEntries r
def uptoBulkEntry {H : Type} : Lit × DataW H → Nat
  | (.string bytes, d) => bytes.length + uptoBulk d + 1
  | (_, d) => uptoBulk d + 1
 end
def uptoSmall : (H : Type) → List (DataW H) → Bool := fun _ ds => decide (uptoBulkAll ds ≤ 1048576)
def OpenSpec.upto (s : _root_.Go.ChangeSpec) : _root_.Go.OpenSpec := { _root_.Go.OpenSpec.ofChange s with cond := some uptoSmall }

/-- 'thermographlaw15.KvAgain', WHERE WHAT IT READS IS OF BULK AT MOST 1048576: true; the input reads as it did. -/
def kvAgainUptoRow : OpenClaim := { program := "ytnjdondkggkfoaa", sum := "2c136972db564d16341abfccb4039ca08327a7f8a7f1743d3c3bf60be7515f18", func := "thermograph/thermographlaw15.KvAgain", spec := "kvAgain", inPlace := ["internal/abi.NoEscape"], unfollowed := true, recurses := true, apart := false, narrowed := true }
def KvAgainUptoSaid : Prop := kvAgainUptoRow.holds Try.pinned (OpenSpec.upto kvAgainSpec)

/-- 'thermographlaw15.KvCuts', WHERE WHAT IT READS IS OF BULK AT MOST 1048576: true; the input reads as it did. -/
def kvCutsUptoRow : OpenClaim := { program := "ytnjdondkggkfoaa", sum := "2c136972db564d16341abfccb4039ca08327a7f8a7f1743d3c3bf60be7515f18", func := "thermograph/thermographlaw15.KvCuts", spec := "kvCuts", inPlace := ["internal/abi.NoEscape"], unfollowed := true, recurses := true, apart := false, narrowed := true }
def KvCutsUptoSaid : Prop := kvCutsUptoRow.holds Try.pinned (OpenSpec.upto kvCutsSpec)

/-- 'thermographlaw15.KvOne', WHERE WHAT IT READS IS OF BULK AT MOST 1048576: true; the input reads as it did. -/
def kvOneUptoRow : OpenClaim := { program := "ytnjdondkggkfoaa", sum := "2c136972db564d16341abfccb4039ca08327a7f8a7f1743d3c3bf60be7515f18", func := "thermograph/thermographlaw15.KvOne", spec := "kvOne", inPlace := ["internal/abi.NoEscape"], unfollowed := true, recurses := true, apart := false, narrowed := true }
def KvOneUptoSaid : Prop := kvOneUptoRow.holds Try.pinned (OpenSpec.upto kvOneSpec)

end Rows
end Go.Proofs.Ytnjdondkggkfoaa
