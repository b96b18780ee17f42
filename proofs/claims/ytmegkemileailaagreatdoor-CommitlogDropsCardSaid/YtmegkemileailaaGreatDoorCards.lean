/-
  DERIVED. GIVEN WITH THE SEED: THE CARDS: each row of YtmegkemileailaaGreatDoorRows.lean that lists a variable, with what it lists TIED to the program's text (the seventh form; the later family's looks); each row that meets fmt, with fmt's text TOLD by the authors' own Lean function (tested against real Go, not proved from fmt's source: count such statements apart). THE CARD IS WHAT COUNTS. Prove the row's statement (the work); the ties are given (YtmegkemileailaaGreatDoorTie.lean); close each card by the builder's one call (the guide's Derived/Test/ToyasCard.lean, 'card_holds'). Laid BY PROGRAM, IN A SANDBOX (cutbox-door.mjs). By AI agents, Wed Nov 11 2026. No macro, syntax, notation, axiom, sorry.
-/
import Derived.Test.YtmegkemileailaaGreatDoorRows
import GoSem.ClaimSeven
namespace Go.Proofs.YtmegkemileailaaGreatDoor
namespace Rows

/-- THE TIED CARD OF 'thermographlaw09.CommitlogFull'. -/
def commitlogFullCard : Claim7 := { stood := { row := commitlogFullRow, standIns := [], harness := (true, "e8a8d48ffd866e8b0462e1d8144593a39e760dc04b3ca8d4caf252e5c987f77f"), looks := true }, kinds := [], alts := [], laidByText := true, laidKinds := [.data, .data, .data, .sentinel, .sentinel], laidTests := true, laidLooks := .later }
def CommitlogFullCardSaid : Prop := Claim7.holds Tryz.pinned (.plain (OpenSpec.ofChange commitlogFullSpec)) commitlogFullCard

/-- THE TIED CARD OF 'thermographlaw09.CommitlogOrder'. -/
def commitlogOrderCard : Claim7 := { stood := { row := commitlogOrderRow, standIns := [], harness := (true, "e8a8d48ffd866e8b0462e1d8144593a39e760dc04b3ca8d4caf252e5c987f77f"), looks := true }, kinds := [], alts := [], laidByText := true, laidKinds := [.data, .data, .data, .sentinel, .sentinel], laidTests := true, laidLooks := .later }
def CommitlogOrderCardSaid : Prop := Claim7.holds Tryz.pinned (.plain (OpenSpec.ofChange commitlogOrderSpec)) commitlogOrderCard

/-- THE TIED CARD OF 'thermographlaw09.CommitlogScript'. -/
def commitlogScriptCard : Claim7 := { stood := { row := commitlogScriptRow, standIns := [], harness := (true, "e8a8d48ffd866e8b0462e1d8144593a39e760dc04b3ca8d4caf252e5c987f77f"), looks := true }, kinds := [], alts := [], laidByText := true, laidKinds := [.data, .data, .data, .sentinel, .sentinel], laidTests := true, laidLooks := .later }
def CommitlogScriptCardSaid : Prop := Claim7.holds Tryz.pinned (.plain (OpenSpec.ofChange commitlogScriptSpec)) commitlogScriptCard

/-- THE TIED CARD OF 'thermographlaw09.CommitlogKeeps'. -/
def commitlogKeepsCard : Claim7 := { stood := { row := commitlogKeepsRow, standIns := [], harness := (true, "e8a8d48ffd866e8b0462e1d8144593a39e760dc04b3ca8d4caf252e5c987f77f"), looks := true }, kinds := [], alts := [], laidByText := true, laidKinds := [.data, .data, .data, .sentinel, .sentinel], laidTests := true, laidLooks := .later }
def CommitlogKeepsCardSaid : Prop := Claim7.holds Tryz.pinned (.plain (OpenSpec.ofChange commitlogKeepsSpec)) commitlogKeepsCard

/-- THE TIED CARD OF 'thermographlaw09.CommitlogDrops'. -/
def commitlogDropsCard : Claim7 := { stood := { row := commitlogDropsRow, standIns := [], harness := (true, "e8a8d48ffd866e8b0462e1d8144593a39e760dc04b3ca8d4caf252e5c987f77f"), looks := true }, kinds := [], alts := [], laidByText := true, laidKinds := [.data, .data, .data, .sentinel, .sentinel], laidTests := true, laidLooks := .later }
def CommitlogDropsCardSaid : Prop := Claim7.holds Tryz.pinned (.plain (OpenSpec.ofChange commitlogDropsSpec)) commitlogDropsCard

/-- THE SECOND FORM's CARD OF 'thermographlaw09.CommitlogFull'. -/
def commitlogFullUptoCard : Claim7 := { stood := { row := commitlogFullUptoRow, standIns := [], harness := (true, "e8a8d48ffd866e8b0462e1d8144593a39e760dc04b3ca8d4caf252e5c987f77f"), looks := true }, kinds := [], alts := [], laidByText := true, laidKinds := [.data, .data, .data, .sentinel, .sentinel], laidTests := true, laidLooks := .later }
def CommitlogFullUptoCardSaid : Prop := Claim7.holds Tryz.pinned (.plain (OpenSpec.upto commitlogFullSpec)) commitlogFullUptoCard

/-- THE SECOND FORM's CARD OF 'thermographlaw09.CommitlogOrder'. -/
def commitlogOrderUptoCard : Claim7 := { stood := { row := commitlogOrderUptoRow, standIns := [], harness := (true, "e8a8d48ffd866e8b0462e1d8144593a39e760dc04b3ca8d4caf252e5c987f77f"), looks := true }, kinds := [], alts := [], laidByText := true, laidKinds := [.data, .data, .data, .sentinel, .sentinel], laidTests := true, laidLooks := .later }
def CommitlogOrderUptoCardSaid : Prop := Claim7.holds Tryz.pinned (.plain (OpenSpec.upto commitlogOrderSpec)) commitlogOrderUptoCard

/-- THE SECOND FORM's CARD OF 'thermographlaw09.CommitlogScript'. -/
def commitlogScriptUptoCard : Claim7 := { stood := { row := commitlogScriptUptoRow, standIns := [], harness := (true, "e8a8d48ffd866e8b0462e1d8144593a39e760dc04b3ca8d4caf252e5c987f77f"), looks := true }, kinds := [], alts := [], laidByText := true, laidKinds := [.data, .data, .data, .sentinel, .sentinel], laidTests := true, laidLooks := .later }
def CommitlogScriptUptoCardSaid : Prop := Claim7.holds Tryz.pinned (.plain (OpenSpec.upto commitlogScriptSpec)) commitlogScriptUptoCard

/-- THE SECOND FORM's CARD OF 'thermographlaw09.CommitlogKeeps'. -/
def commitlogKeepsUptoCard : Claim7 := { stood := { row := commitlogKeepsUptoRow, standIns := [], harness := (true, "e8a8d48ffd866e8b0462e1d8144593a39e760dc04b3ca8d4caf252e5c987f77f"), looks := true }, kinds := [], alts := [], laidByText := true, laidKinds := [.data, .data, .data, .sentinel, .sentinel], laidTests := true, laidLooks := .later }
def CommitlogKeepsUptoCardSaid : Prop := Claim7.holds Tryz.pinned (.plain (OpenSpec.upto commitlogKeepsSpec)) commitlogKeepsUptoCard

/-- THE SECOND FORM's CARD OF 'thermographlaw09.CommitlogDrops'. -/
def commitlogDropsUptoCard : Claim7 := { stood := { row := commitlogDropsUptoRow, standIns := [], harness := (true, "e8a8d48ffd866e8b0462e1d8144593a39e760dc04b3ca8d4caf252e5c987f77f"), looks := true }, kinds := [], alts := [], laidByText := true, laidKinds := [.data, .data, .data, .sentinel, .sentinel], laidTests := true, laidLooks := .later }
def CommitlogDropsUptoCardSaid : Prop := Claim7.holds Tryz.pinned (.plain (OpenSpec.upto commitlogDropsSpec)) commitlogDropsUptoCard
end Rows
end Go.Proofs.YtmegkemileailaaGreatDoor
