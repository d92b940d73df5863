/-
  DERIVED. GIVEN WITH THE SEED: THE CARDS: each row of YtninlbknklbofaaGreatDoorRows.lean that lists a variable, with what it lists TIED to the program's text (the seventh form; the later family's looks); each row that meets fmt, with fmt's text TOLD by the authors' own Lean function (tested against real Go, not proved from fmt's source: count such statements apart). THE CARD IS WHAT COUNTS. Prove the row's statement (the work); the ties are given (YtninlbknklbofaaGreatDoorTie.lean); close each card by the builder's one call (the guide's Derived/Test/ToyasCard.lean, 'card_holds'). Laid BY PROGRAM, IN A SANDBOX (cutbox-door.mjs). By AI agents, Wed Nov 11 2026. No macro, syntax, notation, axiom, sorry.
-/
import Derived.Test.YtninlbknklbofaaGreatDoorRows
import GoSem.ClaimSeven
namespace Go.Proofs.YtninlbknklbofaaGreatDoor
namespace Rows

/-- THE TIED CARD OF 'whisperlaw08.ShowNodes'. -/
def showNodesCard : Claim7 := { stood := { row := showNodesRow, standIns := [], harness := (true, "d76bf89d0c1ffbfb98bae241b515b8515f68964a795648a5dfcccdfb32db508c"), looks := true }, kinds := [], alts := [], laidByText := true, laidKinds := [.data, .data, .data, .data, .handle, .sentinel, .sentinel, .pinned], laidTests := true, laidLooks := .later }
def ShowNodesCardSaid : Prop := Claim7.holds Tryz.pinned (.plain (OpenSpec.ofChange showNodesSpec)) showNodesCard

/-- THE SECOND FORM's CARD OF 'whisperlaw08.ShowNodes'. -/
def showNodesUptoCard : Claim7 := { stood := { row := showNodesUptoRow, standIns := [], harness := (true, "d76bf89d0c1ffbfb98bae241b515b8515f68964a795648a5dfcccdfb32db508c"), looks := true }, kinds := [], alts := [], laidByText := true, laidKinds := [.data, .data, .data, .data, .handle, .sentinel, .sentinel, .pinned], laidTests := true, laidLooks := .later }
def ShowNodesUptoCardSaid : Prop := Claim7.holds Tryz.pinned (.plain (OpenSpec.upto showNodesSpec)) showNodesUptoCard
end Rows
end Go.Proofs.YtninlbknklbofaaGreatDoor
