/-
  DERIVED. GIVEN WITH THE SEED: THE CARDS: each row of YtnobamncenokdaaGreatDoorRows.lean that lists a variable, with what it lists TIED to the program's text (the seventh form; the later family's looks); each row that meets fmt, with fmt's text TOLD by the authors' own Lean function (tested against real Go, not proved from fmt's source: count such statements apart). THE CARD IS WHAT COUNTS. Prove the row's statement (the work); the ties are given (YtnobamncenokdaaGreatDoorTie.lean); close each card by the builder's one call (the guide's Derived/Test/ToyasCard.lean, 'card_holds'). Laid BY PROGRAM, IN A SANDBOX (cutbox-door.mjs). By AI agents, Wed Nov 11 2026. No macro, syntax, notation, axiom, sorry.
-/
import Derived.Test.YtnobamncenokdaaGreatDoorRows
import GoSem.ClaimSeven
namespace Go.Proofs.YtnobamncenokdaaGreatDoor
namespace Rows

/-- THE TIED CARD OF 'whisperlaw06.ProgramCounts'. -/
def programCountsCard : Claim7 := { stood := { row := programCountsRow, standIns := [], harness := (true, "ed90adb00625090f85d5e2c8624e4d4d700eab979130af5ee60b05e27512ccba"), looks := true }, kinds := [], alts := [], laidByText := true, laidKinds := [.data, .data, .data, .data, .handle, .sentinel, .sentinel, .pinned], laidTests := true, laidLooks := .later }
def ProgramCountsCardSaid : Prop := Claim7.holds Tryz.pinned (.plain (OpenSpec.ofChange programCountsSpec)) programCountsCard

/-- THE SECOND FORM's CARD OF 'whisperlaw06.ProgramCounts'. -/
def programCountsUptoCard : Claim7 := { stood := { row := programCountsUptoRow, standIns := [], harness := (true, "ed90adb00625090f85d5e2c8624e4d4d700eab979130af5ee60b05e27512ccba"), looks := true }, kinds := [], alts := [], laidByText := true, laidKinds := [.data, .data, .data, .data, .handle, .sentinel, .sentinel, .pinned], laidTests := true, laidLooks := .later }
def ProgramCountsUptoCardSaid : Prop := Claim7.holds Tryz.pinned (.plain (OpenSpec.upto programCountsSpec)) programCountsUptoCard
end Rows
end Go.Proofs.YtnobamncenokdaaGreatDoor
