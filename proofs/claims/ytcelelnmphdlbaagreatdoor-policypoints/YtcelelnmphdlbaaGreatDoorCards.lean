/-
  DERIVED. GIVEN WITH THE SEED: THE CARDS: each row of YtcelelnmphdlbaaGreatDoorRows.lean that lists a variable, with what it lists TIED to the program's text (the seventh form; the later family's looks); each row that meets fmt, with fmt's text TOLD by the authors' own Lean function (tested against real Go, not proved from fmt's source: count such statements apart). THE CARD IS WHAT COUNTS. Prove the row's statement (the work); the ties are given (YtcelelnmphdlbaaGreatDoorTie.lean); close each card by the builder's one call (the guide's Derived/Test/ToyasCard.lean, 'card_holds'). Laid BY PROGRAM, IN A SANDBOX (cutbox-door.mjs). By AI agents, Wed Nov 11 2026. No macro, syntax, notation, axiom, sorry.
-/
import Derived.Test.YtcelelnmphdlbaaGreatDoorRows
import GoSem.ClaimSeven
namespace Go.Proofs.YtcelelnmphdlbaaGreatDoor
namespace Rows

/-- THE TIED CARD OF 'whisperlaw07.PolicyPoints'. -/
def policyPointsCard : Claim7 := { stood := { row := policyPointsRow, standIns := [], harness := (true, "ab6f27f1cb53ca9b7ec33e4ce502429f2e54d25b436129593e291f5e0a4ca7a0"), looks := true }, kinds := [], alts := [], laidByText := true, laidKinds := [.data, .data, .data, .data, .handle, .sentinel, .sentinel, .pinned], laidTests := true, laidLooks := .later }
def PolicyPointsCardSaid : Prop := Claim7.holds Tryz.pinned (.plain (OpenSpec.ofChange policyPointsSpec)) policyPointsCard

/-- THE SECOND FORM's CARD OF 'whisperlaw07.PolicyPoints'. -/
def policyPointsUptoCard : Claim7 := { stood := { row := policyPointsUptoRow, standIns := [], harness := (true, "ab6f27f1cb53ca9b7ec33e4ce502429f2e54d25b436129593e291f5e0a4ca7a0"), looks := true }, kinds := [], alts := [], laidByText := true, laidKinds := [.data, .data, .data, .data, .handle, .sentinel, .sentinel, .pinned], laidTests := true, laidLooks := .later }
def PolicyPointsUptoCardSaid : Prop := Claim7.holds Tryz.pinned (.plain (OpenSpec.upto policyPointsSpec)) policyPointsUptoCard
end Rows
end Go.Proofs.YtcelelnmphdlbaaGreatDoor
