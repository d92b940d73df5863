/-
  DERIVED. GIVEN WITH THE SEED: THE CARDS: each row of YtdfpkmfeldoamaaGreatDoorRows.lean that lists a variable, with what it lists TIED to the program's text (the seventh form; the later family's looks); each row that meets fmt, with fmt's text TOLD by the authors' own Lean function (tested against real Go, not proved from fmt's source: count such statements apart). THE CARD IS WHAT COUNTS. Prove the row's statement (the work); the ties are given (YtdfpkmfeldoamaaGreatDoorTie.lean); close each card by the builder's one call (the guide's Derived/Test/ToyasCard.lean, 'card_holds'). Laid BY PROGRAM, IN A SANDBOX (cutbox-door.mjs). By AI agents, Wed Nov 11 2026. No macro, syntax, notation, axiom, sorry.
-/
import Derived.Test.YtdfpkmfeldoamaaGreatDoorRows
import GoSem.ClaimSeven
namespace Go.Proofs.YtdfpkmfeldoamaaGreatDoor
namespace Rows

/-- THE TIED CARD OF 'whisperlaw09.ScopeNil'. -/
def scopeNilCard : Claim7 := { stood := { row := scopeNilRow, standIns := [], harness := (true, "9c71159a58f717360e4c33fab75c8671b7f3bae6f5628245bd7d29026fb40ace"), looks := true }, kinds := [], alts := [], laidByText := true, laidKinds := [.data, .data, .data, .data, .handle, .sentinel, .sentinel, .pinned], laidTests := true, laidLooks := .later }
def ScopeNilCardSaid : Prop := Claim7.holds Tryz.pinned (.plain (OpenSpec.ofChange scopeNilSpec)) scopeNilCard

/-- THE SECOND FORM's CARD OF 'whisperlaw09.ScopeNil'. -/
def scopeNilUptoCard : Claim7 := { stood := { row := scopeNilUptoRow, standIns := [], harness := (true, "9c71159a58f717360e4c33fab75c8671b7f3bae6f5628245bd7d29026fb40ace"), looks := true }, kinds := [], alts := [], laidByText := true, laidKinds := [.data, .data, .data, .data, .handle, .sentinel, .sentinel, .pinned], laidTests := true, laidLooks := .later }
def ScopeNilUptoCardSaid : Prop := Claim7.holds Tryz.pinned (.plain (OpenSpec.upto scopeNilSpec)) scopeNilUptoCard
end Rows
end Go.Proofs.YtdfpkmfeldoamaaGreatDoor
