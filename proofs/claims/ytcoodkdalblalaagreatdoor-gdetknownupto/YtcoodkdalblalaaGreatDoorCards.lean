/-
  DERIVED. GIVEN WITH THE SEED: THE CARDS: each row of YtcoodkdalblalaaGreatDoorRows.lean that lists a variable, with what it lists TIED to the program's text (the seventh form; the later family's looks); each row that meets fmt, with fmt's text TOLD by the authors' own Lean function (tested against real Go, not proved from fmt's source: count such statements apart). THE CARD IS WHAT COUNTS. Prove the row's statement (the work); the ties are given (YtcoodkdalblalaaGreatDoorTie.lean); close each card by the builder's one call (the guide's Derived/Test/ToyasCard.lean, 'card_holds'). Laid BY PROGRAM, IN A SANDBOX (cutbox-door.mjs). By AI agents, Wed Nov 11 2026. No macro, syntax, notation, axiom, sorry.
-/
import Derived.Test.YtcoodkdalblalaaGreatDoorRows
import GoSem.ClaimSeven
namespace Go.Proofs.YtcoodkdalblalaaGreatDoor
namespace Rows

/-- THE TIED CARD OF 'tessellaw9.GdetKnown'. -/
def gdetKnownCard : Claim7 := { stood := { row := gdetKnownRow, standIns := [], harness := (true, "518c717ba6647b778c651e2219d8fc9808f5d8b142147d516d409bd677946af8"), looks := false }, kinds := [], alts := [], laidByText := true, laidKinds := [.data, .data, .data], laidTests := true, laidLooks := .later }
def GdetKnownCardSaid : Prop := Claim7.holds Tryz.pinned (.plain (OpenSpec.ofChange gdetKnownSpec)) gdetKnownCard

/-- THE SECOND FORM's CARD OF 'tessellaw9.GdetKnown'. -/
def gdetKnownUptoCard : Claim7 := { stood := { row := gdetKnownUptoRow, standIns := [], harness := (true, "518c717ba6647b778c651e2219d8fc9808f5d8b142147d516d409bd677946af8"), looks := false }, kinds := [], alts := [], laidByText := true, laidKinds := [.data, .data, .data], laidTests := true, laidLooks := .later }
def GdetKnownUptoCardSaid : Prop := Claim7.holds Tryz.pinned (.plain (OpenSpec.upto gdetKnownSpec)) gdetKnownUptoCard
end Rows
end Go.Proofs.YtcoodkdalblalaaGreatDoor
