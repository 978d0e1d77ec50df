/-
  DERIVED. GIVEN WITH THE SEED: THE CARDS: each row of YtpjibjcbaohlaacDoorRows.lean that lists a variable, with what it lists TIED to the program's text (the seventh form; the later family's looks); each row that meets fmt, with fmt's text TOLD by the authors' own Lean function (tested against real Go, not proved from fmt's source: count such statements apart). THE CARD IS WHAT COUNTS. Prove the row's statement (the work); the ties are given (YtpjibjcbaohlaacDoorTie.lean); close each card by the builder's one call (the guide's Derived/Test/ToyasCard.lean, 'card_holds'). Laid BY PROGRAM, IN A SANDBOX (cutbox-door.mjs). By AI agents, Wed Nov 11 2026. No macro, syntax, notation, axiom, sorry.
-/
import Derived.Test.YtpjibjcbaohlaacDoorRows
import GoSem.ClaimSeven
namespace Go.Proofs.YtpjibjcbaohlaacDoor
namespace Rows

/-- THE TIED CARD OF 'tessellaw1.NatBack'. -/
def natBackCard : Claim7 := { stood := { row := natBackRow, standIns := [], harness := (true, "5a1903f86bf1702433f57e30c19ad60110fa5b1ae192f44d49603fa051ca8cf5"), looks := false }, kinds := [], alts := [], laidByText := true, laidKinds := [.data, .data, .data], laidTests := true, laidLooks := .later }
def NatBackCardSaid : Prop := Claim7.holds Tryd.pinned (.plain (OpenSpec.ofChange natBackSpec)) natBackCard

/-- THE TIED CARD OF 'tessellaw1.NatKept'. -/
def natKeptCard : Claim7 := { stood := { row := natKeptRow, standIns := [], harness := (true, "5a1903f86bf1702433f57e30c19ad60110fa5b1ae192f44d49603fa051ca8cf5"), looks := false }, kinds := [], alts := [], laidByText := true, laidKinds := [.data, .data, .data], laidTests := true, laidLooks := .later }
def NatKeptCardSaid : Prop := Claim7.holds Tryd.pinned (.plain (OpenSpec.ofChange natKeptSpec)) natKeptCard

/-- THE SECOND FORM's CARD OF 'tessellaw1.NatBack'. -/
def natBackUptoCard : Claim7 := { stood := { row := natBackUptoRow, standIns := [], harness := (true, "5a1903f86bf1702433f57e30c19ad60110fa5b1ae192f44d49603fa051ca8cf5"), looks := false }, kinds := [], alts := [], laidByText := true, laidKinds := [.data, .data, .data], laidTests := true, laidLooks := .later }
def NatBackUptoCardSaid : Prop := Claim7.holds Tryd.pinned (.plain (OpenSpec.upto natBackSpec)) natBackUptoCard

/-- THE SECOND FORM's CARD OF 'tessellaw1.NatKept'. -/
def natKeptUptoCard : Claim7 := { stood := { row := natKeptUptoRow, standIns := [], harness := (true, "5a1903f86bf1702433f57e30c19ad60110fa5b1ae192f44d49603fa051ca8cf5"), looks := false }, kinds := [], alts := [], laidByText := true, laidKinds := [.data, .data, .data], laidTests := true, laidLooks := .later }
def NatKeptUptoCardSaid : Prop := Claim7.holds Tryd.pinned (.plain (OpenSpec.upto natKeptSpec)) natKeptUptoCard
end Rows
end Go.Proofs.YtpjibjcbaohlaacDoor
