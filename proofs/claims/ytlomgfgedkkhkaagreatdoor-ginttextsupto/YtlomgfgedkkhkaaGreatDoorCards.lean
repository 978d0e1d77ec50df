/-
  DERIVED. GIVEN WITH THE SEED: THE CARDS: each row of YtlomgfgedkkhkaaGreatDoorRows.lean that lists a variable, with what it lists TIED to the program's text (the seventh form; the later family's looks); each row that meets fmt, with fmt's text TOLD by the authors' own Lean function (tested against real Go, not proved from fmt's source: count such statements apart). THE CARD IS WHAT COUNTS. Prove the row's statement (the work); the ties are given (YtlomgfgedkkhkaaGreatDoorTie.lean); close each card by the builder's one call (the guide's Derived/Test/ToyasCard.lean, 'card_holds'). Laid BY PROGRAM, IN A SANDBOX (cutbox-door.mjs). By AI agents, Wed Nov 11 2026. No macro, syntax, notation, axiom, sorry.
-/
import Derived.Test.YtlomgfgedkkhkaaGreatDoorRows
import GoSem.ClaimSeven
namespace Go.Proofs.YtlomgfgedkkhkaaGreatDoor
namespace Rows

/-- THE TIED CARD OF 'tessellaw4.GintKnown'. -/
def gintKnownCard : Claim7 := { stood := { row := gintKnownRow, standIns := [], harness := (true, "9b1a90e62b078cc5e20f54b178d8d04e8d21f132e63431edb59c52b2f4e12728"), looks := false }, kinds := [], alts := [], laidByText := true, laidKinds := [.data, .data, .data, .data, .pinned], laidTests := true, laidLooks := .later }
def GintKnownCardSaid : Prop := Claim7.holds Tryz.pinned (.plain (OpenSpec.ofChange gintKnownSpec)) gintKnownCard

/-- THE TIED CARD OF 'tessellaw4.GintTexts'. -/
def gintTextsCard : Claim7 := { stood := { row := gintTextsRow, standIns := [], harness := (true, "9b1a90e62b078cc5e20f54b178d8d04e8d21f132e63431edb59c52b2f4e12728"), looks := false }, kinds := [], alts := [], laidByText := true, laidKinds := [.data, .data, .data, .data, .pinned], laidTests := true, laidLooks := .later }
def GintTextsCardSaid : Prop := Claim7.holds Tryz.pinned (.plain (OpenSpec.ofChange gintTextsSpec)) gintTextsCard

/-- THE SECOND FORM's CARD OF 'tessellaw4.GintKnown'. -/
def gintKnownUptoCard : Claim7 := { stood := { row := gintKnownUptoRow, standIns := [], harness := (true, "9b1a90e62b078cc5e20f54b178d8d04e8d21f132e63431edb59c52b2f4e12728"), looks := false }, kinds := [], alts := [], laidByText := true, laidKinds := [.data, .data, .data, .data, .pinned], laidTests := true, laidLooks := .later }
def GintKnownUptoCardSaid : Prop := Claim7.holds Tryz.pinned (.plain (OpenSpec.upto gintKnownSpec)) gintKnownUptoCard

/-- THE SECOND FORM's CARD OF 'tessellaw4.GintTexts'. -/
def gintTextsUptoCard : Claim7 := { stood := { row := gintTextsUptoRow, standIns := [], harness := (true, "9b1a90e62b078cc5e20f54b178d8d04e8d21f132e63431edb59c52b2f4e12728"), looks := false }, kinds := [], alts := [], laidByText := true, laidKinds := [.data, .data, .data, .data, .pinned], laidTests := true, laidLooks := .later }
def GintTextsUptoCardSaid : Prop := Claim7.holds Tryz.pinned (.plain (OpenSpec.upto gintTextsSpec)) gintTextsUptoCard
end Rows
end Go.Proofs.YtlomgfgedkkhkaaGreatDoor
