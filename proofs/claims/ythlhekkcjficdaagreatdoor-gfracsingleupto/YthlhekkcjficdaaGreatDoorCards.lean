/-
  DERIVED. GIVEN WITH THE SEED: THE CARDS: each row of YthlhekkcjficdaaGreatDoorRows.lean that lists a variable, with what it lists TIED to the program's text (the seventh form; the later family's looks); each row that meets fmt, with fmt's text TOLD by the authors' own Lean function (tested against real Go, not proved from fmt's source: count such statements apart). THE CARD IS WHAT COUNTS. Prove the row's statement (the work); the ties are given (YthlhekkcjficdaaGreatDoorTie.lean); close each card by the builder's one call (the guide's Derived/Test/ToyasCard.lean, 'card_holds'). Laid BY PROGRAM, IN A SANDBOX (cutbox-door.mjs). By AI agents, Wed Nov 11 2026. No macro, syntax, notation, axiom, sorry.
-/
import Derived.Test.YthlhekkcjficdaaGreatDoorRows
import GoSem.ClaimSeven
namespace Go.Proofs.YthlhekkcjficdaaGreatDoor
namespace Rows

/-- THE TIED CARD OF 'tessellaw7.GfracKnown'. -/
def gfracKnownCard : Claim7 := { stood := { row := gfracKnownRow, standIns := [], harness := (true, "5f095e892f02fb7df8914da6c29926956d91d5d458fa3d1462f4a06b878be16c"), looks := false }, kinds := [], alts := [], laidByText := true, laidKinds := [.data, .data, .data, .data, .pinned], laidTests := true, laidLooks := .later }
def GfracKnownCardSaid : Prop := Claim7.holds Tryz.pinned (.plain (OpenSpec.ofChange gfracKnownSpec)) gfracKnownCard

/-- THE TIED CARD OF 'tessellaw7.GfracSums'. -/
def gfracSumsCard : Claim7 := { stood := { row := gfracSumsRow, standIns := [], harness := (true, "5f095e892f02fb7df8914da6c29926956d91d5d458fa3d1462f4a06b878be16c"), looks := false }, kinds := [], alts := [], laidByText := true, laidKinds := [.data, .data, .data], laidTests := true, laidLooks := .later }
def GfracSumsCardSaid : Prop := Claim7.holds Tryz.pinned (.plain (OpenSpec.ofChange gfracSumsSpec)) gfracSumsCard

/-- THE TIED CARD OF 'tessellaw7.GfracSingle'. -/
def gfracSingleCard : Claim7 := { stood := { row := gfracSingleRow, standIns := [], harness := (true, "5f095e892f02fb7df8914da6c29926956d91d5d458fa3d1462f4a06b878be16c"), looks := false }, kinds := [], alts := [], laidByText := true, laidKinds := [.data, .data, .data], laidTests := true, laidLooks := .later }
def GfracSingleCardSaid : Prop := Claim7.holds Tryz.pinned (.plain (OpenSpec.ofChange gfracSingleSpec)) gfracSingleCard

/-- THE TIED CARD OF 'tessellaw7.GfracTexts'. -/
def gfracTextsCard : Claim7 := { stood := { row := gfracTextsRow, standIns := [], harness := (true, "5f095e892f02fb7df8914da6c29926956d91d5d458fa3d1462f4a06b878be16c"), looks := false }, kinds := [], alts := [], laidByText := true, laidKinds := [.data, .data, .data, .data, .pinned], laidTests := true, laidLooks := .later }
def GfracTextsCardSaid : Prop := Claim7.holds Tryz.pinned (.plain (OpenSpec.ofChange gfracTextsSpec)) gfracTextsCard

/-- THE TIED CARD OF 'tessellaw7.GfracField'. -/
def gfracFieldCard : Claim7 := { stood := { row := gfracFieldRow, standIns := [], harness := (true, "5f095e892f02fb7df8914da6c29926956d91d5d458fa3d1462f4a06b878be16c"), looks := false }, kinds := [], alts := [], laidByText := true, laidKinds := [.data, .data, .data], laidTests := true, laidLooks := .later }
def GfracFieldCardSaid : Prop := Claim7.holds Tryz.pinned (.plain (OpenSpec.ofChange gfracFieldSpec)) gfracFieldCard

/-- THE TIED CARD OF 'tessellaw7.GfracBack'. -/
def gfracBackCard : Claim7 := { stood := { row := gfracBackRow, standIns := [], harness := (true, "5f095e892f02fb7df8914da6c29926956d91d5d458fa3d1462f4a06b878be16c"), looks := false }, kinds := [], alts := [], laidByText := true, laidKinds := [.data, .data, .data, .data, .pinned], laidTests := true, laidLooks := .later }
def GfracBackCardSaid : Prop := Claim7.holds Tryz.pinned (.plain (OpenSpec.ofChange gfracBackSpec)) gfracBackCard

/-- THE SECOND FORM's CARD OF 'tessellaw7.GfracKnown'. -/
def gfracKnownUptoCard : Claim7 := { stood := { row := gfracKnownUptoRow, standIns := [], harness := (true, "5f095e892f02fb7df8914da6c29926956d91d5d458fa3d1462f4a06b878be16c"), looks := false }, kinds := [], alts := [], laidByText := true, laidKinds := [.data, .data, .data, .data, .pinned], laidTests := true, laidLooks := .later }
def GfracKnownUptoCardSaid : Prop := Claim7.holds Tryz.pinned (.plain (OpenSpec.upto gfracKnownSpec)) gfracKnownUptoCard

/-- THE SECOND FORM's CARD OF 'tessellaw7.GfracSums'. -/
def gfracSumsUptoCard : Claim7 := { stood := { row := gfracSumsUptoRow, standIns := [], harness := (true, "5f095e892f02fb7df8914da6c29926956d91d5d458fa3d1462f4a06b878be16c"), looks := false }, kinds := [], alts := [], laidByText := true, laidKinds := [.data, .data, .data], laidTests := true, laidLooks := .later }
def GfracSumsUptoCardSaid : Prop := Claim7.holds Tryz.pinned (.plain (OpenSpec.upto gfracSumsSpec)) gfracSumsUptoCard

/-- THE SECOND FORM's CARD OF 'tessellaw7.GfracSingle'. -/
def gfracSingleUptoCard : Claim7 := { stood := { row := gfracSingleUptoRow, standIns := [], harness := (true, "5f095e892f02fb7df8914da6c29926956d91d5d458fa3d1462f4a06b878be16c"), looks := false }, kinds := [], alts := [], laidByText := true, laidKinds := [.data, .data, .data], laidTests := true, laidLooks := .later }
def GfracSingleUptoCardSaid : Prop := Claim7.holds Tryz.pinned (.plain (OpenSpec.upto gfracSingleSpec)) gfracSingleUptoCard

/-- THE SECOND FORM's CARD OF 'tessellaw7.GfracTexts'. -/
def gfracTextsUptoCard : Claim7 := { stood := { row := gfracTextsUptoRow, standIns := [], harness := (true, "5f095e892f02fb7df8914da6c29926956d91d5d458fa3d1462f4a06b878be16c"), looks := false }, kinds := [], alts := [], laidByText := true, laidKinds := [.data, .data, .data, .data, .pinned], laidTests := true, laidLooks := .later }
def GfracTextsUptoCardSaid : Prop := Claim7.holds Tryz.pinned (.plain (OpenSpec.upto gfracTextsSpec)) gfracTextsUptoCard

/-- THE SECOND FORM's CARD OF 'tessellaw7.GfracField'. -/
def gfracFieldUptoCard : Claim7 := { stood := { row := gfracFieldUptoRow, standIns := [], harness := (true, "5f095e892f02fb7df8914da6c29926956d91d5d458fa3d1462f4a06b878be16c"), looks := false }, kinds := [], alts := [], laidByText := true, laidKinds := [.data, .data, .data], laidTests := true, laidLooks := .later }
def GfracFieldUptoCardSaid : Prop := Claim7.holds Tryz.pinned (.plain (OpenSpec.upto gfracFieldSpec)) gfracFieldUptoCard

/-- THE SECOND FORM's CARD OF 'tessellaw7.GfracBack'. -/
def gfracBackUptoCard : Claim7 := { stood := { row := gfracBackUptoRow, standIns := [], harness := (true, "5f095e892f02fb7df8914da6c29926956d91d5d458fa3d1462f4a06b878be16c"), looks := false }, kinds := [], alts := [], laidByText := true, laidKinds := [.data, .data, .data, .data, .pinned], laidTests := true, laidLooks := .later }
def GfracBackUptoCardSaid : Prop := Claim7.holds Tryz.pinned (.plain (OpenSpec.upto gfracBackSpec)) gfracBackUptoCard
end Rows
end Go.Proofs.YthlhekkcjficdaaGreatDoor
