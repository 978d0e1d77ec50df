/-
  DERIVED. GIVEN WITH THE SEED: THE CARDS: each row of YtkgbfnmlpajblaaGreatDoorRows.lean that lists a variable, with what it lists TIED to the program's text (the seventh form; the later family's looks); each row that meets fmt, with fmt's text TOLD by the authors' own Lean function (tested against real Go, not proved from fmt's source: count such statements apart). THE CARD IS WHAT COUNTS. Prove the row's statement (the work); the ties are given (YtkgbfnmlpajblaaGreatDoorTie.lean); close each card by the builder's one call (the guide's Derived/Test/ToyasCard.lean, 'card_holds'). Laid BY PROGRAM, IN A SANDBOX (cutbox-door.mjs). By AI agents, Wed Nov 11 2026. No macro, syntax, notation, axiom, sorry.
-/
import Derived.Test.YtkgbfnmlpajblaaGreatDoorRows
import GoSem.ClaimSeven
namespace Go.Proofs.YtkgbfnmlpajblaaGreatDoor
namespace Rows

/-- THE TIED CARD OF 'tessellaw3.FracKnown'. -/
def fracKnownCard : Claim7 := { stood := { row := fracKnownRow, standIns := [], harness := (true, "580f36514e97186ca6ce9a0d12963b955ecd6c29f6eb3b371869c0e0837fa44d"), looks := false }, kinds := [], alts := [], laidByText := true, laidKinds := [.data, .data, .data], laidTests := true, laidLooks := .later }
def FracKnownCardSaid : Prop := Claim7.holds Tryz.pinned (.plain (OpenSpec.ofChange fracKnownSpec)) fracKnownCard

/-- THE TIED CARD OF 'tessellaw3.FracMade'. -/
def fracMadeCard : Claim7 := { stood := { row := fracMadeRow, standIns := [], harness := (true, "580f36514e97186ca6ce9a0d12963b955ecd6c29f6eb3b371869c0e0837fa44d"), looks := false }, kinds := [], alts := [], laidByText := true, laidKinds := [.data, .data, .data], laidTests := true, laidLooks := .later }
def FracMadeCardSaid : Prop := Claim7.holds Tryz.pinned (.plain (OpenSpec.ofChange fracMadeSpec)) fracMadeCard

/-- THE TIED CARD OF 'tessellaw3.FracSums'. -/
def fracSumsCard : Claim7 := { stood := { row := fracSumsRow, standIns := [], harness := (true, "580f36514e97186ca6ce9a0d12963b955ecd6c29f6eb3b371869c0e0837fa44d"), looks := false }, kinds := [], alts := [], laidByText := true, laidKinds := [.data, .data, .data], laidTests := true, laidLooks := .later }
def FracSumsCardSaid : Prop := Claim7.holds Tryz.pinned (.plain (OpenSpec.ofChange fracSumsSpec)) fracSumsCard

/-- THE TIED CARD OF 'tessellaw3.FracRounds'. -/
def fracRoundsCard : Claim7 := { stood := { row := fracRoundsRow, standIns := [], harness := (true, "580f36514e97186ca6ce9a0d12963b955ecd6c29f6eb3b371869c0e0837fa44d"), looks := false }, kinds := [], alts := [], laidByText := true, laidKinds := [.data, .data, .data], laidTests := true, laidLooks := .later }
def FracRoundsCardSaid : Prop := Claim7.holds Tryz.pinned (.plain (OpenSpec.ofChange fracRoundsSpec)) fracRoundsCard

/-- THE TIED CARD OF 'tessellaw3.FracPowers'. -/
def fracPowersCard : Claim7 := { stood := { row := fracPowersRow, standIns := [], harness := (true, "580f36514e97186ca6ce9a0d12963b955ecd6c29f6eb3b371869c0e0837fa44d"), looks := false }, kinds := [], alts := [], laidByText := true, laidKinds := [.data, .data, .data], laidTests := true, laidLooks := .later }
def FracPowersCardSaid : Prop := Claim7.holds Tryz.pinned (.plain (OpenSpec.ofChange fracPowersSpec)) fracPowersCard

/-- THE TIED CARD OF 'tessellaw3.FracTexts'. -/
def fracTextsCard : Claim7 := { stood := { row := fracTextsRow, standIns := [], harness := (true, "580f36514e97186ca6ce9a0d12963b955ecd6c29f6eb3b371869c0e0837fa44d"), looks := false }, kinds := [], alts := [], laidByText := true, laidKinds := [.data, .data, .data], laidTests := true, laidLooks := .later }
def FracTextsCardSaid : Prop := Claim7.holds Tryz.pinned (.plain (OpenSpec.ofChange fracTextsSpec)) fracTextsCard

/-- THE TIED CARD OF 'tessellaw3.FracBack'. -/
def fracBackCard : Claim7 := { stood := { row := fracBackRow, standIns := [], harness := (true, "580f36514e97186ca6ce9a0d12963b955ecd6c29f6eb3b371869c0e0837fa44d"), looks := false }, kinds := [], alts := [], laidByText := true, laidKinds := [.data, .data, .data], laidTests := true, laidLooks := .later }
def FracBackCardSaid : Prop := Claim7.holds Tryz.pinned (.plain (OpenSpec.ofChange fracBackSpec)) fracBackCard

/-- THE TIED CARD OF 'tessellaw3.FracKept'. -/
def fracKeptCard : Claim7 := { stood := { row := fracKeptRow, standIns := [], harness := (true, "580f36514e97186ca6ce9a0d12963b955ecd6c29f6eb3b371869c0e0837fa44d"), looks := false }, kinds := [], alts := [], laidByText := true, laidKinds := [.data, .data, .data], laidTests := true, laidLooks := .later }
def FracKeptCardSaid : Prop := Claim7.holds Tryz.pinned (.plain (OpenSpec.ofChange fracKeptSpec)) fracKeptCard

/-- THE SECOND FORM's CARD OF 'tessellaw3.FracKnown'. -/
def fracKnownUptoCard : Claim7 := { stood := { row := fracKnownUptoRow, standIns := [], harness := (true, "580f36514e97186ca6ce9a0d12963b955ecd6c29f6eb3b371869c0e0837fa44d"), looks := false }, kinds := [], alts := [], laidByText := true, laidKinds := [.data, .data, .data], laidTests := true, laidLooks := .later }
def FracKnownUptoCardSaid : Prop := Claim7.holds Tryz.pinned (.plain (OpenSpec.upto fracKnownSpec)) fracKnownUptoCard

/-- THE SECOND FORM's CARD OF 'tessellaw3.FracMade'. -/
def fracMadeUptoCard : Claim7 := { stood := { row := fracMadeUptoRow, standIns := [], harness := (true, "580f36514e97186ca6ce9a0d12963b955ecd6c29f6eb3b371869c0e0837fa44d"), looks := false }, kinds := [], alts := [], laidByText := true, laidKinds := [.data, .data, .data], laidTests := true, laidLooks := .later }
def FracMadeUptoCardSaid : Prop := Claim7.holds Tryz.pinned (.plain (OpenSpec.upto fracMadeSpec)) fracMadeUptoCard

/-- THE SECOND FORM's CARD OF 'tessellaw3.FracSums'. -/
def fracSumsUptoCard : Claim7 := { stood := { row := fracSumsUptoRow, standIns := [], harness := (true, "580f36514e97186ca6ce9a0d12963b955ecd6c29f6eb3b371869c0e0837fa44d"), looks := false }, kinds := [], alts := [], laidByText := true, laidKinds := [.data, .data, .data], laidTests := true, laidLooks := .later }
def FracSumsUptoCardSaid : Prop := Claim7.holds Tryz.pinned (.plain (OpenSpec.upto fracSumsSpec)) fracSumsUptoCard

/-- THE SECOND FORM's CARD OF 'tessellaw3.FracRounds'. -/
def fracRoundsUptoCard : Claim7 := { stood := { row := fracRoundsUptoRow, standIns := [], harness := (true, "580f36514e97186ca6ce9a0d12963b955ecd6c29f6eb3b371869c0e0837fa44d"), looks := false }, kinds := [], alts := [], laidByText := true, laidKinds := [.data, .data, .data], laidTests := true, laidLooks := .later }
def FracRoundsUptoCardSaid : Prop := Claim7.holds Tryz.pinned (.plain (OpenSpec.upto fracRoundsSpec)) fracRoundsUptoCard

/-- THE SECOND FORM's CARD OF 'tessellaw3.FracPowers'. -/
def fracPowersUptoCard : Claim7 := { stood := { row := fracPowersUptoRow, standIns := [], harness := (true, "580f36514e97186ca6ce9a0d12963b955ecd6c29f6eb3b371869c0e0837fa44d"), looks := false }, kinds := [], alts := [], laidByText := true, laidKinds := [.data, .data, .data], laidTests := true, laidLooks := .later }
def FracPowersUptoCardSaid : Prop := Claim7.holds Tryz.pinned (.plain (OpenSpec.upto fracPowersSpec)) fracPowersUptoCard

/-- THE SECOND FORM's CARD OF 'tessellaw3.FracTexts'. -/
def fracTextsUptoCard : Claim7 := { stood := { row := fracTextsUptoRow, standIns := [], harness := (true, "580f36514e97186ca6ce9a0d12963b955ecd6c29f6eb3b371869c0e0837fa44d"), looks := false }, kinds := [], alts := [], laidByText := true, laidKinds := [.data, .data, .data], laidTests := true, laidLooks := .later }
def FracTextsUptoCardSaid : Prop := Claim7.holds Tryz.pinned (.plain (OpenSpec.upto fracTextsSpec)) fracTextsUptoCard

/-- THE SECOND FORM's CARD OF 'tessellaw3.FracBack'. -/
def fracBackUptoCard : Claim7 := { stood := { row := fracBackUptoRow, standIns := [], harness := (true, "580f36514e97186ca6ce9a0d12963b955ecd6c29f6eb3b371869c0e0837fa44d"), looks := false }, kinds := [], alts := [], laidByText := true, laidKinds := [.data, .data, .data], laidTests := true, laidLooks := .later }
def FracBackUptoCardSaid : Prop := Claim7.holds Tryz.pinned (.plain (OpenSpec.upto fracBackSpec)) fracBackUptoCard

/-- THE SECOND FORM's CARD OF 'tessellaw3.FracKept'. -/
def fracKeptUptoCard : Claim7 := { stood := { row := fracKeptUptoRow, standIns := [], harness := (true, "580f36514e97186ca6ce9a0d12963b955ecd6c29f6eb3b371869c0e0837fa44d"), looks := false }, kinds := [], alts := [], laidByText := true, laidKinds := [.data, .data, .data], laidTests := true, laidLooks := .later }
def FracKeptUptoCardSaid : Prop := Claim7.holds Tryz.pinned (.plain (OpenSpec.upto fracKeptSpec)) fracKeptUptoCard
end Rows
end Go.Proofs.YtkgbfnmlpajblaaGreatDoor
