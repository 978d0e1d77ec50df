/-
  DERIVED. GIVEN WITH THE SEED: THE CARDS: each row of YtgjainmfilkjmaaGreatDoorRows.lean that lists a variable, with what it lists TIED to the program's text (the seventh form; the later family's looks); each row that meets fmt, with fmt's text TOLD by the authors' own Lean function (tested against real Go, not proved from fmt's source: count such statements apart). THE CARD IS WHAT COUNTS. Prove the row's statement (the work); the ties are given (YtgjainmfilkjmaaGreatDoorTie.lean); close each card by the builder's one call (the guide's Derived/Test/ToyasCard.lean, 'card_holds'). Laid BY PROGRAM, IN A SANDBOX (cutbox-door.mjs). By AI agents, Wed Nov 11 2026. No macro, syntax, notation, axiom, sorry.
-/
import Derived.Test.YtgjainmfilkjmaaGreatDoorRows
import GoSem.ClaimSeven
namespace Go.Proofs.YtgjainmfilkjmaaGreatDoor
namespace Rows

/-- THE TIED CARD OF 'tessellaw4.GintKnown'. -/
def gintKnownCard : Claim7 := { stood := { row := gintKnownRow, standIns := [], harness := (true, "d32d8ce485ad98ff70c51776d1deecbe98e683c0bf7415bc9bdb9073a5ec472f"), looks := false }, kinds := [], alts := [], laidByText := true, laidKinds := [.data, .data, .data, .data, .pinned], laidTests := true, laidLooks := .later }
def GintKnownCardSaid : Prop := Claim7.holds Tryz.pinned (.plain (OpenSpec.ofChange gintKnownSpec)) gintKnownCard

/-- THE TIED CARD OF 'tessellaw4.GintGcds'. -/
def gintGcdsCard : Claim7 := { stood := { row := gintGcdsRow, standIns := [], harness := (true, "d32d8ce485ad98ff70c51776d1deecbe98e683c0bf7415bc9bdb9073a5ec472f"), looks := false }, kinds := [], alts := [], laidByText := true, laidKinds := [.data, .data, .data], laidTests := true, laidLooks := .later }
def GintGcdsCardSaid : Prop := Claim7.holds Tryz.pinned (.plain (OpenSpec.ofChange gintGcdsSpec)) gintGcdsCard

/-- THE TIED CARD OF 'tessellaw4.GintTexts'. -/
def gintTextsCard : Claim7 := { stood := { row := gintTextsRow, standIns := [], harness := (true, "d32d8ce485ad98ff70c51776d1deecbe98e683c0bf7415bc9bdb9073a5ec472f"), looks := false }, kinds := [], alts := [], laidByText := true, laidKinds := [.data, .data, .data, .data, .pinned], laidTests := true, laidLooks := .later }
def GintTextsCardSaid : Prop := Claim7.holds Tryz.pinned (.plain (OpenSpec.ofChange gintTextsSpec)) gintTextsCard

/-- THE SECOND FORM's CARD OF 'tessellaw4.GintKnown'. -/
def gintKnownUptoCard : Claim7 := { stood := { row := gintKnownUptoRow, standIns := [], harness := (true, "d32d8ce485ad98ff70c51776d1deecbe98e683c0bf7415bc9bdb9073a5ec472f"), looks := false }, kinds := [], alts := [], laidByText := true, laidKinds := [.data, .data, .data, .data, .pinned], laidTests := true, laidLooks := .later }
def GintKnownUptoCardSaid : Prop := Claim7.holds Tryz.pinned (.plain (OpenSpec.upto gintKnownSpec)) gintKnownUptoCard

/-- THE SECOND FORM's CARD OF 'tessellaw4.GintGcds'. -/
def gintGcdsUptoCard : Claim7 := { stood := { row := gintGcdsUptoRow, standIns := [], harness := (true, "d32d8ce485ad98ff70c51776d1deecbe98e683c0bf7415bc9bdb9073a5ec472f"), looks := false }, kinds := [], alts := [], laidByText := true, laidKinds := [.data, .data, .data], laidTests := true, laidLooks := .later }
def GintGcdsUptoCardSaid : Prop := Claim7.holds Tryz.pinned (.plain (OpenSpec.upto gintGcdsSpec)) gintGcdsUptoCard

/-- THE SECOND FORM's CARD OF 'tessellaw4.GintTexts'. -/
def gintTextsUptoCard : Claim7 := { stood := { row := gintTextsUptoRow, standIns := [], harness := (true, "d32d8ce485ad98ff70c51776d1deecbe98e683c0bf7415bc9bdb9073a5ec472f"), looks := false }, kinds := [], alts := [], laidByText := true, laidKinds := [.data, .data, .data, .data, .pinned], laidTests := true, laidLooks := .later }
def GintTextsUptoCardSaid : Prop := Claim7.holds Tryz.pinned (.plain (OpenSpec.upto gintTextsSpec)) gintTextsUptoCard
end Rows
end Go.Proofs.YtgjainmfilkjmaaGreatDoor
