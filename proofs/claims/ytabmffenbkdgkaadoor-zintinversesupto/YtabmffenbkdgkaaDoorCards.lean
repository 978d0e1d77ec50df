/-
  DERIVED. GIVEN WITH THE SEED: THE CARDS: each row of YtabmffenbkdgkaaDoorRows.lean that lists a variable, with what it lists TIED to the program's text (the seventh form; the later family's looks); each row that meets fmt, with fmt's text TOLD by the authors' own Lean function (tested against real Go, not proved from fmt's source: count such statements apart). THE CARD IS WHAT COUNTS. Prove the row's statement (the work); the ties are given (YtabmffenbkdgkaaDoorTie.lean); close each card by the builder's one call (the guide's Derived/Test/ToyasCard.lean, 'card_holds'). Laid BY PROGRAM, IN A SANDBOX (cutbox-door.mjs). By AI agents, Wed Nov 11 2026. No macro, syntax, notation, axiom, sorry.
-/
import Derived.Test.YtabmffenbkdgkaaDoorRows
import GoSem.ClaimSeven
namespace Go.Proofs.YtabmffenbkdgkaaDoor
namespace Rows

/-- THE TIED CARD OF 'tessellaw2.ZintKnown'. -/
def zintKnownCard : Claim7 := { stood := { row := zintKnownRow, standIns := [], harness := (true, "73c40f4d1cc8b883b0eeee2de3a9ff3e6e65a171f157e37a53bc351f090a7541"), looks := false }, kinds := [], alts := [], laidByText := true, laidKinds := [.data, .data, .data], laidTests := true, laidLooks := .later }
def ZintKnownCardSaid : Prop := Claim7.holds Tryd.pinned (.plain (OpenSpec.ofChange zintKnownSpec)) zintKnownCard

/-- THE TIED CARD OF 'tessellaw2.ZintSmall'. -/
def zintSmallCard : Claim7 := { stood := { row := zintSmallRow, standIns := [], harness := (true, "73c40f4d1cc8b883b0eeee2de3a9ff3e6e65a171f157e37a53bc351f090a7541"), looks := false }, kinds := [], alts := [], laidByText := true, laidKinds := [.data, .data, .data], laidTests := true, laidLooks := .later }
def ZintSmallCardSaid : Prop := Claim7.holds Tryd.pinned (.plain (OpenSpec.ofChange zintSmallSpec)) zintSmallCard

/-- THE TIED CARD OF 'tessellaw2.ZintSums'. -/
def zintSumsCard : Claim7 := { stood := { row := zintSumsRow, standIns := [], harness := (true, "73c40f4d1cc8b883b0eeee2de3a9ff3e6e65a171f157e37a53bc351f090a7541"), looks := false }, kinds := [], alts := [], laidByText := true, laidKinds := [.data, .data, .data], laidTests := true, laidLooks := .later }
def ZintSumsCardSaid : Prop := Claim7.holds Tryd.pinned (.plain (OpenSpec.ofChange zintSumsSpec)) zintSumsCard

/-- THE TIED CARD OF 'tessellaw2.ZintDivides'. -/
def zintDividesCard : Claim7 := { stood := { row := zintDividesRow, standIns := [], harness := (true, "73c40f4d1cc8b883b0eeee2de3a9ff3e6e65a171f157e37a53bc351f090a7541"), looks := false }, kinds := [], alts := [], laidByText := true, laidKinds := [.data, .data, .data], laidTests := true, laidLooks := .later }
def ZintDividesCardSaid : Prop := Claim7.holds Tryd.pinned (.plain (OpenSpec.ofChange zintDividesSpec)) zintDividesCard

/-- THE TIED CARD OF 'tessellaw2.ZintGcds'. -/
def zintGcdsCard : Claim7 := { stood := { row := zintGcdsRow, standIns := [], harness := (true, "73c40f4d1cc8b883b0eeee2de3a9ff3e6e65a171f157e37a53bc351f090a7541"), looks := false }, kinds := [], alts := [], laidByText := true, laidKinds := [.data, .data, .data], laidTests := true, laidLooks := .later }
def ZintGcdsCardSaid : Prop := Claim7.holds Tryd.pinned (.plain (OpenSpec.ofChange zintGcdsSpec)) zintGcdsCard

/-- THE TIED CARD OF 'tessellaw2.ZintInverses'. -/
def zintInversesCard : Claim7 := { stood := { row := zintInversesRow, standIns := [], harness := (true, "73c40f4d1cc8b883b0eeee2de3a9ff3e6e65a171f157e37a53bc351f090a7541"), looks := false }, kinds := [], alts := [], laidByText := true, laidKinds := [.data, .data, .data], laidTests := true, laidLooks := .later }
def ZintInversesCardSaid : Prop := Claim7.holds Tryd.pinned (.plain (OpenSpec.ofChange zintInversesSpec)) zintInversesCard

/-- THE TIED CARD OF 'tessellaw2.ZintTexts'. -/
def zintTextsCard : Claim7 := { stood := { row := zintTextsRow, standIns := [], harness := (true, "73c40f4d1cc8b883b0eeee2de3a9ff3e6e65a171f157e37a53bc351f090a7541"), looks := false }, kinds := [], alts := [], laidByText := true, laidKinds := [.data, .data, .data], laidTests := true, laidLooks := .later }
def ZintTextsCardSaid : Prop := Claim7.holds Tryd.pinned (.plain (OpenSpec.ofChange zintTextsSpec)) zintTextsCard

/-- THE TIED CARD OF 'tessellaw2.ZintRing'. -/
def zintRingCard : Claim7 := { stood := { row := zintRingRow, standIns := [], harness := (true, "73c40f4d1cc8b883b0eeee2de3a9ff3e6e65a171f157e37a53bc351f090a7541"), looks := false }, kinds := [], alts := [], laidByText := true, laidKinds := [.data, .data, .data], laidTests := true, laidLooks := .later }
def ZintRingCardSaid : Prop := Claim7.holds Tryd.pinned (.plain (OpenSpec.ofChange zintRingSpec)) zintRingCard

/-- THE TIED CARD OF 'tessellaw2.ZintRests'. -/
def zintRestsCard : Claim7 := { stood := { row := zintRestsRow, standIns := [], harness := (true, "73c40f4d1cc8b883b0eeee2de3a9ff3e6e65a171f157e37a53bc351f090a7541"), looks := false }, kinds := [], alts := [], laidByText := true, laidKinds := [.data, .data, .data], laidTests := true, laidLooks := .later }
def ZintRestsCardSaid : Prop := Claim7.holds Tryd.pinned (.plain (OpenSpec.ofChange zintRestsSpec)) zintRestsCard

/-- THE TIED CARD OF 'tessellaw2.ZintBezout'. -/
def zintBezoutCard : Claim7 := { stood := { row := zintBezoutRow, standIns := [], harness := (true, "73c40f4d1cc8b883b0eeee2de3a9ff3e6e65a171f157e37a53bc351f090a7541"), looks := false }, kinds := [], alts := [], laidByText := true, laidKinds := [.data, .data, .data], laidTests := true, laidLooks := .later }
def ZintBezoutCardSaid : Prop := Claim7.holds Tryd.pinned (.plain (OpenSpec.ofChange zintBezoutSpec)) zintBezoutCard

/-- THE TIED CARD OF 'tessellaw2.ZintKept'. -/
def zintKeptCard : Claim7 := { stood := { row := zintKeptRow, standIns := [], harness := (true, "73c40f4d1cc8b883b0eeee2de3a9ff3e6e65a171f157e37a53bc351f090a7541"), looks := false }, kinds := [], alts := [], laidByText := true, laidKinds := [.data, .data, .data], laidTests := true, laidLooks := .later }
def ZintKeptCardSaid : Prop := Claim7.holds Tryd.pinned (.plain (OpenSpec.ofChange zintKeptSpec)) zintKeptCard

/-- THE SECOND FORM's CARD OF 'tessellaw2.ZintKnown'. -/
def zintKnownUptoCard : Claim7 := { stood := { row := zintKnownUptoRow, standIns := [], harness := (true, "73c40f4d1cc8b883b0eeee2de3a9ff3e6e65a171f157e37a53bc351f090a7541"), looks := false }, kinds := [], alts := [], laidByText := true, laidKinds := [.data, .data, .data], laidTests := true, laidLooks := .later }
def ZintKnownUptoCardSaid : Prop := Claim7.holds Tryd.pinned (.plain (OpenSpec.upto zintKnownSpec)) zintKnownUptoCard

/-- THE SECOND FORM's CARD OF 'tessellaw2.ZintSmall'. -/
def zintSmallUptoCard : Claim7 := { stood := { row := zintSmallUptoRow, standIns := [], harness := (true, "73c40f4d1cc8b883b0eeee2de3a9ff3e6e65a171f157e37a53bc351f090a7541"), looks := false }, kinds := [], alts := [], laidByText := true, laidKinds := [.data, .data, .data], laidTests := true, laidLooks := .later }
def ZintSmallUptoCardSaid : Prop := Claim7.holds Tryd.pinned (.plain (OpenSpec.upto zintSmallSpec)) zintSmallUptoCard

/-- THE SECOND FORM's CARD OF 'tessellaw2.ZintSums'. -/
def zintSumsUptoCard : Claim7 := { stood := { row := zintSumsUptoRow, standIns := [], harness := (true, "73c40f4d1cc8b883b0eeee2de3a9ff3e6e65a171f157e37a53bc351f090a7541"), looks := false }, kinds := [], alts := [], laidByText := true, laidKinds := [.data, .data, .data], laidTests := true, laidLooks := .later }
def ZintSumsUptoCardSaid : Prop := Claim7.holds Tryd.pinned (.plain (OpenSpec.upto zintSumsSpec)) zintSumsUptoCard

/-- THE SECOND FORM's CARD OF 'tessellaw2.ZintDivides'. -/
def zintDividesUptoCard : Claim7 := { stood := { row := zintDividesUptoRow, standIns := [], harness := (true, "73c40f4d1cc8b883b0eeee2de3a9ff3e6e65a171f157e37a53bc351f090a7541"), looks := false }, kinds := [], alts := [], laidByText := true, laidKinds := [.data, .data, .data], laidTests := true, laidLooks := .later }
def ZintDividesUptoCardSaid : Prop := Claim7.holds Tryd.pinned (.plain (OpenSpec.upto zintDividesSpec)) zintDividesUptoCard

/-- THE SECOND FORM's CARD OF 'tessellaw2.ZintGcds'. -/
def zintGcdsUptoCard : Claim7 := { stood := { row := zintGcdsUptoRow, standIns := [], harness := (true, "73c40f4d1cc8b883b0eeee2de3a9ff3e6e65a171f157e37a53bc351f090a7541"), looks := false }, kinds := [], alts := [], laidByText := true, laidKinds := [.data, .data, .data], laidTests := true, laidLooks := .later }
def ZintGcdsUptoCardSaid : Prop := Claim7.holds Tryd.pinned (.plain (OpenSpec.upto zintGcdsSpec)) zintGcdsUptoCard

/-- THE SECOND FORM's CARD OF 'tessellaw2.ZintInverses'. -/
def zintInversesUptoCard : Claim7 := { stood := { row := zintInversesUptoRow, standIns := [], harness := (true, "73c40f4d1cc8b883b0eeee2de3a9ff3e6e65a171f157e37a53bc351f090a7541"), looks := false }, kinds := [], alts := [], laidByText := true, laidKinds := [.data, .data, .data], laidTests := true, laidLooks := .later }
def ZintInversesUptoCardSaid : Prop := Claim7.holds Tryd.pinned (.plain (OpenSpec.upto zintInversesSpec)) zintInversesUptoCard

/-- THE SECOND FORM's CARD OF 'tessellaw2.ZintTexts'. -/
def zintTextsUptoCard : Claim7 := { stood := { row := zintTextsUptoRow, standIns := [], harness := (true, "73c40f4d1cc8b883b0eeee2de3a9ff3e6e65a171f157e37a53bc351f090a7541"), looks := false }, kinds := [], alts := [], laidByText := true, laidKinds := [.data, .data, .data], laidTests := true, laidLooks := .later }
def ZintTextsUptoCardSaid : Prop := Claim7.holds Tryd.pinned (.plain (OpenSpec.upto zintTextsSpec)) zintTextsUptoCard

/-- THE SECOND FORM's CARD OF 'tessellaw2.ZintRing'. -/
def zintRingUptoCard : Claim7 := { stood := { row := zintRingUptoRow, standIns := [], harness := (true, "73c40f4d1cc8b883b0eeee2de3a9ff3e6e65a171f157e37a53bc351f090a7541"), looks := false }, kinds := [], alts := [], laidByText := true, laidKinds := [.data, .data, .data], laidTests := true, laidLooks := .later }
def ZintRingUptoCardSaid : Prop := Claim7.holds Tryd.pinned (.plain (OpenSpec.upto zintRingSpec)) zintRingUptoCard

/-- THE SECOND FORM's CARD OF 'tessellaw2.ZintRests'. -/
def zintRestsUptoCard : Claim7 := { stood := { row := zintRestsUptoRow, standIns := [], harness := (true, "73c40f4d1cc8b883b0eeee2de3a9ff3e6e65a171f157e37a53bc351f090a7541"), looks := false }, kinds := [], alts := [], laidByText := true, laidKinds := [.data, .data, .data], laidTests := true, laidLooks := .later }
def ZintRestsUptoCardSaid : Prop := Claim7.holds Tryd.pinned (.plain (OpenSpec.upto zintRestsSpec)) zintRestsUptoCard

/-- THE SECOND FORM's CARD OF 'tessellaw2.ZintBezout'. -/
def zintBezoutUptoCard : Claim7 := { stood := { row := zintBezoutUptoRow, standIns := [], harness := (true, "73c40f4d1cc8b883b0eeee2de3a9ff3e6e65a171f157e37a53bc351f090a7541"), looks := false }, kinds := [], alts := [], laidByText := true, laidKinds := [.data, .data, .data], laidTests := true, laidLooks := .later }
def ZintBezoutUptoCardSaid : Prop := Claim7.holds Tryd.pinned (.plain (OpenSpec.upto zintBezoutSpec)) zintBezoutUptoCard

/-- THE SECOND FORM's CARD OF 'tessellaw2.ZintKept'. -/
def zintKeptUptoCard : Claim7 := { stood := { row := zintKeptUptoRow, standIns := [], harness := (true, "73c40f4d1cc8b883b0eeee2de3a9ff3e6e65a171f157e37a53bc351f090a7541"), looks := false }, kinds := [], alts := [], laidByText := true, laidKinds := [.data, .data, .data], laidTests := true, laidLooks := .later }
def ZintKeptUptoCardSaid : Prop := Claim7.holds Tryd.pinned (.plain (OpenSpec.upto zintKeptSpec)) zintKeptUptoCard
end Rows
end Go.Proofs.YtabmffenbkdgkaaDoor
