/-
  DERIVED. GIVEN WITH THE SEED: THE CARDS: each row of YtgjainmfilkjmaaDoorRows.lean that lists a variable, with what it lists TIED to the program's text (the seventh form; the later family's looks); each row that meets fmt, with fmt's text TOLD by the authors' own Lean function (tested against real Go, not proved from fmt's source: count such statements apart). THE CARD IS WHAT COUNTS. Prove the row's statement (the work); the ties are given (YtgjainmfilkjmaaDoorTie.lean); close each card by the builder's one call (the guide's Derived/Test/ToyasCard.lean, 'card_holds'). Laid BY PROGRAM, IN A SANDBOX (cutbox-door.mjs). By AI agents, Wed Nov 11 2026. No macro, syntax, notation, axiom, sorry.
-/
import Derived.Test.YtgjainmfilkjmaaDoorRows
import GoSem.ClaimSeven
namespace Go.Proofs.YtgjainmfilkjmaaDoor
namespace Rows

/-- THE TIED CARD OF 'tessellaw4.GintSums'. -/
def gintSumsCard : Claim7 := { stood := { row := gintSumsRow, standIns := [], harness := (true, "a7d0034da4102d71aedd4b84454771b94ed6afd72b7f92bd2e6285f1025b349d"), looks := false }, kinds := [], alts := [], laidByText := true, laidKinds := [.data, .data, .data], laidTests := true, laidLooks := .later }
def GintSumsCardSaid : Prop := Claim7.holds Tryd.pinned (.plain (OpenSpec.ofChange gintSumsSpec)) gintSumsCard

/-- THE TIED CARD OF 'tessellaw4.GintCanons'. -/
def gintCanonsCard : Claim7 := { stood := { row := gintCanonsRow, standIns := [], harness := (true, "a7d0034da4102d71aedd4b84454771b94ed6afd72b7f92bd2e6285f1025b349d"), looks := false }, kinds := [], alts := [], laidByText := true, laidKinds := [.data, .data, .data], laidTests := true, laidLooks := .later }
def GintCanonsCardSaid : Prop := Claim7.holds Tryd.pinned (.plain (OpenSpec.ofChange gintCanonsSpec)) gintCanonsCard

/-- THE TIED CARD OF 'tessellaw4.GintDivides'. -/
def gintDividesCard : Claim7 := { stood := { row := gintDividesRow, standIns := [], harness := (true, "a7d0034da4102d71aedd4b84454771b94ed6afd72b7f92bd2e6285f1025b349d"), looks := false }, kinds := [], alts := [], laidByText := true, laidKinds := [.data, .data, .data], laidTests := true, laidLooks := .later }
def GintDividesCardSaid : Prop := Claim7.holds Tryd.pinned (.plain (OpenSpec.ofChange gintDividesSpec)) gintDividesCard

/-- THE TIED CARD OF 'tessellaw4.GintRing'. -/
def gintRingCard : Claim7 := { stood := { row := gintRingRow, standIns := [], harness := (true, "a7d0034da4102d71aedd4b84454771b94ed6afd72b7f92bd2e6285f1025b349d"), looks := false }, kinds := [], alts := [], laidByText := true, laidKinds := [.data, .data, .data], laidTests := true, laidLooks := .later }
def GintRingCardSaid : Prop := Claim7.holds Tryd.pinned (.plain (OpenSpec.ofChange gintRingSpec)) gintRingCard

/-- THE TIED CARD OF 'tessellaw4.GintRests'. -/
def gintRestsCard : Claim7 := { stood := { row := gintRestsRow, standIns := [], harness := (true, "a7d0034da4102d71aedd4b84454771b94ed6afd72b7f92bd2e6285f1025b349d"), looks := false }, kinds := [], alts := [], laidByText := true, laidKinds := [.data, .data, .data], laidTests := true, laidLooks := .later }
def GintRestsCardSaid : Prop := Claim7.holds Tryd.pinned (.plain (OpenSpec.ofChange gintRestsSpec)) gintRestsCard

/-- THE TIED CARD OF 'tessellaw4.GintBezout'. -/
def gintBezoutCard : Claim7 := { stood := { row := gintBezoutRow, standIns := [], harness := (true, "a7d0034da4102d71aedd4b84454771b94ed6afd72b7f92bd2e6285f1025b349d"), looks := false }, kinds := [], alts := [], laidByText := true, laidKinds := [.data, .data, .data], laidTests := true, laidLooks := .later }
def GintBezoutCardSaid : Prop := Claim7.holds Tryd.pinned (.plain (OpenSpec.ofChange gintBezoutSpec)) gintBezoutCard

/-- THE TIED CARD OF 'tessellaw4.GintBack'. -/
def gintBackCard : Claim7 := { stood := { row := gintBackRow, standIns := [], harness := (true, "a7d0034da4102d71aedd4b84454771b94ed6afd72b7f92bd2e6285f1025b349d"), looks := false }, kinds := [], alts := [], laidByText := true, laidKinds := [.data, .data, .data, .data, .pinned], laidTests := true, laidLooks := .later }
def GintBackCardSaid : Prop := Claim7.holds Tryd.pinned (.plain (OpenSpec.ofChange gintBackSpec)) gintBackCard

/-- THE TIED CARD OF 'tessellaw4.GintKept'. -/
def gintKeptCard : Claim7 := { stood := { row := gintKeptRow, standIns := [], harness := (true, "a7d0034da4102d71aedd4b84454771b94ed6afd72b7f92bd2e6285f1025b349d"), looks := false }, kinds := [], alts := [], laidByText := true, laidKinds := [.data, .data, .data], laidTests := true, laidLooks := .later }
def GintKeptCardSaid : Prop := Claim7.holds Tryd.pinned (.plain (OpenSpec.ofChange gintKeptSpec)) gintKeptCard

/-- THE SECOND FORM's CARD OF 'tessellaw4.GintSums'. -/
def gintSumsUptoCard : Claim7 := { stood := { row := gintSumsUptoRow, standIns := [], harness := (true, "a7d0034da4102d71aedd4b84454771b94ed6afd72b7f92bd2e6285f1025b349d"), looks := false }, kinds := [], alts := [], laidByText := true, laidKinds := [.data, .data, .data], laidTests := true, laidLooks := .later }
def GintSumsUptoCardSaid : Prop := Claim7.holds Tryd.pinned (.plain (OpenSpec.upto gintSumsSpec)) gintSumsUptoCard

/-- THE SECOND FORM's CARD OF 'tessellaw4.GintCanons'. -/
def gintCanonsUptoCard : Claim7 := { stood := { row := gintCanonsUptoRow, standIns := [], harness := (true, "a7d0034da4102d71aedd4b84454771b94ed6afd72b7f92bd2e6285f1025b349d"), looks := false }, kinds := [], alts := [], laidByText := true, laidKinds := [.data, .data, .data], laidTests := true, laidLooks := .later }
def GintCanonsUptoCardSaid : Prop := Claim7.holds Tryd.pinned (.plain (OpenSpec.upto gintCanonsSpec)) gintCanonsUptoCard

/-- THE SECOND FORM's CARD OF 'tessellaw4.GintDivides'. -/
def gintDividesUptoCard : Claim7 := { stood := { row := gintDividesUptoRow, standIns := [], harness := (true, "a7d0034da4102d71aedd4b84454771b94ed6afd72b7f92bd2e6285f1025b349d"), looks := false }, kinds := [], alts := [], laidByText := true, laidKinds := [.data, .data, .data], laidTests := true, laidLooks := .later }
def GintDividesUptoCardSaid : Prop := Claim7.holds Tryd.pinned (.plain (OpenSpec.upto gintDividesSpec)) gintDividesUptoCard

/-- THE SECOND FORM's CARD OF 'tessellaw4.GintRing'. -/
def gintRingUptoCard : Claim7 := { stood := { row := gintRingUptoRow, standIns := [], harness := (true, "a7d0034da4102d71aedd4b84454771b94ed6afd72b7f92bd2e6285f1025b349d"), looks := false }, kinds := [], alts := [], laidByText := true, laidKinds := [.data, .data, .data], laidTests := true, laidLooks := .later }
def GintRingUptoCardSaid : Prop := Claim7.holds Tryd.pinned (.plain (OpenSpec.upto gintRingSpec)) gintRingUptoCard

/-- THE SECOND FORM's CARD OF 'tessellaw4.GintRests'. -/
def gintRestsUptoCard : Claim7 := { stood := { row := gintRestsUptoRow, standIns := [], harness := (true, "a7d0034da4102d71aedd4b84454771b94ed6afd72b7f92bd2e6285f1025b349d"), looks := false }, kinds := [], alts := [], laidByText := true, laidKinds := [.data, .data, .data], laidTests := true, laidLooks := .later }
def GintRestsUptoCardSaid : Prop := Claim7.holds Tryd.pinned (.plain (OpenSpec.upto gintRestsSpec)) gintRestsUptoCard

/-- THE SECOND FORM's CARD OF 'tessellaw4.GintBezout'. -/
def gintBezoutUptoCard : Claim7 := { stood := { row := gintBezoutUptoRow, standIns := [], harness := (true, "a7d0034da4102d71aedd4b84454771b94ed6afd72b7f92bd2e6285f1025b349d"), looks := false }, kinds := [], alts := [], laidByText := true, laidKinds := [.data, .data, .data], laidTests := true, laidLooks := .later }
def GintBezoutUptoCardSaid : Prop := Claim7.holds Tryd.pinned (.plain (OpenSpec.upto gintBezoutSpec)) gintBezoutUptoCard

/-- THE SECOND FORM's CARD OF 'tessellaw4.GintBack'. -/
def gintBackUptoCard : Claim7 := { stood := { row := gintBackUptoRow, standIns := [], harness := (true, "a7d0034da4102d71aedd4b84454771b94ed6afd72b7f92bd2e6285f1025b349d"), looks := false }, kinds := [], alts := [], laidByText := true, laidKinds := [.data, .data, .data, .data, .pinned], laidTests := true, laidLooks := .later }
def GintBackUptoCardSaid : Prop := Claim7.holds Tryd.pinned (.plain (OpenSpec.upto gintBackSpec)) gintBackUptoCard

/-- THE SECOND FORM's CARD OF 'tessellaw4.GintKept'. -/
def gintKeptUptoCard : Claim7 := { stood := { row := gintKeptUptoRow, standIns := [], harness := (true, "a7d0034da4102d71aedd4b84454771b94ed6afd72b7f92bd2e6285f1025b349d"), looks := false }, kinds := [], alts := [], laidByText := true, laidKinds := [.data, .data, .data], laidTests := true, laidLooks := .later }
def GintKeptUptoCardSaid : Prop := Claim7.holds Tryd.pinned (.plain (OpenSpec.upto gintKeptSpec)) gintKeptUptoCard
end Rows
end Go.Proofs.YtgjainmfilkjmaaDoor
