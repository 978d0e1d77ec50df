/-
  DERIVED. GIVEN WITH THE SEED: THE CARDS: each row of YtjcfhbekpmpbeaaDoorRows.lean that lists a variable, with what it lists TIED to the program's text (the seventh form; the later family's looks); each row that meets fmt, with fmt's text TOLD by the authors' own Lean function (tested against real Go, not proved from fmt's source: count such statements apart). THE CARD IS WHAT COUNTS. Prove the row's statement (the work); the ties are given (YtjcfhbekpmpbeaaDoorTie.lean); close each card by the builder's one call (the guide's Derived/Test/ToyasCard.lean, 'card_holds'). Laid BY PROGRAM, IN A SANDBOX (cutbox-door.mjs). By AI agents, Wed Nov 11 2026. No macro, syntax, notation, axiom, sorry.
-/
import Derived.Test.YtjcfhbekpmpbeaaDoorRows
import GoSem.ClaimSeven
namespace Go.Proofs.YtjcfhbekpmpbeaaDoor
namespace Rows

/-- THE TIED CARD OF 'tessellaw1.NatKept'. -/
def natKeptCard : Claim7 := { stood := { row := natKeptRow, standIns := [], harness := (true, "39f1393ef29a0f6a3aa5e02e2bc5fa73dbda373df74227e6eaf858a51bdfc6d7"), looks := false }, kinds := [], alts := [], laidByText := true, laidKinds := [.data, .data, .data], laidTests := true, laidLooks := .later }
def NatKeptCardSaid : Prop := Claim7.holds Tryd.pinned (.plain (OpenSpec.ofChange natKeptSpec)) natKeptCard

/-- THE TIED CARD OF 'tessellaw2.ZintKnown'. -/
def zintKnownCard : Claim7 := { stood := { row := zintKnownRow, standIns := [], harness := (true, "39f1393ef29a0f6a3aa5e02e2bc5fa73dbda373df74227e6eaf858a51bdfc6d7"), looks := false }, kinds := [], alts := [], laidByText := true, laidKinds := [.data, .data, .data], laidTests := true, laidLooks := .later }
def ZintKnownCardSaid : Prop := Claim7.holds Tryd.pinned (.plain (OpenSpec.ofChange zintKnownSpec)) zintKnownCard

/-- THE TIED CARD OF 'tessellaw2.ZintKept'. -/
def zintKeptCard : Claim7 := { stood := { row := zintKeptRow, standIns := [], harness := (true, "39f1393ef29a0f6a3aa5e02e2bc5fa73dbda373df74227e6eaf858a51bdfc6d7"), looks := false }, kinds := [], alts := [], laidByText := true, laidKinds := [.data, .data, .data], laidTests := true, laidLooks := .later }
def ZintKeptCardSaid : Prop := Claim7.holds Tryd.pinned (.plain (OpenSpec.ofChange zintKeptSpec)) zintKeptCard

/-- THE SECOND FORM's CARD OF 'tessellaw1.NatKept'. -/
def natKeptUptoCard : Claim7 := { stood := { row := natKeptUptoRow, standIns := [], harness := (true, "39f1393ef29a0f6a3aa5e02e2bc5fa73dbda373df74227e6eaf858a51bdfc6d7"), looks := false }, kinds := [], alts := [], laidByText := true, laidKinds := [.data, .data, .data], laidTests := true, laidLooks := .later }
def NatKeptUptoCardSaid : Prop := Claim7.holds Tryd.pinned (.plain (OpenSpec.upto natKeptSpec)) natKeptUptoCard

/-- THE SECOND FORM's CARD OF 'tessellaw2.ZintKnown'. -/
def zintKnownUptoCard : Claim7 := { stood := { row := zintKnownUptoRow, standIns := [], harness := (true, "39f1393ef29a0f6a3aa5e02e2bc5fa73dbda373df74227e6eaf858a51bdfc6d7"), looks := false }, kinds := [], alts := [], laidByText := true, laidKinds := [.data, .data, .data], laidTests := true, laidLooks := .later }
def ZintKnownUptoCardSaid : Prop := Claim7.holds Tryd.pinned (.plain (OpenSpec.upto zintKnownSpec)) zintKnownUptoCard

/-- THE SECOND FORM's CARD OF 'tessellaw2.ZintKept'. -/
def zintKeptUptoCard : Claim7 := { stood := { row := zintKeptUptoRow, standIns := [], harness := (true, "39f1393ef29a0f6a3aa5e02e2bc5fa73dbda373df74227e6eaf858a51bdfc6d7"), looks := false }, kinds := [], alts := [], laidByText := true, laidKinds := [.data, .data, .data], laidTests := true, laidLooks := .later }
def ZintKeptUptoCardSaid : Prop := Claim7.holds Tryd.pinned (.plain (OpenSpec.upto zintKeptSpec)) zintKeptUptoCard
end Rows
end Go.Proofs.YtjcfhbekpmpbeaaDoor
