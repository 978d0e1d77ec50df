/-
  DERIVED. GIVEN WITH THE SEED: THE CARDS: each row of YtpdfahompajbjaaDoorRows.lean that lists a variable, with what it lists TIED to the program's text (the seventh form; the later family's looks); each row that meets fmt, with fmt's text TOLD by the authors' own Lean function (tested against real Go, not proved from fmt's source: count such statements apart). THE CARD IS WHAT COUNTS. Prove the row's statement (the work); the ties are given (YtpdfahompajbjaaDoorTie.lean); close each card by the builder's one call (the guide's Derived/Test/ToyasCard.lean, 'card_holds'). Laid BY PROGRAM, IN A SANDBOX (cutbox-door.mjs). By AI agents, Wed Nov 11 2026. No macro, syntax, notation, axiom, sorry.
-/
import Derived.Test.YtpdfahompajbjaaDoorRows
import GoSem.ClaimSeven
namespace Go.Proofs.YtpdfahompajbjaaDoor
namespace Rows

/-- THE TIED CARD OF 'tessellaw1.NatKept'. -/
def natKeptCard : Claim7 := { stood := { row := natKeptRow, standIns := [], harness := (true, "da8888fcd0c4f996448f708258ce5f72862bd5c71d4a0487e2138dd91856c7aa"), looks := false }, kinds := [], alts := [], laidByText := true, laidKinds := [.data, .data, .data], laidTests := true, laidLooks := .later }
def NatKeptCardSaid : Prop := Claim7.holds Tryd.pinned (.plain (OpenSpec.ofChange natKeptSpec)) natKeptCard

/-- THE TIED CARD OF 'tessellaw2.ZintKept'. -/
def zintKeptCard : Claim7 := { stood := { row := zintKeptRow, standIns := [], harness := (true, "da8888fcd0c4f996448f708258ce5f72862bd5c71d4a0487e2138dd91856c7aa"), looks := false }, kinds := [], alts := [], laidByText := true, laidKinds := [.data, .data, .data], laidTests := true, laidLooks := .later }
def ZintKeptCardSaid : Prop := Claim7.holds Tryd.pinned (.plain (OpenSpec.ofChange zintKeptSpec)) zintKeptCard

/-- THE TIED CARD OF 'tessellaw4.GintBack'. -/
def gintBackCard : Claim7 := { stood := { row := gintBackRow, standIns := [], harness := (true, "da8888fcd0c4f996448f708258ce5f72862bd5c71d4a0487e2138dd91856c7aa"), looks := false }, kinds := [], alts := [], laidByText := true, laidKinds := [.data, .data, .data, .data, .pinned], laidTests := true, laidLooks := .later }
def GintBackCardSaid : Prop := Claim7.holds Tryd.pinned (.plain (OpenSpec.ofChange gintBackSpec)) gintBackCard

/-- THE TIED CARD OF 'tessellaw4.GintKept'. -/
def gintKeptCard : Claim7 := { stood := { row := gintKeptRow, standIns := [], harness := (true, "da8888fcd0c4f996448f708258ce5f72862bd5c71d4a0487e2138dd91856c7aa"), looks := false }, kinds := [], alts := [], laidByText := true, laidKinds := [.data, .data, .data], laidTests := true, laidLooks := .later }
def GintKeptCardSaid : Prop := Claim7.holds Tryd.pinned (.plain (OpenSpec.ofChange gintKeptSpec)) gintKeptCard

/-- THE SECOND FORM's CARD OF 'tessellaw1.NatKept'. -/
def natKeptUptoCard : Claim7 := { stood := { row := natKeptUptoRow, standIns := [], harness := (true, "da8888fcd0c4f996448f708258ce5f72862bd5c71d4a0487e2138dd91856c7aa"), looks := false }, kinds := [], alts := [], laidByText := true, laidKinds := [.data, .data, .data], laidTests := true, laidLooks := .later }
def NatKeptUptoCardSaid : Prop := Claim7.holds Tryd.pinned (.plain (OpenSpec.upto natKeptSpec)) natKeptUptoCard

/-- THE SECOND FORM's CARD OF 'tessellaw2.ZintKept'. -/
def zintKeptUptoCard : Claim7 := { stood := { row := zintKeptUptoRow, standIns := [], harness := (true, "da8888fcd0c4f996448f708258ce5f72862bd5c71d4a0487e2138dd91856c7aa"), looks := false }, kinds := [], alts := [], laidByText := true, laidKinds := [.data, .data, .data], laidTests := true, laidLooks := .later }
def ZintKeptUptoCardSaid : Prop := Claim7.holds Tryd.pinned (.plain (OpenSpec.upto zintKeptSpec)) zintKeptUptoCard

/-- THE SECOND FORM's CARD OF 'tessellaw4.GintBack'. -/
def gintBackUptoCard : Claim7 := { stood := { row := gintBackUptoRow, standIns := [], harness := (true, "da8888fcd0c4f996448f708258ce5f72862bd5c71d4a0487e2138dd91856c7aa"), looks := false }, kinds := [], alts := [], laidByText := true, laidKinds := [.data, .data, .data, .data, .pinned], laidTests := true, laidLooks := .later }
def GintBackUptoCardSaid : Prop := Claim7.holds Tryd.pinned (.plain (OpenSpec.upto gintBackSpec)) gintBackUptoCard

/-- THE SECOND FORM's CARD OF 'tessellaw4.GintKept'. -/
def gintKeptUptoCard : Claim7 := { stood := { row := gintKeptUptoRow, standIns := [], harness := (true, "da8888fcd0c4f996448f708258ce5f72862bd5c71d4a0487e2138dd91856c7aa"), looks := false }, kinds := [], alts := [], laidByText := true, laidKinds := [.data, .data, .data], laidTests := true, laidLooks := .later }
def GintKeptUptoCardSaid : Prop := Claim7.holds Tryd.pinned (.plain (OpenSpec.upto gintKeptSpec)) gintKeptUptoCard
end Rows
end Go.Proofs.YtpdfahompajbjaaDoor
