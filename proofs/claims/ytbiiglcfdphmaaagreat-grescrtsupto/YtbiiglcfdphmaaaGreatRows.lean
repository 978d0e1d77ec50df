/-
  No cell of these rows narrows 'for every input' (looked for: loops, veiled, ifaces, maps, wideKeys, modest, calm, conditions, laid).
  DERIVED. THE GIVEN ROWS OF THIS SEAT. 3 by the template 'for every input the law returns true; each argument reads behind the call as it read before'; 0 by the template 'total and deterministic' (their statements: YtbiiglcfdphmaaaGreatTotals.lean).
  GIVEN WITH THE SEED: the statements are not yours to turn. If you find one false, say at which input.
  Laid BY PROGRAM, IN A SANDBOX (cutbox-rows.mjs): the forced cells as the released guide's own fill.sh prints them over the translation 7abe2a5a95ba69f7… (all of the seat's roots in one cut). By AI agents, Wed Nov 11 2026. No macro, syntax, notation, axiom, sorry.
-/
import Derived.Test.YtbiiglcfdphmaaaGreatChecked
import GoSem.Claim
import GoSem.ClaimJoined
import GoSem.ClaimMapViews
import Derived.JoinedTies
import Derived.KernelRfl
namespace Go.Proofs.YtbiiglcfdphmaaaGreat
/- THE CELL 'sum', in the pinned program and in every row, IS THE sha256 OF THE DUMP (.gsa) THAT YtbiiglcfdphmaaaGreatProg.lean LOADS. Nothing in Lean hashes anything: it is a label: what it is worth is what the hold of that sum in a sandbox is worth. -/
noncomputable def Tryz.pinned : Pinned := { name := "ytbiiglcfdphmaaagreat", sum := "7abe2a5a95ba69f7dacf4474d06d35fee23b9ec5f3e1068c6a73d373b1b70658", checked := Tryz.checked }
namespace Rows
def none {H : Type} : Left H := { results := [], args := [] }

/-- 'tessellaw6.GprimeFactors': WHATEVER THE INPUT: true; the input reads as it did. -/
def gprimeFactorsSpec : ChangeSpec := { name := "gprimeFactors", fn := fun _ => fun
  | [d] => { results := [.lit (.bool true)], args := [d] }
  | _ => none }
def gprimeFactorsRow : OpenClaim := { program := "ytbiiglcfdphmaaagreat", sum := "7abe2a5a95ba69f7dacf4474d06d35fee23b9ec5f3e1068c6a73d373b1b70658", func := "tessel/tessellaw6.GprimeFactors", spec := "gprimeFactors", unfollowed := true, recurses := true, apart := false }
def GprimeFactorsSaid : Prop := gprimeFactorsRow.holds Tryz.pinned (OpenSpec.ofChange gprimeFactorsSpec)

/-- ITS FALSE NEIGHBOUR: 'it returns false'. Refute it at one input. -/
def gprimeFactorsWrong : ChangeSpec := { name := "gprimeFactors", fn := fun _ => fun
  | [d] => { results := [.lit (.bool false)], args := [d] }
  | _ => none }
def GprimeFactorsWrongFalsely : Prop := gprimeFactorsRow.holds Tryz.pinned (OpenSpec.ofChange gprimeFactorsWrong)

/-- 'tessellaw5.GresInverses': WHATEVER THE INPUT: true; the input reads as it did. -/
def gresInversesSpec : ChangeSpec := { name := "gresInverses", fn := fun _ => fun
  | [d1, d2] => { results := [.lit (.bool true)], args := [d1, d2] }
  | _ => none }
def gresInversesRow : OpenClaim := { program := "ytbiiglcfdphmaaagreat", sum := "7abe2a5a95ba69f7dacf4474d06d35fee23b9ec5f3e1068c6a73d373b1b70658", func := "tessel/tessellaw5.GresInverses", spec := "gresInverses", unfollowed := true, recurses := true, apart := false }
def GresInversesSaid : Prop := gresInversesRow.holds Tryz.pinned (OpenSpec.ofChange gresInversesSpec)

/-- ITS FALSE NEIGHBOUR: 'it returns false'. Refute it at one input. -/
def gresInversesWrong : ChangeSpec := { name := "gresInverses", fn := fun _ => fun
  | [d1, d2] => { results := [.lit (.bool false)], args := [d1, d2] }
  | _ => none }
def GresInversesWrongFalsely : Prop := gresInversesRow.holds Tryz.pinned (OpenSpec.ofChange gresInversesWrong)

/-- 'tessellaw5.GresCrts': WHATEVER THE INPUT: true; the input reads as it did. -/
def gresCrtsSpec : ChangeSpec := { name := "gresCrts", fn := fun _ => fun
  | [d1, d2, d3, d4] => { results := [.lit (.bool true)], args := [d1, d2, d3, d4] }
  | _ => none }
def gresCrtsRow : OpenClaim := { program := "ytbiiglcfdphmaaagreat", sum := "7abe2a5a95ba69f7dacf4474d06d35fee23b9ec5f3e1068c6a73d373b1b70658", func := "tessel/tessellaw5.GresCrts", spec := "gresCrts", unfollowed := true, recurses := true, apart := false }
def GresCrtsSaid : Prop := gresCrtsRow.holds Tryz.pinned (OpenSpec.ofChange gresCrtsSpec)

/-- ITS FALSE NEIGHBOUR: 'it returns false'. Refute it at one input. -/
def gresCrtsWrong : ChangeSpec := { name := "gresCrts", fn := fun _ => fun
  | [d1, d2, d3, d4] => { results := [.lit (.bool false)], args := [d1, d2, d3, d4] }
  | _ => none }
def GresCrtsWrongFalsely : Prop := gresCrtsRow.holds Tryz.pinned (OpenSpec.ofChange gresCrtsWrong)

/- THE SECOND FORM. 'bulk': how many values and letters a reading holds, each counted each time it is reached (what is shared counts as often as it is met; a slice's spare places count too). A statement '..UptoSaid' is the law's where the arguments, and the package variables that the reading takes, are together of bulk at most 1048576: NARROWER than '..Said'. Prove '..Said' where nothing that the law and all that it calls make is longer than what came in: it says more and counts as full. Else prove '..UptoSaid'. A law counts once. -/
mutual
def uptoBulk {H : Type} : DataW H → Nat
  | .lit (.string bytes) => bytes.length + 1
  | .lit _ => 1
  | .nil => 1
  | .ptr d => uptoBulk d + 1
  | .slice elems spare => uptoBulkAll elems + uptoBulkAll spare + 1
  | .agg parts => uptoBulkAll parts + 1
  | .iface _ d => uptoBulk d + 1
  | .map entries => uptoBulkEntries entries + 1
  | .held _ => 1
def uptoBulkAll {H : Type} : List (DataW H) → Nat
  | [] => 0
  | d :: r => uptoBulk d + uptoBulkAll r
def uptoBulkEntries {H : Type} : List (Lit × DataW H) → Nat
  | [] => 0
  | x :: r => uptoBulkEntry x + uptoBulkEntries r
def uptoBulkEntry {H : Type} : Lit × DataW H → Nat
  | (.string bytes, d) => bytes.length + uptoBulk d + 1
  | (_, d) => uptoBulk d + 1
 end
def uptoSmall : (H : Type) → List (DataW H) → Bool := fun _ ds => decide (uptoBulkAll ds ≤ 1048576)
def OpenSpec.upto (s : _root_.Go.ChangeSpec) : _root_.Go.OpenSpec := { _root_.Go.OpenSpec.ofChange s with cond := some uptoSmall }

/-- 'tessellaw6.GprimeFactors', WHERE WHAT IT READS IS OF BULK AT MOST 1048576: true; the input reads as it did. -/
def gprimeFactorsUptoRow : OpenClaim := { program := "ytbiiglcfdphmaaagreat", sum := "7abe2a5a95ba69f7dacf4474d06d35fee23b9ec5f3e1068c6a73d373b1b70658", func := "tessel/tessellaw6.GprimeFactors", spec := "gprimeFactors", unfollowed := true, recurses := true, apart := false, narrowed := true }
def GprimeFactorsUptoSaid : Prop := gprimeFactorsUptoRow.holds Tryz.pinned (OpenSpec.upto gprimeFactorsSpec)

/-- 'tessellaw5.GresInverses', WHERE WHAT IT READS IS OF BULK AT MOST 1048576: true; the input reads as it did. -/
def gresInversesUptoRow : OpenClaim := { program := "ytbiiglcfdphmaaagreat", sum := "7abe2a5a95ba69f7dacf4474d06d35fee23b9ec5f3e1068c6a73d373b1b70658", func := "tessel/tessellaw5.GresInverses", spec := "gresInverses", unfollowed := true, recurses := true, apart := false, narrowed := true }
def GresInversesUptoSaid : Prop := gresInversesUptoRow.holds Tryz.pinned (OpenSpec.upto gresInversesSpec)

/-- 'tessellaw5.GresCrts', WHERE WHAT IT READS IS OF BULK AT MOST 1048576: true; the input reads as it did. -/
def gresCrtsUptoRow : OpenClaim := { program := "ytbiiglcfdphmaaagreat", sum := "7abe2a5a95ba69f7dacf4474d06d35fee23b9ec5f3e1068c6a73d373b1b70658", func := "tessel/tessellaw5.GresCrts", spec := "gresCrts", unfollowed := true, recurses := true, apart := false, narrowed := true }
def GresCrtsUptoSaid : Prop := gresCrtsUptoRow.holds Tryz.pinned (OpenSpec.upto gresCrtsSpec)

end Rows
end Go.Proofs.YtbiiglcfdphmaaaGreat
