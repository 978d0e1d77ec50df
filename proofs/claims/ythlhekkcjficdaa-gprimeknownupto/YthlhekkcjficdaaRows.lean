/-
  No cell of these rows narrows 'for every input' (looked for: loops, veiled, ifaces, maps, wideKeys, modest, calm, conditions, laid).
  DERIVED. THE GIVEN ROWS OF THIS SEAT. 3 by the template 'for every input the law returns true; each argument reads behind the call as it read before'; 0 by the template 'total and deterministic' (their statements: YthlhekkcjficdaaTotals.lean).
  GIVEN WITH THE SEED: the statements are not yours to turn. If you find one false, say at which input.
  Laid BY PROGRAM, IN A SANDBOX (cutbox-rows.mjs): the forced cells as the released guide's own fill.sh prints them over the translation a68db98eb006728a… (all of the seat's roots in one cut). By AI agents, Wed Nov 11 2026. No macro, syntax, notation, axiom, sorry.
-/
import Derived.Test.YthlhekkcjficdaaChecked
import GoSem.Claim
import GoSem.ClaimJoined
import GoSem.ClaimMapViews
import Derived.JoinedTies
import Derived.KernelRfl
namespace Go.Proofs.Ythlhekkcjficdaa
/- THE CELL 'sum', in the pinned program and in every row, IS THE sha256 OF THE DUMP (.gsa) THAT YthlhekkcjficdaaProg.lean LOADS. Nothing in Lean hashes anything: it is a label: what it is worth is what the hold of that sum in a sandbox is worth. -/
noncomputable def Try.pinned : Pinned := { name := "ythlhekkcjficdaa", sum := "a68db98eb006728ab7bfc64c9929dbaede38738023040713d9090fe4264ac633", checked := Try.checked }
namespace Rows
def none {H : Type} : Left H := { results := [], args := [] }

/-- 'tessellaw6.GprimeKnown': WHATEVER THE INPUT: true; the input reads as it did. -/
def gprimeKnownSpec : ChangeSpec := { name := "gprimeKnown", fn := fun _ => fun
  | [] => { results := [.lit (.bool true)], args := [] }
  | _ => none }
def gprimeKnownRow : OpenClaim := { program := "ythlhekkcjficdaa", sum := "a68db98eb006728ab7bfc64c9929dbaede38738023040713d9090fe4264ac633", func := "tessel/tessellaw6.GprimeKnown", spec := "gprimeKnown", unfollowed := true, recurses := true, apart := false }
def GprimeKnownSaid : Prop := gprimeKnownRow.holds Try.pinned (OpenSpec.ofChange gprimeKnownSpec)

/-- ITS FALSE NEIGHBOUR: 'it returns false'. Refute it at one input. -/
def gprimeKnownWrong : ChangeSpec := { name := "gprimeKnown", fn := fun _ => fun
  | [] => { results := [.lit (.bool false)], args := [] }
  | _ => none }
def GprimeKnownWrongFalsely : Prop := gprimeKnownRow.holds Try.pinned (OpenSpec.ofChange gprimeKnownWrong)

/-- 'tessellaw6.GprimeBack': WHATEVER THE INPUT: true; the input reads as it did. -/
def gprimeBackSpec : ChangeSpec := { name := "gprimeBack", fn := fun _ => fun
  | [d] => { results := [.lit (.bool true)], args := [d] }
  | _ => none }
def gprimeBackRow : OpenClaim := { program := "ythlhekkcjficdaa", sum := "a68db98eb006728ab7bfc64c9929dbaede38738023040713d9090fe4264ac633", func := "tessel/tessellaw6.GprimeBack", spec := "gprimeBack", unfollowed := true, recurses := true, apart := false }
def GprimeBackSaid : Prop := gprimeBackRow.holds Try.pinned (OpenSpec.ofChange gprimeBackSpec)

/-- ITS FALSE NEIGHBOUR: 'it returns false'. Refute it at one input. -/
def gprimeBackWrong : ChangeSpec := { name := "gprimeBack", fn := fun _ => fun
  | [d] => { results := [.lit (.bool false)], args := [d] }
  | _ => none }
def GprimeBackWrongFalsely : Prop := gprimeBackRow.holds Try.pinned (OpenSpec.ofChange gprimeBackWrong)

/-- 'tessellaw6.GprimeProducts': WHATEVER THE INPUT: true; the input reads as it did. -/
def gprimeProductsSpec : ChangeSpec := { name := "gprimeProducts", fn := fun _ => fun
  | [d1, d2] => { results := [.lit (.bool true)], args := [d1, d2] }
  | _ => none }
def gprimeProductsRow : OpenClaim := { program := "ythlhekkcjficdaa", sum := "a68db98eb006728ab7bfc64c9929dbaede38738023040713d9090fe4264ac633", func := "tessel/tessellaw6.GprimeProducts", spec := "gprimeProducts", unfollowed := true, recurses := true, apart := false }
def GprimeProductsSaid : Prop := gprimeProductsRow.holds Try.pinned (OpenSpec.ofChange gprimeProductsSpec)

/-- ITS FALSE NEIGHBOUR: 'it returns false'. Refute it at one input. -/
def gprimeProductsWrong : ChangeSpec := { name := "gprimeProducts", fn := fun _ => fun
  | [d1, d2] => { results := [.lit (.bool false)], args := [d1, d2] }
  | _ => none }
def GprimeProductsWrongFalsely : Prop := gprimeProductsRow.holds Try.pinned (OpenSpec.ofChange gprimeProductsWrong)

/- THE SECOND FORM. 'bulk': how many values and letters a reading holds, each counted each time it is reached (what is shared counts as often as it is met; a slice's spare places count too). A statement '..UptoSaid' is the law's where the arguments, and the package variables that the reading takes, are together of bulk at most 1048576: NARROWER than '..Said'. Prove '..Said' where nothing that the law and all that it calls make is longer than what came in: it says more and counts as full. Else prove '..UptoSaid'. A law counts once. -/
mutual
def uptoBulk {H : Type} : DataW H → Nat
  | .lit (.string bytes) => bytes.length + 1
  | .lit _ => 1
  | .nil => 1
  | .ptr d => uptoBulk d + 1
  | .slice elems spare => uptoBulkAll elems + uptoBulkAll spare + 1
  | .agg parts => uptoBulkAll parts + 1
  | .iface _ d => uptoBulk d + 1
  | .map entries => uptoBulkEntries entries + 1
  | .held _ => 1
def uptoBulkAll {H : Type} : List (DataW H) → Nat
  | [] => 0
  | d :: r => uptoBulk d + uptoBulkAll r
def uptoBulkEntries {H : Type} : List (Lit × DataW H) → Nat
  | [] => 0
  | x :: r => uptoBulkEntry x + uptoBulkEntries r
def uptoBulkEntry {H : Type} : Lit × DataW H → Nat
  | (.string bytes, d) => bytes.length + uptoBulk d + 1
  | (_, d) => uptoBulk d + 1
 end
def uptoSmall : (H : Type) → List (DataW H) → Bool := fun _ ds => decide (uptoBulkAll ds ≤ 1048576)
def OpenSpec.upto (s : _root_.Go.ChangeSpec) : _root_.Go.OpenSpec := { _root_.Go.OpenSpec.ofChange s with cond := some uptoSmall }

/-- 'tessellaw6.GprimeKnown', WHERE WHAT IT READS IS OF BULK AT MOST 1048576: true; the input reads as it did. -/
def gprimeKnownUptoRow : OpenClaim := { program := "ythlhekkcjficdaa", sum := "a68db98eb006728ab7bfc64c9929dbaede38738023040713d9090fe4264ac633", func := "tessel/tessellaw6.GprimeKnown", spec := "gprimeKnown", unfollowed := true, recurses := true, apart := false, narrowed := true }
def GprimeKnownUptoSaid : Prop := gprimeKnownUptoRow.holds Try.pinned (OpenSpec.upto gprimeKnownSpec)

/-- 'tessellaw6.GprimeBack', WHERE WHAT IT READS IS OF BULK AT MOST 1048576: true; the input reads as it did. -/
def gprimeBackUptoRow : OpenClaim := { program := "ythlhekkcjficdaa", sum := "a68db98eb006728ab7bfc64c9929dbaede38738023040713d9090fe4264ac633", func := "tessel/tessellaw6.GprimeBack", spec := "gprimeBack", unfollowed := true, recurses := true, apart := false, narrowed := true }
def GprimeBackUptoSaid : Prop := gprimeBackUptoRow.holds Try.pinned (OpenSpec.upto gprimeBackSpec)

/-- 'tessellaw6.GprimeProducts', WHERE WHAT IT READS IS OF BULK AT MOST 1048576: true; the input reads as it did. -/
def gprimeProductsUptoRow : OpenClaim := { program := "ythlhekkcjficdaa", sum := "a68db98eb006728ab7bfc64c9929dbaede38738023040713d9090fe4264ac633", func := "tessel/tessellaw6.GprimeProducts", spec := "gprimeProducts", unfollowed := true, recurses := true, apart := false, narrowed := true }
def GprimeProductsUptoSaid : Prop := gprimeProductsUptoRow.holds Try.pinned (OpenSpec.upto gprimeProductsSpec)

end Rows
end Go.Proofs.Ythlhekkcjficdaa
