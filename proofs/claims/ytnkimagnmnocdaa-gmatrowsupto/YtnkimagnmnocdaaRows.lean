/-
  No cell of these rows narrows 'for every input' (looked for: loops, veiled, ifaces, maps, wideKeys, modest, calm, conditions, laid).
  DERIVED. THE GIVEN ROWS OF THIS SEAT. 3 by the template 'for every input the law returns true; each argument reads behind the call as it read before'; 0 by the template 'total and deterministic' (their statements: YtnkimagnmnocdaaTotals.lean).
  GIVEN WITH THE SEED: the statements are not yours to turn. If you find one false, say at which input.
  Laid BY PROGRAM, IN A SANDBOX (cutbox-rows.mjs): the forced cells as the released guide's own fill.sh prints them over the translation 8ee583912b293341… (all of the seat's roots in one cut). By AI agents, Wed Nov 11 2026. No macro, syntax, notation, axiom, sorry.
-/
import Derived.Test.YtnkimagnmnocdaaChecked
import GoSem.Claim
import GoSem.ClaimJoined
import GoSem.ClaimMapViews
import Derived.JoinedTies
import Derived.KernelRfl
namespace Go.Proofs.Ytnkimagnmnocdaa
/- THE CELL 'sum', in the pinned program and in every row, IS THE sha256 OF THE DUMP (.gsa) THAT YtnkimagnmnocdaaProg.lean LOADS. Nothing in Lean hashes anything: it is a label: what it is worth is what the hold of that sum in a sandbox is worth. -/
noncomputable def Try.pinned : Pinned := { name := "ytnkimagnmnocdaa", sum := "8ee583912b293341bd8e4c1150bb40f1a18db8c9db83adbef31cf4528b4eef19", checked := Try.checked }
namespace Rows
def none {H : Type} : Left H := { results := [], args := [] }

/-- 'tessellaw9.GdetPositive': WHATEVER THE INPUT: true; the input reads as it did. -/
def gdetPositiveSpec : ChangeSpec := { name := "gdetPositive", fn := fun _ => fun
  | [d] => { results := [.lit (.bool true)], args := [d] }
  | _ => none }
def gdetPositiveRow : OpenClaim := { program := "ytnkimagnmnocdaa", sum := "8ee583912b293341bd8e4c1150bb40f1a18db8c9db83adbef31cf4528b4eef19", func := "tessel/tessellaw9.GdetPositive", spec := "gdetPositive", unfollowed := true, recurses := true, apart := false }
def GdetPositiveSaid : Prop := gdetPositiveRow.holds Try.pinned (OpenSpec.ofChange gdetPositiveSpec)

/-- ITS FALSE NEIGHBOUR: 'it returns false'. Refute it at one input. -/
def gdetPositiveWrong : ChangeSpec := { name := "gdetPositive", fn := fun _ => fun
  | [d] => { results := [.lit (.bool false)], args := [d] }
  | _ => none }
def GdetPositiveWrongFalsely : Prop := gdetPositiveRow.holds Try.pinned (OpenSpec.ofChange gdetPositiveWrong)

/-- 'tessellaw8.GmatRows': WHATEVER THE INPUT: true; the input reads as it did. -/
def gmatRowsSpec : ChangeSpec := { name := "gmatRows", fn := fun _ => fun
  | [d1, d2, d3, d4, d5] => { results := [.lit (.bool true)], args := [d1, d2, d3, d4, d5] }
  | _ => none }
def gmatRowsRow : OpenClaim := { program := "ytnkimagnmnocdaa", sum := "8ee583912b293341bd8e4c1150bb40f1a18db8c9db83adbef31cf4528b4eef19", func := "tessel/tessellaw8.GmatRows", spec := "gmatRows", unfollowed := true, recurses := true, apart := false }
def GmatRowsSaid : Prop := gmatRowsRow.holds Try.pinned (OpenSpec.ofChange gmatRowsSpec)

/-- ITS FALSE NEIGHBOUR: 'it returns false'. Refute it at one input. -/
def gmatRowsWrong : ChangeSpec := { name := "gmatRows", fn := fun _ => fun
  | [d1, d2, d3, d4, d5] => { results := [.lit (.bool false)], args := [d1, d2, d3, d4, d5] }
  | _ => none }
def GmatRowsWrongFalsely : Prop := gmatRowsRow.holds Try.pinned (OpenSpec.ofChange gmatRowsWrong)

/-- 'tessellaw8.GmatKept': WHATEVER THE INPUT: true; the input reads as it did. -/
def gmatKeptSpec : ChangeSpec := { name := "gmatKept", fn := fun _ => fun
  | [d1, d2] => { results := [.lit (.bool true)], args := [d1, d2] }
  | _ => none }
def gmatKeptRow : OpenClaim := { program := "ytnkimagnmnocdaa", sum := "8ee583912b293341bd8e4c1150bb40f1a18db8c9db83adbef31cf4528b4eef19", func := "tessel/tessellaw8.GmatKept", spec := "gmatKept", unfollowed := true, recurses := true, apart := false }
def GmatKeptSaid : Prop := gmatKeptRow.holds Try.pinned (OpenSpec.ofChange gmatKeptSpec)

/-- ITS FALSE NEIGHBOUR: 'it returns false'. Refute it at one input. -/
def gmatKeptWrong : ChangeSpec := { name := "gmatKept", fn := fun _ => fun
  | [d1, d2] => { results := [.lit (.bool false)], args := [d1, d2] }
  | _ => none }
def GmatKeptWrongFalsely : Prop := gmatKeptRow.holds Try.pinned (OpenSpec.ofChange gmatKeptWrong)

/- THE SECOND FORM. 'bulk': how many values and letters a reading holds, each counted each time it is reached (what is shared counts as often as it is met; a slice's spare places count too). A statement '..UptoSaid' is the law's where the arguments, and the package variables that the reading takes, are together of bulk at most 1048576: NARROWER than '..Said'. Prove '..Said' where nothing that the law and all that it calls make is longer than what came in: it says more and counts as full. Else prove '..UptoSaid'. A law counts once. -/
mutual
def uptoBulk {H : Type} : DataW H → Nat
  | .lit (.string bytes) => bytes.length + 1
  | .lit _ => 1
  | .nil => 1
  | .ptr d => uptoBulk d + 1
  | .slice elems spare => uptoBulkAll elems + uptoBulkAll spare + 1
  | .agg parts => uptoBulkAll parts + 1
  | .iface _ d => uptoBulk d + 1
  | .map entries => uptoBulkEntries entries + 1
  | .held _ => 1
def uptoBulkAll {H : Type} : List (DataW H) → Nat
  | [] => 0
  | d :: r => uptoBulk d + uptoBulkAll r
def uptoBulkEntries {H : Type} : List (Lit × DataW H) → Nat
  | [] => 0
  | x :: r => uptoBulkEntry x + uptoBulkEntries r
def uptoBulkEntry {H : Type} : Lit × DataW H → Nat
  | (.string bytes, d) => bytes.length + uptoBulk d + 1
  | (_, d) => uptoBulk d + 1
 end
def uptoSmall : (H : Type) → List (DataW H) → Bool := fun _ ds => decide (uptoBulkAll ds ≤ 1048576)
def OpenSpec.upto (s : _root_.Go.ChangeSpec) : _root_.Go.OpenSpec := { _root_.Go.OpenSpec.ofChange s with cond := some uptoSmall }

/-- 'tessellaw9.GdetPositive', WHERE WHAT IT READS IS OF BULK AT MOST 1048576: true; the input reads as it did. -/
def gdetPositiveUptoRow : OpenClaim := { program := "ytnkimagnmnocdaa", sum := "8ee583912b293341bd8e4c1150bb40f1a18db8c9db83adbef31cf4528b4eef19", func := "tessel/tessellaw9.GdetPositive", spec := "gdetPositive", unfollowed := true, recurses := true, apart := false, narrowed := true }
def GdetPositiveUptoSaid : Prop := gdetPositiveUptoRow.holds Try.pinned (OpenSpec.upto gdetPositiveSpec)

/-- 'tessellaw8.GmatRows', WHERE WHAT IT READS IS OF BULK AT MOST 1048576: true; the input reads as it did. -/
def gmatRowsUptoRow : OpenClaim := { program := "ytnkimagnmnocdaa", sum := "8ee583912b293341bd8e4c1150bb40f1a18db8c9db83adbef31cf4528b4eef19", func := "tessel/tessellaw8.GmatRows", spec := "gmatRows", unfollowed := true, recurses := true, apart := false, narrowed := true }
def GmatRowsUptoSaid : Prop := gmatRowsUptoRow.holds Try.pinned (OpenSpec.upto gmatRowsSpec)

/-- 'tessellaw8.GmatKept', WHERE WHAT IT READS IS OF BULK AT MOST 1048576: true; the input reads as it did. -/
def gmatKeptUptoRow : OpenClaim := { program := "ytnkimagnmnocdaa", sum := "8ee583912b293341bd8e4c1150bb40f1a18db8c9db83adbef31cf4528b4eef19", func := "tessel/tessellaw8.GmatKept", spec := "gmatKept", unfollowed := true, recurses := true, apart := false, narrowed := true }
def GmatKeptUptoSaid : Prop := gmatKeptUptoRow.holds Try.pinned (OpenSpec.upto gmatKeptSpec)

end Rows
end Go.Proofs.Ytnkimagnmnocdaa
