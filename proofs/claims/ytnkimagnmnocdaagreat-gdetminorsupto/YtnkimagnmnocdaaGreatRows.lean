/-
  No cell of these rows narrows 'for every input' (looked for: loops, veiled, ifaces, maps, wideKeys, modest, calm, conditions, laid).
  DERIVED. THE GIVEN ROWS OF THIS SEAT. 6 by the template 'for every input the law returns true; each argument reads behind the call as it read before'; 0 by the template 'total and deterministic' (their statements: YtnkimagnmnocdaaGreatTotals.lean).
  GIVEN WITH THE SEED: the statements are not yours to turn. If you find one false, say at which input.
  Laid BY PROGRAM, IN A SANDBOX (cutbox-rows.mjs): the forced cells as the released guide's own fill.sh prints them over the translation c450d3270e4278e5… (all of the seat's roots in one cut). By AI agents, Wed Nov 11 2026. No macro, syntax, notation, axiom, sorry.
-/
import Derived.Test.YtnkimagnmnocdaaGreatChecked
import GoSem.Claim
import GoSem.ClaimJoined
import GoSem.ClaimMapViews
import Derived.JoinedTies
import Derived.KernelRfl
namespace Go.Proofs.YtnkimagnmnocdaaGreat
/- THE CELL 'sum', in the pinned program and in every row, IS THE sha256 OF THE DUMP (.gsa) THAT YtnkimagnmnocdaaGreatProg.lean LOADS. Nothing in Lean hashes anything: it is a label: what it is worth is what the hold of that sum in a sandbox is worth. -/
noncomputable def Tryz.pinned : Pinned := { name := "ytnkimagnmnocdaagreat", sum := "c450d3270e4278e5cfb936f9f1440a2c7a74f2e1f755bff9e2335d13ebd477fd", checked := Tryz.checked }
namespace Rows
def none {H : Type} : Left H := { results := [], args := [] }

/-- 'tessellaw9.GdetDets': WHATEVER THE INPUT: true; the input reads as it did. -/
def gdetDetsSpec : ChangeSpec := { name := "gdetDets", fn := fun _ => fun
  | [d] => { results := [.lit (.bool true)], args := [d] }
  | _ => none }
def gdetDetsRow : OpenClaim := { program := "ytnkimagnmnocdaagreat", sum := "c450d3270e4278e5cfb936f9f1440a2c7a74f2e1f755bff9e2335d13ebd477fd", func := "tessel/tessellaw9.GdetDets", spec := "gdetDets", unfollowed := true, recurses := true, apart := false }
def GdetDetsSaid : Prop := gdetDetsRow.holds Tryz.pinned (OpenSpec.ofChange gdetDetsSpec)

/-- ITS FALSE NEIGHBOUR: 'it returns false'. Refute it at one input. -/
def gdetDetsWrong : ChangeSpec := { name := "gdetDets", fn := fun _ => fun
  | [d] => { results := [.lit (.bool false)], args := [d] }
  | _ => none }
def GdetDetsWrongFalsely : Prop := gdetDetsRow.holds Tryz.pinned (OpenSpec.ofChange gdetDetsWrong)

/-- 'tessellaw9.GdetMinors': WHATEVER THE INPUT: true; the input reads as it did. -/
def gdetMinorsSpec : ChangeSpec := { name := "gdetMinors", fn := fun _ => fun
  | [d] => { results := [.lit (.bool true)], args := [d] }
  | _ => none }
def gdetMinorsRow : OpenClaim := { program := "ytnkimagnmnocdaagreat", sum := "c450d3270e4278e5cfb936f9f1440a2c7a74f2e1f755bff9e2335d13ebd477fd", func := "tessel/tessellaw9.GdetMinors", spec := "gdetMinors", unfollowed := true, recurses := true, apart := false }
def GdetMinorsSaid : Prop := gdetMinorsRow.holds Tryz.pinned (OpenSpec.ofChange gdetMinorsSpec)

/-- ITS FALSE NEIGHBOUR: 'it returns false'. Refute it at one input. -/
def gdetMinorsWrong : ChangeSpec := { name := "gdetMinors", fn := fun _ => fun
  | [d] => { results := [.lit (.bool false)], args := [d] }
  | _ => none }
def GdetMinorsWrongFalsely : Prop := gdetMinorsRow.holds Tryz.pinned (OpenSpec.ofChange gdetMinorsWrong)

/-- 'tessellaw9.GdetInverses': WHATEVER THE INPUT: true; the input reads as it did. -/
def gdetInversesSpec : ChangeSpec := { name := "gdetInverses", fn := fun _ => fun
  | [d] => { results := [.lit (.bool true)], args := [d] }
  | _ => none }
def gdetInversesRow : OpenClaim := { program := "ytnkimagnmnocdaagreat", sum := "c450d3270e4278e5cfb936f9f1440a2c7a74f2e1f755bff9e2335d13ebd477fd", func := "tessel/tessellaw9.GdetInverses", spec := "gdetInverses", unfollowed := true, recurses := true, apart := false }
def GdetInversesSaid : Prop := gdetInversesRow.holds Tryz.pinned (OpenSpec.ofChange gdetInversesSpec)

/-- ITS FALSE NEIGHBOUR: 'it returns false'. Refute it at one input. -/
def gdetInversesWrong : ChangeSpec := { name := "gdetInverses", fn := fun _ => fun
  | [d] => { results := [.lit (.bool false)], args := [d] }
  | _ => none }
def GdetInversesWrongFalsely : Prop := gdetInversesRow.holds Tryz.pinned (OpenSpec.ofChange gdetInversesWrong)

/-- 'tessellaw9.GdetSolves': WHATEVER THE INPUT: true; the input reads as it did. -/
def gdetSolvesSpec : ChangeSpec := { name := "gdetSolves", fn := fun _ => fun
  | [d1, d2] => { results := [.lit (.bool true)], args := [d1, d2] }
  | _ => none }
def gdetSolvesRow : OpenClaim := { program := "ytnkimagnmnocdaagreat", sum := "c450d3270e4278e5cfb936f9f1440a2c7a74f2e1f755bff9e2335d13ebd477fd", func := "tessel/tessellaw9.GdetSolves", spec := "gdetSolves", unfollowed := true, recurses := true, apart := false }
def GdetSolvesSaid : Prop := gdetSolvesRow.holds Tryz.pinned (OpenSpec.ofChange gdetSolvesSpec)

/-- ITS FALSE NEIGHBOUR: 'it returns false'. Refute it at one input. -/
def gdetSolvesWrong : ChangeSpec := { name := "gdetSolves", fn := fun _ => fun
  | [d1, d2] => { results := [.lit (.bool false)], args := [d1, d2] }
  | _ => none }
def GdetSolvesWrongFalsely : Prop := gdetSolvesRow.holds Tryz.pinned (OpenSpec.ofChange gdetSolvesWrong)

/-- 'tessellaw9.GdetAlong': WHATEVER THE INPUT: true; the input reads as it did. -/
def gdetAlongSpec : ChangeSpec := { name := "gdetAlong", fn := fun _ => fun
  | [d1, d2, d3, d4, d5] => { results := [.lit (.bool true)], args := [d1, d2, d3, d4, d5] }
  | _ => none }
def gdetAlongRow : OpenClaim := { program := "ytnkimagnmnocdaagreat", sum := "c450d3270e4278e5cfb936f9f1440a2c7a74f2e1f755bff9e2335d13ebd477fd", func := "tessel/tessellaw9.GdetAlong", spec := "gdetAlong", unfollowed := true, recurses := true, apart := false }
def GdetAlongSaid : Prop := gdetAlongRow.holds Tryz.pinned (OpenSpec.ofChange gdetAlongSpec)

/-- ITS FALSE NEIGHBOUR: 'it returns false'. Refute it at one input. -/
def gdetAlongWrong : ChangeSpec := { name := "gdetAlong", fn := fun _ => fun
  | [d1, d2, d3, d4, d5] => { results := [.lit (.bool false)], args := [d1, d2, d3, d4, d5] }
  | _ => none }
def GdetAlongWrongFalsely : Prop := gdetAlongRow.holds Tryz.pinned (OpenSpec.ofChange gdetAlongWrong)

/-- 'tessellaw9.GdetMakes': WHATEVER THE INPUT: true; the input reads as it did. -/
def gdetMakesSpec : ChangeSpec := { name := "gdetMakes", fn := fun _ => fun
  | [d1, d2, d3] => { results := [.lit (.bool true)], args := [d1, d2, d3] }
  | _ => none }
def gdetMakesRow : OpenClaim := { program := "ytnkimagnmnocdaagreat", sum := "c450d3270e4278e5cfb936f9f1440a2c7a74f2e1f755bff9e2335d13ebd477fd", func := "tessel/tessellaw9.GdetMakes", spec := "gdetMakes", unfollowed := true, recurses := true, apart := false }
def GdetMakesSaid : Prop := gdetMakesRow.holds Tryz.pinned (OpenSpec.ofChange gdetMakesSpec)

/-- ITS FALSE NEIGHBOUR: 'it returns false'. Refute it at one input. -/
def gdetMakesWrong : ChangeSpec := { name := "gdetMakes", fn := fun _ => fun
  | [d1, d2, d3] => { results := [.lit (.bool false)], args := [d1, d2, d3] }
  | _ => none }
def GdetMakesWrongFalsely : Prop := gdetMakesRow.holds Tryz.pinned (OpenSpec.ofChange gdetMakesWrong)

/- THE SECOND FORM. 'bulk': how many values and letters a reading holds, each counted each time it is reached (what is shared counts as often as it is met; a slice's spare places count too). A statement '..UptoSaid' is the law's where the arguments, and the package variables that the reading takes, are together of bulk at most 1048576: NARROWER than '..Said'. Prove '..Said' where nothing that the law and all that it calls make is longer than what came in: it says more and counts as full. Else prove '..UptoSaid'. A law counts once. -/
mutual
def uptoBulk {H : Type} : DataW H → Nat
  | .lit (.string bytes) => bytes.length + 1
  | .lit _ => 1
  | .nil => 1
  | .ptr d => uptoBulk d + 1
  | .slice elems spare => uptoBulkAll elems + uptoBulkAll spare + 1
  | .agg parts => uptoBulkAll parts + 1
  | .iface _ d => uptoBulk d + 1
  | .map entries => uptoBulkEntries entries + 1
  | .held _ => 1
def uptoBulkAll {H : Type} : List (DataW H) → Nat
  | [] => 0
  | d :: r => uptoBulk d + uptoBulkAll r
def uptoBulkEntries {H : Type} : List (Lit × DataW H) → Nat
  | [] => 0
  | x :: r => uptoBulkEntry x + uptoBulkEntries r
def uptoBulkEntry {H : Type} : Lit × DataW H → Nat
  | (.string bytes, d) => bytes.length + uptoBulk d + 1
  | (_, d) => uptoBulk d + 1
 end
def uptoSmall : (H : Type) → List (DataW H) → Bool := fun _ ds => decide (uptoBulkAll ds ≤ 1048576)
def OpenSpec.upto (s : _root_.Go.ChangeSpec) : _root_.Go.OpenSpec := { _root_.Go.OpenSpec.ofChange s with cond := some uptoSmall }

/-- 'tessellaw9.GdetDets', WHERE WHAT IT READS IS OF BULK AT MOST 1048576: true; the input reads as it did. -/
def gdetDetsUptoRow : OpenClaim := { program := "ytnkimagnmnocdaagreat", sum := "c450d3270e4278e5cfb936f9f1440a2c7a74f2e1f755bff9e2335d13ebd477fd", func := "tessel/tessellaw9.GdetDets", spec := "gdetDets", unfollowed := true, recurses := true, apart := false, narrowed := true }
def GdetDetsUptoSaid : Prop := gdetDetsUptoRow.holds Tryz.pinned (OpenSpec.upto gdetDetsSpec)

/-- 'tessellaw9.GdetMinors', WHERE WHAT IT READS IS OF BULK AT MOST 1048576: true; the input reads as it did. -/
def gdetMinorsUptoRow : OpenClaim := { program := "ytnkimagnmnocdaagreat", sum := "c450d3270e4278e5cfb936f9f1440a2c7a74f2e1f755bff9e2335d13ebd477fd", func := "tessel/tessellaw9.GdetMinors", spec := "gdetMinors", unfollowed := true, recurses := true, apart := false, narrowed := true }
def GdetMinorsUptoSaid : Prop := gdetMinorsUptoRow.holds Tryz.pinned (OpenSpec.upto gdetMinorsSpec)

/-- 'tessellaw9.GdetInverses', WHERE WHAT IT READS IS OF BULK AT MOST 1048576: true; the input reads as it did. -/
def gdetInversesUptoRow : OpenClaim := { program := "ytnkimagnmnocdaagreat", sum := "c450d3270e4278e5cfb936f9f1440a2c7a74f2e1f755bff9e2335d13ebd477fd", func := "tessel/tessellaw9.GdetInverses", spec := "gdetInverses", unfollowed := true, recurses := true, apart := false, narrowed := true }
def GdetInversesUptoSaid : Prop := gdetInversesUptoRow.holds Tryz.pinned (OpenSpec.upto gdetInversesSpec)

/-- 'tessellaw9.GdetSolves', WHERE WHAT IT READS IS OF BULK AT MOST 1048576: true; the input reads as it did. -/
def gdetSolvesUptoRow : OpenClaim := { program := "ytnkimagnmnocdaagreat", sum := "c450d3270e4278e5cfb936f9f1440a2c7a74f2e1f755bff9e2335d13ebd477fd", func := "tessel/tessellaw9.GdetSolves", spec := "gdetSolves", unfollowed := true, recurses := true, apart := false, narrowed := true }
def GdetSolvesUptoSaid : Prop := gdetSolvesUptoRow.holds Tryz.pinned (OpenSpec.upto gdetSolvesSpec)

/-- 'tessellaw9.GdetAlong', WHERE WHAT IT READS IS OF BULK AT MOST 1048576: true; the input reads as it did. -/
def gdetAlongUptoRow : OpenClaim := { program := "ytnkimagnmnocdaagreat", sum := "c450d3270e4278e5cfb936f9f1440a2c7a74f2e1f755bff9e2335d13ebd477fd", func := "tessel/tessellaw9.GdetAlong", spec := "gdetAlong", unfollowed := true, recurses := true, apart := false, narrowed := true }
def GdetAlongUptoSaid : Prop := gdetAlongUptoRow.holds Tryz.pinned (OpenSpec.upto gdetAlongSpec)

/-- 'tessellaw9.GdetMakes', WHERE WHAT IT READS IS OF BULK AT MOST 1048576: true; the input reads as it did. -/
def gdetMakesUptoRow : OpenClaim := { program := "ytnkimagnmnocdaagreat", sum := "c450d3270e4278e5cfb936f9f1440a2c7a74f2e1f755bff9e2335d13ebd477fd", func := "tessel/tessellaw9.GdetMakes", spec := "gdetMakes", unfollowed := true, recurses := true, apart := false, narrowed := true }
def GdetMakesUptoSaid : Prop := gdetMakesUptoRow.holds Tryz.pinned (OpenSpec.upto gdetMakesSpec)

end Rows
end Go.Proofs.YtnkimagnmnocdaaGreat
