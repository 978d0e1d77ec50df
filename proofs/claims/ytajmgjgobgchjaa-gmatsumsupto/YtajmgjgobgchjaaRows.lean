/-
  No cell of these rows narrows 'for every input' (looked for: loops, veiled, ifaces, maps, wideKeys, modest, calm, conditions, laid).
  DERIVED. THE GIVEN ROWS OF THIS SEAT. 6 by the template 'for every input the law returns true; each argument reads behind the call as it read before'; 0 by the template 'total and deterministic' (their statements: YtajmgjgobgchjaaTotals.lean).
  GIVEN WITH THE SEED: the statements are not yours to turn. If you find one false, say at which input.
  Laid BY PROGRAM, IN A SANDBOX (cutbox-rows.mjs): the forced cells as the released guide's own fill.sh prints them over the translation 4bef5613c2a76dc3… (all of the seat's roots in one cut). By AI agents, Wed Nov 11 2026. No macro, syntax, notation, axiom, sorry.
-/
import Derived.Test.YtajmgjgobgchjaaChecked
import GoSem.Claim
import GoSem.ClaimJoined
import GoSem.ClaimMapViews
import Derived.JoinedTies
import Derived.KernelRfl
namespace Go.Proofs.Ytajmgjgobgchjaa
/- THE CELL 'sum', in the pinned program and in every row, IS THE sha256 OF THE DUMP (.gsa) THAT YtajmgjgobgchjaaProg.lean LOADS. Nothing in Lean hashes anything: it is a label: what it is worth is what the hold of that sum in a sandbox is worth. -/
noncomputable def Try.pinned : Pinned := { name := "ytajmgjgobgchjaa", sum := "4bef5613c2a76dc3838bbb423ed58325d10625a0fb225a1a12ca7a006855c667", checked := Try.checked }
namespace Rows
def none {H : Type} : Left H := { results := [], args := [] }

/-- 'tessellaw8.GmatSums': WHATEVER THE INPUT: true; the input reads as it did. -/
def gmatSumsSpec : ChangeSpec := { name := "gmatSums", fn := fun _ => fun
  | [d1, d2, d3] => { results := [.lit (.bool true)], args := [d1, d2, d3] }
  | _ => none }
def gmatSumsRow : OpenClaim := { program := "ytajmgjgobgchjaa", sum := "4bef5613c2a76dc3838bbb423ed58325d10625a0fb225a1a12ca7a006855c667", func := "tessel/tessellaw8.GmatSums", spec := "gmatSums", unfollowed := true, recurses := true, apart := false }
def GmatSumsSaid : Prop := gmatSumsRow.holds Try.pinned (OpenSpec.ofChange gmatSumsSpec)

/-- ITS FALSE NEIGHBOUR: 'it returns false'. Refute it at one input. -/
def gmatSumsWrong : ChangeSpec := { name := "gmatSums", fn := fun _ => fun
  | [d1, d2, d3] => { results := [.lit (.bool false)], args := [d1, d2, d3] }
  | _ => none }
def GmatSumsWrongFalsely : Prop := gmatSumsRow.holds Try.pinned (OpenSpec.ofChange gmatSumsWrong)

/-- 'tessellaw8.GmatSingle': WHATEVER THE INPUT: true; the input reads as it did. -/
def gmatSingleSpec : ChangeSpec := { name := "gmatSingle", fn := fun _ => fun
  | [d1, d2] => { results := [.lit (.bool true)], args := [d1, d2] }
  | _ => none }
def gmatSingleRow : OpenClaim := { program := "ytajmgjgobgchjaa", sum := "4bef5613c2a76dc3838bbb423ed58325d10625a0fb225a1a12ca7a006855c667", func := "tessel/tessellaw8.GmatSingle", spec := "gmatSingle", unfollowed := true, recurses := true, apart := false }
def GmatSingleSaid : Prop := gmatSingleRow.holds Try.pinned (OpenSpec.ofChange gmatSingleSpec)

/-- ITS FALSE NEIGHBOUR: 'it returns false'. Refute it at one input. -/
def gmatSingleWrong : ChangeSpec := { name := "gmatSingle", fn := fun _ => fun
  | [d1, d2] => { results := [.lit (.bool false)], args := [d1, d2] }
  | _ => none }
def GmatSingleWrongFalsely : Prop := gmatSingleRow.holds Try.pinned (OpenSpec.ofChange gmatSingleWrong)

/-- 'tessellaw8.GmatRows': WHATEVER THE INPUT: true; the input reads as it did. -/
def gmatRowsSpec : ChangeSpec := { name := "gmatRows", fn := fun _ => fun
  | [d1, d2, d3, d4, d5] => { results := [.lit (.bool true)], args := [d1, d2, d3, d4, d5] }
  | _ => none }
def gmatRowsRow : OpenClaim := { program := "ytajmgjgobgchjaa", sum := "4bef5613c2a76dc3838bbb423ed58325d10625a0fb225a1a12ca7a006855c667", func := "tessel/tessellaw8.GmatRows", spec := "gmatRows", unfollowed := true, recurses := true, apart := false }
def GmatRowsSaid : Prop := gmatRowsRow.holds Try.pinned (OpenSpec.ofChange gmatRowsSpec)

/-- ITS FALSE NEIGHBOUR: 'it returns false'. Refute it at one input. -/
def gmatRowsWrong : ChangeSpec := { name := "gmatRows", fn := fun _ => fun
  | [d1, d2, d3, d4, d5] => { results := [.lit (.bool false)], args := [d1, d2, d3, d4, d5] }
  | _ => none }
def GmatRowsWrongFalsely : Prop := gmatRowsRow.holds Try.pinned (OpenSpec.ofChange gmatRowsWrong)

/-- 'tessellaw8.GmatVectors': WHATEVER THE INPUT: true; the input reads as it did. -/
def gmatVectorsSpec : ChangeSpec := { name := "gmatVectors", fn := fun _ => fun
  | [d1, d2, d3] => { results := [.lit (.bool true)], args := [d1, d2, d3] }
  | _ => none }
def gmatVectorsRow : OpenClaim := { program := "ytajmgjgobgchjaa", sum := "4bef5613c2a76dc3838bbb423ed58325d10625a0fb225a1a12ca7a006855c667", func := "tessel/tessellaw8.GmatVectors", spec := "gmatVectors", unfollowed := true, recurses := true, apart := false }
def GmatVectorsSaid : Prop := gmatVectorsRow.holds Try.pinned (OpenSpec.ofChange gmatVectorsSpec)

/-- ITS FALSE NEIGHBOUR: 'it returns false'. Refute it at one input. -/
def gmatVectorsWrong : ChangeSpec := { name := "gmatVectors", fn := fun _ => fun
  | [d1, d2, d3] => { results := [.lit (.bool false)], args := [d1, d2, d3] }
  | _ => none }
def GmatVectorsWrongFalsely : Prop := gmatVectorsRow.holds Try.pinned (OpenSpec.ofChange gmatVectorsWrong)

/-- 'tessellaw8.GmatAlong': WHATEVER THE INPUT: true; the input reads as it did. -/
def gmatAlongSpec : ChangeSpec := { name := "gmatAlong", fn := fun _ => fun
  | [d1, d2, d3, d4] => { results := [.lit (.bool true)], args := [d1, d2, d3, d4] }
  | _ => none }
def gmatAlongRow : OpenClaim := { program := "ytajmgjgobgchjaa", sum := "4bef5613c2a76dc3838bbb423ed58325d10625a0fb225a1a12ca7a006855c667", func := "tessel/tessellaw8.GmatAlong", spec := "gmatAlong", unfollowed := true, recurses := true, apart := false }
def GmatAlongSaid : Prop := gmatAlongRow.holds Try.pinned (OpenSpec.ofChange gmatAlongSpec)

/-- ITS FALSE NEIGHBOUR: 'it returns false'. Refute it at one input. -/
def gmatAlongWrong : ChangeSpec := { name := "gmatAlong", fn := fun _ => fun
  | [d1, d2, d3, d4] => { results := [.lit (.bool false)], args := [d1, d2, d3, d4] }
  | _ => none }
def GmatAlongWrongFalsely : Prop := gmatAlongRow.holds Try.pinned (OpenSpec.ofChange gmatAlongWrong)

/-- 'tessellaw8.GmatKept': WHATEVER THE INPUT: true; the input reads as it did. -/
def gmatKeptSpec : ChangeSpec := { name := "gmatKept", fn := fun _ => fun
  | [d1, d2] => { results := [.lit (.bool true)], args := [d1, d2] }
  | _ => none }
def gmatKeptRow : OpenClaim := { program := "ytajmgjgobgchjaa", sum := "4bef5613c2a76dc3838bbb423ed58325d10625a0fb225a1a12ca7a006855c667", func := "tessel/tessellaw8.GmatKept", spec := "gmatKept", unfollowed := true, recurses := true, apart := false }
def GmatKeptSaid : Prop := gmatKeptRow.holds Try.pinned (OpenSpec.ofChange gmatKeptSpec)

/-- ITS FALSE NEIGHBOUR: 'it returns false'. Refute it at one input. -/
def gmatKeptWrong : ChangeSpec := { name := "gmatKept", fn := fun _ => fun
  | [d1, d2] => { results := [.lit (.bool false)], args := [d1, d2] }
  | _ => none }
def GmatKeptWrongFalsely : Prop := gmatKeptRow.holds Try.pinned (OpenSpec.ofChange gmatKeptWrong)

/- THE SECOND FORM. 'bulk': how many values and letters a reading holds, each counted each time it is reached (what is shared counts as often as it is met; a slice's spare places count too). A statement '..UptoSaid' is the law's where the arguments, and the package variables that the reading takes, are together of bulk at most 1048576: NARROWER than '..Said'. Prove '..Said' where nothing that the law and all that it calls make is longer than what came in: it says more and counts as full. Else prove '..UptoSaid'. A law counts once. -/
mutual
def uptoBulk {H : Type} : DataW H → Nat
  | .lit (.string bytes) => bytes.length + 1
  | .lit _ => 1
  | .nil => 1
  | .ptr d => uptoBulk d + 1
  | .slice elems spare => uptoBulkAll elems + uptoBulkAll spare + 1
  | .agg parts => uptoBulkAll parts + 1
  | .iface _ d => uptoBulk d + 1
  | .map entries => uptoBulkEntries entries + 1
  | .held _ => 1
def uptoBulkAll {H : Type} : List (DataW H) → Nat
  | [] => 0
  | d :: r => uptoBulk d + uptoBulkAll r
def uptoBulkEntries {H : Type} : List (Lit × DataW H) → Nat
  | [] => 0
  | x :: r => uptoBulkEntry x + uptoBulkEntries r
def uptoBulkEntry {H : Type} : Lit × DataW H → Nat
  | (.string bytes, d) => bytes.length + uptoBulk d + 1
  | (_, d) => uptoBulk d + 1
 end
def uptoSmall : (H : Type) → List (DataW H) → Bool := fun _ ds => decide (uptoBulkAll ds ≤ 1048576)
def OpenSpec.upto (s : _root_.Go.ChangeSpec) : _root_.Go.OpenSpec := { _root_.Go.OpenSpec.ofChange s with cond := some uptoSmall }

/-- 'tessellaw8.GmatSums', WHERE WHAT IT READS IS OF BULK AT MOST 1048576: true; the input reads as it did. -/
def gmatSumsUptoRow : OpenClaim := { program := "ytajmgjgobgchjaa", sum := "4bef5613c2a76dc3838bbb423ed58325d10625a0fb225a1a12ca7a006855c667", func := "tessel/tessellaw8.GmatSums", spec := "gmatSums", unfollowed := true, recurses := true, apart := false, narrowed := true }
def GmatSumsUptoSaid : Prop := gmatSumsUptoRow.holds Try.pinned (OpenSpec.upto gmatSumsSpec)

/-- 'tessellaw8.GmatSingle', WHERE WHAT IT READS IS OF BULK AT MOST 1048576: true; the input reads as it did. -/
def gmatSingleUptoRow : OpenClaim := { program := "ytajmgjgobgchjaa", sum := "4bef5613c2a76dc3838bbb423ed58325d10625a0fb225a1a12ca7a006855c667", func := "tessel/tessellaw8.GmatSingle", spec := "gmatSingle", unfollowed := true, recurses := true, apart := false, narrowed := true }
def GmatSingleUptoSaid : Prop := gmatSingleUptoRow.holds Try.pinned (OpenSpec.upto gmatSingleSpec)

/-- 'tessellaw8.GmatRows', WHERE WHAT IT READS IS OF BULK AT MOST 1048576: true; the input reads as it did. -/
def gmatRowsUptoRow : OpenClaim := { program := "ytajmgjgobgchjaa", sum := "4bef5613c2a76dc3838bbb423ed58325d10625a0fb225a1a12ca7a006855c667", func := "tessel/tessellaw8.GmatRows", spec := "gmatRows", unfollowed := true, recurses := true, apart := false, narrowed := true }
def GmatRowsUptoSaid : Prop := gmatRowsUptoRow.holds Try.pinned (OpenSpec.upto gmatRowsSpec)

/-- 'tessellaw8.GmatVectors', WHERE WHAT IT READS IS OF BULK AT MOST 1048576: true; the input reads as it did. -/
def gmatVectorsUptoRow : OpenClaim := { program := "ytajmgjgobgchjaa", sum := "4bef5613c2a76dc3838bbb423ed58325d10625a0fb225a1a12ca7a006855c667", func := "tessel/tessellaw8.GmatVectors", spec := "gmatVectors", unfollowed := true, recurses := true, apart := false, narrowed := true }
def GmatVectorsUptoSaid : Prop := gmatVectorsUptoRow.holds Try.pinned (OpenSpec.upto gmatVectorsSpec)

/-- 'tessellaw8.GmatAlong', WHERE WHAT IT READS IS OF BULK AT MOST 1048576: true; the input reads as it did. -/
def gmatAlongUptoRow : OpenClaim := { program := "ytajmgjgobgchjaa", sum := "4bef5613c2a76dc3838bbb423ed58325d10625a0fb225a1a12ca7a006855c667", func := "tessel/tessellaw8.GmatAlong", spec := "gmatAlong", unfollowed := true, recurses := true, apart := false, narrowed := true }
def GmatAlongUptoSaid : Prop := gmatAlongUptoRow.holds Try.pinned (OpenSpec.upto gmatAlongSpec)

/-- 'tessellaw8.GmatKept', WHERE WHAT IT READS IS OF BULK AT MOST 1048576: true; the input reads as it did. -/
def gmatKeptUptoRow : OpenClaim := { program := "ytajmgjgobgchjaa", sum := "4bef5613c2a76dc3838bbb423ed58325d10625a0fb225a1a12ca7a006855c667", func := "tessel/tessellaw8.GmatKept", spec := "gmatKept", unfollowed := true, recurses := true, apart := false, narrowed := true }
def GmatKeptUptoSaid : Prop := gmatKeptUptoRow.holds Try.pinned (OpenSpec.upto gmatKeptSpec)

end Rows
end Go.Proofs.Ytajmgjgobgchjaa
