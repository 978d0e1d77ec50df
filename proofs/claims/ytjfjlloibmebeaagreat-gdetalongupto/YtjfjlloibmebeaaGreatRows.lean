/-
  No cell of these rows narrows 'for every input' (looked for: loops, veiled, ifaces, maps, wideKeys, modest, calm, conditions, laid).
  DERIVED. THE GIVEN ROWS OF THIS SEAT. 14 by the template 'for every input the law returns true; each argument reads behind the call as it read before'; 0 by the template 'total and deterministic' (their statements: YtjfjlloibmebeaaGreatTotals.lean).
  GIVEN WITH THE SEED: the statements are not yours to turn. If you find one false, say at which input.
  Laid BY PROGRAM, IN A SANDBOX (cutbox-rows.mjs): the forced cells as the released guide's own fill.sh prints them over the translation 914a24ff3422c1c6… (all of the seat's roots in one cut). By AI agents, Wed Nov 11 2026. No macro, syntax, notation, axiom, sorry.
-/
import Derived.Test.YtjfjlloibmebeaaGreatChecked
import GoSem.Claim
import GoSem.ClaimJoined
import GoSem.ClaimMapViews
import Derived.JoinedTies
import Derived.KernelRfl
namespace Go.Proofs.YtjfjlloibmebeaaGreat
/- THE CELL 'sum', in the pinned program and in every row, IS THE sha256 OF THE DUMP (.gsa) THAT YtjfjlloibmebeaaGreatProg.lean LOADS. Nothing in Lean hashes anything: it is a label: what it is worth is what the hold of that sum in a sandbox is worth. -/
noncomputable def Tryz.pinned : Pinned := { name := "ytjfjlloibmebeaagreat", sum := "914a24ff3422c1c60e45d549ad61cc46607fc2f64c27c6cd38bc821accd0b37a", checked := Tryz.checked }
namespace Rows
def none {H : Type} : Left H := { results := [], args := [] }

/-- 'tessellaw9.GdetInverses': WHATEVER THE INPUT: true; the input reads as it did. -/
def gdetInversesSpec : ChangeSpec := { name := "gdetInverses", fn := fun _ => fun
  | [d] => { results := [.lit (.bool true)], args := [d] }
  | _ => none }
def gdetInversesRow : OpenClaim := { program := "ytjfjlloibmebeaagreat", sum := "914a24ff3422c1c60e45d549ad61cc46607fc2f64c27c6cd38bc821accd0b37a", func := "tessel/tessellaw9.GdetInverses", spec := "gdetInverses", unfollowed := true, recurses := true, apart := false }
def GdetInversesSaid : Prop := gdetInversesRow.holds Tryz.pinned (OpenSpec.ofChange gdetInversesSpec)

/-- ITS FALSE NEIGHBOUR: 'it returns false'. Refute it at one input. -/
def gdetInversesWrong : ChangeSpec := { name := "gdetInverses", fn := fun _ => fun
  | [d] => { results := [.lit (.bool false)], args := [d] }
  | _ => none }
def GdetInversesWrongFalsely : Prop := gdetInversesRow.holds Tryz.pinned (OpenSpec.ofChange gdetInversesWrong)

/-- 'tessellaw9.GdetAlong': WHATEVER THE INPUT: true; the input reads as it did. -/
def gdetAlongSpec : ChangeSpec := { name := "gdetAlong", fn := fun _ => fun
  | [d1, d2, d3, d4, d5] => { results := [.lit (.bool true)], args := [d1, d2, d3, d4, d5] }
  | _ => none }
def gdetAlongRow : OpenClaim := { program := "ytjfjlloibmebeaagreat", sum := "914a24ff3422c1c60e45d549ad61cc46607fc2f64c27c6cd38bc821accd0b37a", func := "tessel/tessellaw9.GdetAlong", spec := "gdetAlong", unfollowed := true, recurses := true, apart := false }
def GdetAlongSaid : Prop := gdetAlongRow.holds Tryz.pinned (OpenSpec.ofChange gdetAlongSpec)

/-- ITS FALSE NEIGHBOUR: 'it returns false'. Refute it at one input. -/
def gdetAlongWrong : ChangeSpec := { name := "gdetAlong", fn := fun _ => fun
  | [d1, d2, d3, d4, d5] => { results := [.lit (.bool false)], args := [d1, d2, d3, d4, d5] }
  | _ => none }
def GdetAlongWrongFalsely : Prop := gdetAlongRow.holds Tryz.pinned (OpenSpec.ofChange gdetAlongWrong)

/-- 'tessellaw9.GdetSolves': WHATEVER THE INPUT: true; the input reads as it did. -/
def gdetSolvesSpec : ChangeSpec := { name := "gdetSolves", fn := fun _ => fun
  | [d1, d2] => { results := [.lit (.bool true)], args := [d1, d2] }
  | _ => none }
def gdetSolvesRow : OpenClaim := { program := "ytjfjlloibmebeaagreat", sum := "914a24ff3422c1c60e45d549ad61cc46607fc2f64c27c6cd38bc821accd0b37a", func := "tessel/tessellaw9.GdetSolves", spec := "gdetSolves", unfollowed := true, recurses := true, apart := false }
def GdetSolvesSaid : Prop := gdetSolvesRow.holds Tryz.pinned (OpenSpec.ofChange gdetSolvesSpec)

/-- ITS FALSE NEIGHBOUR: 'it returns false'. Refute it at one input. -/
def gdetSolvesWrong : ChangeSpec := { name := "gdetSolves", fn := fun _ => fun
  | [d1, d2] => { results := [.lit (.bool false)], args := [d1, d2] }
  | _ => none }
def GdetSolvesWrongFalsely : Prop := gdetSolvesRow.holds Tryz.pinned (OpenSpec.ofChange gdetSolvesWrong)

/-- 'tessellaw9.GdetMakes': WHATEVER THE INPUT: true; the input reads as it did. -/
def gdetMakesSpec : ChangeSpec := { name := "gdetMakes", fn := fun _ => fun
  | [d1, d2, d3] => { results := [.lit (.bool true)], args := [d1, d2, d3] }
  | _ => none }
def gdetMakesRow : OpenClaim := { program := "ytjfjlloibmebeaagreat", sum := "914a24ff3422c1c60e45d549ad61cc46607fc2f64c27c6cd38bc821accd0b37a", func := "tessel/tessellaw9.GdetMakes", spec := "gdetMakes", unfollowed := true, recurses := true, apart := false }
def GdetMakesSaid : Prop := gdetMakesRow.holds Tryz.pinned (OpenSpec.ofChange gdetMakesSpec)

/-- ITS FALSE NEIGHBOUR: 'it returns false'. Refute it at one input. -/
def gdetMakesWrong : ChangeSpec := { name := "gdetMakes", fn := fun _ => fun
  | [d1, d2, d3] => { results := [.lit (.bool false)], args := [d1, d2, d3] }
  | _ => none }
def GdetMakesWrongFalsely : Prop := gdetMakesRow.holds Tryz.pinned (OpenSpec.ofChange gdetMakesWrong)

/-- 'tessellaw10.GhnfKnown': WHATEVER THE INPUT: true; the input reads as it did. -/
def ghnfKnownSpec : ChangeSpec := { name := "ghnfKnown", fn := fun _ => fun
  | [] => { results := [.lit (.bool true)], args := [] }
  | _ => none }
def ghnfKnownRow : OpenClaim := { program := "ytjfjlloibmebeaagreat", sum := "914a24ff3422c1c60e45d549ad61cc46607fc2f64c27c6cd38bc821accd0b37a", func := "tessel/tessellaw10.GhnfKnown", spec := "ghnfKnown", unfollowed := true, recurses := true, apart := false }
def GhnfKnownSaid : Prop := ghnfKnownRow.holds Tryz.pinned (OpenSpec.ofChange ghnfKnownSpec)

/-- ITS FALSE NEIGHBOUR: 'it returns false'. Refute it at one input. -/
def ghnfKnownWrong : ChangeSpec := { name := "ghnfKnown", fn := fun _ => fun
  | [] => { results := [.lit (.bool false)], args := [] }
  | _ => none }
def GhnfKnownWrongFalsely : Prop := ghnfKnownRow.holds Tryz.pinned (OpenSpec.ofChange ghnfKnownWrong)

/-- 'tessellaw10.GhnfForms': WHATEVER THE INPUT: true; the input reads as it did. -/
def ghnfFormsSpec : ChangeSpec := { name := "ghnfForms", fn := fun _ => fun
  | [d] => { results := [.lit (.bool true)], args := [d] }
  | _ => none }
def ghnfFormsRow : OpenClaim := { program := "ytjfjlloibmebeaagreat", sum := "914a24ff3422c1c60e45d549ad61cc46607fc2f64c27c6cd38bc821accd0b37a", func := "tessel/tessellaw10.GhnfForms", spec := "ghnfForms", recurses := true, apart := false }
def GhnfFormsSaid : Prop := ghnfFormsRow.holds Tryz.pinned (OpenSpec.ofChange ghnfFormsSpec)

/-- ITS FALSE NEIGHBOUR: 'it returns false'. Refute it at one input. -/
def ghnfFormsWrong : ChangeSpec := { name := "ghnfForms", fn := fun _ => fun
  | [d] => { results := [.lit (.bool false)], args := [d] }
  | _ => none }
def GhnfFormsWrongFalsely : Prop := ghnfFormsRow.holds Tryz.pinned (OpenSpec.ofChange ghnfFormsWrong)

/-- 'tessellaw10.GhnfMembers': WHATEVER THE INPUT: true; the input reads as it did. -/
def ghnfMembersSpec : ChangeSpec := { name := "ghnfMembers", fn := fun _ => fun
  | [d1, d2] => { results := [.lit (.bool true)], args := [d1, d2] }
  | _ => none }
def ghnfMembersRow : OpenClaim := { program := "ytjfjlloibmebeaagreat", sum := "914a24ff3422c1c60e45d549ad61cc46607fc2f64c27c6cd38bc821accd0b37a", func := "tessel/tessellaw10.GhnfMembers", spec := "ghnfMembers", recurses := true, apart := false }
def GhnfMembersSaid : Prop := ghnfMembersRow.holds Tryz.pinned (OpenSpec.ofChange ghnfMembersSpec)

/-- ITS FALSE NEIGHBOUR: 'it returns false'. Refute it at one input. -/
def ghnfMembersWrong : ChangeSpec := { name := "ghnfMembers", fn := fun _ => fun
  | [d1, d2] => { results := [.lit (.bool false)], args := [d1, d2] }
  | _ => none }
def GhnfMembersWrongFalsely : Prop := ghnfMembersRow.holds Tryz.pinned (OpenSpec.ofChange ghnfMembersWrong)

/-- 'tessellaw10.GhnfSames': WHATEVER THE INPUT: true; the input reads as it did. -/
def ghnfSamesSpec : ChangeSpec := { name := "ghnfSames", fn := fun _ => fun
  | [d1, d2] => { results := [.lit (.bool true)], args := [d1, d2] }
  | _ => none }
def ghnfSamesRow : OpenClaim := { program := "ytjfjlloibmebeaagreat", sum := "914a24ff3422c1c60e45d549ad61cc46607fc2f64c27c6cd38bc821accd0b37a", func := "tessel/tessellaw10.GhnfSames", spec := "ghnfSames", unfollowed := true, recurses := true, apart := false }
def GhnfSamesSaid : Prop := ghnfSamesRow.holds Tryz.pinned (OpenSpec.ofChange ghnfSamesSpec)

/-- ITS FALSE NEIGHBOUR: 'it returns false'. Refute it at one input. -/
def ghnfSamesWrong : ChangeSpec := { name := "ghnfSames", fn := fun _ => fun
  | [d1, d2] => { results := [.lit (.bool false)], args := [d1, d2] }
  | _ => none }
def GhnfSamesWrongFalsely : Prop := ghnfSamesRow.holds Tryz.pinned (OpenSpec.ofChange ghnfSamesWrong)

/-- 'tessellaw10.GhnfLifts': WHATEVER THE INPUT: true; the input reads as it did. -/
def ghnfLiftsSpec : ChangeSpec := { name := "ghnfLifts", fn := fun _ => fun
  | [d1, d2, d3] => { results := [.lit (.bool true)], args := [d1, d2, d3] }
  | _ => none }
def ghnfLiftsRow : OpenClaim := { program := "ytjfjlloibmebeaagreat", sum := "914a24ff3422c1c60e45d549ad61cc46607fc2f64c27c6cd38bc821accd0b37a", func := "tessel/tessellaw10.GhnfLifts", spec := "ghnfLifts", unfollowed := true, recurses := true, apart := false }
def GhnfLiftsSaid : Prop := ghnfLiftsRow.holds Tryz.pinned (OpenSpec.ofChange ghnfLiftsSpec)

/-- ITS FALSE NEIGHBOUR: 'it returns false'. Refute it at one input. -/
def ghnfLiftsWrong : ChangeSpec := { name := "ghnfLifts", fn := fun _ => fun
  | [d1, d2, d3] => { results := [.lit (.bool false)], args := [d1, d2, d3] }
  | _ => none }
def GhnfLiftsWrongFalsely : Prop := ghnfLiftsRow.holds Tryz.pinned (OpenSpec.ofChange ghnfLiftsWrong)

/-- 'tessellaw10.GhnfShaped': WHATEVER THE INPUT: true; the input reads as it did. -/
def ghnfShapedSpec : ChangeSpec := { name := "ghnfShaped", fn := fun _ => fun
  | [d] => { results := [.lit (.bool true)], args := [d] }
  | _ => none }
def ghnfShapedRow : OpenClaim := { program := "ytjfjlloibmebeaagreat", sum := "914a24ff3422c1c60e45d549ad61cc46607fc2f64c27c6cd38bc821accd0b37a", func := "tessel/tessellaw10.GhnfShaped", spec := "ghnfShaped", unfollowed := true, recurses := true, apart := false }
def GhnfShapedSaid : Prop := ghnfShapedRow.holds Tryz.pinned (OpenSpec.ofChange ghnfShapedSpec)

/-- ITS FALSE NEIGHBOUR: 'it returns false'. Refute it at one input. -/
def ghnfShapedWrong : ChangeSpec := { name := "ghnfShaped", fn := fun _ => fun
  | [d] => { results := [.lit (.bool false)], args := [d] }
  | _ => none }
def GhnfShapedWrongFalsely : Prop := ghnfShapedRow.holds Tryz.pinned (OpenSpec.ofChange ghnfShapedWrong)

/-- 'tessellaw10.GhnfMoves': WHATEVER THE INPUT: true; the input reads as it did. -/
def ghnfMovesSpec : ChangeSpec := { name := "ghnfMoves", fn := fun _ => fun
  | [d1, d2, d3, d4, d5, d6] => { results := [.lit (.bool true)], args := [d1, d2, d3, d4, d5, d6] }
  | _ => none }
def ghnfMovesRow : OpenClaim := { program := "ytjfjlloibmebeaagreat", sum := "914a24ff3422c1c60e45d549ad61cc46607fc2f64c27c6cd38bc821accd0b37a", func := "tessel/tessellaw10.GhnfMoves", spec := "ghnfMoves", unfollowed := true, recurses := true, apart := false }
def GhnfMovesSaid : Prop := ghnfMovesRow.holds Tryz.pinned (OpenSpec.ofChange ghnfMovesSpec)

/-- ITS FALSE NEIGHBOUR: 'it returns false'. Refute it at one input. -/
def ghnfMovesWrong : ChangeSpec := { name := "ghnfMoves", fn := fun _ => fun
  | [d1, d2, d3, d4, d5, d6] => { results := [.lit (.bool false)], args := [d1, d2, d3, d4, d5, d6] }
  | _ => none }
def GhnfMovesWrongFalsely : Prop := ghnfMovesRow.holds Tryz.pinned (OpenSpec.ofChange ghnfMovesWrong)

/-- 'tessellaw10.GhnfRested': WHATEVER THE INPUT: true; the input reads as it did. -/
def ghnfRestedSpec : ChangeSpec := { name := "ghnfRested", fn := fun _ => fun
  | [d1, d2, d3] => { results := [.lit (.bool true)], args := [d1, d2, d3] }
  | _ => none }
def ghnfRestedRow : OpenClaim := { program := "ytjfjlloibmebeaagreat", sum := "914a24ff3422c1c60e45d549ad61cc46607fc2f64c27c6cd38bc821accd0b37a", func := "tessel/tessellaw10.GhnfRested", spec := "ghnfRested", unfollowed := true, recurses := true, apart := false }
def GhnfRestedSaid : Prop := ghnfRestedRow.holds Tryz.pinned (OpenSpec.ofChange ghnfRestedSpec)

/-- ITS FALSE NEIGHBOUR: 'it returns false'. Refute it at one input. -/
def ghnfRestedWrong : ChangeSpec := { name := "ghnfRested", fn := fun _ => fun
  | [d1, d2, d3] => { results := [.lit (.bool false)], args := [d1, d2, d3] }
  | _ => none }
def GhnfRestedWrongFalsely : Prop := ghnfRestedRow.holds Tryz.pinned (OpenSpec.ofChange ghnfRestedWrong)

/-- 'tessellaw10.GhnfApart': WHATEVER THE INPUT: true; the input reads as it did. -/
def ghnfApartSpec : ChangeSpec := { name := "ghnfApart", fn := fun _ => fun
  | [d1, d2] => { results := [.lit (.bool true)], args := [d1, d2] }
  | _ => none }
def ghnfApartRow : OpenClaim := { program := "ytjfjlloibmebeaagreat", sum := "914a24ff3422c1c60e45d549ad61cc46607fc2f64c27c6cd38bc821accd0b37a", func := "tessel/tessellaw10.GhnfApart", spec := "ghnfApart", unfollowed := true, recurses := true, apart := false }
def GhnfApartSaid : Prop := ghnfApartRow.holds Tryz.pinned (OpenSpec.ofChange ghnfApartSpec)

/-- ITS FALSE NEIGHBOUR: 'it returns false'. Refute it at one input. -/
def ghnfApartWrong : ChangeSpec := { name := "ghnfApart", fn := fun _ => fun
  | [d1, d2] => { results := [.lit (.bool false)], args := [d1, d2] }
  | _ => none }
def GhnfApartWrongFalsely : Prop := ghnfApartRow.holds Tryz.pinned (OpenSpec.ofChange ghnfApartWrong)

/-- 'tessellaw10.GhnfKept': WHATEVER THE INPUT: true; the input reads as it did. -/
def ghnfKeptSpec : ChangeSpec := { name := "ghnfKept", fn := fun _ => fun
  | [d1, d2] => { results := [.lit (.bool true)], args := [d1, d2] }
  | _ => none }
def ghnfKeptRow : OpenClaim := { program := "ytjfjlloibmebeaagreat", sum := "914a24ff3422c1c60e45d549ad61cc46607fc2f64c27c6cd38bc821accd0b37a", func := "tessel/tessellaw10.GhnfKept", spec := "ghnfKept", recurses := true, apart := false }
def GhnfKeptSaid : Prop := ghnfKeptRow.holds Tryz.pinned (OpenSpec.ofChange ghnfKeptSpec)

/-- ITS FALSE NEIGHBOUR: 'it returns false'. Refute it at one input. -/
def ghnfKeptWrong : ChangeSpec := { name := "ghnfKept", fn := fun _ => fun
  | [d1, d2] => { results := [.lit (.bool false)], args := [d1, d2] }
  | _ => none }
def GhnfKeptWrongFalsely : Prop := ghnfKeptRow.holds Tryz.pinned (OpenSpec.ofChange ghnfKeptWrong)

/- THE SECOND FORM. 'bulk': how many values and letters a reading holds, each counted each time it is reached (what is shared counts as often as it is met; a slice's spare places count too). A statement '..UptoSaid' is the law's where the arguments, and the package variables that the reading takes, are together of bulk at most 1048576: NARROWER than '..Said'. Prove '..Said' where nothing that the law and all that it calls make is longer than what came in: it says more and counts as full. Else prove '..UptoSaid'. A law counts once. -/
mutual
def uptoBulk {H : Type} : DataW H → Nat
  | .lit (.string bytes) => bytes.length + 1
  | .lit _ => 1
  | .nil => 1
  | .ptr d => uptoBulk d + 1
  | .slice elems spare => uptoBulkAll elems + uptoBulkAll spare + 1
  | .agg parts => uptoBulkAll parts + 1
  | .iface _ d => uptoBulk d + 1
  | .map entries => uptoBulkEntries entries + 1
  | .held _ => 1
def uptoBulkAll {H : Type} : List (DataW H) → Nat
  | [] => 0
  | d :: r => uptoBulk d + uptoBulkAll r
def uptoBulkEntries {H : Type} : List (Lit × DataW H) → Nat
  | [] => 0
  | x :: r => uptoBulkEntry x + uptoBulkEntries r
def uptoBulkEntry {H : Type} : Lit × DataW H → Nat
  | (.string bytes, d) => bytes.length + uptoBulk d + 1
  | (_, d) => uptoBulk d + 1
 end
def uptoSmall : (H : Type) → List (DataW H) → Bool := fun _ ds => decide (uptoBulkAll ds ≤ 1048576)
def OpenSpec.upto (s : _root_.Go.ChangeSpec) : _root_.Go.OpenSpec := { _root_.Go.OpenSpec.ofChange s with cond := some uptoSmall }

/-- 'tessellaw9.GdetInverses', WHERE WHAT IT READS IS OF BULK AT MOST 1048576: true; the input reads as it did. -/
def gdetInversesUptoRow : OpenClaim := { program := "ytjfjlloibmebeaagreat", sum := "914a24ff3422c1c60e45d549ad61cc46607fc2f64c27c6cd38bc821accd0b37a", func := "tessel/tessellaw9.GdetInverses", spec := "gdetInverses", unfollowed := true, recurses := true, apart := false, narrowed := true }
def GdetInversesUptoSaid : Prop := gdetInversesUptoRow.holds Tryz.pinned (OpenSpec.upto gdetInversesSpec)

/-- 'tessellaw9.GdetAlong', WHERE WHAT IT READS IS OF BULK AT MOST 1048576: true; the input reads as it did. -/
def gdetAlongUptoRow : OpenClaim := { program := "ytjfjlloibmebeaagreat", sum := "914a24ff3422c1c60e45d549ad61cc46607fc2f64c27c6cd38bc821accd0b37a", func := "tessel/tessellaw9.GdetAlong", spec := "gdetAlong", unfollowed := true, recurses := true, apart := false, narrowed := true }
def GdetAlongUptoSaid : Prop := gdetAlongUptoRow.holds Tryz.pinned (OpenSpec.upto gdetAlongSpec)

/-- 'tessellaw9.GdetSolves', WHERE WHAT IT READS IS OF BULK AT MOST 1048576: true; the input reads as it did. -/
def gdetSolvesUptoRow : OpenClaim := { program := "ytjfjlloibmebeaagreat", sum := "914a24ff3422c1c60e45d549ad61cc46607fc2f64c27c6cd38bc821accd0b37a", func := "tessel/tessellaw9.GdetSolves", spec := "gdetSolves", unfollowed := true, recurses := true, apart := false, narrowed := true }
def GdetSolvesUptoSaid : Prop := gdetSolvesUptoRow.holds Tryz.pinned (OpenSpec.upto gdetSolvesSpec)

/-- 'tessellaw9.GdetMakes', WHERE WHAT IT READS IS OF BULK AT MOST 1048576: true; the input reads as it did. -/
def gdetMakesUptoRow : OpenClaim := { program := "ytjfjlloibmebeaagreat", sum := "914a24ff3422c1c60e45d549ad61cc46607fc2f64c27c6cd38bc821accd0b37a", func := "tessel/tessellaw9.GdetMakes", spec := "gdetMakes", unfollowed := true, recurses := true, apart := false, narrowed := true }
def GdetMakesUptoSaid : Prop := gdetMakesUptoRow.holds Tryz.pinned (OpenSpec.upto gdetMakesSpec)

/-- 'tessellaw10.GhnfKnown', WHERE WHAT IT READS IS OF BULK AT MOST 1048576: true; the input reads as it did. -/
def ghnfKnownUptoRow : OpenClaim := { program := "ytjfjlloibmebeaagreat", sum := "914a24ff3422c1c60e45d549ad61cc46607fc2f64c27c6cd38bc821accd0b37a", func := "tessel/tessellaw10.GhnfKnown", spec := "ghnfKnown", unfollowed := true, recurses := true, apart := false, narrowed := true }
def GhnfKnownUptoSaid : Prop := ghnfKnownUptoRow.holds Tryz.pinned (OpenSpec.upto ghnfKnownSpec)

/-- 'tessellaw10.GhnfForms', WHERE WHAT IT READS IS OF BULK AT MOST 1048576: true; the input reads as it did. -/
def ghnfFormsUptoRow : OpenClaim := { program := "ytjfjlloibmebeaagreat", sum := "914a24ff3422c1c60e45d549ad61cc46607fc2f64c27c6cd38bc821accd0b37a", func := "tessel/tessellaw10.GhnfForms", spec := "ghnfForms", recurses := true, apart := false, narrowed := true }
def GhnfFormsUptoSaid : Prop := ghnfFormsUptoRow.holds Tryz.pinned (OpenSpec.upto ghnfFormsSpec)

/-- 'tessellaw10.GhnfMembers', WHERE WHAT IT READS IS OF BULK AT MOST 1048576: true; the input reads as it did. -/
def ghnfMembersUptoRow : OpenClaim := { program := "ytjfjlloibmebeaagreat", sum := "914a24ff3422c1c60e45d549ad61cc46607fc2f64c27c6cd38bc821accd0b37a", func := "tessel/tessellaw10.GhnfMembers", spec := "ghnfMembers", recurses := true, apart := false, narrowed := true }
def GhnfMembersUptoSaid : Prop := ghnfMembersUptoRow.holds Tryz.pinned (OpenSpec.upto ghnfMembersSpec)

/-- 'tessellaw10.GhnfSames', WHERE WHAT IT READS IS OF BULK AT MOST 1048576: true; the input reads as it did. -/
def ghnfSamesUptoRow : OpenClaim := { program := "ytjfjlloibmebeaagreat", sum := "914a24ff3422c1c60e45d549ad61cc46607fc2f64c27c6cd38bc821accd0b37a", func := "tessel/tessellaw10.GhnfSames", spec := "ghnfSames", unfollowed := true, recurses := true, apart := false, narrowed := true }
def GhnfSamesUptoSaid : Prop := ghnfSamesUptoRow.holds Tryz.pinned (OpenSpec.upto ghnfSamesSpec)

/-- 'tessellaw10.GhnfLifts', WHERE WHAT IT READS IS OF BULK AT MOST 1048576: true; the input reads as it did. -/
def ghnfLiftsUptoRow : OpenClaim := { program := "ytjfjlloibmebeaagreat", sum := "914a24ff3422c1c60e45d549ad61cc46607fc2f64c27c6cd38bc821accd0b37a", func := "tessel/tessellaw10.GhnfLifts", spec := "ghnfLifts", unfollowed := true, recurses := true, apart := false, narrowed := true }
def GhnfLiftsUptoSaid : Prop := ghnfLiftsUptoRow.holds Tryz.pinned (OpenSpec.upto ghnfLiftsSpec)

/-- 'tessellaw10.GhnfShaped', WHERE WHAT IT READS IS OF BULK AT MOST 1048576: true; the input reads as it did. -/
def ghnfShapedUptoRow : OpenClaim := { program := "ytjfjlloibmebeaagreat", sum := "914a24ff3422c1c60e45d549ad61cc46607fc2f64c27c6cd38bc821accd0b37a", func := "tessel/tessellaw10.GhnfShaped", spec := "ghnfShaped", unfollowed := true, recurses := true, apart := false, narrowed := true }
def GhnfShapedUptoSaid : Prop := ghnfShapedUptoRow.holds Tryz.pinned (OpenSpec.upto ghnfShapedSpec)

/-- 'tessellaw10.GhnfMoves', WHERE WHAT IT READS IS OF BULK AT MOST 1048576: true; the input reads as it did. -/
def ghnfMovesUptoRow : OpenClaim := { program := "ytjfjlloibmebeaagreat", sum := "914a24ff3422c1c60e45d549ad61cc46607fc2f64c27c6cd38bc821accd0b37a", func := "tessel/tessellaw10.GhnfMoves", spec := "ghnfMoves", unfollowed := true, recurses := true, apart := false, narrowed := true }
def GhnfMovesUptoSaid : Prop := ghnfMovesUptoRow.holds Tryz.pinned (OpenSpec.upto ghnfMovesSpec)

/-- 'tessellaw10.GhnfRested', WHERE WHAT IT READS IS OF BULK AT MOST 1048576: true; the input reads as it did. -/
def ghnfRestedUptoRow : OpenClaim := { program := "ytjfjlloibmebeaagreat", sum := "914a24ff3422c1c60e45d549ad61cc46607fc2f64c27c6cd38bc821accd0b37a", func := "tessel/tessellaw10.GhnfRested", spec := "ghnfRested", unfollowed := true, recurses := true, apart := false, narrowed := true }
def GhnfRestedUptoSaid : Prop := ghnfRestedUptoRow.holds Tryz.pinned (OpenSpec.upto ghnfRestedSpec)

/-- 'tessellaw10.GhnfApart', WHERE WHAT IT READS IS OF BULK AT MOST 1048576: true; the input reads as it did. -/
def ghnfApartUptoRow : OpenClaim := { program := "ytjfjlloibmebeaagreat", sum := "914a24ff3422c1c60e45d549ad61cc46607fc2f64c27c6cd38bc821accd0b37a", func := "tessel/tessellaw10.GhnfApart", spec := "ghnfApart", unfollowed := true, recurses := true, apart := false, narrowed := true }
def GhnfApartUptoSaid : Prop := ghnfApartUptoRow.holds Tryz.pinned (OpenSpec.upto ghnfApartSpec)

/-- 'tessellaw10.GhnfKept', WHERE WHAT IT READS IS OF BULK AT MOST 1048576: true; the input reads as it did. -/
def ghnfKeptUptoRow : OpenClaim := { program := "ytjfjlloibmebeaagreat", sum := "914a24ff3422c1c60e45d549ad61cc46607fc2f64c27c6cd38bc821accd0b37a", func := "tessel/tessellaw10.GhnfKept", spec := "ghnfKept", recurses := true, apart := false, narrowed := true }
def GhnfKeptUptoSaid : Prop := ghnfKeptUptoRow.holds Tryz.pinned (OpenSpec.upto ghnfKeptSpec)

end Rows
end Go.Proofs.YtjfjlloibmebeaaGreat
