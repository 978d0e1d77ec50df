/-
  NARROWER THAN 'FOR EVERY INPUT', by the rows' own cells (each row's printed sentence says how): GintSums: laid · GintCanons: laid · GintDivides: laid · GintRing: laid · GintRests: laid · GintBezout: laid · GintBack: laid · GintKept: laid.
  DERIVED. THE GIVEN ROWS OF THIS SEAT. 8 by the template 'for every input the law returns true; each argument reads behind the call as it read before'; 0 by the template 'total and deterministic' (their statements: YtgjainmfilkjmaaDoorTotals.lean).
  GIVEN WITH THE SEED: the statements are not yours to turn. If you find one false, say at which input.
  Laid BY PROGRAM, IN A SANDBOX (cutbox-rows.mjs): the forced cells as the released guide's own fill.sh prints them over the translation 5aa24d9247bde052… (all of the seat's roots in one cut). By AI agents, Wed Nov 11 2026. No macro, syntax, notation, axiom, sorry.
-/
import Derived.Test.YtgjainmfilkjmaaDoorChecked
import GoSem.PinnedTables
import GoSem.Claim
import GoSem.ClaimJoined
import GoSem.ClaimMapViews
import Derived.JoinedTies
import Derived.KernelRfl
namespace Go.Proofs.YtgjainmfilkjmaaDoor
/- THE CELL 'sum', in the pinned program and in every row, IS THE sha256 OF THE DUMP (.gsa) THAT YtgjainmfilkjmaaDoorProg.lean LOADS. Nothing in Lean hashes anything: it is a label: what it is worth is what the hold of that sum in a sandbox is worth. -/
noncomputable def Tryd.pinned : Pinned := { name := "ytgjainmfilkjmaadoor", sum := "5aa24d9247bde052eb5e3e4e98dc263b822c3b69c0ba8f56bdd96f51044a5a88", checked := Tryd.checked }
namespace Rows
def none {H : Type} : Left H := { results := [], args := [] }

/- WHAT THE LISTED PACKAGE-LEVEL VARIABLES READ AS WHEN THE CALL BEGINS. Each datum BY PROGRAM (the guide's laid-datum.mjs) off the statement by which the dump's own 'gosem.cut.vars' lays the variable. In a bare row this is a premise. The card (YtgjainmfilkjmaaDoorCards.lean) ties it to the program's text. -/
def laid_math_bits_deBruijn32tab {H : Type} : DataW H := .agg [.lit (.int .u8 0), .lit (.int .u8 1), .lit (.int .u8 28), .lit (.int .u8 2), .lit (.int .u8 29), .lit (.int .u8 14), .lit (.int .u8 24), .lit (.int .u8 3), .lit (.int .u8 30), .lit (.int .u8 22), .lit (.int .u8 20), .lit (.int .u8 15), .lit (.int .u8 25), .lit (.int .u8 17), .lit (.int .u8 4), .lit (.int .u8 8), .lit (.int .u8 31), .lit (.int .u8 27), .lit (.int .u8 13), .lit (.int .u8 23), .lit (.int .u8 21), .lit (.int .u8 19), .lit (.int .u8 16), .lit (.int .u8 7), .lit (.int .u8 26), .lit (.int .u8 12), .lit (.int .u8 18), .lit (.int .u8 6), .lit (.int .u8 11), .lit (.int .u8 5), .lit (.int .u8 10), .lit (.int .u8 9)]
def laid_math_bits_deBruijn64tab {H : Type} : DataW H := .agg [.lit (.int .u8 0), .lit (.int .u8 1), .lit (.int .u8 56), .lit (.int .u8 2), .lit (.int .u8 57), .lit (.int .u8 49), .lit (.int .u8 28), .lit (.int .u8 3), .lit (.int .u8 61), .lit (.int .u8 58), .lit (.int .u8 42), .lit (.int .u8 50), .lit (.int .u8 38), .lit (.int .u8 29), .lit (.int .u8 17), .lit (.int .u8 4), .lit (.int .u8 62), .lit (.int .u8 47), .lit (.int .u8 59), .lit (.int .u8 36), .lit (.int .u8 45), .lit (.int .u8 43), .lit (.int .u8 51), .lit (.int .u8 22), .lit (.int .u8 53), .lit (.int .u8 39), .lit (.int .u8 33), .lit (.int .u8 30), .lit (.int .u8 24), .lit (.int .u8 18), .lit (.int .u8 12), .lit (.int .u8 5), .lit (.int .u8 63), .lit (.int .u8 55), .lit (.int .u8 48), .lit (.int .u8 27), .lit (.int .u8 60), .lit (.int .u8 41), .lit (.int .u8 37), .lit (.int .u8 16), .lit (.int .u8 46), .lit (.int .u8 35), .lit (.int .u8 44), .lit (.int .u8 21), .lit (.int .u8 52), .lit (.int .u8 32), .lit (.int .u8 23), .lit (.int .u8 11), .lit (.int .u8 54), .lit (.int .u8 26), .lit (.int .u8 40), .lit (.int .u8 15), .lit (.int .u8 34), .lit (.int .u8 20), .lit (.int .u8 31), .lit (.int .u8 10), .lit (.int .u8 25), .lit (.int .u8 14), .lit (.int .u8 19), .lit (.int .u8 9), .lit (.int .u8 13), .lit (.int .u8 8), .lit (.int .u8 7), .lit (.int .u8 6)]
def laid_internal_strconv_uint64pow10 {H : Type} : DataW H := .agg [.lit (.int .u64 1), .lit (.int .u64 10), .lit (.int .u64 100), .lit (.int .u64 1000), .lit (.int .u64 10000), .lit (.int .u64 100000), .lit (.int .u64 1000000), .lit (.int .u64 10000000), .lit (.int .u64 100000000), .lit (.int .u64 1000000000), .lit (.int .u64 10000000000), .lit (.int .u64 100000000000), .lit (.int .u64 1000000000000), .lit (.int .u64 10000000000000), .lit (.int .u64 100000000000000), .lit (.int .u64 1000000000000000), .lit (.int .u64 10000000000000000), .lit (.int .u64 100000000000000000), .lit (.int .u64 1000000000000000000), .lit (.int .u64 10000000000000000000)]
def laid_unicode_utf8_acceptRanges {H : Type} : DataW H := .agg [.agg [.lit (.int .u8 128), .lit (.int .u8 191)], .agg [.lit (.int .u8 160), .lit (.int .u8 191)], .agg [.lit (.int .u8 128), .lit (.int .u8 159)], .agg [.lit (.int .u8 144), .lit (.int .u8 191)], .agg [.lit (.int .u8 128), .lit (.int .u8 143)], .agg [.lit (.int .u8 0), .lit (.int .u8 0)], .agg [.lit (.int .u8 0), .lit (.int .u8 0)], .agg [.lit (.int .u8 0), .lit (.int .u8 0)], .agg [.lit (.int .u8 0), .lit (.int .u8 0)], .agg [.lit (.int .u8 0), .lit (.int .u8 0)], .agg [.lit (.int .u8 0), .lit (.int .u8 0)], .agg [.lit (.int .u8 0), .lit (.int .u8 0)], .agg [.lit (.int .u8 0), .lit (.int .u8 0)], .agg [.lit (.int .u8 0), .lit (.int .u8 0)], .agg [.lit (.int .u8 0), .lit (.int .u8 0)], .agg [.lit (.int .u8 0), .lit (.int .u8 0)]]
/-- One of Go's own tables, pinned by name: the form's constant. -/
def laid_unicode_utf8_first : DataW Unit := Go.Pinned.utf8First

/-- 'tessellaw4.GintSums': WHATEVER THE INPUT: true; the input reads as it did. -/
def gintSumsSpec : ChangeSpec := { name := "gintSums", fn := fun _ => fun
  | [d1, d2, d3] => { results := [.lit (.bool true)], args := [d1, d2, d3] }
  | _ => none }
def gintSumsRow : OpenClaim := { program := "ytgjainmfilkjmaadoor", sum := "5aa24d9247bde052eb5e3e4e98dc263b822c3b69c0ba8f56bdd96f51044a5a88", func := "tessel/tessellaw4.GintSums", spec := "gintSums", named := ["internal/strconv.uint64pow10", "math/bits.deBruijn32tab", "math/bits.deBruijn64tab"], apart := false, laid := [("math/bits.deBruijn32tab", laid_math_bits_deBruijn32tab), ("math/bits.deBruijn64tab", laid_math_bits_deBruijn64tab), ("internal/strconv.uint64pow10", laid_internal_strconv_uint64pow10)] }
def GintSumsSaid : Prop := gintSumsRow.holds Tryd.pinned (OpenSpec.ofChange gintSumsSpec)

/-- ITS FALSE NEIGHBOUR: 'it returns false'. Refute it at one input. -/
def gintSumsWrong : ChangeSpec := { name := "gintSums", fn := fun _ => fun
  | [d1, d2, d3] => { results := [.lit (.bool false)], args := [d1, d2, d3] }
  | _ => none }
def GintSumsWrongFalsely : Prop := gintSumsRow.holds Tryd.pinned (OpenSpec.ofChange gintSumsWrong)

/-- 'tessellaw4.GintCanons': WHATEVER THE INPUT: true; the input reads as it did. -/
def gintCanonsSpec : ChangeSpec := { name := "gintCanons", fn := fun _ => fun
  | [d1, d2] => { results := [.lit (.bool true)], args := [d1, d2] }
  | _ => none }
def gintCanonsRow : OpenClaim := { program := "ytgjainmfilkjmaadoor", sum := "5aa24d9247bde052eb5e3e4e98dc263b822c3b69c0ba8f56bdd96f51044a5a88", func := "tessel/tessellaw4.GintCanons", spec := "gintCanons", named := ["internal/strconv.uint64pow10", "math/bits.deBruijn32tab", "math/bits.deBruijn64tab"], apart := false, laid := [("math/bits.deBruijn32tab", laid_math_bits_deBruijn32tab), ("math/bits.deBruijn64tab", laid_math_bits_deBruijn64tab), ("internal/strconv.uint64pow10", laid_internal_strconv_uint64pow10)] }
def GintCanonsSaid : Prop := gintCanonsRow.holds Tryd.pinned (OpenSpec.ofChange gintCanonsSpec)

/-- ITS FALSE NEIGHBOUR: 'it returns false'. Refute it at one input. -/
def gintCanonsWrong : ChangeSpec := { name := "gintCanons", fn := fun _ => fun
  | [d1, d2] => { results := [.lit (.bool false)], args := [d1, d2] }
  | _ => none }
def GintCanonsWrongFalsely : Prop := gintCanonsRow.holds Tryd.pinned (OpenSpec.ofChange gintCanonsWrong)

/-- 'tessellaw4.GintDivides': WHATEVER THE INPUT: true; the input reads as it did. -/
def gintDividesSpec : ChangeSpec := { name := "gintDivides", fn := fun _ => fun
  | [d1, d2] => { results := [.lit (.bool true)], args := [d1, d2] }
  | _ => none }
def gintDividesRow : OpenClaim := { program := "ytgjainmfilkjmaadoor", sum := "5aa24d9247bde052eb5e3e4e98dc263b822c3b69c0ba8f56bdd96f51044a5a88", func := "tessel/tessellaw4.GintDivides", spec := "gintDivides", named := ["internal/strconv.uint64pow10", "math/bits.deBruijn32tab", "math/bits.deBruijn64tab"], apart := false, laid := [("math/bits.deBruijn32tab", laid_math_bits_deBruijn32tab), ("math/bits.deBruijn64tab", laid_math_bits_deBruijn64tab), ("internal/strconv.uint64pow10", laid_internal_strconv_uint64pow10)] }
def GintDividesSaid : Prop := gintDividesRow.holds Tryd.pinned (OpenSpec.ofChange gintDividesSpec)

/-- ITS FALSE NEIGHBOUR: 'it returns false'. Refute it at one input. -/
def gintDividesWrong : ChangeSpec := { name := "gintDivides", fn := fun _ => fun
  | [d1, d2] => { results := [.lit (.bool false)], args := [d1, d2] }
  | _ => none }
def GintDividesWrongFalsely : Prop := gintDividesRow.holds Tryd.pinned (OpenSpec.ofChange gintDividesWrong)

/-- 'tessellaw4.GintRing': WHATEVER THE INPUT: true; the input reads as it did. -/
def gintRingSpec : ChangeSpec := { name := "gintRing", fn := fun _ => fun
  | [d1, d2, d3] => { results := [.lit (.bool true)], args := [d1, d2, d3] }
  | _ => none }
def gintRingRow : OpenClaim := { program := "ytgjainmfilkjmaadoor", sum := "5aa24d9247bde052eb5e3e4e98dc263b822c3b69c0ba8f56bdd96f51044a5a88", func := "tessel/tessellaw4.GintRing", spec := "gintRing", named := ["internal/strconv.uint64pow10", "math/bits.deBruijn32tab", "math/bits.deBruijn64tab"], apart := false, laid := [("math/bits.deBruijn32tab", laid_math_bits_deBruijn32tab), ("math/bits.deBruijn64tab", laid_math_bits_deBruijn64tab), ("internal/strconv.uint64pow10", laid_internal_strconv_uint64pow10)] }
def GintRingSaid : Prop := gintRingRow.holds Tryd.pinned (OpenSpec.ofChange gintRingSpec)

/-- ITS FALSE NEIGHBOUR: 'it returns false'. Refute it at one input. -/
def gintRingWrong : ChangeSpec := { name := "gintRing", fn := fun _ => fun
  | [d1, d2, d3] => { results := [.lit (.bool false)], args := [d1, d2, d3] }
  | _ => none }
def GintRingWrongFalsely : Prop := gintRingRow.holds Tryd.pinned (OpenSpec.ofChange gintRingWrong)

/-- 'tessellaw4.GintRests': WHATEVER THE INPUT: true; the input reads as it did. -/
def gintRestsSpec : ChangeSpec := { name := "gintRests", fn := fun _ => fun
  | [d1, d2] => { results := [.lit (.bool true)], args := [d1, d2] }
  | _ => none }
def gintRestsRow : OpenClaim := { program := "ytgjainmfilkjmaadoor", sum := "5aa24d9247bde052eb5e3e4e98dc263b822c3b69c0ba8f56bdd96f51044a5a88", func := "tessel/tessellaw4.GintRests", spec := "gintRests", named := ["internal/strconv.uint64pow10", "math/bits.deBruijn32tab", "math/bits.deBruijn64tab"], apart := false, laid := [("math/bits.deBruijn32tab", laid_math_bits_deBruijn32tab), ("math/bits.deBruijn64tab", laid_math_bits_deBruijn64tab), ("internal/strconv.uint64pow10", laid_internal_strconv_uint64pow10)] }
def GintRestsSaid : Prop := gintRestsRow.holds Tryd.pinned (OpenSpec.ofChange gintRestsSpec)

/-- ITS FALSE NEIGHBOUR: 'it returns false'. Refute it at one input. -/
def gintRestsWrong : ChangeSpec := { name := "gintRests", fn := fun _ => fun
  | [d1, d2] => { results := [.lit (.bool false)], args := [d1, d2] }
  | _ => none }
def GintRestsWrongFalsely : Prop := gintRestsRow.holds Tryd.pinned (OpenSpec.ofChange gintRestsWrong)

/-- 'tessellaw4.GintBezout': WHATEVER THE INPUT: true; the input reads as it did. -/
def gintBezoutSpec : ChangeSpec := { name := "gintBezout", fn := fun _ => fun
  | [d1, d2, d3] => { results := [.lit (.bool true)], args := [d1, d2, d3] }
  | _ => none }
def gintBezoutRow : OpenClaim := { program := "ytgjainmfilkjmaadoor", sum := "5aa24d9247bde052eb5e3e4e98dc263b822c3b69c0ba8f56bdd96f51044a5a88", func := "tessel/tessellaw4.GintBezout", spec := "gintBezout", named := ["internal/strconv.uint64pow10", "math/bits.deBruijn32tab", "math/bits.deBruijn64tab"], apart := false, laid := [("math/bits.deBruijn32tab", laid_math_bits_deBruijn32tab), ("math/bits.deBruijn64tab", laid_math_bits_deBruijn64tab), ("internal/strconv.uint64pow10", laid_internal_strconv_uint64pow10)] }
def GintBezoutSaid : Prop := gintBezoutRow.holds Tryd.pinned (OpenSpec.ofChange gintBezoutSpec)

/-- ITS FALSE NEIGHBOUR: 'it returns false'. Refute it at one input. -/
def gintBezoutWrong : ChangeSpec := { name := "gintBezout", fn := fun _ => fun
  | [d1, d2, d3] => { results := [.lit (.bool false)], args := [d1, d2, d3] }
  | _ => none }
def GintBezoutWrongFalsely : Prop := gintBezoutRow.holds Tryd.pinned (OpenSpec.ofChange gintBezoutWrong)

/-- 'tessellaw4.GintBack': WHATEVER THE INPUT: true; the input reads as it did. -/
def gintBackSpec : ChangeSpec := { name := "gintBack", fn := fun _ => fun
  | [d] => { results := [.lit (.bool true)], args := [d] }
  | _ => none }
def gintBackRow : OpenClaim := { program := "ytgjainmfilkjmaadoor", sum := "5aa24d9247bde052eb5e3e4e98dc263b822c3b69c0ba8f56bdd96f51044a5a88", func := "tessel/tessellaw4.GintBack", spec := "gintBack", inPlace := ["internal/bytealg.IndexByteString", "internal/bytealg.IndexString"], named := ["internal/strconv.uint64pow10", "math/bits.deBruijn32tab", "math/bits.deBruijn64tab", "unicode/utf8.first", "unicode/utf8.acceptRanges", "internal/bytealg.MaxLen"], apart := false, laid := [("math/bits.deBruijn32tab", laid_math_bits_deBruijn32tab), ("math/bits.deBruijn64tab", laid_math_bits_deBruijn64tab), ("internal/strconv.uint64pow10", laid_internal_strconv_uint64pow10), ("unicode/utf8.acceptRanges", laid_unicode_utf8_acceptRanges), ("unicode/utf8.first", laid_unicode_utf8_first)] }
def GintBackSaid : Prop := gintBackRow.holds Tryd.pinned (OpenSpec.ofChange gintBackSpec)

/-- ITS FALSE NEIGHBOUR: 'it returns false'. Refute it at one input. -/
def gintBackWrong : ChangeSpec := { name := "gintBack", fn := fun _ => fun
  | [d] => { results := [.lit (.bool false)], args := [d] }
  | _ => none }
def GintBackWrongFalsely : Prop := gintBackRow.holds Tryd.pinned (OpenSpec.ofChange gintBackWrong)

/-- 'tessellaw4.GintKept': WHATEVER THE INPUT: true; the input reads as it did. -/
def gintKeptSpec : ChangeSpec := { name := "gintKept", fn := fun _ => fun
  | [d1, d2] => { results := [.lit (.bool true)], args := [d1, d2] }
  | _ => none }
def gintKeptRow : OpenClaim := { program := "ytgjainmfilkjmaadoor", sum := "5aa24d9247bde052eb5e3e4e98dc263b822c3b69c0ba8f56bdd96f51044a5a88", func := "tessel/tessellaw4.GintKept", spec := "gintKept", named := ["internal/strconv.uint64pow10", "math/bits.deBruijn32tab", "math/bits.deBruijn64tab"], apart := false, laid := [("math/bits.deBruijn32tab", laid_math_bits_deBruijn32tab), ("math/bits.deBruijn64tab", laid_math_bits_deBruijn64tab), ("internal/strconv.uint64pow10", laid_internal_strconv_uint64pow10)] }
def GintKeptSaid : Prop := gintKeptRow.holds Tryd.pinned (OpenSpec.ofChange gintKeptSpec)

/-- ITS FALSE NEIGHBOUR: 'it returns false'. Refute it at one input. -/
def gintKeptWrong : ChangeSpec := { name := "gintKept", fn := fun _ => fun
  | [d1, d2] => { results := [.lit (.bool false)], args := [d1, d2] }
  | _ => none }
def GintKeptWrongFalsely : Prop := gintKeptRow.holds Tryd.pinned (OpenSpec.ofChange gintKeptWrong)

/- THE SECOND FORM. 'bulk': how many values and letters a reading holds, each counted each time it is reached (what is shared counts as often as it is met; a slice's spare places count too). A statement '..UptoSaid' is the law's where the arguments, and the package variables that the reading takes, are together of bulk at most 1048576: NARROWER than '..Said'. Prove '..Said' where nothing that the law and all that it calls make is longer than what came in: it says more and counts as full. Else prove '..UptoSaid'. A law counts once. -/
mutual
def uptoBulk {H : Type} : DataW H → Nat
  | .lit (.string bytes) => bytes.length + 1
  | .lit _ => 1
  | .nil => 1
  | .ptr d => uptoBulk d + 1
  | .slice elems spare => uptoBulkAll elems + uptoBulkAll spare + 1
  | .agg parts => uptoBulkAll parts + 1
  | .iface _ d => uptoBulk d + 1
  | .map entries => uptoBulkEntries entries + 1
  | .held _ => 1
def uptoBulkAll {H : Type} : List (DataW H) → Nat
  | [] => 0
  | d :: r => uptoBulk d + uptoBulkAll r
def uptoBulkEntries {H : Type} : List (Lit × DataW H) → Nat
  | [] => 0
  | x :: r => uptoBulkEntry x + uptoBulkEntries r
def uptoBulkEntry {H : Type} : Lit × DataW H → Nat
  | (.string bytes, d) => bytes.length + uptoBulk d + 1
  | (_, d) => uptoBulk d + 1
 end
def uptoSmall : (H : Type) → List (DataW H) → Bool := fun _ ds => decide (uptoBulkAll ds ≤ 1048576)
def OpenSpec.upto (s : _root_.Go.ChangeSpec) : _root_.Go.OpenSpec := { _root_.Go.OpenSpec.ofChange s with cond := some uptoSmall }

/-- 'tessellaw4.GintSums', WHERE WHAT IT READS IS OF BULK AT MOST 1048576: true; the input reads as it did. -/
def gintSumsUptoRow : OpenClaim := { program := "ytgjainmfilkjmaadoor", sum := "5aa24d9247bde052eb5e3e4e98dc263b822c3b69c0ba8f56bdd96f51044a5a88", func := "tessel/tessellaw4.GintSums", spec := "gintSums", named := ["internal/strconv.uint64pow10", "math/bits.deBruijn32tab", "math/bits.deBruijn64tab"], apart := false, laid := [("math/bits.deBruijn32tab", laid_math_bits_deBruijn32tab), ("math/bits.deBruijn64tab", laid_math_bits_deBruijn64tab), ("internal/strconv.uint64pow10", laid_internal_strconv_uint64pow10)], narrowed := true }
def GintSumsUptoSaid : Prop := gintSumsUptoRow.holds Tryd.pinned (OpenSpec.upto gintSumsSpec)

/-- 'tessellaw4.GintCanons', WHERE WHAT IT READS IS OF BULK AT MOST 1048576: true; the input reads as it did. -/
def gintCanonsUptoRow : OpenClaim := { program := "ytgjainmfilkjmaadoor", sum := "5aa24d9247bde052eb5e3e4e98dc263b822c3b69c0ba8f56bdd96f51044a5a88", func := "tessel/tessellaw4.GintCanons", spec := "gintCanons", named := ["internal/strconv.uint64pow10", "math/bits.deBruijn32tab", "math/bits.deBruijn64tab"], apart := false, laid := [("math/bits.deBruijn32tab", laid_math_bits_deBruijn32tab), ("math/bits.deBruijn64tab", laid_math_bits_deBruijn64tab), ("internal/strconv.uint64pow10", laid_internal_strconv_uint64pow10)], narrowed := true }
def GintCanonsUptoSaid : Prop := gintCanonsUptoRow.holds Tryd.pinned (OpenSpec.upto gintCanonsSpec)

/-- 'tessellaw4.GintDivides', WHERE WHAT IT READS IS OF BULK AT MOST 1048576: true; the input reads as it did. -/
def gintDividesUptoRow : OpenClaim := { program := "ytgjainmfilkjmaadoor", sum := "5aa24d9247bde052eb5e3e4e98dc263b822c3b69c0ba8f56bdd96f51044a5a88", func := "tessel/tessellaw4.GintDivides", spec := "gintDivides", named := ["internal/strconv.uint64pow10", "math/bits.deBruijn32tab", "math/bits.deBruijn64tab"], apart := false, laid := [("math/bits.deBruijn32tab", laid_math_bits_deBruijn32tab), ("math/bits.deBruijn64tab", laid_math_bits_deBruijn64tab), ("internal/strconv.uint64pow10", laid_internal_strconv_uint64pow10)], narrowed := true }
def GintDividesUptoSaid : Prop := gintDividesUptoRow.holds Tryd.pinned (OpenSpec.upto gintDividesSpec)

/-- 'tessellaw4.GintRing', WHERE WHAT IT READS IS OF BULK AT MOST 1048576: true; the input reads as it did. -/
def gintRingUptoRow : OpenClaim := { program := "ytgjainmfilkjmaadoor", sum := "5aa24d9247bde052eb5e3e4e98dc263b822c3b69c0ba8f56bdd96f51044a5a88", func := "tessel/tessellaw4.GintRing", spec := "gintRing", named := ["internal/strconv.uint64pow10", "math/bits.deBruijn32tab", "math/bits.deBruijn64tab"], apart := false, laid := [("math/bits.deBruijn32tab", laid_math_bits_deBruijn32tab), ("math/bits.deBruijn64tab", laid_math_bits_deBruijn64tab), ("internal/strconv.uint64pow10", laid_internal_strconv_uint64pow10)], narrowed := true }
def GintRingUptoSaid : Prop := gintRingUptoRow.holds Tryd.pinned (OpenSpec.upto gintRingSpec)

/-- 'tessellaw4.GintRests', WHERE WHAT IT READS IS OF BULK AT MOST 1048576: true; the input reads as it did. -/
def gintRestsUptoRow : OpenClaim := { program := "ytgjainmfilkjmaadoor", sum := "5aa24d9247bde052eb5e3e4e98dc263b822c3b69c0ba8f56bdd96f51044a5a88", func := "tessel/tessellaw4.GintRests", spec := "gintRests", named := ["internal/strconv.uint64pow10", "math/bits.deBruijn32tab", "math/bits.deBruijn64tab"], apart := false, laid := [("math/bits.deBruijn32tab", laid_math_bits_deBruijn32tab), ("math/bits.deBruijn64tab", laid_math_bits_deBruijn64tab), ("internal/strconv.uint64pow10", laid_internal_strconv_uint64pow10)], narrowed := true }
def GintRestsUptoSaid : Prop := gintRestsUptoRow.holds Tryd.pinned (OpenSpec.upto gintRestsSpec)

/-- 'tessellaw4.GintBezout', WHERE WHAT IT READS IS OF BULK AT MOST 1048576: true; the input reads as it did. -/
def gintBezoutUptoRow : OpenClaim := { program := "ytgjainmfilkjmaadoor", sum := "5aa24d9247bde052eb5e3e4e98dc263b822c3b69c0ba8f56bdd96f51044a5a88", func := "tessel/tessellaw4.GintBezout", spec := "gintBezout", named := ["internal/strconv.uint64pow10", "math/bits.deBruijn32tab", "math/bits.deBruijn64tab"], apart := false, laid := [("math/bits.deBruijn32tab", laid_math_bits_deBruijn32tab), ("math/bits.deBruijn64tab", laid_math_bits_deBruijn64tab), ("internal/strconv.uint64pow10", laid_internal_strconv_uint64pow10)], narrowed := true }
def GintBezoutUptoSaid : Prop := gintBezoutUptoRow.holds Tryd.pinned (OpenSpec.upto gintBezoutSpec)

/-- 'tessellaw4.GintBack', WHERE WHAT IT READS IS OF BULK AT MOST 1048576: true; the input reads as it did. -/
def gintBackUptoRow : OpenClaim := { program := "ytgjainmfilkjmaadoor", sum := "5aa24d9247bde052eb5e3e4e98dc263b822c3b69c0ba8f56bdd96f51044a5a88", func := "tessel/tessellaw4.GintBack", spec := "gintBack", inPlace := ["internal/bytealg.IndexByteString", "internal/bytealg.IndexString"], named := ["internal/strconv.uint64pow10", "math/bits.deBruijn32tab", "math/bits.deBruijn64tab", "unicode/utf8.first", "unicode/utf8.acceptRanges", "internal/bytealg.MaxLen"], apart := false, laid := [("math/bits.deBruijn32tab", laid_math_bits_deBruijn32tab), ("math/bits.deBruijn64tab", laid_math_bits_deBruijn64tab), ("internal/strconv.uint64pow10", laid_internal_strconv_uint64pow10), ("unicode/utf8.acceptRanges", laid_unicode_utf8_acceptRanges), ("unicode/utf8.first", laid_unicode_utf8_first)], narrowed := true }
def GintBackUptoSaid : Prop := gintBackUptoRow.holds Tryd.pinned (OpenSpec.upto gintBackSpec)

/-- 'tessellaw4.GintKept', WHERE WHAT IT READS IS OF BULK AT MOST 1048576: true; the input reads as it did. -/
def gintKeptUptoRow : OpenClaim := { program := "ytgjainmfilkjmaadoor", sum := "5aa24d9247bde052eb5e3e4e98dc263b822c3b69c0ba8f56bdd96f51044a5a88", func := "tessel/tessellaw4.GintKept", spec := "gintKept", named := ["internal/strconv.uint64pow10", "math/bits.deBruijn32tab", "math/bits.deBruijn64tab"], apart := false, laid := [("math/bits.deBruijn32tab", laid_math_bits_deBruijn32tab), ("math/bits.deBruijn64tab", laid_math_bits_deBruijn64tab), ("internal/strconv.uint64pow10", laid_internal_strconv_uint64pow10)], narrowed := true }
def GintKeptUptoSaid : Prop := gintKeptUptoRow.holds Tryd.pinned (OpenSpec.upto gintKeptSpec)

end Rows
end Go.Proofs.YtgjainmfilkjmaaDoor
