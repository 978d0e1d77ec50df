/-
  NARROWER THAN 'FOR EVERY INPUT', by the rows' own cells (each row's printed sentence says how): ZintKnown: laid · ZintSmall: laid · ZintSums: laid · ZintDivides: laid · ZintGcds: laid · ZintInverses: laid · ZintTexts: laid · ZintRing: laid · ZintRests: laid · ZintBezout: laid · ZintKept: laid.
  DERIVED. THE GIVEN ROWS OF THIS SEAT. 11 by the template 'for every input the law returns true; each argument reads behind the call as it read before'; 0 by the template 'total and deterministic' (their statements: YtabmffenbkdgkaaDoorTotals.lean).
  GIVEN WITH THE SEED: the statements are not yours to turn. If you find one false, say at which input.
  Laid BY PROGRAM, IN A SANDBOX (cutbox-rows.mjs): the forced cells as the released guide's own fill.sh prints them over the translation bfac72ccc2b5d27f… (all of the seat's roots in one cut). By AI agents, Wed Nov 11 2026. No macro, syntax, notation, axiom, sorry.
-/
import Derived.Test.YtabmffenbkdgkaaDoorChecked
import GoSem.Claim
import GoSem.ClaimJoined
import GoSem.ClaimMapViews
import Derived.JoinedTies
import Derived.KernelRfl
namespace Go.Proofs.YtabmffenbkdgkaaDoor
/- THE CELL 'sum', in the pinned program and in every row, IS THE sha256 OF THE DUMP (.gsa) THAT YtabmffenbkdgkaaDoorProg.lean LOADS. Nothing in Lean hashes anything: it is a label: what it is worth is what the hold of that sum in a sandbox is worth. -/
noncomputable def Tryd.pinned : Pinned := { name := "ytabmffenbkdgkaadoor", sum := "bfac72ccc2b5d27fa2c1fecb3ac772931f7cc0997db1130670b5f213933d2fbf", checked := Tryd.checked }
namespace Rows
def none {H : Type} : Left H := { results := [], args := [] }

/- WHAT THE LISTED PACKAGE-LEVEL VARIABLES READ AS WHEN THE CALL BEGINS. Each datum BY PROGRAM (the guide's laid-datum.mjs) off the statement by which the dump's own 'gosem.cut.vars' lays the variable. In a bare row this is a premise. The card (YtabmffenbkdgkaaDoorCards.lean) ties it to the program's text. -/
def laid_math_bits_deBruijn32tab {H : Type} : DataW H := .agg [.lit (.int .u8 0), .lit (.int .u8 1), .lit (.int .u8 28), .lit (.int .u8 2), .lit (.int .u8 29), .lit (.int .u8 14), .lit (.int .u8 24), .lit (.int .u8 3), .lit (.int .u8 30), .lit (.int .u8 22), .lit (.int .u8 20), .lit (.int .u8 15), .lit (.int .u8 25), .lit (.int .u8 17), .lit (.int .u8 4), .lit (.int .u8 8), .lit (.int .u8 31), .lit (.int .u8 27), .lit (.int .u8 13), .lit (.int .u8 23), .lit (.int .u8 21), .lit (.int .u8 19), .lit (.int .u8 16), .lit (.int .u8 7), .lit (.int .u8 26), .lit (.int .u8 12), .lit (.int .u8 18), .lit (.int .u8 6), .lit (.int .u8 11), .lit (.int .u8 5), .lit (.int .u8 10), .lit (.int .u8 9)]
def laid_math_bits_deBruijn64tab {H : Type} : DataW H := .agg [.lit (.int .u8 0), .lit (.int .u8 1), .lit (.int .u8 56), .lit (.int .u8 2), .lit (.int .u8 57), .lit (.int .u8 49), .lit (.int .u8 28), .lit (.int .u8 3), .lit (.int .u8 61), .lit (.int .u8 58), .lit (.int .u8 42), .lit (.int .u8 50), .lit (.int .u8 38), .lit (.int .u8 29), .lit (.int .u8 17), .lit (.int .u8 4), .lit (.int .u8 62), .lit (.int .u8 47), .lit (.int .u8 59), .lit (.int .u8 36), .lit (.int .u8 45), .lit (.int .u8 43), .lit (.int .u8 51), .lit (.int .u8 22), .lit (.int .u8 53), .lit (.int .u8 39), .lit (.int .u8 33), .lit (.int .u8 30), .lit (.int .u8 24), .lit (.int .u8 18), .lit (.int .u8 12), .lit (.int .u8 5), .lit (.int .u8 63), .lit (.int .u8 55), .lit (.int .u8 48), .lit (.int .u8 27), .lit (.int .u8 60), .lit (.int .u8 41), .lit (.int .u8 37), .lit (.int .u8 16), .lit (.int .u8 46), .lit (.int .u8 35), .lit (.int .u8 44), .lit (.int .u8 21), .lit (.int .u8 52), .lit (.int .u8 32), .lit (.int .u8 23), .lit (.int .u8 11), .lit (.int .u8 54), .lit (.int .u8 26), .lit (.int .u8 40), .lit (.int .u8 15), .lit (.int .u8 34), .lit (.int .u8 20), .lit (.int .u8 31), .lit (.int .u8 10), .lit (.int .u8 25), .lit (.int .u8 14), .lit (.int .u8 19), .lit (.int .u8 9), .lit (.int .u8 13), .lit (.int .u8 8), .lit (.int .u8 7), .lit (.int .u8 6)]
def laid_internal_strconv_uint64pow10 {H : Type} : DataW H := .agg [.lit (.int .u64 1), .lit (.int .u64 10), .lit (.int .u64 100), .lit (.int .u64 1000), .lit (.int .u64 10000), .lit (.int .u64 100000), .lit (.int .u64 1000000), .lit (.int .u64 10000000), .lit (.int .u64 100000000), .lit (.int .u64 1000000000), .lit (.int .u64 10000000000), .lit (.int .u64 100000000000), .lit (.int .u64 1000000000000), .lit (.int .u64 10000000000000), .lit (.int .u64 100000000000000), .lit (.int .u64 1000000000000000), .lit (.int .u64 10000000000000000), .lit (.int .u64 100000000000000000), .lit (.int .u64 1000000000000000000), .lit (.int .u64 10000000000000000000)]

/-- 'tessellaw2.ZintKnown': WHATEVER THE INPUT: true; the input reads as it did. -/
def zintKnownSpec : ChangeSpec := { name := "zintKnown", fn := fun _ => fun
  | [] => { results := [.lit (.bool true)], args := [] }
  | _ => none }
def zintKnownRow : OpenClaim := { program := "ytabmffenbkdgkaadoor", sum := "bfac72ccc2b5d27fa2c1fecb3ac772931f7cc0997db1130670b5f213933d2fbf", func := "tessel/tessellaw2.ZintKnown", spec := "zintKnown", named := ["internal/strconv.uint64pow10", "math/bits.deBruijn32tab", "math/bits.deBruijn64tab"], apart := false, laid := [("math/bits.deBruijn32tab", laid_math_bits_deBruijn32tab), ("math/bits.deBruijn64tab", laid_math_bits_deBruijn64tab), ("internal/strconv.uint64pow10", laid_internal_strconv_uint64pow10)] }
def ZintKnownSaid : Prop := zintKnownRow.holds Tryd.pinned (OpenSpec.ofChange zintKnownSpec)

/-- ITS FALSE NEIGHBOUR: 'it returns false'. Refute it at one input. -/
def zintKnownWrong : ChangeSpec := { name := "zintKnown", fn := fun _ => fun
  | [] => { results := [.lit (.bool false)], args := [] }
  | _ => none }
def ZintKnownWrongFalsely : Prop := zintKnownRow.holds Tryd.pinned (OpenSpec.ofChange zintKnownWrong)

/-- 'tessellaw2.ZintSmall': WHATEVER THE INPUT: true; the input reads as it did. -/
def zintSmallSpec : ChangeSpec := { name := "zintSmall", fn := fun _ => fun
  | [d1, d2] => { results := [.lit (.bool true)], args := [d1, d2] }
  | _ => none }
def zintSmallRow : OpenClaim := { program := "ytabmffenbkdgkaadoor", sum := "bfac72ccc2b5d27fa2c1fecb3ac772931f7cc0997db1130670b5f213933d2fbf", func := "tessel/tessellaw2.ZintSmall", spec := "zintSmall", named := ["internal/strconv.uint64pow10", "math/bits.deBruijn32tab", "math/bits.deBruijn64tab"], apart := false, laid := [("math/bits.deBruijn32tab", laid_math_bits_deBruijn32tab), ("math/bits.deBruijn64tab", laid_math_bits_deBruijn64tab), ("internal/strconv.uint64pow10", laid_internal_strconv_uint64pow10)] }
def ZintSmallSaid : Prop := zintSmallRow.holds Tryd.pinned (OpenSpec.ofChange zintSmallSpec)

/-- ITS FALSE NEIGHBOUR: 'it returns false'. Refute it at one input. -/
def zintSmallWrong : ChangeSpec := { name := "zintSmall", fn := fun _ => fun
  | [d1, d2] => { results := [.lit (.bool false)], args := [d1, d2] }
  | _ => none }
def ZintSmallWrongFalsely : Prop := zintSmallRow.holds Tryd.pinned (OpenSpec.ofChange zintSmallWrong)

/-- 'tessellaw2.ZintSums': WHATEVER THE INPUT: true; the input reads as it did. -/
def zintSumsSpec : ChangeSpec := { name := "zintSums", fn := fun _ => fun
  | [d1, d2] => { results := [.lit (.bool true)], args := [d1, d2] }
  | _ => none }
def zintSumsRow : OpenClaim := { program := "ytabmffenbkdgkaadoor", sum := "bfac72ccc2b5d27fa2c1fecb3ac772931f7cc0997db1130670b5f213933d2fbf", func := "tessel/tessellaw2.ZintSums", spec := "zintSums", named := ["internal/strconv.uint64pow10", "math/bits.deBruijn32tab", "math/bits.deBruijn64tab"], apart := false, laid := [("math/bits.deBruijn32tab", laid_math_bits_deBruijn32tab), ("math/bits.deBruijn64tab", laid_math_bits_deBruijn64tab), ("internal/strconv.uint64pow10", laid_internal_strconv_uint64pow10)] }
def ZintSumsSaid : Prop := zintSumsRow.holds Tryd.pinned (OpenSpec.ofChange zintSumsSpec)

/-- ITS FALSE NEIGHBOUR: 'it returns false'. Refute it at one input. -/
def zintSumsWrong : ChangeSpec := { name := "zintSums", fn := fun _ => fun
  | [d1, d2] => { results := [.lit (.bool false)], args := [d1, d2] }
  | _ => none }
def ZintSumsWrongFalsely : Prop := zintSumsRow.holds Tryd.pinned (OpenSpec.ofChange zintSumsWrong)

/-- 'tessellaw2.ZintDivides': WHATEVER THE INPUT: true; the input reads as it did. -/
def zintDividesSpec : ChangeSpec := { name := "zintDivides", fn := fun _ => fun
  | [d1, d2] => { results := [.lit (.bool true)], args := [d1, d2] }
  | _ => none }
def zintDividesRow : OpenClaim := { program := "ytabmffenbkdgkaadoor", sum := "bfac72ccc2b5d27fa2c1fecb3ac772931f7cc0997db1130670b5f213933d2fbf", func := "tessel/tessellaw2.ZintDivides", spec := "zintDivides", named := ["internal/strconv.uint64pow10", "math/bits.deBruijn32tab", "math/bits.deBruijn64tab"], apart := false, laid := [("math/bits.deBruijn32tab", laid_math_bits_deBruijn32tab), ("math/bits.deBruijn64tab", laid_math_bits_deBruijn64tab), ("internal/strconv.uint64pow10", laid_internal_strconv_uint64pow10)] }
def ZintDividesSaid : Prop := zintDividesRow.holds Tryd.pinned (OpenSpec.ofChange zintDividesSpec)

/-- ITS FALSE NEIGHBOUR: 'it returns false'. Refute it at one input. -/
def zintDividesWrong : ChangeSpec := { name := "zintDivides", fn := fun _ => fun
  | [d1, d2] => { results := [.lit (.bool false)], args := [d1, d2] }
  | _ => none }
def ZintDividesWrongFalsely : Prop := zintDividesRow.holds Tryd.pinned (OpenSpec.ofChange zintDividesWrong)

/-- 'tessellaw2.ZintGcds': WHATEVER THE INPUT: true; the input reads as it did. -/
def zintGcdsSpec : ChangeSpec := { name := "zintGcds", fn := fun _ => fun
  | [d1, d2] => { results := [.lit (.bool true)], args := [d1, d2] }
  | _ => none }
def zintGcdsRow : OpenClaim := { program := "ytabmffenbkdgkaadoor", sum := "bfac72ccc2b5d27fa2c1fecb3ac772931f7cc0997db1130670b5f213933d2fbf", func := "tessel/tessellaw2.ZintGcds", spec := "zintGcds", named := ["internal/strconv.uint64pow10", "math/bits.deBruijn32tab", "math/bits.deBruijn64tab"], apart := false, laid := [("math/bits.deBruijn32tab", laid_math_bits_deBruijn32tab), ("math/bits.deBruijn64tab", laid_math_bits_deBruijn64tab), ("internal/strconv.uint64pow10", laid_internal_strconv_uint64pow10)] }
def ZintGcdsSaid : Prop := zintGcdsRow.holds Tryd.pinned (OpenSpec.ofChange zintGcdsSpec)

/-- ITS FALSE NEIGHBOUR: 'it returns false'. Refute it at one input. -/
def zintGcdsWrong : ChangeSpec := { name := "zintGcds", fn := fun _ => fun
  | [d1, d2] => { results := [.lit (.bool false)], args := [d1, d2] }
  | _ => none }
def ZintGcdsWrongFalsely : Prop := zintGcdsRow.holds Tryd.pinned (OpenSpec.ofChange zintGcdsWrong)

/-- 'tessellaw2.ZintInverses': WHATEVER THE INPUT: true; the input reads as it did. -/
def zintInversesSpec : ChangeSpec := { name := "zintInverses", fn := fun _ => fun
  | [d1, d2] => { results := [.lit (.bool true)], args := [d1, d2] }
  | _ => none }
def zintInversesRow : OpenClaim := { program := "ytabmffenbkdgkaadoor", sum := "bfac72ccc2b5d27fa2c1fecb3ac772931f7cc0997db1130670b5f213933d2fbf", func := "tessel/tessellaw2.ZintInverses", spec := "zintInverses", named := ["internal/strconv.uint64pow10", "math/bits.deBruijn32tab", "math/bits.deBruijn64tab"], apart := false, laid := [("math/bits.deBruijn32tab", laid_math_bits_deBruijn32tab), ("math/bits.deBruijn64tab", laid_math_bits_deBruijn64tab), ("internal/strconv.uint64pow10", laid_internal_strconv_uint64pow10)] }
def ZintInversesSaid : Prop := zintInversesRow.holds Tryd.pinned (OpenSpec.ofChange zintInversesSpec)

/-- ITS FALSE NEIGHBOUR: 'it returns false'. Refute it at one input. -/
def zintInversesWrong : ChangeSpec := { name := "zintInverses", fn := fun _ => fun
  | [d1, d2] => { results := [.lit (.bool false)], args := [d1, d2] }
  | _ => none }
def ZintInversesWrongFalsely : Prop := zintInversesRow.holds Tryd.pinned (OpenSpec.ofChange zintInversesWrong)

/-- 'tessellaw2.ZintTexts': WHATEVER THE INPUT: true; the input reads as it did. -/
def zintTextsSpec : ChangeSpec := { name := "zintTexts", fn := fun _ => fun
  | [d1, d2] => { results := [.lit (.bool true)], args := [d1, d2] }
  | _ => none }
def zintTextsRow : OpenClaim := { program := "ytabmffenbkdgkaadoor", sum := "bfac72ccc2b5d27fa2c1fecb3ac772931f7cc0997db1130670b5f213933d2fbf", func := "tessel/tessellaw2.ZintTexts", spec := "zintTexts", named := ["internal/strconv.uint64pow10", "math/bits.deBruijn32tab", "math/bits.deBruijn64tab"], apart := false, laid := [("math/bits.deBruijn32tab", laid_math_bits_deBruijn32tab), ("math/bits.deBruijn64tab", laid_math_bits_deBruijn64tab), ("internal/strconv.uint64pow10", laid_internal_strconv_uint64pow10)] }
def ZintTextsSaid : Prop := zintTextsRow.holds Tryd.pinned (OpenSpec.ofChange zintTextsSpec)

/-- ITS FALSE NEIGHBOUR: 'it returns false'. Refute it at one input. -/
def zintTextsWrong : ChangeSpec := { name := "zintTexts", fn := fun _ => fun
  | [d1, d2] => { results := [.lit (.bool false)], args := [d1, d2] }
  | _ => none }
def ZintTextsWrongFalsely : Prop := zintTextsRow.holds Tryd.pinned (OpenSpec.ofChange zintTextsWrong)

/-- 'tessellaw2.ZintRing': WHATEVER THE INPUT: true; the input reads as it did. -/
def zintRingSpec : ChangeSpec := { name := "zintRing", fn := fun _ => fun
  | [d1, d2, d3] => { results := [.lit (.bool true)], args := [d1, d2, d3] }
  | _ => none }
def zintRingRow : OpenClaim := { program := "ytabmffenbkdgkaadoor", sum := "bfac72ccc2b5d27fa2c1fecb3ac772931f7cc0997db1130670b5f213933d2fbf", func := "tessel/tessellaw2.ZintRing", spec := "zintRing", named := ["internal/strconv.uint64pow10", "math/bits.deBruijn32tab", "math/bits.deBruijn64tab"], apart := false, laid := [("math/bits.deBruijn32tab", laid_math_bits_deBruijn32tab), ("math/bits.deBruijn64tab", laid_math_bits_deBruijn64tab), ("internal/strconv.uint64pow10", laid_internal_strconv_uint64pow10)] }
def ZintRingSaid : Prop := zintRingRow.holds Tryd.pinned (OpenSpec.ofChange zintRingSpec)

/-- ITS FALSE NEIGHBOUR: 'it returns false'. Refute it at one input. -/
def zintRingWrong : ChangeSpec := { name := "zintRing", fn := fun _ => fun
  | [d1, d2, d3] => { results := [.lit (.bool false)], args := [d1, d2, d3] }
  | _ => none }
def ZintRingWrongFalsely : Prop := zintRingRow.holds Tryd.pinned (OpenSpec.ofChange zintRingWrong)

/-- 'tessellaw2.ZintRests': WHATEVER THE INPUT: true; the input reads as it did. -/
def zintRestsSpec : ChangeSpec := { name := "zintRests", fn := fun _ => fun
  | [d1, d2] => { results := [.lit (.bool true)], args := [d1, d2] }
  | _ => none }
def zintRestsRow : OpenClaim := { program := "ytabmffenbkdgkaadoor", sum := "bfac72ccc2b5d27fa2c1fecb3ac772931f7cc0997db1130670b5f213933d2fbf", func := "tessel/tessellaw2.ZintRests", spec := "zintRests", named := ["internal/strconv.uint64pow10", "math/bits.deBruijn32tab", "math/bits.deBruijn64tab"], apart := false, laid := [("math/bits.deBruijn32tab", laid_math_bits_deBruijn32tab), ("math/bits.deBruijn64tab", laid_math_bits_deBruijn64tab), ("internal/strconv.uint64pow10", laid_internal_strconv_uint64pow10)] }
def ZintRestsSaid : Prop := zintRestsRow.holds Tryd.pinned (OpenSpec.ofChange zintRestsSpec)

/-- ITS FALSE NEIGHBOUR: 'it returns false'. Refute it at one input. -/
def zintRestsWrong : ChangeSpec := { name := "zintRests", fn := fun _ => fun
  | [d1, d2] => { results := [.lit (.bool false)], args := [d1, d2] }
  | _ => none }
def ZintRestsWrongFalsely : Prop := zintRestsRow.holds Tryd.pinned (OpenSpec.ofChange zintRestsWrong)

/-- 'tessellaw2.ZintBezout': WHATEVER THE INPUT: true; the input reads as it did. -/
def zintBezoutSpec : ChangeSpec := { name := "zintBezout", fn := fun _ => fun
  | [d1, d2] => { results := [.lit (.bool true)], args := [d1, d2] }
  | _ => none }
def zintBezoutRow : OpenClaim := { program := "ytabmffenbkdgkaadoor", sum := "bfac72ccc2b5d27fa2c1fecb3ac772931f7cc0997db1130670b5f213933d2fbf", func := "tessel/tessellaw2.ZintBezout", spec := "zintBezout", named := ["internal/strconv.uint64pow10", "math/bits.deBruijn32tab", "math/bits.deBruijn64tab"], apart := false, laid := [("math/bits.deBruijn32tab", laid_math_bits_deBruijn32tab), ("math/bits.deBruijn64tab", laid_math_bits_deBruijn64tab), ("internal/strconv.uint64pow10", laid_internal_strconv_uint64pow10)] }
def ZintBezoutSaid : Prop := zintBezoutRow.holds Tryd.pinned (OpenSpec.ofChange zintBezoutSpec)

/-- ITS FALSE NEIGHBOUR: 'it returns false'. Refute it at one input. -/
def zintBezoutWrong : ChangeSpec := { name := "zintBezout", fn := fun _ => fun
  | [d1, d2] => { results := [.lit (.bool false)], args := [d1, d2] }
  | _ => none }
def ZintBezoutWrongFalsely : Prop := zintBezoutRow.holds Tryd.pinned (OpenSpec.ofChange zintBezoutWrong)

/-- 'tessellaw2.ZintKept': WHATEVER THE INPUT: true; the input reads as it did. -/
def zintKeptSpec : ChangeSpec := { name := "zintKept", fn := fun _ => fun
  | [d1, d2] => { results := [.lit (.bool true)], args := [d1, d2] }
  | _ => none }
def zintKeptRow : OpenClaim := { program := "ytabmffenbkdgkaadoor", sum := "bfac72ccc2b5d27fa2c1fecb3ac772931f7cc0997db1130670b5f213933d2fbf", func := "tessel/tessellaw2.ZintKept", spec := "zintKept", named := ["internal/strconv.uint64pow10", "math/bits.deBruijn32tab", "math/bits.deBruijn64tab"], apart := false, laid := [("math/bits.deBruijn32tab", laid_math_bits_deBruijn32tab), ("math/bits.deBruijn64tab", laid_math_bits_deBruijn64tab), ("internal/strconv.uint64pow10", laid_internal_strconv_uint64pow10)] }
def ZintKeptSaid : Prop := zintKeptRow.holds Tryd.pinned (OpenSpec.ofChange zintKeptSpec)

/-- ITS FALSE NEIGHBOUR: 'it returns false'. Refute it at one input. -/
def zintKeptWrong : ChangeSpec := { name := "zintKept", fn := fun _ => fun
  | [d1, d2] => { results := [.lit (.bool false)], args := [d1, d2] }
  | _ => none }
def ZintKeptWrongFalsely : Prop := zintKeptRow.holds Tryd.pinned (OpenSpec.ofChange zintKeptWrong)

/- THE SECOND FORM. 'bulk': how many values and letters a reading holds, each counted each time it is reached (what is shared counts as often as it is met; a slice's spare places count too). A statement '..UptoSaid' is the law's where the arguments, and the package variables that the reading takes, are together of bulk at most 1048576: NARROWER than '..Said'. Prove '..Said' where nothing that the law and all that it calls make is longer than what came in: it says more and counts as full. Else prove '..UptoSaid'. A law counts once. -/
mutual
def uptoBulk {H : Type} : DataW H → Nat
  | .lit (.string bytes) => bytes.length + 1
  | .lit _ => 1
  | .nil => 1
  | .ptr d => uptoBulk d + 1
  | .slice elems spare => uptoBulkAll elems + uptoBulkAll spare + 1
  | .agg parts => uptoBulkAll parts + 1
  | .iface _ d => uptoBulk d + 1
  | .map entries => uptoBulkEntries entries + 1
  | .held _ => 1
def uptoBulkAll {H : Type} : List (DataW H) → Nat
  | [] => 0
  | d :: r => uptoBulk d + uptoBulkAll r
def uptoBulkEntries {H : Type} : List (Lit × DataW H) → Nat
  | [] => 0
  | x :: r => uptoBulkEntry x + uptoBulkEntries r
def uptoBulkEntry {H : Type} : Lit × DataW H → Nat
  | (.string bytes, d) => bytes.length + uptoBulk d + 1
  | (_, d) => uptoBulk d + 1
 end
def uptoSmall : (H : Type) → List (DataW H) → Bool := fun _ ds => decide (uptoBulkAll ds ≤ 1048576)
def OpenSpec.upto (s : _root_.Go.ChangeSpec) : _root_.Go.OpenSpec := { _root_.Go.OpenSpec.ofChange s with cond := some uptoSmall }

/-- 'tessellaw2.ZintKnown', WHERE WHAT IT READS IS OF BULK AT MOST 1048576: true; the input reads as it did. -/
def zintKnownUptoRow : OpenClaim := { program := "ytabmffenbkdgkaadoor", sum := "bfac72ccc2b5d27fa2c1fecb3ac772931f7cc0997db1130670b5f213933d2fbf", func := "tessel/tessellaw2.ZintKnown", spec := "zintKnown", named := ["internal/strconv.uint64pow10", "math/bits.deBruijn32tab", "math/bits.deBruijn64tab"], apart := false, laid := [("math/bits.deBruijn32tab", laid_math_bits_deBruijn32tab), ("math/bits.deBruijn64tab", laid_math_bits_deBruijn64tab), ("internal/strconv.uint64pow10", laid_internal_strconv_uint64pow10)], narrowed := true }
def ZintKnownUptoSaid : Prop := zintKnownUptoRow.holds Tryd.pinned (OpenSpec.upto zintKnownSpec)

/-- 'tessellaw2.ZintSmall', WHERE WHAT IT READS IS OF BULK AT MOST 1048576: true; the input reads as it did. -/
def zintSmallUptoRow : OpenClaim := { program := "ytabmffenbkdgkaadoor", sum := "bfac72ccc2b5d27fa2c1fecb3ac772931f7cc0997db1130670b5f213933d2fbf", func := "tessel/tessellaw2.ZintSmall", spec := "zintSmall", named := ["internal/strconv.uint64pow10", "math/bits.deBruijn32tab", "math/bits.deBruijn64tab"], apart := false, laid := [("math/bits.deBruijn32tab", laid_math_bits_deBruijn32tab), ("math/bits.deBruijn64tab", laid_math_bits_deBruijn64tab), ("internal/strconv.uint64pow10", laid_internal_strconv_uint64pow10)], narrowed := true }
def ZintSmallUptoSaid : Prop := zintSmallUptoRow.holds Tryd.pinned (OpenSpec.upto zintSmallSpec)

/-- 'tessellaw2.ZintSums', WHERE WHAT IT READS IS OF BULK AT MOST 1048576: true; the input reads as it did. -/
def zintSumsUptoRow : OpenClaim := { program := "ytabmffenbkdgkaadoor", sum := "bfac72ccc2b5d27fa2c1fecb3ac772931f7cc0997db1130670b5f213933d2fbf", func := "tessel/tessellaw2.ZintSums", spec := "zintSums", named := ["internal/strconv.uint64pow10", "math/bits.deBruijn32tab", "math/bits.deBruijn64tab"], apart := false, laid := [("math/bits.deBruijn32tab", laid_math_bits_deBruijn32tab), ("math/bits.deBruijn64tab", laid_math_bits_deBruijn64tab), ("internal/strconv.uint64pow10", laid_internal_strconv_uint64pow10)], narrowed := true }
def ZintSumsUptoSaid : Prop := zintSumsUptoRow.holds Tryd.pinned (OpenSpec.upto zintSumsSpec)

/-- 'tessellaw2.ZintDivides', WHERE WHAT IT READS IS OF BULK AT MOST 1048576: true; the input reads as it did. -/
def zintDividesUptoRow : OpenClaim := { program := "ytabmffenbkdgkaadoor", sum := "bfac72ccc2b5d27fa2c1fecb3ac772931f7cc0997db1130670b5f213933d2fbf", func := "tessel/tessellaw2.ZintDivides", spec := "zintDivides", named := ["internal/strconv.uint64pow10", "math/bits.deBruijn32tab", "math/bits.deBruijn64tab"], apart := false, laid := [("math/bits.deBruijn32tab", laid_math_bits_deBruijn32tab), ("math/bits.deBruijn64tab", laid_math_bits_deBruijn64tab), ("internal/strconv.uint64pow10", laid_internal_strconv_uint64pow10)], narrowed := true }
def ZintDividesUptoSaid : Prop := zintDividesUptoRow.holds Tryd.pinned (OpenSpec.upto zintDividesSpec)

/-- 'tessellaw2.ZintGcds', WHERE WHAT IT READS IS OF BULK AT MOST 1048576: true; the input reads as it did. -/
def zintGcdsUptoRow : OpenClaim := { program := "ytabmffenbkdgkaadoor", sum := "bfac72ccc2b5d27fa2c1fecb3ac772931f7cc0997db1130670b5f213933d2fbf", func := "tessel/tessellaw2.ZintGcds", spec := "zintGcds", named := ["internal/strconv.uint64pow10", "math/bits.deBruijn32tab", "math/bits.deBruijn64tab"], apart := false, laid := [("math/bits.deBruijn32tab", laid_math_bits_deBruijn32tab), ("math/bits.deBruijn64tab", laid_math_bits_deBruijn64tab), ("internal/strconv.uint64pow10", laid_internal_strconv_uint64pow10)], narrowed := true }
def ZintGcdsUptoSaid : Prop := zintGcdsUptoRow.holds Tryd.pinned (OpenSpec.upto zintGcdsSpec)

/-- 'tessellaw2.ZintInverses', WHERE WHAT IT READS IS OF BULK AT MOST 1048576: true; the input reads as it did. -/
def zintInversesUptoRow : OpenClaim := { program := "ytabmffenbkdgkaadoor", sum := "bfac72ccc2b5d27fa2c1fecb3ac772931f7cc0997db1130670b5f213933d2fbf", func := "tessel/tessellaw2.ZintInverses", spec := "zintInverses", named := ["internal/strconv.uint64pow10", "math/bits.deBruijn32tab", "math/bits.deBruijn64tab"], apart := false, laid := [("math/bits.deBruijn32tab", laid_math_bits_deBruijn32tab), ("math/bits.deBruijn64tab", laid_math_bits_deBruijn64tab), ("internal/strconv.uint64pow10", laid_internal_strconv_uint64pow10)], narrowed := true }
def ZintInversesUptoSaid : Prop := zintInversesUptoRow.holds Tryd.pinned (OpenSpec.upto zintInversesSpec)

/-- 'tessellaw2.ZintTexts', WHERE WHAT IT READS IS OF BULK AT MOST 1048576: true; the input reads as it did. -/
def zintTextsUptoRow : OpenClaim := { program := "ytabmffenbkdgkaadoor", sum := "bfac72ccc2b5d27fa2c1fecb3ac772931f7cc0997db1130670b5f213933d2fbf", func := "tessel/tessellaw2.ZintTexts", spec := "zintTexts", named := ["internal/strconv.uint64pow10", "math/bits.deBruijn32tab", "math/bits.deBruijn64tab"], apart := false, laid := [("math/bits.deBruijn32tab", laid_math_bits_deBruijn32tab), ("math/bits.deBruijn64tab", laid_math_bits_deBruijn64tab), ("internal/strconv.uint64pow10", laid_internal_strconv_uint64pow10)], narrowed := true }
def ZintTextsUptoSaid : Prop := zintTextsUptoRow.holds Tryd.pinned (OpenSpec.upto zintTextsSpec)

/-- 'tessellaw2.ZintRing', WHERE WHAT IT READS IS OF BULK AT MOST 1048576: true; the input reads as it did. -/
def zintRingUptoRow : OpenClaim := { program := "ytabmffenbkdgkaadoor", sum := "bfac72ccc2b5d27fa2c1fecb3ac772931f7cc0997db1130670b5f213933d2fbf", func := "tessel/tessellaw2.ZintRing", spec := "zintRing", named := ["internal/strconv.uint64pow10", "math/bits.deBruijn32tab", "math/bits.deBruijn64tab"], apart := false, laid := [("math/bits.deBruijn32tab", laid_math_bits_deBruijn32tab), ("math/bits.deBruijn64tab", laid_math_bits_deBruijn64tab), ("internal/strconv.uint64pow10", laid_internal_strconv_uint64pow10)], narrowed := true }
def ZintRingUptoSaid : Prop := zintRingUptoRow.holds Tryd.pinned (OpenSpec.upto zintRingSpec)

/-- 'tessellaw2.ZintRests', WHERE WHAT IT READS IS OF BULK AT MOST 1048576: true; the input reads as it did. -/
def zintRestsUptoRow : OpenClaim := { program := "ytabmffenbkdgkaadoor", sum := "bfac72ccc2b5d27fa2c1fecb3ac772931f7cc0997db1130670b5f213933d2fbf", func := "tessel/tessellaw2.ZintRests", spec := "zintRests", named := ["internal/strconv.uint64pow10", "math/bits.deBruijn32tab", "math/bits.deBruijn64tab"], apart := false, laid := [("math/bits.deBruijn32tab", laid_math_bits_deBruijn32tab), ("math/bits.deBruijn64tab", laid_math_bits_deBruijn64tab), ("internal/strconv.uint64pow10", laid_internal_strconv_uint64pow10)], narrowed := true }
def ZintRestsUptoSaid : Prop := zintRestsUptoRow.holds Tryd.pinned (OpenSpec.upto zintRestsSpec)

/-- 'tessellaw2.ZintBezout', WHERE WHAT IT READS IS OF BULK AT MOST 1048576: true; the input reads as it did. -/
def zintBezoutUptoRow : OpenClaim := { program := "ytabmffenbkdgkaadoor", sum := "bfac72ccc2b5d27fa2c1fecb3ac772931f7cc0997db1130670b5f213933d2fbf", func := "tessel/tessellaw2.ZintBezout", spec := "zintBezout", named := ["internal/strconv.uint64pow10", "math/bits.deBruijn32tab", "math/bits.deBruijn64tab"], apart := false, laid := [("math/bits.deBruijn32tab", laid_math_bits_deBruijn32tab), ("math/bits.deBruijn64tab", laid_math_bits_deBruijn64tab), ("internal/strconv.uint64pow10", laid_internal_strconv_uint64pow10)], narrowed := true }
def ZintBezoutUptoSaid : Prop := zintBezoutUptoRow.holds Tryd.pinned (OpenSpec.upto zintBezoutSpec)

/-- 'tessellaw2.ZintKept', WHERE WHAT IT READS IS OF BULK AT MOST 1048576: true; the input reads as it did. -/
def zintKeptUptoRow : OpenClaim := { program := "ytabmffenbkdgkaadoor", sum := "bfac72ccc2b5d27fa2c1fecb3ac772931f7cc0997db1130670b5f213933d2fbf", func := "tessel/tessellaw2.ZintKept", spec := "zintKept", named := ["internal/strconv.uint64pow10", "math/bits.deBruijn32tab", "math/bits.deBruijn64tab"], apart := false, laid := [("math/bits.deBruijn32tab", laid_math_bits_deBruijn32tab), ("math/bits.deBruijn64tab", laid_math_bits_deBruijn64tab), ("internal/strconv.uint64pow10", laid_internal_strconv_uint64pow10)], narrowed := true }
def ZintKeptUptoSaid : Prop := zintKeptUptoRow.holds Tryd.pinned (OpenSpec.upto zintKeptSpec)

end Rows
end Go.Proofs.YtabmffenbkdgkaaDoor
