/- frac.Pow and the reference's. -/
import Derived.Test.YtkgbfnmlpajblaaGreatDoorQ14ToR20

namespace Go.Proofs.YtkgbfnmlpajblaaGreatDoor
open Go Go.RowKit Dig
set_option linter.unusedVariables false

section
variable {w : World} {va vb : Value} {x y u v : Int} {l m k n : Nat}
end
end Go.Proofs.YtkgbfnmlpajblaaGreatDoor

/- The reference's Pow. -/
namespace Go.Proofs.YtkgbfnmlpajblaaGreatDoor
open Go Go.RowKit Dig
set_option linter.unusedVariables false

theorem ZC.neg {w : World} {n : Bool} {s : Value} {z : Int} (h : ZC w (.agg #[.bool n, s]) z) : n = decide (z < 0) := by
  obtain ⟨t, hv, _⟩ := h
  simp at hv
  exact hv.1
end Go.Proofs.YtkgbfnmlpajblaaGreatDoor

/- The reference's Pow: Q12A. -/
namespace Go.Proofs.YtkgbfnmlpajblaaGreatDoor
open Go Go.RowKit Dig
set_option linter.unusedVariables false
section
variable {w : World} {va vb : Value} {x y u v : Int} {l m k n : Nat}
end
end Go.Proofs.YtkgbfnmlpajblaaGreatDoor

