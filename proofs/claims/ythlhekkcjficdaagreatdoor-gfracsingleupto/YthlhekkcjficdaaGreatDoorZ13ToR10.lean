/- zint.Int. -/
import Derived.Test.YthlhekkcjficdaaGreatDoorZ8
import Derived.Test.YthlhekkcjficdaaGreatDoorR7
import Derived.Test.YthlhekkcjficdaaGreatDoorMx
import Derived.Test.YthlhekkcjficdaaGreatDoorR2aToR6
import Derived.Test.YthlhekkcjficdaaGreatDoorW8
import Derived.Test.YthlhekkcjficdaaGreatDoorR1
import Derived.Lib.Strings

namespace Go.Proofs.YthlhekkcjficdaaGreatDoor
open Go.RowKit Dig
end Go.Proofs.YthlhekkcjficdaaGreatDoor

/- nat.isDigits, groupValue and putGroup: what a text's digits are worth. -/
namespace Go.Proofs.YthlhekkcjficdaaGreatDoor
open Go.RowKit Dig
end Go.Proofs.YthlhekkcjficdaaGreatDoor

/- nat.Parse: the number of a text of digits, or the error. -/
namespace Go.Proofs.YthlhekkcjficdaaGreatDoor
open Go.RowKit Dig
theorem two_le_pw' {n m : Nat} (h : n ≤ 32 * m) : 2 ^ n ≤ pw m := by
 rw [pw_eq]; exact Nat.pow_le_pow_right (by decide) h
end Go.Proofs.YthlhekkcjficdaaGreatDoor

/- The reference's Digits and Parse: what a text's digits are worth. -/
namespace Go.Proofs.YthlhekkcjficdaaGreatDoor
open Go.RowKit Dig
end Go.Proofs.YthlhekkcjficdaaGreatDoor
