/- The reference's Text answers the decimal digits. -/
import Derived.Maps.AppendAt
import Derived.Test.YthlhekkcjficdaaGreatDoorW8
import Derived.Test.YthlhekkcjficdaaGreatDoorR9
namespace Go.Proofs.YthlhekkcjficdaaGreatDoor
open Go.RowKit Dig Go.Lib
theorem pw_le_ten' (L : Nat) : pw L ≤ 10 ^ (10 * L) := by
 rw [pw_eq, Nat.pow_mul, Nat.pow_mul]
 exact Nat.pow_le_pow_left (by decide) L
theorem dec_len' {n L : Nat} (h : n < pw L) (hL : 0 < L) : (decDigits n).length ≤ 10 * L :=
 decDigits_length_le _ _ (by omega) (Nat.lt_of_lt_of_le h (pw_le_ten' L))
end Go.Proofs.YthlhekkcjficdaaGreatDoor
