/- zint's reference: Neg, Abs, Norm, Mul, Add. -/
import Derived.Test.YthlhekkcjficdaaZ5ToY1
import Derived.Test.YthlhekkcjficdaaR2aToR6
namespace Go.Proofs.Ythlhekkcjficdaa
open Go.RowKit Dig
theorem zmul_dig_length (xs ys : List Nat) (okx : OK xs) (oky : OK ys) : (dig (val xs * val ys)).length ≤ xs.length + ys.length := by
  apply dig_length_le
  rw [pw_add]
  exact Nat.mul_lt_mul'' (val_lt okx) (val_lt oky)
end Go.Proofs.Ythlhekkcjficdaa

