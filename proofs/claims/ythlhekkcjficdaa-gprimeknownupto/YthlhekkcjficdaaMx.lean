/- Plain mathematics of shifts, for nat's and the reference's. -/
import Derived.Test.YthlhekkcjficdaaSlToW5
import Derived.Test.YthlhekkcjficdaaW6ToP10
import Derived.Test.YthlhekkcjficdaaSxToD8
namespace Go.Proofs.Ythlhekkcjficdaa
open Go.RowKit Dig
theorem or_low (c x s t : Nat) (hs : s < 32) (hc : c < 2 ^ s) (hx : x < 4294967296) (ht : c + x * 2 ^ s = t) : bits .or .u64 (c : Int) (IntKind.u64.wrap ((x : Int) * 2 ^ s)) = (t : Int) := by
  have h1 : 2 ^ s ≤ 2 ^ 31 := Nat.pow_le_pow_right (by decide) (by omega)
  have h2 : x * 2 ^ s ≤ 4294967295 * 2 ^ 31 := Nat.mul_le_mul (by omega) h1
  have e : IntKind.u64.wrap ((x : Int) * 2 ^ s) = ((x * 2 ^ s : Nat) : Int) := by
    have e2 : (x : Int) * 2 ^ s = ((x * 2 ^ s : Nat) : Int) := by simp
    rw [e2, IntKind.wrap_u64]; omega
  have h := u64_or_nat c (x * 2 ^ s) (by omega) (by omega)
  rw [e, h, ← ht]
  congr 1
  have := Nat.shiftLeft_add_eq_or_of_lt hc x
  rw [Nat.shiftLeft_eq] at this
  rw [Nat.or_comm, ← this, Nat.add_comm]
end Go.Proofs.Ythlhekkcjficdaa

