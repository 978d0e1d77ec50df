/- The reference's Shl and Shr answer the canonical digits of a number shifted. -/
import Derived.Test.YthlhekkcjficdaaR2aToR6
import Derived.Test.YthlhekkcjficdaaMx
namespace Go.Proofs.Ythlhekkcjficdaa
open Go.RowKit Dig

theorem or_mid (x0 x1 t : Nat) (h0 : x0 < 4294967296) (h1 : x1 < 4294967296) (ht : x1 * 4294967296 + x0 = t) : bits .or .u64 (x0 : Int) ((x1 : Int) * 4294967296) = (t : Int) := by
  have h := u64_or_nat x0 (x1 * 4294967296) (by omega) (by omega)
  have e : x0 ||| x1 * 4294967296 = x1 * 4294967296 + x0 := by
    have := Nat.shiftLeft_add_eq_or_of_lt (b := x0) (i := 32) (by omega) x1
    rw [Nat.shiftLeft_eq] at this
    rw [Nat.or_comm]; exact this.symm
  rw [e, ht] at h
  rw [← h]; simp
end Go.Proofs.Ythlhekkcjficdaa

