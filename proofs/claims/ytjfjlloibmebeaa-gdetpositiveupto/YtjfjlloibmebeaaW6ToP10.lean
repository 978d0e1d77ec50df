/- nat.takeGroup divides a row of digits by 10^9 in place and answers the rest. -/
import Derived.Test.YtjfjlloibmebeaaSlToW5
import Derived.Test.YtjfjlloibmebeaaRows

namespace Go.Proofs.Ytjfjlloibmebeaa
open Go.RowKit Dig

theorem or_hi (r y : Nat) (hr : r < 4294967296) (hy : y < 4294967296) : bits .or .u64 ((r : Int) * 4294967296) (y : Int) = (r : Int) * 4294967296 + (y : Int) := by
  have h := u64_or_nat (r * 4294967296) y (by omega) (by omega)
  have e : r * 4294967296 ||| y = r * 4294967296 + y := by
    have := Nat.shiftLeft_add_eq_or_of_lt (b := y) (i := 32) (by omega) r
    rw [Nat.shiftLeft_eq] at this
    exact this.symm
  rw [e] at h
  simpa using h
end Go.Proofs.Ytjfjlloibmebeaa


/- The name of the library's table, taken off the given row. -/
namespace Go.Proofs.Ytjfjlloibmebeaa
end Go.Proofs.Ytjfjlloibmebeaa

