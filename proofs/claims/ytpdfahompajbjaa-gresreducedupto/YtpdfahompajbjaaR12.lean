/- The reference's Text answers the decimal digits. -/
import Derived.Maps.AppendAt
import Derived.Test.YtpdfahompajbjaaW8
import Derived.Test.YtpdfahompajbjaaR9
namespace Go.Proofs.Ytpdfahompajbjaa
open Go.RowKit Dig Go.Lib
theorem dig_pos {g : Nat} (hg : 0 < g) : 0 < (dig g).length := by
  rcases Nat.eq_zero_or_pos (dig g).length with h | h
  · have e := List.length_eq_zero_iff.1 h
    have := val_dig g; rw [e] at this; simp [val] at this; omega
  · exact h
end Go.Proofs.Ytpdfahompajbjaa
