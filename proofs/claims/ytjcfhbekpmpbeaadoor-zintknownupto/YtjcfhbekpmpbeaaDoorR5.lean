/- The reference's Sub and Cmp answer the canonical difference and the order. -/
import Derived.Test.YtjcfhbekpmpbeaaDoorR4
namespace Go.Proofs.YtjcfhbekpmpbeaaDoor
open Go.RowKit Dig

theorem rsub_fin {X Y us : List Nat} {c : Nat} (okX : OK X) (ok : OK us) (h : us.length = X.length) (hYX : val Y ≤ val X)
    (heq : val (seg us 0 X.length) + val (Y.take X.length) = val (seg X 0 X.length) + pw X.length * c) : strip us = dig (val X - val Y) := by
  have hY : val (Y.take X.length) = val Y := by
    by_cases hl : X.length ≤ Y.length
    · have h1 := val_split Y X.length hl
      have h2 := val_lt okX
      have hz : val (Y.drop X.length) = 0 := by
        rcases Nat.eq_zero_or_pos (val (Y.drop X.length)) with hz | hz
        · exact hz
        · have : pw X.length * 1 ≤ pw X.length * val (Y.drop X.length) := Nat.mul_le_mul_left _ hz
          omega
      rw [hz] at h1; omega
    · rw [List.take_of_length_le (by omega)]
  rw [hY] at heq
  refine sub_fin ok h hYX (c := c) ?_ okX
  omega

end Go.Proofs.YtjcfhbekpmpbeaaDoor
