/- zint's reference: Sub, Sign. -/
import Derived.Test.YtjfjlloibmebeaaGreatY3
namespace Go.Proofs.YtjfjlloibmebeaaGreat
open Go.RowKit Dig

theorem ZN.len {w : World} {v : Value} {z : Int} {l : Nat} (h : ZN w v z l) : (dig z.natAbs).length ≤ l := by
  obtain ⟨neg, s, xs, rfl, hr, hz, hl⟩ := h
  rw [← hz, zv_abs]
  exact Nat.le_trans (dig_length_le (val_lt hr.ok)) hl
end Go.Proofs.YtjfjlloibmebeaaGreat

