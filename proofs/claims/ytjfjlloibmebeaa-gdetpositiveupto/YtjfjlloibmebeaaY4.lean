/- zint's reference: Sub, Sign. -/
import Derived.Test.YtjfjlloibmebeaaY3
namespace Go.Proofs.Ytjfjlloibmebeaa
open Go.RowKit Dig

theorem ZW.open_ {w : World} {B : Nat} {v : Value} {z : Int} (h : ZW w B v z) :
    ∃ oa cap, v = .agg #[.bool (decide (z < 0)), .slice oa (dig z.natAbs).length cap] := by
  obtain ⟨s, rfl, ⟨oa, cap, rfl, _⟩, _⟩ := h
  exact ⟨oa, cap, rfl⟩
theorem ZW.zn {w : World} {B : Nat} {v : Value} {z : Int} (h : ZW w B v z) {l : Nat} (hl : (dig z.natAbs).length ≤ l) : ZN w v z l := h.rd.zn hl
theorem ZN.len {w : World} {v : Value} {z : Int} {l : Nat} (h : ZN w v z l) : (dig z.natAbs).length ≤ l := by
  obtain ⟨neg, s, xs, rfl, hr, hz, hl⟩ := h
  rw [← hz, zv_abs]
  exact Nat.le_trans (dig_length_le (val_lt hr.ok)) hl
end Go.Proofs.Ytjfjlloibmebeaa

