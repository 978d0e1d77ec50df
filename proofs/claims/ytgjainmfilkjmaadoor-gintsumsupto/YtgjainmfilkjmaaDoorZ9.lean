/- zint.Gcd, factorOfFirst. -/
import Derived.Test.YtgjainmfilkjmaaDoorZ8
import Derived.Deep.LoopGhost
namespace Go.Proofs.YtgjainmfilkjmaaDoor
open Go.RowKit Dig
/-- How far the search has come: G and k are left; X and Y tell how often a is in them, but for multiples of b. -/
structure FF (x y G k X Y : Int) : Prop where
  k0 : 0 ≤ k
  kG : k < G
  Gy : G ≤ y
  gcd : Int.gcd G k = Int.gcd x y
  d1 : y ∣ G - x * X
  d2 : y ∣ k - x * Y
  s : ∃ a b : Int, 0 ≤ a ∧ 0 ≤ b ∧ a ≤ y ∧ b ≤ y ∧ a * k + b * G = y ∧ ((X = -a ∧ Y = b) ∨ (X = a ∧ Y = -b))
theorem FF.bd {x y G k X Y : Int} (h : FF x y G k X Y) : X.natAbs ≤ y.natAbs ∧ Y.natAbs ≤ y.natAbs ∧ G.natAbs ≤ y.natAbs ∧ k.natAbs ≤ y.natAbs := by
  obtain ⟨k0, kG, Gy, hg, d1, d2, a, b, ha, hb, hay, hby, hs, hXY⟩ := h
  rcases hXY with ⟨rfl, rfl⟩ | ⟨rfl, rfl⟩ <;> omega
theorem zo_zero (w : World) (B : Nat) : ZO w B (.agg #[.bool false, .slice none 0 0]) 0 := ⟨_, rfl, by rw [show dig (Int.natAbs 0) = [] from dig_eq_nil.2 rfl]; exact Own.nil w B none⟩
end Go.Proofs.YtgjainmfilkjmaaDoor

