/- zint.Gcd, factorOfFirst. -/
import Derived.Test.YtjfjlloibmebeaaZ8
import Derived.Deep.LoopGhost
namespace Go.Proofs.Ytjfjlloibmebeaa
open Go.RowKit Dig
/-- How far the search has come: G and k are left; X and Y tell how often a is in them, but for multiples of b. -/
structure FF (x y G k X Y : Int) : Prop where
  k0 : 0 ≤ k
  kG : k < G
  Gy : G ≤ y
  gcd : Int.gcd G k = Int.gcd x y
  d1 : y ∣ G - x * X
  d2 : y ∣ k - x * Y
  s : ∃ a b : Int, 0 ≤ a ∧ 0 ≤ b ∧ a ≤ y ∧ b ≤ y ∧ a * k + b * G = y ∧ ((X = -a ∧ Y = b) ∨ (X = a ∧ Y = -b))
theorem FF.step {x y G k X Y : Int} (h : FF x y G k X Y) (hk : 0 < k) : FF x y k (G.fmod k) Y (X - G.fdiv k * Y) := by
  obtain ⟨k0, kG, Gy, hg, d1, d2, a, b, ha, hb, hay, hby, hs, hXY⟩ := h
  have hr := (fmod_bd (x := G) (y := k) (by omega)).1 hk
  have he := fmod_eq G k
  obtain ⟨q, hq⟩ : ∃ q, G.fdiv k = q := ⟨_, rfl⟩
  obtain ⟨r, hr2⟩ : ∃ r, G.fmod k = r := ⟨_, rfl⟩
  rw [hq, hr2] at he
  rw [hr2] at hr
  rw [hq, hr2]
  have hq0 : 0 ≤ q := by
    rcases Int.lt_or_le q 0 with h1 | h1
    · have := Int.mul_le_mul_of_nonneg_right (show q ≤ -1 by omega) (show 0 ≤ k by omega)
      omega
    · exact h1
  have e1 : b * r + (a + q * b) * k = y := by
    rw [← hs, he, Int.add_mul, Int.mul_add, Int.mul_right_comm q b k, Int.mul_comm b (q * k)]; omega
  refine ⟨hr.1, hr.2, by omega, ?_, d2, ?_, b, a + q * b, hb, ?_, hby, ?_, e1, ?_⟩
  · have h1 : r = G - q * k := by omega
    rw [← hg, h1, Int.gcd_sub_mul_right_right, Int.gcd_comm]
  · have h1 : r - x * (X - q * Y) = (G - x * X) - q * (k - x * Y) := by
      rw [he, Int.mul_sub, Int.mul_sub, Int.mul_left_comm x q Y]; omega
    rw [h1]
    exact Int.dvd_sub d1 (Int.dvd_mul_of_dvd_right d2)
  · exact Int.add_nonneg ha (Int.mul_nonneg hq0 hb)
  · have h1 : 0 ≤ b * r := Int.mul_nonneg hb hr.1
    have h2 : (a + q * b) * 1 ≤ (a + q * b) * k := Int.mul_le_mul_of_nonneg_left (by omega) (Int.add_nonneg ha (Int.mul_nonneg hq0 hb))
    omega
  · rcases hXY with ⟨rfl, rfl⟩ | ⟨rfl, rfl⟩
    · right; exact ⟨rfl, by omega⟩
    · left; exact ⟨rfl, by rw [Int.mul_neg]; omega⟩
theorem FF.bd {x y G k X Y : Int} (h : FF x y G k X Y) : X.natAbs ≤ y.natAbs ∧ Y.natAbs ≤ y.natAbs ∧ G.natAbs ≤ y.natAbs ∧ k.natAbs ≤ y.natAbs := by
  obtain ⟨k0, kG, Gy, hg, d1, d2, a, b, ha, hb, hay, hby, hs, hXY⟩ := h
  rcases hXY with ⟨rfl, rfl⟩ | ⟨rfl, rfl⟩ <;> omega
theorem zo_zero (w : World) (B : Nat) : ZO w B (.agg #[.bool false, .slice none 0 0]) 0 := ⟨_, rfl, by rw [show dig (Int.natAbs 0) = [] from dig_eq_nil.2 rfl]; exact Own.nil w B none⟩
end Go.Proofs.Ytjfjlloibmebeaa

