/- zint.Xgcd, Inverse. -/
import Derived.Test.YtkgbfnmlpajblaaGreatDoorZ9
namespace Go.Proofs.YtkgbfnmlpajblaaGreatDoor
open Go.RowKit Dig

/-- c is how often x is in the divisor of x and y, taken as small as it goes. -/
structure XG (x y c : Int) : Prop where
  lo : 0 ≤ c
  hi : c * (Int.gcd x y : Int) < y.natAbs
  dv : y ∣ (Int.gcd x y : Int) - x * c
theorem gcd_pos {x y : Int} (h0 : y ≠ 0) : 0 < (Int.gcd x y : Int) := by
  have : Int.gcd x y ≠ 0 := fun h => h0 (Int.gcd_eq_zero_iff.1 h).2
  omega
theorem period_eq {x y : Int} : ((y.natAbs : Int)).fdiv (Int.gcd x y) * (Int.gcd x y : Int) = (y.natAbs : Int) ∧ ((y.natAbs : Int)).fmod (Int.gcd x y) = 0 := by
  have h1 : (Int.gcd x y : Int) ∣ (y.natAbs : Int) := Int.dvd_natAbs.2 (Int.gcd_dvd_right ..)
  have h2 : ((y.natAbs : Int)).fmod (Int.gcd x y) = 0 := Int.fmod_eq_zero_of_dvd h1
  have h3 := fmod_eq (y.natAbs : Int) (Int.gcd x y)
  exact ⟨by omega, h2⟩
theorem period_pos {x y : Int} (h0 : y ≠ 0) : 0 < ((y.natAbs : Int)).fdiv (Int.gcd x y) := by
  have h1 := (period_eq (x := x) (y := y)).1
  have hg := gcd_pos (x := x) h0
  rcases Int.lt_or_le 0 (((y.natAbs : Int)).fdiv (Int.gcd x y)) with h | h
  · exact h
  · have := Int.mul_le_mul_of_nonneg_right h (show 0 ≤ (Int.gcd x y : Int) by omega)
    omega
/-- Any such number, brought to its least. -/
theorem XG.of {x y X : Int} (h0 : y ≠ 0) (h : y ∣ (Int.gcd x y : Int) - x * X) : XG x y (X.fmod (((y.natAbs : Int)).fdiv (Int.gcd x y))) := by
  have hg := gcd_pos (x := x) h0
  have hP := period_pos (x := x) h0
  have hPe := (period_eq (x := x) (y := y)).1
  obtain ⟨P, hPd⟩ : ∃ P, ((y.natAbs : Int)).fdiv (Int.gcd x y) = P := ⟨_, rfl⟩
  rw [hPd] at hP hPe ⊢
  have hb := (fmod_bd (x := X) (y := P) (by omega)).1 hP
  have he := fmod_eq X P
  refine ⟨hb.1, ?_, ?_⟩
  · rw [← hPe]
    exact Int.mul_lt_mul_of_pos_right hb.2 hg
  · have h1 : y ∣ x * (X.fdiv P * P) := by
      obtain ⟨t, ht⟩ : (Int.gcd x y : Int) ∣ x := Int.gcd_dvd_left ..
      have h2 : x * (X.fdiv P * P) = (t * X.fdiv P) * (P * (Int.gcd x y : Int)) := by
        conv => lhs; rw [ht]
        rw [Int.mul_comm (Int.gcd x y : Int) t, Int.mul_assoc, Int.mul_assoc]
        congr 1
        rw [Int.mul_left_comm, Int.mul_comm (Int.gcd x y : Int) P]
      rw [h2, hPe]
      exact Int.dvd_mul_of_dvd_right (Int.dvd_natAbs.2 (Int.dvd_refl y))
    have h2 : (Int.gcd x y : Int) - x * X.fmod P = ((Int.gcd x y : Int) - x * X) + x * (X.fdiv P * P) := by
      conv => rhs; rw [he]
      rw [Int.mul_add]; rw [← he]; omega
    rw [h2]
    exact Int.dvd_add h h1
theorem XG.le {x y c : Int} (h0 : y ≠ 0) (h : XG x y c) : c.natAbs ≤ y.natAbs := by
  have hg := gcd_pos (x := x) h0
  have h1 := h.hi
  have h2 := h.lo
  have : c * 1 ≤ c * (Int.gcd x y : Int) := Int.mul_le_mul_of_nonneg_left (by omega) h2
  omega
end Go.Proofs.YtkgbfnmlpajblaaGreatDoor

