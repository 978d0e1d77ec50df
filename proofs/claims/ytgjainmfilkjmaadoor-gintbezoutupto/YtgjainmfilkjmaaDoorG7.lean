/- gint: Cmp, IsUnit, Canon; the reference's. -/
import Derived.Test.YtgjainmfilkjmaaDoorG4
import Derived.Test.YtgjainmfilkjmaaDoorT1ToG6
namespace Go.Proofs.YtgjainmfilkjmaaDoor
open Go Go.RowKit Dig
set_option linter.unusedVariables false

/-- How often a number is turned, by the signs of its parts. -/
def kq (x y : Int) : Nat := if y < 0 ∧ 0 ≤ x then 1 else if x < 0 ∧ y ≤ 0 then 2 else if 0 < y ∧ x ≤ 0 then 3 else 0
theorem kq_sign (x y : Int) : kq x.sign y.sign = kq x y := by
  have hx : (x.sign = -1 ∧ x < 0) ∨ (x.sign = 0 ∧ x = 0) ∨ (x.sign = 1 ∧ 0 < x) := by
    rcases Int.lt_trichotomy x 0 with h | h | h
    · exact .inl ⟨Int.sign_eq_neg_one_of_neg h, h⟩
    · exact .inr (.inl ⟨by rw [h]; rfl, h⟩)
    · exact .inr (.inr ⟨Int.sign_eq_one_of_pos h, h⟩)
  have hy : (y.sign = -1 ∧ y < 0) ∨ (y.sign = 0 ∧ y = 0) ∨ (y.sign = 1 ∧ 0 < y) := by
    rcases Int.lt_trichotomy y 0 with h | h | h
    · exact .inl ⟨Int.sign_eq_neg_one_of_neg h, h⟩
    · exact .inr (.inl ⟨by rw [h]; rfl, h⟩)
    · exact .inr (.inr ⟨Int.sign_eq_one_of_pos h, h⟩)
  unfold kq
  generalize x.sign = s at *
  generalize y.sign = t at *
  (repeat' split) <;> omega
theorem kq_lt (x y : Int) : kq x y < 4 := by unfold kq; (repeat' split) <;> omega
theorem kq_mod (x y : Int) : (((kq x y : Nat) : Int) % 4).toNat = kq x y := by have := kq_lt x y; omega
theorem kq_cases (x y : Int) : (kq x y = 1 ∧ y < 0 ∧ 0 ≤ x) ∨ (kq x y = 2 ∧ x < 0 ∧ y ≤ 0) ∨ (kq x y = 3 ∧ 0 < y ∧ x ≤ 0) ∨ (kq x y = 0 ∧ ((0 < x ∧ 0 ≤ y) ∨ (x = 0 ∧ y = 0))) := by
  unfold kq; (repeat' split) <;> omega
theorem turn_0 (p : Int × Int) : turn 0 p = p := rfl
theorem turn_1 (p : Int × Int) : turn 1 p = (-p.2, p.1) := rfl
theorem turn_2 (p : Int × Int) : turn 2 p = (-p.1, -p.2) := rfl
theorem turn_3 (p : Int × Int) : turn 3 p = (- -p.2, -p.1) := rfl
section
variable {w : World} {va vb : Value} {x y u v : Int} {l m k n : Nat}
theorem bits_zero {n : Nat} : bitsN n = 0 ↔ n = 0 := bitsN_zero
theorem bits_bd {A l : Nat} (h : A < pw l) : bitsN A ≤ 32 * l := by
  rcases Nat.eq_zero_or_pos A with h0 | h0
  · rw [h0]; exact Nat.zero_le _
  · have h3 := bitsN_le (Nat.ne_of_gt h0)
    rw [pw_eq] at h
    have h4 := (Nat.pow_lt_pow_iff_right (by decide : 1 < 2)).1 (Nat.lt_of_le_of_lt h3 h)
    omega
end
end Go.Proofs.YtgjainmfilkjmaaDoor

