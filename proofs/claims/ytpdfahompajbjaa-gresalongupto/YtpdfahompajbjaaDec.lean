/- Plain mathematics of decimal numerals by groups of nine. -/
import Derived.Lib.ItoaNum
import Derived.Test.YtpdfahompajbjaaDig
namespace Go.Proofs.Ytpdfahompajbjaa
open Go.Lib

/-- k digits of g, with noughts ahead. -/
def pad : Nat → Nat → List UInt8
  | 0, _ => []
  | k + 1, g => pad k (g / 10) ++ [UInt8.ofNat (48 + g % 10)]
theorem decDigits_pad (k g M : Nat) (hM : 0 < M) (hg : g < 10 ^ k) : decDigits (g + 10 ^ k * M) = decDigits M ++ pad k g := by
  induction k generalizing g with
  | zero => simp at hg; subst hg; simp [pad]
  | succ k ih =>
    have hp : 0 < 10 ^ k := Nat.pow_pos (by decide)
    have hge : 10 ^ (k + 1) ≤ 10 ^ (k + 1) * M := Nat.le_mul_of_pos_right _ hM
    rw [Nat.pow_succ] at hg hge ⊢
    have h10 : ¬ g + 10 ^ k * 10 * M < 10 := by omega
    have e : 10 ^ k * 10 * M = 10 * (10 ^ k * M) := by rw [Nat.mul_comm (10 ^ k) 10, Nat.mul_assoc]
    rw [decDigits, dif_neg h10, e]
    have e1 : (g + 10 * (10 ^ k * M)) / 10 = g / 10 + 10 ^ k * M := by omega
    have e2 : (g + 10 * (10 ^ k * M)) % 10 = g % 10 := by omega
    rw [e1, e2, ih (g / 10) (by omega)]
    simp [pad]
theorem drop_one_pad (k g : Nat) (hg : g < 10 ^ k) : (decDigits (10 ^ k + g)).drop 1 = pad k g := by
  have h := decDigits_pad k g 1 (by decide) hg
  rw [Nat.mul_one, Nat.add_comm] at h
  rw [h, decDigits, dif_pos (by decide)]
  rfl
theorem group_step (g M : Nat) (hM : 0 < M) (hg : g < 1000000000) : decDigits (g + 1000000000 * M) = decDigits M ++ (decDigits (1000000000 + g)).drop 1 := by
  have h1 := decDigits_pad 9 g M hM (by simpa using hg)
  have h2 := drop_one_pad 9 g (by simpa using hg)
  have e : (10 : Nat) ^ 9 = 1000000000 := by decide
  rw [e] at h1 h2
  rw [h1, h2]
#print axioms group_step
end Go.Proofs.Ytpdfahompajbjaa

