/- gint: digits, tops, what lies far inside, quotient. -/
import Derived.Test.YtpdfahompajbjaaT1ToG9
import Derived.Test.YtpdfahompajbjaaG3ToR10

namespace Go.Proofs.Ytpdfahompajbjaa
open Go Go.RowKit Dig
set_option linter.unusedVariables false
section
variable {w : World} {va vb : Value} {x y u v : Int} {l m k n : Nat}
end
end Go.Proofs.Ytpdfahompajbjaa

/- gint: Turn, timesI, Canon; the reference's. -/
namespace Go.Proofs.Ytpdfahompajbjaa
open Go Go.RowKit Dig
set_option linter.unusedVariables false
section
variable {w : World} {va vb : Value} {x y u v : Int} {l m k n : Nat}
end
end Go.Proofs.Ytpdfahompajbjaa

/- gint: Cmp, IsUnit, Canon; the reference's. -/
namespace Go.Proofs.Ytpdfahompajbjaa
open Go Go.RowKit Dig
set_option linter.unusedVariables false
section
variable {w : World} {va vb : Value} {x y u v : Int} {l m k n : Nat}
theorem bits_bd {A l : Nat} (h : A < pw l) : bitsN A ≤ 32 * l := by
  rcases Nat.eq_zero_or_pos A with h0 | h0
  · rw [h0]; exact Nat.zero_le _
  · have h3 := bitsN_le (Nat.ne_of_gt h0)
    rw [pw_eq] at h
    have h4 := (Nat.pow_lt_pow_iff_right (by decide : 1 < 2)).1 (Nat.lt_of_le_of_lt h3 h)
    omega
end
end Go.Proofs.Ytpdfahompajbjaa

/- gint: digits, isFarInside, quotient. -/
namespace Go.Proofs.Ytpdfahompajbjaa
open Go Go.RowKit Dig
set_option linter.unusedVariables false
section
variable {w : World} {va vb : Value} {x y u v : Int} {l m k n : Nat}
end
end Go.Proofs.Ytpdfahompajbjaa

/- gint.quotient: the nearest, whichever way it is found. -/
namespace Go.Proofs.Ytpdfahompajbjaa
open Go Go.RowKit Dig
set_option linter.unusedVariables false
section
variable {w : World} {va vb : Value} {x y u v : Int} {l m k n : Nat}
end
end Go.Proofs.Ytpdfahompajbjaa

/- The divisions of Xgcd: what each keeps, where they end. -/
namespace Go.Proofs.Ytpdfahompajbjaa
open Go Go.RowKit Dig
set_option linter.unusedVariables false
theorem len_norm {x y a1 a2 b1 b2 : Int} {l : Nat} (h : gN x y ≤ 4 * (gN a1 a2 + gN b1 b2) + 1) (h1 : (dig a1.natAbs).length ≤ l) (h2 : (dig a2.natAbs).length ≤ l) (h3 : (dig b1.natAbs).length ≤ l) (h4 : (dig b2.natAbs).length ≤ l) :
    (dig x.natAbs).length ≤ l + 1 ∧ (dig y.natAbs).length ≤ l + 1 := by
  have bd : ∀ z : Int, (dig z.natAbs).length ≤ l → -(pw l : Int) ≤ z ∧ z ≤ (pw l : Int) := by
    intro z hz
    have := Nat.lt_of_lt_of_le (lt_pw_dig z.natAbs) (pw_mono hz)
    omega
  have n1 := norm_ge (bd _ h1) (bd _ h2)
  have n2 := norm_ge (bd _ h3) (bd _ h4)
  have hp := pw_pos l
  have hpp : (1 : Int) ≤ (pw l : Int) * (pw l : Int) := by have := Int.mul_le_mul (show (1 : Int) ≤ (pw l : Int) by omega) (show (1 : Int) ≤ (pw l : Int) by omega) (by decide) (by omega); omega
  have e5 : (5 * (pw l : Int)) * (5 * (pw l : Int)) = 25 * ((pw l : Int) * (pw l : Int)) := by grind
  obtain ⟨r1, r2⟩ := norm_le (a := x) (b := y) (A := 5 * (pw l : Int)) (by omega) (by omega)
  have hpw : pw (l + 1) = pw l * 4294967296 := by rw [pw_add]; rfl
  exact ⟨dig_length_le (by omega), dig_length_le (by omega)⟩
end Go.Proofs.Ytpdfahompajbjaa
