/- What quotients and rests of whole numbers are. -/
import Derived.Test.YthlhekkcjficdaaZ7
namespace Go.Proofs.Ythlhekkcjficdaa
open Go.RowKit Dig

theorem zlen_mul {x y : Int} {l m : Nat} (hx : (dig x.natAbs).length ≤ l) (hy : (dig y.natAbs).length ≤ m) : (dig (x * y).natAbs).length ≤ l + m := by
  rw [Int.natAbs_mul]
  have h := zmul_dig_length (dig x.natAbs) (dig y.natAbs) (OK_dig _) (OK_dig _)
  rw [val_dig, val_dig] at h
  omega
theorem zcmp_eq {x y : Int} (h : x = y) : zcmp x y = 0 := by subst h; unfold zcmp; rw [if_neg (by omega), if_pos rfl]
theorem zcmp_ge {x y : Int} (h : y ≤ x) : 0 ≤ zcmp x y := by unfold zcmp; rw [if_neg (by omega)]; split <;> omega
theorem sign_bd (x : Int) : -1 ≤ x.sign ∧ x.sign ≤ 1 := by
  rcases Int.lt_trichotomy x 0 with h | h | h
  · rw [Int.sign_eq_neg_one_of_neg h]; omega
  · rw [h]; decide
  · rw [Int.sign_eq_one_of_pos h]; omega
end Go.Proofs.Ythlhekkcjficdaa

