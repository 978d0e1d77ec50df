/- What quotients and rests of whole numbers are. -/
import Derived.Test.YtcoodkdalblalaaGreatDoorZ7
namespace Go.Proofs.YtcoodkdalblalaaGreatDoor
open Go.RowKit Dig

theorem zlen_mul {x y : Int} {l m : Nat} (hx : (dig x.natAbs).length ≤ l) (hy : (dig y.natAbs).length ≤ m) : (dig (x * y).natAbs).length ≤ l + m := by
  rw [Int.natAbs_mul]
  have h := zmul_dig_length (dig x.natAbs) (dig y.natAbs) (OK_dig _) (OK_dig _)
  rw [val_dig, val_dig] at h
  omega
theorem zcmp_eq {x y : Int} (h : x = y) : zcmp x y = 0 := by subst h; unfold zcmp; rw [if_neg (by omega), if_pos rfl]
theorem zcmp_gt {x y : Int} (h : y < x) : zcmp x y = 1 := by unfold zcmp; rw [if_neg (by omega), if_neg (by omega)]
end Go.Proofs.YtcoodkdalblalaaGreatDoor

