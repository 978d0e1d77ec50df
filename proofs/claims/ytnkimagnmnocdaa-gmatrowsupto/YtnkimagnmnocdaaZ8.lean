/- What quotients and rests of whole numbers are. -/
import Derived.Test.YtnkimagnmnocdaaZ7
namespace Go.Proofs.Ytnkimagnmnocdaa
open Go.RowKit Dig

theorem zlen_mul {x y : Int} {l m : Nat} (hx : (dig x.natAbs).length ≤ l) (hy : (dig y.natAbs).length ≤ m) : (dig (x * y).natAbs).length ≤ l + m := by
  rw [Int.natAbs_mul]
  have h := zmul_dig_length (dig x.natAbs) (dig y.natAbs) (OK_dig _) (OK_dig _)
  rw [val_dig, val_dig] at h
  omega
end Go.Proofs.Ytnkimagnmnocdaa

