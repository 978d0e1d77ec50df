/- The reference's short answers quotient and rest by one digit. -/
import Derived.Test.YtjcfhbekpmpbeaaDoorR2aToR6
import Derived.Test.YtjcfhbekpmpbeaaDoorZ5ToY1
import Derived.Test.YtjcfhbekpmpbeaaDoorW6ToP10
namespace Go.Proofs.YtjcfhbekpmpbeaaDoor
open Go.RowKit Dig

theorem val_drop_cons {xs : List Nat} {j : Nat} (h : j < xs.length) : val (xs.drop j) = xs[j]?.getD 0 + 4294967296 * val (xs.drop (j + 1)) := by
  rw [List.drop_eq_getElem_cons h, List.getElem?_eq_getElem h]; rfl

theorem rshort_step {us ys : List Nat} {j r q r' y M : Nat} (hj : j < us.length) (hl : ys.length = us.length) (hy : us[j]?.getD 0 = y)
    (heq : val (us.drop (j + 1)) = val (ys.drop (j + 1)) * M + r) (hq : r * 4294967296 + y = q * M + r') :
    val (us.drop j) = val ((ys.set j q).drop j) * M + r' := by
  rw [val_drop_cons hj, val_drop_cons (xs := ys.set j q) (by simpa using by omega), getD_set_same (by omega), hy, heq]
  have e : (ys.set j q).drop (j + 1) = ys.drop (j + 1) := by rw [List.drop_set_of_lt (by omega)]
  rw [e, Nat.add_mul, Nat.mul_assoc, Nat.mul_add]
  omega

theorem rtrim_new_n (oa : Option Addr) (n cap : Nat) (ds : List Nat) (w : World) (e : ds.length = n) (hl : n ≤ 10000000000000) (hc : n ≤ cap) (ok : OK ds) (hcell : Cells w oa ds) :
    Calls Tryd.prog 56 #[.slice oa n cap] w fun e w' => ∃ v, e = .returned v ∧ Rd w' v (strip ds) ∧ NewAt w.heap.size v ∧ Below w.heap.size w w' := by
  subst e; exact rtrim_new oa cap ds w hl hc ok hcell

end Go.Proofs.YtjcfhbekpmpbeaaDoor
