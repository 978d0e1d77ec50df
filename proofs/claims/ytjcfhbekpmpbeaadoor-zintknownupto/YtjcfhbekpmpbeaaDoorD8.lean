/- DivMod and Gcd over whatever slice reads as given digits. -/
import Derived.Test.YtjcfhbekpmpbeaaDoorR2a
import Derived.Test.YtjcfhbekpmpbeaaDoorD7
namespace Go.Proofs.YtjcfhbekpmpbeaaDoor
open Go.RowKit Dig

theorem Rd.nil (w : World) : Rd w (.slice none 0 0) [] := ⟨none, 0, rfl, Nat.le_refl _, OK.nil, .inl rfl⟩

theorem divMod_rd {w : World} {va vb : Value} {xs ys : List Nat} (hx : Rd w va xs) (hy : Rd w vb ys) (hxl : xs.length ≤ 1000000000) (hyl : ys.length ≤ 1000000000) :
    Calls Tryd.prog 12 #[va, vb] w fun e w' => ∃ v1 v2, e = .returned (.tuple #[v1, v2, .int .i64 (divI (val ys))]) ∧
      Own w' w.heap.size v1 (dig (val xs / val ys)) ∧ Own w' w.heap.size v2 (divR (val xs) (val ys)) ∧ Parted v1 v2 ∧ Below w.heap.size w w' := by
  obtain ⟨oa, ca, rfl, hca, okx, hcx⟩ := hx
  obtain ⟨ob, cb, rfl, hcb, oky, hcy⟩ := hy
  exact divMod_any oa ob ca cb xs ys w hxl hyl hca hcb okx oky hcx hcy

/-- DivMod by a number that is not 0. -/
theorem divMod_pos {w : World} {va vb : Value} {xs ys : List Nat} (hx : Rd w va xs) (hy : Rd w vb ys) (h0 : val ys ≠ 0) (hxl : xs.length ≤ 1000000000) (hyl : ys.length ≤ 1000000000) :
    Calls Tryd.prog 12 #[va, vb] w fun e w' => ∃ v1 v2, e = .returned (.tuple #[v1, v2, .int .i64 0]) ∧
      Own w' w.heap.size v1 (dig (val xs / val ys)) ∧ Own w' w.heap.size v2 (dig (val xs % val ys)) ∧ Parted v1 v2 ∧ Below w.heap.size w w' := by
  have h := divMod_rd hx hy hxl hyl
  rw [show divI (val ys) = 0 from if_neg h0, show divR (val xs) (val ys) = dig (val xs % val ys) from if_neg h0] at h
  exact h

theorem gcd_rd {w : World} {va vb : Value} {xs ys : List Nat} (hx : Rd w va xs) (hy : Rd w vb ys) (hxl : xs.length ≤ 1000000000) (hyl : ys.length ≤ 1000000000) :
    Calls Tryd.prog 10 #[va, vb] w fun e w' => ∃ v, e = .returned v ∧ Own w' w.heap.size v (dig (Nat.gcd (val xs) (val ys))) ∧ Below w.heap.size w w' := by
  obtain ⟨oa, ca, rfl, hca, okx, hcx⟩ := hx
  obtain ⟨ob, cb, rfl, hcb, oky, hcy⟩ := hy
  exact gcd_any oa ob ca cb xs ys w hxl hyl hca hcb okx oky hcx hcy

theorem rtrim_rd {w : World} {va : Value} {xs : List Nat} (hx : Rd w va xs) (hxl : xs.length ≤ 1000000000) :
    Calls Tryd.prog 56 #[va] w fun e w' => ∃ v, e = .returned v ∧ Rd w' v (strip xs) ∧ Below w.heap.size w w' := by
  obtain ⟨oa, ca, rfl, hca, okx, hcx⟩ := hx
  exact rtrim_any oa ca xs w (by omega) hca okx hcx
end Go.Proofs.YtjcfhbekpmpbeaaDoor
