/- The reference's Mul answers the canonical digits of the product. -/
import Derived.Test.YtjcfhbekpmpbeaaDoorR2a
namespace Go.Proofs.YtjcfhbekpmpbeaaDoor
open Go.RowKit Dig

theorem rtrim_n (oa : Option Addr) (n cap : Nat) (ds : List Nat) (w : World) (e : ds.length = n) (hl : n ≤ 10000000000000) (hc : n ≤ cap) (ok : OK ds) (hcell : Cells w oa ds) :
    Calls Tryd.prog 56 #[.slice oa n cap] w fun e w' => ∃ v, e = .returned v ∧ Rd w' v (strip ds) ∧ Below w.heap.size w w' := by
  subst e; exact rtrim_any oa cap ds w hl hc ok hcell

theorem zero_above {ds : List Nat} {k j : Nat} (h : val ds < pw k) (hj : k ≤ j) : ds[j]?.getD 0 = 0 := by
  by_cases hl : j < ds.length
  · have h1 := val_split ds j (by omega)
    have h2 := drop_succ_val hl
    have h3 := pw_mono hj
    rcases Nat.eq_zero_or_pos (ds[j]?.getD 0) with h4 | h4
    · exact h4
    · have : pw j * 1 ≤ pw j * val (ds.drop j) := Nat.mul_le_mul_left _ (by omega)
      omega
  · simp [List.getElem?_eq_none (by omega : ds.length ≤ j)]

theorem mul_row {X Y P P' : List Nat} {i n L : Nat} (d : Nat) (hi : i < X.length) (hd : X[i]?.getD 0 = d) (hP : P.length = L) (hL : X.length + Y.length ≤ L) (hP' : P'.length = P.length) (hn : n = L - i)
    (hv : val P = val (X.take i) * val Y) (hout : ∀ j, j < i ∨ i + n ≤ j → P'[j]?.getD 0 = P[j]?.getD 0) (heq : val (seg P' i n) = val (seg P i n) + d * val Y) : val P' = val (X.take (i + 1)) * val Y := by
  have s1 := seg_split (xs := P) (off := 0) (k := i) (n := P.length) (by omega) (by omega)
  have s2 := seg_split (xs := P') (off := 0) (k := i) (n := P.length) (by omega) (by omega)
  rw [seg_all] at s1
  rw [← hP', seg_all] at s2
  rw [Nat.zero_add] at s1 s2
  have en : P.length - i = n := by omega
  have en' : P'.length - i = n := by omega
  rw [en] at s1
  rw [en'] at s2
  have ec : seg P' 0 i = seg P 0 i := seg_congr hP' (fun j _ h => hout j (.inl (by omega)))
  have tk := val_take_succ (xs := X) hi
  rw [hd] at tk
  rw [tk, Nat.add_mul, ← hv, Nat.mul_assoc, s1, s2, ec, heq, Nat.mul_add]
  omega

theorem take_mul_lt {X Y : List Nat} (okX : OK X) (okY : OK Y) {i : Nat} (hi : i ≤ X.length) : val (X.take i) * val Y < pw (i + Y.length) := by
  have h1 : val (X.take i) < pw i := by
    have := val_lt (okX.take i)
    rw [List.length_take, Nat.min_eq_left hi] at this; exact this
  rw [pw_add]
  exact Nat.mul_lt_mul_of_lt_of_le h1 (Nat.le_of_lt (val_lt okY)) (pw_pos _)

end Go.Proofs.YtjcfhbekpmpbeaaDoor
