/- The reference's at, Add and Sub answer digits, canonical sums and differences. -/
import Derived.Test.YtjcfhbekpmpbeaaDoorR3
namespace Go.Proofs.YtjcfhbekpmpbeaaDoor
open Go.RowKit Dig

theorem val_take_next (xs : List Nat) (k : Nat) : val (xs.take (k + 1)) = val (xs.take k) + pw k * xs[k]?.getD 0 := by
  by_cases h : k < xs.length
  · exact val_take_succ h
  · rw [List.take_of_length_le (by omega), List.take_of_length_le (by omega), List.getElem?_eq_none (by omega)]; simp

theorem seg_zeros (n off k : Nat) : val (seg (List.replicate n 0) off k) = 0 := by
  simp only [seg, List.drop_replicate, List.take_replicate]
  exact val_replicate_zero _

theorem rsum_fin {X Y us : List Nat} {n c : Nat} (okX : OK X) (okY : OK Y) (ok : OK us) (hx : X.length ≤ n) (hy : Y.length ≤ n) (h : us.length = n + 1)
    (heq : val (seg us 0 (n + 1)) + pw (n + 1) * c = val X + val Y) : strip us = dig (val X + val Y) := by
  have e1 : seg us 0 (n + 1) = us := by have := seg_all us; rw [h] at this; exact this
  rw [e1] at heq
  have h1 := Nat.lt_of_lt_of_le (val_lt okX) (pw_mono hx)
  have h2 := Nat.lt_of_lt_of_le (val_lt okY) (pw_mono hy)
  have hc : c = 0 := by
    rcases Nat.eq_zero_or_pos c with hc | hc
    · exact hc
    · have h4 : pw (n + 1) * 1 ≤ pw (n + 1) * c := Nat.mul_le_mul_left _ hc
      simp only [pw] at h4 heq
      omega
  subst hc
  rw [← dig_val ok]
  congr 1

end Go.Proofs.YtjcfhbekpmpbeaaDoor
