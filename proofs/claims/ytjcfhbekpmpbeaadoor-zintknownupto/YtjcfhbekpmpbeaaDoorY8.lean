/- zint's reference: Twice, Zero, Floor. -/
import Derived.Test.YtjcfhbekpmpbeaaDoorZ8
import Derived.Test.YtjcfhbekpmpbeaaDoorR17
namespace Go.Proofs.YtjcfhbekpmpbeaaDoor
open Go.RowKit Dig
theorem sign_bne {x y : Int} {na nb : Bool} {xs ys : List Nat} {s : Int} {d : Bool} (hx : zv na xs = x) (hy : zv nb ys = y) (hd : x.sign * y.sign = s) (h : (s = 1 ∧ d = false) ∨ (s = -1 ∧ d = true) := by simp) : (na != nb) = d := by
  have key : ∀ {z : Int} {n : Bool} {l : List Nat}, zv n l = z → z.sign = 0 ∨ z.sign = if n then -1 else 1 := by
    intro z n l h
    rcases Int.lt_trichotomy z 0 with h1 | h1 | h1
    · right; rw [Int.sign_eq_neg_one_of_neg h1]; unfold zv at h; cases n
      · simp at h; omega
      · rfl
    · left; rw [h1]; rfl
    · right; rw [Int.sign_eq_one_of_pos h1]; unfold zv at h; cases n
      · rfl
      · simp at h; omega
  rcases key hx with e1 | e1 <;> rcases key hy with e2 | e2 <;> rw [e1, e2] at hd <;> rcases h with ⟨rfl, rfl⟩ | ⟨rfl, rfl⟩ <;> revert hd <;> cases na <;> cases nb <;> simp

end Go.Proofs.YtjcfhbekpmpbeaaDoor
