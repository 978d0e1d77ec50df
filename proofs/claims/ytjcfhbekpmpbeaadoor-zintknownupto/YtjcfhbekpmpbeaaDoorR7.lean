/- The reference's Shl and Shr answer the canonical digits of a number shifted. -/
import Derived.Test.YtjcfhbekpmpbeaaDoorR2aToR6
import Derived.Test.YtjcfhbekpmpbeaaDoorMx
namespace Go.Proofs.YtjcfhbekpmpbeaaDoor
open Go.RowKit Dig

/-- A digit of a number shifted down: out of the digit above and the digit itself. -/
def sd (p a b : Nat) : Nat := (a * 4294967296 + b) / p % 4294967296

/-- A list made of each number and the one behind it. -/
def pairG (f : Nat → Nat → Nat) : List Nat → List Nat
  | [] => []
  | z :: Z => f (Z[0]?.getD 0) z :: pairG f Z
theorem pairG_length (f : Nat → Nat → Nat) (Z : List Nat) : (pairG f Z).length = Z.length := by
  induction Z with
  | nil => rfl
  | cons z Z ih => simp [pairG, ih]
theorem pairG_get (f : Nat → Nat → Nat) (Z : List Nat) (j : Nat) (h : j < Z.length) : (pairG f Z)[j]?.getD 0 = f (Z[j + 1]?.getD 0) (Z[j]?.getD 0) := by
  induction Z generalizing j with
  | nil => simp at h
  | cons z Z ih =>
    cases j with
    | zero => simp [pairG]
    | succ j => simpa [pairG] using ih j (by simpa using h)

/-- A number shifted down, digit by digit. -/
def shrL (p : Nat) (Z : List Nat) : List Nat := pairG (sd p) Z
theorem shrL_length (p : Nat) (Z : List Nat) : (shrL p Z).length = Z.length := pairG_length _ _
theorem shrL_get (p : Nat) (Z : List Nat) (j : Nat) (h : j < Z.length) : (shrL p Z)[j]?.getD 0 = sd p (Z[j + 1]?.getD 0) (Z[j]?.getD 0) := pairG_get _ _ _ h
theorem shrL_cons (p z : Nat) (Z : List Nat) : shrL p (z :: Z) = sd p (Z[0]?.getD 0) z :: shrL p Z := rfl
theorem val_shrL {p p' : Nat} (hp : 0 < p) (hB : p * p' = 4294967296) {Z : List Nat} (ok : OK Z) : val (shrL p Z) = val Z / p := by
  induction Z with
  | nil => simp [shrL, pairG, val]
  | cons z Z ih =>
    have h0 := ok.tail.get 0
    have hm : Z[0]?.getD 0 % p = val Z % p := by
      cases Z with
      | nil => simp [val]
      | cons y Z =>
        have e : val (y :: Z) = y + p * (p' * val Z) := by simp only [val]; rw [← hB, Nat.mul_assoc]
        rw [e, Nat.add_mul_mod_self_left]; simp
    have := shr_step (A := Z[0]?.getD 0) (V := val Z) (x := z) hp hB ok.head hm rfl
    rw [Nat.mod_eq_of_lt h0] at this
    have e : sd p (Z[0]?.getD 0) z = (Z[0]?.getD 0 * 4294967296 + z) / p % 4294967296 := rfl
    rw [shrL_cons]
    simp only [val]
    rw [ih ok.tail, e, this.1]

theorem or_mid (x0 x1 t : Nat) (h0 : x0 < 4294967296) (h1 : x1 < 4294967296) (ht : x1 * 4294967296 + x0 = t) : bits .or .u64 (x0 : Int) ((x1 : Int) * 4294967296) = (t : Int) := by
  have h := u64_or_nat x0 (x1 * 4294967296) (by omega) (by omega)
  have e : x0 ||| x1 * 4294967296 = x1 * 4294967296 + x0 := by
    have := Nat.shiftLeft_add_eq_or_of_lt (b := x0) (i := 32) (by omega) x1
    rw [Nat.shiftLeft_eq] at this
    rw [Nat.or_comm]; exact this.symm
  rw [e, ht] at h
  rw [← h]; simp

end Go.Proofs.YtjcfhbekpmpbeaaDoor
