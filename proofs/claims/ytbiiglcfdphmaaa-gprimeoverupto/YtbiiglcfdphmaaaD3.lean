/- The guess of a quotient's digit: shifted digits as digits of the shifted number, and where the guess ends. Plain mathematics. -/
import Derived.Test.YtbiiglcfdphmaaaD2
namespace Go.Proofs.Ytbiiglcfdphmaaa
open Go.RowKit Dig

/-- A digit by division. -/
theorem digit_div {xs : List Nat} (ok : OK xs) (k : Nat) : xs[k]?.getD 0 = val xs / pw k % 4294967296 := by
  induction xs generalizing k with
  | nil => simp [val]
  | cons d ds ih =>
    have hd := ok.head
    match k with
    | 0 => simp only [List.getElem?_cons_zero, Option.getD_some, val, pw, Nat.div_one]; omega
    | k + 1 =>
      simp only [List.getElem?_cons_succ, val, pw]
      rw [ih ok.tail, ← Nat.div_div_eq_div_mul]
      have e : (d + 4294967296 * val ds) / 4294967296 = val ds := by omega
      rw [e]
end Go.Proofs.Ytbiiglcfdphmaaa

