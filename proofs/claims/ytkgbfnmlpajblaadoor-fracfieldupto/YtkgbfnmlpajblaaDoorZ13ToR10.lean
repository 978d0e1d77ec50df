/- zint.Int. -/
import Derived.Test.YtkgbfnmlpajblaaDoorZ8
import Derived.Test.YtkgbfnmlpajblaaDoorR7
import Derived.Test.YtkgbfnmlpajblaaDoorMx
import Derived.Test.YtkgbfnmlpajblaaDoorR2aToR6
import Derived.Test.YtkgbfnmlpajblaaDoorW8
import Derived.Test.YtkgbfnmlpajblaaDoorR1
import Derived.Lib.Strings

namespace Go.Proofs.YtkgbfnmlpajblaaDoor
open Go.RowKit Dig
theorem take1 {ds : List Nat} (h : 0 < ds.length) : ds.take 1 = [ds[0]?.getD 0] := by
  match ds, h with
  | d :: _, _ => rfl
theorem take2 {ds : List Nat} (h : 1 < ds.length) : ds.take 2 = [ds[0]?.getD 0, ds[1]?.getD 0] := by
  match ds, h with
  | _ :: _ :: _, _ => rfl

end Go.Proofs.YtkgbfnmlpajblaaDoor

/- nat.isDigits, groupValue and putGroup: what a text's digits are worth. -/
namespace Go.Proofs.YtkgbfnmlpajblaaDoor
open Go.RowKit Dig

/-- A decimal digit. -/
def isD (c : UInt8) : Bool := decide (48 ≤ c.toNat ∧ c.toNat ≤ 57)
/-- What decimal digits are worth. -/
def pval (l : List UInt8) : Nat := l.foldl (fun v c => v * 10 + (c.toNat - 48)) 0
def digitsB (l : List UInt8) : Bool := l.all isD && !l.isEmpty

theorem pval_snoc (l : List UInt8) (c : UInt8) : pval (l ++ [c]) = pval l * 10 + (c.toNat - 48) := by simp [pval]

theorem take_snoc (s : ByteArray) (k : Nat) (h : k < s.size) : s.data.toList.take (k + 1) = s.data.toList.take k ++ [s[k]] := by
  rw [List.take_succ_eq_append_getElem (by simpa using h)]; rfl
theorem take_size (s : ByteArray) : s.data.toList.take s.size = s.data.toList := List.take_of_length_le (Nat.le_of_eq (by rw [Array.length_toList]; rfl))
theorem revInd {p : List UInt8 → Prop} (h0 : p []) (h1 : ∀ l c, p l → p (l ++ [c])) (l : List UInt8) : p l := by
  rw [← List.reverse_reverse l]
  induction l.reverse with
  | nil => exact h0
  | cons c l ih => rw [List.reverse_cons]; exact h1 _ c ih
theorem pval_lt {l : List UInt8} {k : Nat} (hd : l.all isD = true) (hl : l.length ≤ k) : pval l < 10 ^ k := by
  have h : ∀ (l : List UInt8), l.all isD = true → pval l < 10 ^ l.length := by
    intro l
    refine revInd (p := fun l => l.all isD = true → pval l < 10 ^ l.length) ?_ ?_ l
    · intro _; simp [pval]
    · intro l c ih hd
      rw [List.all_append, Bool.and_eq_true] at hd
      have h1 := ih hd.1
      have h2 : isD c = true := by simpa using hd.2
      simp only [isD, decide_eq_true_eq] at h2
      rw [pval_snoc, List.length_append, List.length_singleton, Nat.pow_succ]
      omega
  exact Nat.lt_of_lt_of_le (h l hd) (Nat.pow_le_pow_right (by decide) hl)

/-- One digit with its carry, and the whole times M. -/
theorem put_step {ds ys : List Nat} {k c x t M g : Nat} (hk : k < ds.length) (hl : ys.length = ds.length) (hx : ds[k]?.getD 0 = x) (heq : val (ys.take k) + pw k * c = val (ds.take k) * M + g) (ht : t = c + x * M) :
    val ((ys.set k (t % 4294967296)).take (k + 1)) + pw (k + 1) * (t / 4294967296) = val (ds.take (k + 1)) * M + g := by
  rw [val_take_succ (by simpa [hl] using hk), val_take_succ hk, hx, getD_set_same (by omega), List.take_set_of_le (Nat.le_refl k), Nat.add_mul, Nat.mul_assoc]
  simp only [pw]
  have e1 : pw k * t = pw k * (t % 4294967296) + 4294967296 * pw k * (t / 4294967296) := by
    conv => lhs; rw [← Nat.mod_add_div t 4294967296]
    rw [Nat.mul_add, Nat.mul_comm 4294967296 (pw k), Nat.mul_assoc]
  have e2 : pw k * t = pw k * c + pw k * (x * M) := by rw [ht, Nat.mul_add]
  omega

theorem canon_snoc {ys : List Nat} {c : Nat} (ok : OK ys) (hc : c < 4294967296) (h0 : c ≠ 0) : ys ++ [c] = dig (val (ys ++ [c])) := by
  rw [dig_val (ok.append (OK.cons hc OK.nil))]
  induction ys with
  | nil => simp [strip, h0]
  | cons y ys ih =>
    have := ih ok.tail
    simp only [List.cons_append, strip]
    rw [← this, if_neg]
    rintro ⟨h, _⟩
    simp at h

theorem canon_top {ys : List Nat} (ok : OK ys) (h : ys.length ≤ (dig (val ys)).length) : ys = dig (val ys) := by
  rw [dig_val ok] at h ⊢
  have h1 := strip_take ys
  have h2 := strip_length_le ys
  rw [show (strip ys).length = ys.length by omega, List.take_length] at h1
  exact h1.symm

end Go.Proofs.YtkgbfnmlpajblaaDoor

/- nat.Parse: the number of a text of digits, or the error. -/
namespace Go.Proofs.YtkgbfnmlpajblaaDoor
open Go.RowKit Dig

def parseI (s : ByteArray) : Int := if 65536 < s.size then 12 else if digitsB s.data.toList then 0 else 7
def parseD (s : ByteArray) : List Nat := if 65536 < s.size then [] else if digitsB s.data.toList then dig (pval s.data.toList) else []

theorem pval_append (a b : List UInt8) : pval (a ++ b) = pval a * 10 ^ b.length + pval b := by
  refine revInd (p := fun b => pval (a ++ b) = pval a * 10 ^ b.length + pval b) ?_ ?_ b
  · simp [pval]
  · intro l c ih
    rw [← List.append_assoc, pval_snoc, pval_snoc, ih, List.length_append, List.length_singleton, Nat.pow_succ, Nat.add_mul, Nat.mul_assoc, Nat.add_assoc]

theorem two_le_pw' {n m : Nat} (h : n ≤ 32 * m) : 2 ^ n ≤ pw m := by
  rw [pw_eq]; exact Nat.pow_le_pow_right (by decide) h

theorem pval_dig_length {l : List UInt8} (hd : l.all isD = true) (hl : l.length ≤ 65536) : (dig (pval l)).length ≤ 8192 := by
  have h := pval_lt hd (Nat.le_refl _)
  refine dig_length_le (Nat.lt_of_lt_of_le h ?_)
  have e : (10 : Nat) ^ l.length ≤ 16 ^ l.length := Nat.pow_le_pow_left (by decide) _
  have e2 : (16 : Nat) ^ l.length = 2 ^ (4 * l.length) := by rw [Nat.pow_mul]
  rw [e2] at e
  exact Nat.le_trans e (two_le_pw' (by omega))

end Go.Proofs.YtkgbfnmlpajblaaDoor

/- The reference's Digits and Parse: what a text's digits are worth. -/
namespace Go.Proofs.YtkgbfnmlpajblaaDoor
open Go.RowKit Dig
end Go.Proofs.YtkgbfnmlpajblaaDoor
