/- Plain mathematics of shifts, for nat's and the reference's. -/
import Derived.Test.YtgjainmfilkjmaaGreatDoorSlToW5
import Derived.Test.YtgjainmfilkjmaaGreatDoorW6ToP10
import Derived.Test.YtgjainmfilkjmaaGreatDoorSxToD8
namespace Go.Proofs.YtgjainmfilkjmaaGreatDoor
open Go.RowKit Dig
theorem seg_zeros0 (n off k : Nat) : val (seg (List.replicate n 0) off k) = 0 := by
  simp only [seg, List.drop_replicate, List.take_replicate]
  exact val_replicate_zero _

theorem or_low (c x s t : Nat) (hs : s < 32) (hc : c < 2 ^ s) (hx : x < 4294967296) (ht : c + x * 2 ^ s = t) : bits .or .u64 (c : Int) (IntKind.u64.wrap ((x : Int) * 2 ^ s)) = (t : Int) := by
  have h1 : 2 ^ s ≤ 2 ^ 31 := Nat.pow_le_pow_right (by decide) (by omega)
  have h2 : x * 2 ^ s ≤ 4294967295 * 2 ^ 31 := Nat.mul_le_mul (by omega) h1
  have e : IntKind.u64.wrap ((x : Int) * 2 ^ s) = ((x * 2 ^ s : Nat) : Int) := by
    have e2 : (x : Int) * 2 ^ s = ((x * 2 ^ s : Nat) : Int) := by simp
    rw [e2, IntKind.wrap_u64]; omega
  have h := u64_or_nat c (x * 2 ^ s) (by omega) (by omega)
  rw [e, h, ← ht]
  congr 1
  have := Nat.shiftLeft_add_eq_or_of_lt hc x
  rw [Nat.shiftLeft_eq] at this
  rw [Nat.or_comm, ← this, Nat.add_comm]

theorem shl_t (c x s : Nat) (hs : s < 32) (hc : c < 2 ^ s) (hx : x < 4294967296) : c + x * 2 ^ s < 18446744073709551616 ∧ (c + x * 2 ^ s) / 4294967296 < 2 ^ s := by
  have h1 : 2 ^ s ≤ 2 ^ 31 := Nat.pow_le_pow_right (by decide) (by omega)
  have h2 : x * 2 ^ s ≤ 4294967295 * 2 ^ s := Nat.mul_le_mul_right _ (by omega)
  generalize 2 ^ s = p at *
  omega

theorem shl_fin {X ys : List Nat} {k s n c : Nat} (ok : OK X) (okys : OK ys) (hyl : ys.length = k + X.length + 1) (hn : n = 32 * k + s) (hs : s < 32) (hlow : ∀ j, j < k → ys[j]?.getD 0 = 0)
    (heq : val (seg ys k (X.length + 1)) + pw (X.length + 1) * c = val (X ++ [0]) + (2 ^ s - 1) * val (X ++ [0])) : strip ys = dig (val X * 2 ^ n) := by
  rw [val_snoc_zero] at heq
  have hp : 0 < 2 ^ s := Nat.pow_pos (by decide)
  have e1 : val X + (2 ^ s - 1) * val X = 2 ^ s * val X := by
    have : 2 ^ s = 2 ^ s - 1 + 1 := by omega
    conv => rhs; rw [this, Nat.add_mul, Nat.one_mul]
    omega
  rw [e1] at heq
  have h1 := val_lt ok
  have h2 : 2 ^ s ≤ 2 ^ 31 := Nat.pow_le_pow_right (by decide) (by omega)
  have hc : c = 0 := by
    rcases Nat.eq_zero_or_pos c with hc | hc
    · exact hc
    · have h4 : pw (X.length + 1) * 1 ≤ pw (X.length + 1) * c := Nat.mul_le_mul_left _ hc
      have h5 : 2 ^ s * val X ≤ 2 ^ 31 * val X := Nat.mul_le_mul_right _ h2
      simp only [pw] at h4 heq
      omega
  subst hc
  have s1 := seg_split (xs := ys) (off := 0) (k := k) (n := ys.length) (by omega) (by omega)
  rw [seg_all, Nat.zero_add] at s1
  have e2 : ys.length - k = X.length + 1 := by omega
  have e3 : val (seg ys 0 k) = 0 := by
    have : seg ys 0 k = seg (List.replicate ys.length 0) 0 k := seg_congr (by simp) (fun j _ h => by rw [hlow j (by omega)]; simp [show j < ys.length by omega])
    rw [this, seg_zeros0]
  rw [e2, e3] at s1
  rw [← dig_val okys]
  congr 1
  rw [s1, hn, Nat.pow_add, ← pw_eq, ← Nat.mul_assoc, Nat.mul_comm (val X), Nat.mul_assoc, Nat.mul_comm (val X)]
  have e4 : val (seg ys k (X.length + 1)) = 2 ^ s * val X := by omega
  rw [e4, Nat.zero_add]

def shlI (n : Int) : Int := if n < 0 then 9 else if 65536 < n then 12 else 0
def shlD (m : Nat) (n : Int) : List Nat := if n < 0 ∨ 65536 < n then [] else dig (m * 2 ^ n.toNat)
def shrI (n : Int) : Int := if n < 0 then 9 else 0
def shrD (m : Nat) (n : Int) : List Nat := if n < 0 then [] else dig (m / 2 ^ n.toNat)

theorem shr_step {p p' V A x t : Nat} (hp : 0 < p) (hB : p * p' = 4294967296) (hx : x < 4294967296) (hA : A % p = V % p) (ht : A % 4294967296 * 4294967296 + x = t) :
    (x + 4294967296 * V) / p = t / p % 4294967296 + 4294967296 * (V / p) ∧ t % p = (x + 4294967296 * V) % p := by
  have hV := Nat.div_add_mod V p
  have hd : p ∣ 4294967296 := ⟨p', hB.symm⟩
  have hAB := Nat.div_add_mod (A % 4294967296) p
  rw [Nat.mod_mod_of_dvd A hd, hA] at hAB
  have hR := Nat.mod_lt V hp
  generalize V / p = Q at *
  generalize V % p = R at *
  generalize A % 4294967296 / p = q at *
  have e1 : x + 4294967296 * V = (x + 4294967296 * R) + p * (4294967296 * Q) := by
    rw [← hV, Nat.mul_add, Nat.mul_left_comm]; omega
  have e2 : t = (x + 4294967296 * R) + p * (4294967296 * q) := by
    rw [← ht, ← hAB, Nat.add_mul, Nat.mul_assoc, Nat.mul_comm q]; omega
  have hlt : (x + 4294967296 * R) / p < 4294967296 := by
    rw [Nat.div_lt_iff_lt_mul hp]
    have : 4294967296 * (R + 1) ≤ 4294967296 * p := Nat.mul_le_mul_left _ hR
    omega
  refine ⟨?_, ?_⟩
  · rw [e1, e2, Nat.add_mul_div_left _ _ hp, Nat.add_mul_div_left _ _ hp, Nat.add_mul_mod_self_left, Nat.mod_eq_of_lt hlt]
  · rw [e1, e2, Nat.add_mul_mod_self_left, Nat.add_mul_mod_self_left]

theorem or_hi' (A y t : Nat) (_hA : A < 18446744073709551616) (hy : y < 4294967296) (ht : A % 4294967296 * 4294967296 + y = t) : bits .or .u64 (IntKind.u64.wrap ((A : Int) * 4294967296)) (y : Int) = (t : Int) := by
  have e : IntKind.u64.wrap ((A : Int) * 4294967296) = ((A % 4294967296 : Nat) : Int) * 4294967296 := by rw [IntKind.wrap_u64]; omega
  rw [e, or_hi _ y (by omega) hy]; omega
end Go.Proofs.YtgjainmfilkjmaaGreatDoor
