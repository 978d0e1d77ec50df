/- What quotients and rests of whole numbers are. -/
import Derived.Test.YtabmffenbkdgkaaDoorZ7
import Derived.Test.YtabmffenbkdgkaaDoorW5ToP10
import Derived.Test.YtabmffenbkdgkaaDoorSxToD8

namespace Go.Proofs.YtabmffenbkdgkaaDoor
open Go.RowKit Dig

theorem len_succ {n m l : Nat} (h : n ≤ m + 1) (hm : (dig m).length ≤ l) : (dig n).length ≤ l + 1 := by
  have h1 := Nat.lt_of_lt_of_le (lt_pw_dig m) (pw_mono hm)
  refine dig_length_le ?_
  simp only [pw]
  omega
theorem rnd_bd {x y : Int} (h0 : y ≠ 0) : (0 < y → -y ≤ 2 * (x - rnd x y * y) ∧ 2 * (x - rnd x y * y) < y) ∧ (y < 0 → y < 2 * (x - rnd x y * y) ∧ 2 * (x - rnd x y * y) ≤ -y) := by
  obtain ⟨b1, b2⟩ := fmod_bd (x := x) h0
  rcases Nat.lt_or_ge ((x.fmod y).natAbs + (x.fmod y).natAbs) y.natAbs with h | h
  · rw [(rnd_down h0 h).2]
    exact ⟨fun hy => by have := b1 hy; omega, fun hy => by have := b2 hy; omega⟩
  · rw [(rnd_up h0 h).2]
    exact ⟨fun hy => by have := b1 hy; omega, fun hy => by have := b2 hy; omega⟩
theorem rnd_len {x y : Int} {l : Nat} (h0 : y ≠ 0) (h : (dig x.natAbs).length ≤ l) : (dig (rnd x y).natAbs).length ≤ l + 1 := by
  refine len_succ (m := x.natAbs) ?_ h
  have h1 := fdiv_le (x := x) h0
  rcases Nat.lt_or_ge ((x.fmod y).natAbs + (x.fmod y).natAbs) y.natAbs with h | h
  · rw [(rnd_down h0 h).1]; omega
  · rw [(rnd_up h0 h).1]; omega
theorem rrest_len {x y : Int} {m : Nat} (h0 : y ≠ 0) (h : (dig y.natAbs).length ≤ m) : (dig (x - rnd x y * y).natAbs).length ≤ m := by
  obtain ⟨b1, b2⟩ := rnd_bd (x := x) h0
  refine dig_length_le (Nat.lt_of_lt_of_le (Nat.lt_of_le_of_lt (m := y.natAbs) ?_ (lt_pw_dig _)) (pw_mono h))
  rcases Int.lt_or_gt_of_ne h0 with hy | hy
  · have := b2 hy; omega
  · have := b1 hy; omega
theorem zlen_mul {x y : Int} {l m : Nat} (hx : (dig x.natAbs).length ≤ l) (hy : (dig y.natAbs).length ≤ m) : (dig (x * y).natAbs).length ≤ l + m := by
  rw [Int.natAbs_mul]
  have h := zmul_dig_length (dig x.natAbs) (dig y.natAbs) (OK_dig _) (OK_dig _)
  rw [val_dig, val_dig] at h
  omega
theorem zcmp_eq {x y : Int} (h : x = y) : zcmp x y = 0 := by subst h; unfold zcmp; rw [if_neg (by omega), if_pos rfl]
theorem zcmp_lt {x y : Int} (h : x < y) : zcmp x y = -1 := by unfold zcmp; rw [if_pos h]
theorem zcmp_gt {x y : Int} (h : y < x) : zcmp x y = 1 := by unfold zcmp; rw [if_neg (by omega), if_neg (by omega)]
theorem zcmp_ge {x y : Int} (h : y ≤ x) : 0 ≤ zcmp x y := by unfold zcmp; rw [if_neg (by omega)]; split <;> omega
theorem zcmp_swap (x y : Int) : zcmp x y = -zcmp y x := by
  unfold zcmp
  rcases Int.lt_trichotomy x y with h | h | h
  · rw [if_pos h, if_neg (by omega), if_neg (by omega)]
  · rw [if_neg (by omega), if_pos h, if_neg (by omega), if_pos h.symm]; rfl
  · rw [if_neg (by omega), if_neg (by omega), if_pos h]; rfl
theorem zcmp_bd (x y : Int) : -1 ≤ zcmp x y ∧ zcmp x y ≤ 1 := by
  unfold zcmp; split
  · omega
  · split <;> omega
theorem sign_bd (x : Int) : -1 ≤ x.sign ∧ x.sign ≤ 1 := by
  rcases Int.lt_trichotomy x 0 with h | h | h
  · rw [Int.sign_eq_neg_one_of_neg h]; omega
  · rw [h]; decide
  · rw [Int.sign_eq_one_of_pos h]; omega
theorem fmod_sign {x y : Int} (h0 : y ≠ 0) (hr : x.fmod y ≠ 0) : (x.fmod y).sign = y.sign := by
  obtain ⟨b1, b2⟩ := fmod_bd (x := x) h0
  rcases Int.lt_or_gt_of_ne h0 with hy | hy
  · have := b2 hy; rw [Int.sign_eq_neg_one_of_neg hy, Int.sign_eq_neg_one_of_neg (by omega)]
  · have := b1 hy; rw [Int.sign_eq_one_of_pos hy, Int.sign_eq_one_of_pos (by omega)]
theorem fmod_lt {x y : Int} (h0 : y ≠ 0) : ((x.fmod y).natAbs : Int) < (y.natAbs : Int) := by
  obtain ⟨b1, b2⟩ := fmod_bd (x := x) h0
  rcases Int.lt_or_gt_of_ne h0 with hy | hy
  · have := b2 hy; omega
  · have := b1 hy; omega
theorem nearest_bd {x y : Int} (h0 : y ≠ 0) : -(y.natAbs : Int) ≤ ((x - rnd x y * y) + (x - rnd x y * y)) * y.sign ∧ ((x - rnd x y * y) + (x - rnd x y * y)) * y.sign < (y.natAbs : Int) := by
  obtain ⟨b1, b2⟩ := rnd_bd (x := x) h0
  rcases Int.lt_or_gt_of_ne h0 with hy | hy
  · have := b2 hy; rw [Int.sign_eq_neg_one_of_neg hy]; omega
  · have := b1 hy; rw [Int.sign_eq_one_of_pos hy]; omega
theorem sign_len (y : Int) : (dig y.sign.natAbs).length ≤ 2 := by
  have := sign_bd y
  exact zlen_i y.sign (by omega) (by omega)
end Go.Proofs.YtabmffenbkdgkaaDoor

/- Plain mathematics of shifts, for nat's and the reference's. -/
namespace Go.Proofs.YtabmffenbkdgkaaDoor
open Go.RowKit Dig
theorem seg_zeros0 (n off k : Nat) : val (seg (List.replicate n 0) off k) = 0 := by
  simp only [seg, List.drop_replicate, List.take_replicate]
  exact val_replicate_zero _

theorem or_low (c x s t : Nat) (hs : s < 32) (hc : c < 2 ^ s) (hx : x < 4294967296) (ht : c + x * 2 ^ s = t) : bits .or .u64 (c : Int) (IntKind.u64.wrap ((x : Int) * 2 ^ s)) = (t : Int) := by
  have h1 : 2 ^ s ≤ 2 ^ 31 := Nat.pow_le_pow_right (by decide) (by omega)
  have h2 : x * 2 ^ s ≤ 4294967295 * 2 ^ 31 := Nat.mul_le_mul (by omega) h1
  have e : IntKind.u64.wrap ((x : Int) * 2 ^ s) = ((x * 2 ^ s : Nat) : Int) := by
    have e2 : (x : Int) * 2 ^ s = ((x * 2 ^ s : Nat) : Int) := by simp
    rw [e2, IntKind.wrap_u64]; omega
  have h := u64_or_nat c (x * 2 ^ s) (by omega) (by omega)
  rw [e, h, ← ht]
  congr 1
  have := Nat.shiftLeft_add_eq_or_of_lt hc x
  rw [Nat.shiftLeft_eq] at this
  rw [Nat.or_comm, ← this, Nat.add_comm]

theorem shl_t (c x s : Nat) (hs : s < 32) (hc : c < 2 ^ s) (hx : x < 4294967296) : c + x * 2 ^ s < 18446744073709551616 ∧ (c + x * 2 ^ s) / 4294967296 < 2 ^ s := by
  have h1 : 2 ^ s ≤ 2 ^ 31 := Nat.pow_le_pow_right (by decide) (by omega)
  have h2 : x * 2 ^ s ≤ 4294967295 * 2 ^ s := Nat.mul_le_mul_right _ (by omega)
  generalize 2 ^ s = p at *
  omega

theorem shl_fin {X ys : List Nat} {k s n c : Nat} (ok : OK X) (okys : OK ys) (hyl : ys.length = k + X.length + 1) (hn : n = 32 * k + s) (hs : s < 32) (hlow : ∀ j, j < k → ys[j]?.getD 0 = 0)
    (heq : val (seg ys k (X.length + 1)) + pw (X.length + 1) * c = val (X ++ [0]) + (2 ^ s - 1) * val (X ++ [0])) : strip ys = dig (val X * 2 ^ n) := by
  rw [val_snoc_zero] at heq
  have hp : 0 < 2 ^ s := Nat.pow_pos (by decide)
  have e1 : val X + (2 ^ s - 1) * val X = 2 ^ s * val X := by
    have : 2 ^ s = 2 ^ s - 1 + 1 := by omega
    conv => rhs; rw [this, Nat.add_mul, Nat.one_mul]
    omega
  rw [e1] at heq
  have h1 := val_lt ok
  have h2 : 2 ^ s ≤ 2 ^ 31 := Nat.pow_le_pow_right (by decide) (by omega)
  have hc : c = 0 := by
    rcases Nat.eq_zero_or_pos c with hc | hc
    · exact hc
    · have h4 : pw (X.length + 1) * 1 ≤ pw (X.length + 1) * c := Nat.mul_le_mul_left _ hc
      have h5 : 2 ^ s * val X ≤ 2 ^ 31 * val X := Nat.mul_le_mul_right _ h2
      simp only [pw] at h4 heq
      omega
  subst hc
  have s1 := seg_split (xs := ys) (off := 0) (k := k) (n := ys.length) (by omega) (by omega)
  rw [seg_all, Nat.zero_add] at s1
  have e2 : ys.length - k = X.length + 1 := by omega
  have e3 : val (seg ys 0 k) = 0 := by
    have : seg ys 0 k = seg (List.replicate ys.length 0) 0 k := seg_congr (by simp) (fun j _ h => by rw [hlow j (by omega)]; simp [show j < ys.length by omega])
    rw [this, seg_zeros0]
  rw [e2, e3] at s1
  rw [← dig_val okys]
  congr 1
  rw [s1, hn, Nat.pow_add, ← pw_eq, ← Nat.mul_assoc, Nat.mul_comm (val X), Nat.mul_assoc, Nat.mul_comm (val X)]
  have e4 : val (seg ys k (X.length + 1)) = 2 ^ s * val X := by omega
  rw [e4, Nat.zero_add]

def shlI (n : Int) : Int := if n < 0 then 9 else if 65536 < n then 12 else 0
def shlD (m : Nat) (n : Int) : List Nat := if n < 0 ∨ 65536 < n then [] else dig (m * 2 ^ n.toNat)
def shrI (n : Int) : Int := if n < 0 then 9 else 0
def shrD (m : Nat) (n : Int) : List Nat := if n < 0 then [] else dig (m / 2 ^ n.toNat)

theorem shr_step {p p' V A x t : Nat} (hp : 0 < p) (hB : p * p' = 4294967296) (hx : x < 4294967296) (hA : A % p = V % p) (ht : A % 4294967296 * 4294967296 + x = t) :
    (x + 4294967296 * V) / p = t / p % 4294967296 + 4294967296 * (V / p) ∧ t % p = (x + 4294967296 * V) % p := by
  have hV := Nat.div_add_mod V p
  have hd : p ∣ 4294967296 := ⟨p', hB.symm⟩
  have hAB := Nat.div_add_mod (A % 4294967296) p
  rw [Nat.mod_mod_of_dvd A hd, hA] at hAB
  have hR := Nat.mod_lt V hp
  generalize V / p = Q at *
  generalize V % p = R at *
  generalize A % 4294967296 / p = q at *
  have e1 : x + 4294967296 * V = (x + 4294967296 * R) + p * (4294967296 * Q) := by
    rw [← hV, Nat.mul_add, Nat.mul_left_comm]; omega
  have e2 : t = (x + 4294967296 * R) + p * (4294967296 * q) := by
    rw [← ht, ← hAB, Nat.add_mul, Nat.mul_assoc, Nat.mul_comm q]; omega
  have hlt : (x + 4294967296 * R) / p < 4294967296 := by
    rw [Nat.div_lt_iff_lt_mul hp]
    have : 4294967296 * (R + 1) ≤ 4294967296 * p := Nat.mul_le_mul_left _ hR
    omega
  refine ⟨?_, ?_⟩
  · rw [e1, e2, Nat.add_mul_div_left _ _ hp, Nat.add_mul_div_left _ _ hp, Nat.add_mul_mod_self_left, Nat.mod_eq_of_lt hlt]
  · rw [e1, e2, Nat.add_mul_mod_self_left, Nat.add_mul_mod_self_left]

theorem or_hi' (A y t : Nat) (_hA : A < 18446744073709551616) (hy : y < 4294967296) (ht : A % 4294967296 * 4294967296 + y = t) : bits .or .u64 (IntKind.u64.wrap ((A : Int) * 4294967296)) (y : Int) = (t : Int) := by
  have e : IntKind.u64.wrap ((A : Int) * 4294967296) = ((A % 4294967296 : Nat) : Int) * 4294967296 := by rw [IntKind.wrap_u64]; omega
  rw [e, or_hi _ y (by omega) hy]; omega
end Go.Proofs.YtabmffenbkdgkaaDoor
