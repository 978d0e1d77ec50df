/- Plain mathematics of decimal numerals by groups of nine. -/
import Derived.Lib.ItoaNum
import Derived.Test.YtlomgfgedkkhkaaGreatDoorDig
namespace Go.Proofs.YtlomgfgedkkhkaaGreatDoor
open Go.Lib

/-- The value of groups by 10^9, the lowest first. -/
def gval : List Nat → Nat
  | [] => 0
  | g :: gs => g + 1000000000 * gval gs
theorem gval_append (gs hs : List Nat) : gval (gs ++ hs) = gval gs + 1000000000 ^ gs.length * gval hs := by
  induction gs with
  | nil => simp [gval]
  | cons g gs ih => simp only [List.cons_append, gval, ih, List.length_cons, Nat.pow_succ, Nat.mul_add]; rw [← Nat.mul_assoc, Nat.mul_comm 1000000000 (1000000000 ^ gs.length)]; omega
/-- k digits of g, with noughts ahead. -/
def pad : Nat → Nat → List UInt8
  | 0, _ => []
  | k + 1, g => pad k (g / 10) ++ [UInt8.ofNat (48 + g % 10)]
theorem pad_length (k g : Nat) : (pad k g).length = k := by
  induction k generalizing g with
  | zero => rfl
  | succ k ih => simp [pad, ih]
theorem decDigits_pad (k g M : Nat) (hM : 0 < M) (hg : g < 10 ^ k) : decDigits (g + 10 ^ k * M) = decDigits M ++ pad k g := by
  induction k generalizing g with
  | zero => simp at hg; subst hg; simp [pad]
  | succ k ih =>
    have hp : 0 < 10 ^ k := Nat.pow_pos (by decide)
    have hge : 10 ^ (k + 1) ≤ 10 ^ (k + 1) * M := Nat.le_mul_of_pos_right _ hM
    rw [Nat.pow_succ] at hg hge ⊢
    have h10 : ¬ g + 10 ^ k * 10 * M < 10 := by omega
    have e : 10 ^ k * 10 * M = 10 * (10 ^ k * M) := by rw [Nat.mul_comm (10 ^ k) 10, Nat.mul_assoc]
    rw [decDigits, dif_neg h10, e]
    have e1 : (g + 10 * (10 ^ k * M)) / 10 = g / 10 + 10 ^ k * M := by omega
    have e2 : (g + 10 * (10 ^ k * M)) % 10 = g % 10 := by omega
    rw [e1, e2, ih (g / 10) (by omega)]
    simp [pad]
theorem drop_one_pad (k g : Nat) (hg : g < 10 ^ k) : (decDigits (10 ^ k + g)).drop 1 = pad k g := by
  have h := decDigits_pad k g 1 (by decide) hg
  rw [Nat.mul_one, Nat.add_comm] at h
  rw [h, decDigits, dif_pos (by decide)]
  rfl
theorem group_step (g M : Nat) (hM : 0 < M) (hg : g < 1000000000) : decDigits (g + 1000000000 * M) = decDigits M ++ (decDigits (1000000000 + g)).drop 1 := by
  have h1 := decDigits_pad 9 g M hM (by simpa using hg)
  have h2 := drop_one_pad 9 g (by simpa using hg)
  have e : (10 : Nat) ^ 9 = 1000000000 := by decide
  rw [e] at h1 h2
  rw [h1, h2]
theorem group_length (g : Nat) (hg : g < 1000000000) : (decDigits (1000000000 + g)).length = 10 := by
  have h1 := decDigits_pad 9 g 1 (by decide) (by simpa using hg)
  have e : (10 : Nat) ^ 9 = 1000000000 := by decide
  rw [e, Nat.mul_one, Nat.add_comm] at h1
  rw [h1, List.length_append, pad_length, decDigits, dif_pos (by decide)]
  rfl
theorem decDigits_length_le (k u : Nat) (hk : 0 < k) (h : u < 10 ^ k) : (decDigits u).length ≤ k := by
  induction k generalizing u with
  | zero => omega
  | succ k ih =>
    rw [decDigits]
    split
    · simp
    · rename_i h10
      rw [Nat.pow_succ] at h
      have hk0 : 0 < k := by
        rcases Nat.eq_zero_or_pos k with hk0 | hk0
        · subst hk0; simp at h; omega
        · exact hk0
      have := ih (u / 10) hk0 (by omega)
      simp only [List.length_append, List.length_singleton]; omega
theorem gval_pos {gs : List Nat} {k : Nat} (hk : k < gs.length) (ht : gs[gs.length - 1]?.getD 0 ≠ 0) : 0 < gval (gs.drop k) := by
  induction gs generalizing k with
  | nil => simp at hk
  | cons g gs ih =>
    match k with
    | 0 =>
      simp only [List.drop_zero, gval]
      cases gs with
      | nil => simp at ht; simp [gval]; omega
      | cons h t =>
        have := ih (k := 0) (by simp) (by simpa using ht)
        simp only [List.drop_zero] at this
        omega
    | k + 1 =>
      have hne : gs ≠ [] := fun e => by subst e; simp at hk
      have hl : 0 < gs.length := List.length_pos_iff.2 hne
      refine ih (k := k) (by simpa using hk) ?_
      simp only [List.length_cons, Nat.add_sub_cancel] at ht
      have e : gs.length = gs.length - 1 + 1 := by omega
      rw [e, List.getElem?_cons_succ] at ht
      exact ht
theorem gval_drop {gs : List Nat} {k : Nat} (hk : k < gs.length) : gval (gs.drop k) = gs[k]?.getD 0 + 1000000000 * gval (gs.drop (k + 1)) := by
  rw [List.drop_eq_getElem_cons hk, List.getElem?_eq_getElem hk]; rfl
end Go.Proofs.YtlomgfgedkkhkaaGreatDoor

