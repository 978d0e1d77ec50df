/- The reference's Text answers the decimal digits. -/
import Derived.Maps.AppendAt
import Derived.Test.YtgjainmfilkjmaaDoorW8
import Derived.Test.YtgjainmfilkjmaaDoorR9
namespace Go.Proofs.YtgjainmfilkjmaaDoor
open Go.RowKit Dig Go.Lib

theorem b8n (d : Nat) (h : d < 10) : (UInt8.ofNat (48 + d)).toNat = 48 + d := by
  rw [UInt8.toNat_ofNat']
  omega

/-- The digits of a number, none of nought. -/
def eD (n : Nat) : List UInt8 := if n = 0 then [] else decDigits n
theorem eD_zero : eD 0 = [] := rfl
theorem eD_step (n : Nat) (h : 0 < n) : eD n = eD (n / 10) ++ [UInt8.ofNat (48 + n % 10)] := by
  unfold eD
  rw [if_neg (by omega)]
  by_cases h10 : n < 10
  · rw [if_pos (by omega), decDigits, dif_pos h10, Nat.mod_eq_of_lt h10]; rfl
  · rw [if_neg (by omega), decDigits, dif_neg h10]
theorem eD_length (n : Nat) : (eD n).length ≤ (decDigits n).length := by
  unfold eD; split <;> simp

theorem pw_le_ten' (L : Nat) : pw L ≤ 10 ^ (10 * L) := by
  rw [pw_eq, Nat.pow_mul, Nat.pow_mul]
  exact Nat.pow_le_pow_left (by decide) L
theorem dec_len' {n L : Nat} (h : n < pw L) (hL : 0 < L) : (decDigits n).length ≤ 10 * L :=
  decDigits_length_le _ _ (by omega) (Nat.lt_of_lt_of_le h (pw_le_ten' L))

theorem rshort_g {w : World} {va : Value} {g : Nat} (hx : Rd w va (dig g)) (hl : (dig g).length ≤ 100000000000) :
    Calls Tryd.prog 142 #[va, .int .u32 1000000000] w fun e w' => ∃ v, e = .returned (.tuple #[v, .int .u32 ((g % 1000000000 : Nat) : Int)]) ∧ Rd w' v (dig (g / 1000000000)) ∧ NewAt w.heap.size v ∧ Below w.heap.size w w' := by
  obtain ⟨oa, ca, rfl, hca, okx, hcx⟩ := hx
  have h := rshort_any oa ca 1000000000 (dig g) w hl hca okx hcx (by decide) (by decide)
  rw [val_dig] at h
  exact h
theorem rtrim_g {w : World} {va : Value} {xs : List Nat} (hx : Rd w va xs) (hl : xs.length ≤ 100000000000) :
    Calls Tryd.prog 99 #[va] w fun e w' => ∃ v, e = .returned v ∧ Rd w' v (dig (val xs)) ∧ Below w.heap.size w w' := by
  obtain ⟨oa, ca, rfl, hca, okx, hcx⟩ := hx
  rw [dig_val okx]
  exact rtrim_any oa ca xs w (by omega) hca okx hcx

/-- v lies in another block than the row that grows. -/
def Apart (v : Value) (ob : Option Nat) : Prop := ∀ a n c, v = .slice (some a) n c → ob ≠ some a.block
theorem Rd.grown {w w' : World} {v : Value} {ds : List Nat} {ob : Option Nat} (h : Rd w v ds) (hg : w.grownBy w' ob) (ho : Apart v ob) : Rd w' v ds := by
  obtain ⟨oa, cap, rfl, hc, ok, hcell⟩ := h
  refine ⟨oa, cap, rfl, hc, ok, ?_⟩
  rcases hcell with h | ⟨b, off, rfl, hcell⟩
  · exact .inl h
  · refine .inr ⟨b, off, rfl, fun i hi => ?_⟩
    have h1 := hcell i hi
    have hne := ho _ _ _ rfl
    rw [← h1]
    have hlt : b < w.heap.size := by
      rcases Nat.lt_or_ge b w.heap.size with h | h
      · exact h
      · simp [World.cell?, Array.getElem?_eq_none h] at h1
    simp only [World.cell?]
    rw [hg.block b hlt (fun e => hne e.symm)]
theorem Rd.lt {w : World} {v : Value} {g : Nat} (h : Rd w v (dig g)) (hg : 0 < g) : ∀ a n c, v = .slice (some a) n c → a.block < w.heap.size := by
  obtain ⟨oa, cap, rfl, hc, ok, hcell⟩ := h
  intro a n c e
  rcases hcell with h | ⟨b, off, rfl, hcell⟩
  · have := val_dig g; rw [h] at this; simp [val] at this; omega
  · cases e
    have hl : 0 < (dig g).length := by
      rcases Nat.eq_zero_or_pos (dig g).length with h | h
      · have e := List.length_eq_zero_iff.1 h
        have := val_dig g; rw [e] at this; simp [val] at this; omega
      · exact h
    have h1 := hcell 0 hl
    rcases Nat.lt_or_ge b w.heap.size with h | h
    · exact h
    · simp [World.cell?, Array.getElem?_eq_none h] at h1
theorem dig_pos {g : Nat} (hg : 0 < g) : 0 < (dig g).length := by
  rcases Nat.eq_zero_or_pos (dig g).length with h | h
  · have e := List.length_eq_zero_iff.1 h
    have := val_dig g; rw [e] at this; simp [val] at this; omega
  · exact h

theorem Rd.empty {w w' : World} {v : Value} (h : Rd w v (dig 0)) : Rd w' v (dig 0) := by
  obtain ⟨oa, cap, rfl, hc, ok, _⟩ := h
  exact ⟨oa, cap, rfl, hc, ok, .inl rfl⟩
theorem tstep {N k gq ri : Nat} {bs : List UInt8} (hk : k < 9) (hp : 0 < gq ∨ 0 < ri) (h : eD N = eD (gq * 10 ^ (9 - k) + ri) ++ bs.reverse) (hr : ri < 10 ^ (9 - k)) :
    eD N = eD (gq * 10 ^ (9 - (k + 1)) + ri / 10) ++ (bs ++ [UInt8.ofNat (48 + ri % 10)]).reverse ∧ ri / 10 < 10 ^ (9 - (k + 1)) := by
  obtain ⟨j, hj⟩ : ∃ j, 9 - k = j + 1 := ⟨8 - k, by omega⟩
  have hj2 : 9 - (k + 1) = j := by omega
  rw [hj] at h hr
  rw [hj2]
  have hpp : 0 < 10 ^ j := Nat.pow_pos (by decide)
  have e : gq * 10 ^ (j + 1) = 10 * (gq * 10 ^ j) := by rw [Nat.pow_succ, ← Nat.mul_assoc, Nat.mul_comm]
  have hM : 0 < gq * 10 ^ (j + 1) + ri := by
    rcases hp with h | h
    · have := Nat.mul_pos h (Nat.pow_pos (n := j + 1) (show 0 < 10 by decide)); omega
    · omega
  rw [Nat.pow_succ] at hr
  refine ⟨?_, by omega⟩
  rw [h, eD_step _ hM, e, List.reverse_append]
  have e1 : (10 * (gq * 10 ^ j) + ri) / 10 = gq * 10 ^ j + ri / 10 := by omega
  have e2 : (10 * (gq * 10 ^ j) + ri) % 10 = ri % 10 := by omega
  rw [e1, e2]
  simp
theorem tend {N k gq ri : Nat} {bs : List UInt8} (he : k = 9 ∨ (gq = 0 ∧ ri = 0)) (h : eD N = eD (gq * 10 ^ (9 - k) + ri) ++ bs.reverse) (hr : ri < 10 ^ (9 - k)) : eD N = eD gq ++ bs.reverse := by
  rcases he with he | ⟨h1, h2⟩
  · subst he
    have : ri = 0 := by simpa using hr
    subst this
    simpa using h
  · subst h1 h2; simpa using h

end Go.Proofs.YtgjainmfilkjmaaDoor
