/- Rationals as such: what sums, products, quotients and the order of fractions are worth. -/
import Derived.Test.YtkgbfnmlpajblaaGreatDoorT1ToQ10
import Derived.Test.YtkgbfnmlpajblaaGreatDoorQ14ToR20

namespace Go.Proofs.YtkgbfnmlpajblaaGreatDoor
open Go Go.RowKit Dig
set_option linter.unusedVariables false

def rv (x y : Int) : Rat := (x : Rat) / (y : Rat)
theorem cast_ne {y : Int} (h : y ≠ 0) : (y : Rat) ≠ 0 := by
  intro h0; exact h (by exact_mod_cast h0)
theorem rv_neg (x y : Int) : rv (-x) (-y) = rv x y := by
  unfold rv
  rw [Rat.intCast_neg, Rat.intCast_neg]; grind
theorem rv_lt {x y u v : Int} (hy : 0 < y) (hv : 0 < v) : rv x y < rv u v ↔ x * v < u * y := by
  have h1 : (0 : Rat) < (y : Rat) := by exact_mod_cast hy
  have h2 : (0 : Rat) < (v : Rat) := by exact_mod_cast hv
  unfold rv
  rw [Rat.div_lt_iff h1]
  rw [show (u : Rat) / (v : Rat) * (y : Rat) = ((u : Rat) * (y : Rat)) / (v : Rat) by grind, Rat.lt_div_iff h2]
  rw [← Rat.intCast_mul, ← Rat.intCast_mul]
  exact Rat.intCast_lt_intCast
theorem rv_eq {x y u v : Int} (hy : y ≠ 0) (hv : v ≠ 0) : rv x y = rv u v ↔ x * v = u * y := by
  have h1 := cast_ne hy
  have h2 := cast_ne hv
  rw [← Rat.intCast_inj, Rat.intCast_mul, Rat.intCast_mul]
  unfold rv
  constructor <;> intro h <;> grind
def rcmp (a b : Rat) : Int := if a < b then -1 else if a = b then 0 else 1
theorem qcmp_pos {x y u v : Int} (hy : 0 < y) (hv : 0 < v) : zcmp (x * v) (u * y) = rcmp (rv x y) (rv u v) := by
  unfold zcmp rcmp
  simp only [rv_lt hy hv, rv_eq (show y ≠ 0 by omega) (show v ≠ 0 by omega)]
theorem qcmp_rv {x y u v : Int} (hy : y ≠ 0) (hv : v ≠ 0) : qcmp x y u v = rcmp (rv x y) (rv u v) := by
  unfold qcmp
  rcases Int.lt_or_gt_of_ne hy with h1 | h1 <;> rcases Int.lt_or_gt_of_ne hv with h2 | h2
  · rw [Int.sign_eq_neg_one_of_neg h1, Int.sign_eq_neg_one_of_neg h2, ← rv_neg x y, ← rv_neg u v, ← qcmp_pos (by omega) (by omega), Int.neg_mul_neg, Int.neg_mul_neg]; omega
  · rw [Int.sign_eq_neg_one_of_neg h1, Int.sign_eq_one_of_pos h2, ← rv_neg x y, ← qcmp_pos (by omega) h2, zcmp_swap]
    simp only [Int.neg_mul, Int.mul_neg, Int.mul_one]
    unfold zcmp; split <;> split <;> (try split) <;> (try split) <;> omega
  · rw [Int.sign_eq_one_of_pos h1, Int.sign_eq_neg_one_of_neg h2, ← rv_neg u v, ← qcmp_pos h1 (by omega), zcmp_swap]
    simp only [Int.neg_mul, Int.mul_neg, Int.mul_one]
    unfold zcmp; split <;> split <;> (try split) <;> (try split) <;> omega
  · rw [Int.sign_eq_one_of_pos h1, Int.sign_eq_one_of_pos h2, ← qcmp_pos h1 h2]; omega
theorem rv_sub {x y u v : Int} (hy : y ≠ 0) (hv : v ≠ 0) : rv (x * v - u * y) (y * v) = rv x y - rv u v := by
  have h1 := cast_ne hy
  have h2 := cast_ne hv
  unfold rv
  rw [Rat.intCast_sub, Rat.intCast_mul, Rat.intCast_mul, Rat.intCast_mul]; grind
theorem rv_low {x y : Int} (hy : y ≠ 0) : rv (qN x y) (qD x y) = rv x y :=
  (rv_eq (by have := qD_pos (x := x) hy; omega) hy).2 (q_cross hy)
theorem rv_opSub {x y u v : Int} (hy : y ≠ 0) (hv : v ≠ 0) : rv (opSub (x * v) (u * y)) (y * v) = rv x y - rv u v := rv_sub hy hv
end Go.Proofs.YtkgbfnmlpajblaaGreatDoor

/- Texts of whole numbers, read back. -/
namespace Go.Proofs.YtkgbfnmlpajblaaGreatDoor
open Go Go.RowKit Dig Lib
set_option linter.unusedVariables false

theorem b8_nat (d : Nat) (h : d < 10) : (UInt8.ofNat (48 + d)).toNat = 48 + d := by
  rw [UInt8.toNat_ofNat']
  omega
theorem isD_b8 (d : Nat) (h : d < 10) : isD (UInt8.ofNat (48 + d)) = true := by
  unfold isD
  rw [b8_nat d h]
  exact decide_eq_true (by omega)
theorem dec_one (d : Nat) (h : d < 10) : decDigits d = [UInt8.ofNat (48 + d)] := by
  rw [decDigits, dif_pos h]
theorem dec_more (n : Nat) (h : ¬ n < 10) : decDigits n = decDigits (n / 10) ++ [UInt8.ofNat (48 + n % 10)] := by
  rw [decDigits, dif_neg h]
theorem dec_facts (n : Nat) : (decDigits n).all isD = true ∧ pval (decDigits n) = n ∧ 0 < (decDigits n).length ∧ (0 < n → ∃ c, (decDigits n)[0]? = some c ∧ 48 < c.toNat) := by
  induction n using Nat.strongRecOn with
  | ind n ih =>
    by_cases h : n < 10
    · rw [dec_one n h]
      refine ⟨by rw [List.all_cons, isD_b8 n h]; rfl, ?_, by simp, fun hp => ⟨_, rfl, by rw [b8_nat n h]; omega⟩⟩
      simp only [pval, List.foldl_cons, List.foldl_nil, b8_nat n h]
      omega
    · rw [dec_more n h]
      obtain ⟨h1, h2, h3, h4⟩ := ih (n / 10) (by omega)
      refine ⟨by rw [List.all_append, h1, List.all_cons, isD_b8 (n % 10) (by omega)]; rfl, ?_, by simp, fun _ => ?_⟩
      · rw [pval_snoc, h2, b8_nat _ (by omega)]; omega
      · obtain ⟨c, hc, hk⟩ := h4 (by omega)
        exact ⟨c, by rw [List.getElem?_append_left h3]; exact hc, hk⟩
theorem minus_no' {s : ByteArray} (h : digitsB s.data.toList = true) : minusB s = false := by
  have h0 := digits_pos h
  rw [minus_at s h0]
  have h1 := digits_all' h
  have h2 : s[0] ∈ s.data.toList := by
    have : s[0] = s.data.toList[0]'(by rw [← Lib.size_eq]; exact h0) := rfl
    rw [this]; exact List.getElem_mem _
  have h3 := List.all_eq_true.1 h1 _ h2
  unfold isD at h3
  have h4 := of_decide_eq_true h3
  rw [beq_eq_false_iff_ne]
  omega
/-- A whole number's text, as a list. -/
def zlist (z : Int) : List UInt8 := if z < 0 then (45 : UInt8) :: decDigits z.natAbs else decDigits z.natAbs
theorem dec_digits (n : Nat) : digitsB (decDigits n) = true := by
  obtain ⟨h1, _, h3, _⟩ := dec_facts n
  unfold digitsB
  rw [h1, Bool.true_and]
  cases h : decDigits n with
  | nil => rw [h] at h3; exact absurd h3 (by decide)
  | cons c l => rfl
theorem ext_one {s : ByteArray} {c : UInt8} {l : List UInt8} (hs : s.data.toList = c :: l) : (s.extract 1 s.size).data.toList = l := by
  rw [extract_data, hs, size_eq, hs]
  simp
theorem minus_zlist {s : ByteArray} {z : Int} (hs : s.data.toList = zlist z) : minusB s = decide (z < 0) := by
  unfold zlist at hs
  by_cases h : z < 0
  · rw [if_pos h] at hs
    unfold minusB
    rw [decide_eq_true h, size_eq, hs, extract_toList, hs]
    simp
  · rw [if_neg h] at hs
    rw [decide_eq_false h]
    exact minus_no' (by rw [hs]; exact dec_digits _)
theorem zok_zlist {s : ByteArray} {z : Int} (hs : s.data.toList = zlist z) : zok s = true ∧ zvl s = z := by
  have hm := minus_zlist hs
  unfold zlist at hs
  unfold zok zvl
  by_cases h : z < 0
  · rw [if_pos h] at hs
    rw [decide_eq_true h] at hm
    rw [if_pos hm, if_pos hm, ext_one hs, (dec_facts _).2.1]
    exact ⟨dec_digits _, by omega⟩
  · rw [if_neg h] at hs
    rw [decide_eq_false h] at hm
    rw [if_neg (by rw [hm]; exact Bool.false_ne_true), if_neg (by rw [hm]; exact Bool.false_ne_true), hs, (dec_facts _).2.1]
    exact ⟨dec_digits _, by omega⟩
/-- What signs stand in it. -/
theorem zlist_mem {z : Int} {c : UInt8} (h : c ∈ zlist z) : c.toNat = 45 ∨ (48 ≤ c.toNat ∧ c.toNat ≤ 57) := by
  have key : ∀ n, c ∈ decDigits n → 48 ≤ c.toNat ∧ c.toNat ≤ 57 := by
    intro n hc
    have h1 := List.all_eq_true.1 (dec_facts n).1 c hc
    unfold isD at h1
    exact of_decide_eq_true h1
  unfold zlist at h
  split at h
  · rcases List.mem_cons.1 h with rfl | h
    · exact .inl rfl
    · exact .inr (key _ h)
  · exact .inr (key _ h)
end Go.Proofs.YtkgbfnmlpajblaaGreatDoor

/- A rational's text, read back; what is left of the nearest and of the floor. -/
namespace Go.Proofs.YtkgbfnmlpajblaaGreatDoor
open Go Go.RowKit Dig Lib
set_option linter.unusedVariables false

theorem zts_list (z : Int) : (zts z).data.toList = zlist z := rfl
theorem no_slash {z : Int} {c : UInt8} (h : c ∈ zlist z) : c ≠ 47 := by
  have := zlist_mem h
  intro h2; rw [h2] at this
  have : (47 : UInt8).toNat = 47 := rfl
  omega
theorem mem_of_get {l : List UInt8} {i : Nat} {c : UInt8} (h : l[i]? = some c) : c ∈ l := by
  exact List.mem_of_getElem? h
/-- One part: no slash. -/
theorem slash_one {s : ByteArray} {z : Int} (hs : s.data.toList = zlist z) : indexByte s.data.toList 47 = -1 := by
  obtain ⟨k, hk, hi⟩ := slash_of s
  rw [hi]
  split
  · rename_i hlt
    have := hk.2.2 hlt
    rw [hs] at this
    exact absurd rfl (no_slash (mem_of_get this))
  · rfl
/-- Two parts: the slash stands behind the first. -/
theorem slash_two {s : ByteArray} {a b : Int} (hs : s.data.toList = zlist a ++ 47 :: zlist b) : indexByte s.data.toList 47 = ((zlist a).length : Nat) ∧ (zlist a).length < s.size := by
  have hsz : s.size = (zlist a).length + ((zlist b).length + 1) := by rw [size_eq, hs, List.length_append, List.length_cons]
  obtain ⟨k, hk, hi⟩ := slash_of s
  have h1 : ¬ (zlist a).length < k := by
    intro h
    have := hk.2.1 _ h
    rw [hs, List.getElem?_append_right (Nat.le_refl _), Nat.sub_self] at this
    exact this rfl
  have h2 : ¬ k < (zlist a).length := by
    intro h
    have := hk.2.2 (by omega)
    rw [hs, List.getElem?_append_left h] at this
    exact no_slash (mem_of_get this) rfl
  obtain rfl : k = (zlist a).length := by omega
  rw [if_pos (by omega)] at hi
  exact ⟨hi, by omega⟩
theorem qts_parts {x y : Int} (h1 : qD x y ≠ 1) : (qts x y).data.toList = zlist (qN x y) ++ 47 :: zlist (qD x y) := by
  unfold qts; rw [if_neg h1]
  rw [ByteArray.data_append, Array.toList_append, ByteArray.data_append, Array.toList_append]
  rfl
/-- A rational's text is read as the rational in lowest terms. -/
theorem fParse_text {x y : Int} (h0 : y ≠ 0) (hs : (qts x y).size ≤ 65536) (w : World) :
    Calls Tryz.prog 48 #[.string (qts x y)] w fun e w' => ∃ r, e = .returned (.tuple #[r, .int .i64 0]) ∧ PC w' r (qN x y) (qD x y) ∧ Below w.heap.size w w' := by
  have hd := qD_pos (x := x) h0
  by_cases h1 : qD x y = 1
  · have e : qts x y = zts (qN x y) := by unfold qts; rw [if_pos h1]
    have hz := zok_zlist (zts_list (qN x y))
    rw [h1]
    rw [e] at hs ⊢
    have := fParse_w1 (zts (qN x y)) w hs (slash_one (zts_list _)) hz.1
    rw [hz.2] at this
    exact this
  · have hp := qts_parts h1
    obtain ⟨hi, hlt⟩ := slash_two hp
    have eT : ((qts x y).extract 0 (zlist (qN x y)).length).data.toList = zlist (qN x y) := by
      rw [extract_data, hp]; simp
    have eB : ((qts x y).extract ((zlist (qN x y)).length + 1) (qts x y).size).data.toList = zlist (qD x y) := by
      rw [extract_data, hp, size_eq, hp]; simp
      exact List.take_of_length_le (by omega)
    have zT := zok_zlist eT
    have zB := zok_zlist eB
    have hT : ((qts x y).extract 0 (zlist (qN x y)).length).size ≤ 65536 := by rw [ByteArray.size_extract]; omega
    have hB : ((qts x y).extract ((zlist (qN x y)).length + 1) (qts x y).size).size ≤ 65536 := by rw [ByteArray.size_extract]; omega
    have hm : minusB ((qts x y).extract ((zlist (qN x y)).length + 1) (qts x y).size) = false := by rw [minus_zlist eB]; exact decide_eq_false (by omega)
    have := fParse_ok w hs hlt hi _ _ rfl rfl hT zT.1 hB hm zB.1 (by rw [zB.2]; omega)
    rw [zT.2, zB.2, qN_low (low_q h0), qD_low (low_q h0)] at this
    exact this
theorem nearest_q {x y : Int} (hy : y ≠ 0) : 0 ≤ rcmp (rv x y - rv (rnd x y) 1) (rv (-1) 2) ∧ rcmp (rv x y - rv (rnd x y) 1) (rv 1 2) < 0 := by
  have hb := rnd_bd (x := x) hy
  have e : rv x y - rv (rnd x y) 1 = rv (x - rnd x y * y) y := by
    have := rv_sub (x := x) (u := rnd x y) hy (show (1 : Int) ≠ 0 by decide)
    rw [Int.mul_one, Int.mul_one] at this
    exact this.symm
  rw [e]
  generalize x - rnd x y * y = t at *
  rcases Int.lt_or_gt_of_ne hy with h | h
  · rw [← rv_neg t y, ← qcmp_rv (by omega) (by decide), ← qcmp_rv (by omega) (by decide)]
    have h2 := hb.2 h
    unfold qcmp
    rw [Int.sign_eq_one_of_pos (show 0 < -y by omega), show (2 : Int).sign = 1 from rfl, Int.mul_one, Int.mul_one, Int.mul_one, Int.mul_one]
    exact ⟨zcmp_ge (by omega), by rw [zcmp_lt (by omega)]; decide⟩
  · rw [← qcmp_rv (by omega) (by decide), ← qcmp_rv (by omega) (by decide)]
    have h2 := hb.1 h
    unfold qcmp
    rw [Int.sign_eq_one_of_pos h, show (2 : Int).sign = 1 from rfl, Int.mul_one, Int.mul_one, Int.mul_one, Int.mul_one]
    exact ⟨zcmp_ge (by omega), by rw [zcmp_lt (by omega)]; decide⟩
theorem floor_q {x y : Int} (hy : y ≠ 0) : 0 ≤ rcmp (rv x y - rv (x.fdiv y) 1) (rv 0 1) ∧ rcmp (rv x y - rv (x.fdiv y) 1) (rv 1 1) < 0 := by
  have hb := fmod_bd (x := x) hy
  have he := fmod_eq x y
  have e : rv x y - rv (x.fdiv y) 1 = rv (x.fmod y) y := by
    have := rv_sub (x := x) (u := x.fdiv y) hy (show (1 : Int) ≠ 0 by decide)
    rw [Int.mul_one, Int.mul_one] at this
    rw [← this]; congr 1; omega
  rw [e]
  generalize x.fmod y = t at *
  rcases Int.lt_or_gt_of_ne hy with h | h
  · rw [← rv_neg t y, ← qcmp_rv (by omega) (by decide), ← qcmp_rv (by omega) (by decide)]
    have h2 := hb.2 h
    unfold qcmp
    rw [Int.sign_eq_one_of_pos (show 0 < -y by omega), show (1 : Int).sign = 1 from rfl, Int.mul_one, Int.mul_one, Int.mul_one, Int.mul_one]
    exact ⟨zcmp_ge (by omega), by rw [zcmp_lt (by omega)]; decide⟩
  · rw [← qcmp_rv (by omega) (by decide), ← qcmp_rv (by omega) (by decide)]
    have h2 := hb.1 h
    unfold qcmp
    rw [Int.sign_eq_one_of_pos h, show (1 : Int).sign = 1 from rfl, Int.mul_one, Int.mul_one, Int.mul_one, Int.mul_one]
    exact ⟨zcmp_ge (by omega), by rw [zcmp_lt (by omega)]; decide⟩
end Go.Proofs.YtkgbfnmlpajblaaGreatDoor

