/- The guess of a quotient's digit: shifted digits as digits of the shifted number, and where the guess ends. Plain mathematics. -/
import Derived.Test.YtlomgfgedkkhkaaGreatDoorZ5ToD2
namespace Go.Proofs.YtlomgfgedkkhkaaGreatDoor
open Go.RowKit Dig

/-- A digit by division. -/
theorem digit_div {xs : List Nat} (ok : OK xs) (k : Nat) : xs[k]?.getD 0 = val xs / pw k % 4294967296 := by
  induction xs generalizing k with
  | nil => simp [val]
  | cons d ds ih =>
    have hd := ok.head
    match k with
    | 0 => simp only [List.getElem?_cons_zero, Option.getD_some, val, pw, Nat.div_one]; omega
    | k + 1 =>
      simp only [List.getElem?_cons_succ, val, pw]
      rw [ih ok.tail, ← Nat.div_div_eq_div_mul]
      have e : (d + 4294967296 * val ds) / 4294967296 = val ds := by omega
      rw [e]
/-- A number's two digits, shifted up within a double digit: its upper half is the digit of the shifted number. -/
theorem shift_digit {M P E F : Nat} (hP : 0 < P) (hEF : E * F = 4294967296) :
    ((M / (4294967296 * P) % 4294967296) * 4294967296 + M / P % 4294967296) * E % 18446744073709551616 / 4294967296 = M * E / (4294967296 * P) % 4294967296 := by
  have hE : 0 < E := Nat.pos_of_ne_zero (fun h => by rw [h] at hEF; simp at hEF)
  have hF : 0 < F := Nat.pos_of_ne_zero (fun h => by rw [h] at hEF; simp at hEF)
  obtain ⟨m, hm⟩ : ∃ m, M / P = m := ⟨_, rfl⟩
  have e1 : M / (4294967296 * P) = m / 4294967296 := by rw [Nat.mul_comm, ← Nat.div_div_eq_div_mul, hm]
  have e2 : m / 4294967296 % 4294967296 * 4294967296 + m % 4294967296 = m % 18446744073709551616 := by omega
  have e3 : m % 18446744073709551616 * E % 18446744073709551616 = m * E % 18446744073709551616 := by rw [Nat.mod_mul_mod]
  have e4 : m * E % 18446744073709551616 / 4294967296 = m * E / 4294967296 % 4294967296 := by
    generalize m * E = z
    omega
  rw [e1, hm, e2, e3, e4]
  have hl : M % P < P := Nat.mod_lt _ hP
  have hM : M = P * m + M % P := by rw [← hm, Nat.div_add_mod]
  have e5 : M * E / P = m * E + (M % P) * E / P := by
    conv => lhs; rw [hM]
    rw [Nat.add_mul, Nat.mul_assoc, Nat.mul_add_div hP]
  have hc : (M % P) * E / P < E := by
    rw [Nat.div_lt_iff_lt_mul hP, Nat.mul_comm]
    exact Nat.mul_lt_mul_of_pos_left hl hE
  rw [Nat.mul_comm 4294967296 P, ← Nat.div_div_eq_div_mul, e5]
  generalize (M % P) * E / P = c at *
  have e6 : ∀ y, y / 4294967296 = y / E / F := fun y => by rw [Nat.div_div_eq_div_mul, hEF]
  rw [e6, e6 (m * E + c), Nat.mul_div_cancel _ hE, Nat.mul_comm m E, Nat.mul_add_div hE, Nat.div_eq_of_lt hc, Nat.add_zero]
set_option maxRecDepth 10000 in
/-- The rest of a too great guess stays below a digit's worth. -/
theorem guess_rest {W V H T f sc P lw lv g r : Nat} (hW : W = (H * 4294967296 + T) * P + lw) (hlv : lv < P) (hV : V = (f * 4294967296 + sc) * P + lv) (hsc : sc < 4294967296)
    (hlt : W < V * 4294967296) (hg : g * f + r = H) (hr : 4294967296 ≤ r) : g < 4294967296 := by
  rcases Nat.lt_or_ge g 4294967296 with h | h
  · exact h
  · exfalso
    have h1 : 4294967296 * f ≤ g * f := Nat.mul_le_mul_right _ h
    obtain ⟨D, hD⟩ : ∃ D, f * 4294967296 + sc = D := ⟨_, rfl⟩
    rw [hD] at hV
    have h2 : D + 1 ≤ H := by omega
    have h3 : V < (D + 1) * P := by rw [hV, Nat.add_mul D 1 P]; omega
    have h5 : (D + 1) * P ≤ H * P := Nat.mul_le_mul_right _ h2
    have h6 : W = H * P * 4294967296 + T * P + lw := by rw [hW, Nat.add_mul (H * 4294967296) T P, Nat.mul_right_comm]
    generalize H * P = z at *
    generalize (D + 1) * P = y at *
    omega
/-- A digit of a number with two digits 0 put below. -/
theorem dg_pad {ds : List Nat} (ok : OK ds) (p : Nat) : dg ds ((p : Int) - 2) = val ds * 18446744073709551616 / pw p % 4294967296 := by
  match p with
  | 0 => rw [dg_neg _ _ (by omega)]; simp only [pw, Nat.div_one]; omega
  | 1 => rw [dg_neg _ _ (by omega)]; simp only [pw, Nat.mul_one]; omega
  | p + 2 =>
    rw [show ((p + 2 : Nat) : Int) - 2 = (p : Int) from by omega, dg_nat, digit_div ok]
    simp only [pw]
    rw [← Nat.mul_assoc, ← Nat.div_div_eq_div_mul]
    have e : val ds * 18446744073709551616 / (4294967296 * 4294967296) = val ds := by omega
    rw [e]
theorem sdg_eq {ds : List Nat} (ok : OK ds) (p s : Nat) (hs : s < 32) : sdg ds ((p : Int) - 1) s = val ds * 18446744073709551616 * 2 ^ s / pw (p + 1) % 4294967296 := by
  have h1 := dg_pad ok p
  have h2 := dg_pad ok (p + 1)
  rw [show ((p + 1 : Nat) : Int) - 2 = (p : Int) - 1 from by omega] at h2
  unfold sdg
  rw [show (p : Int) - 1 - 1 = (p : Int) - 2 from by omega, h1, h2]
  have h3 := shift_digit (M := val ds * 18446744073709551616) (E := 2 ^ s) (F := 2 ^ (32 - s)) (pw_pos p) (by rw [← Nat.pow_add, show s + (32 - s) = 32 from by omega])
  simp only [pw]
  exact h3
set_option maxRecDepth 10000 in
/-- What the digits that the guess looks at are, of window and divisor. -/
theorem guess_facts {ws vs : List Nat} {n s : Nat} (okw : OK ws) (okv : OK vs) (hw : ws.length = n + 1) (hv : vs.length = n) (hn : 0 < n) (hs : s < 32)
    (htop : (vs[n - 1]?.getD 0 + 1) * 2 ^ s ≤ 4294967296) (hpos : 2147483648 ≤ vs[n - 1]?.getD 0 * 2 ^ s) (hlt : val ws < val vs * 4294967296) :
    ∃ W V lw lv, 0 < V ∧ W / V = val ws / val vs ∧ W < V * 4294967296 ∧
      W = ((sdg ws n s * 4294967296 + sdg ws ((n : Int) - 1) s) * 4294967296 + sdg ws ((n : Int) - 2) s) * pw n + lw ∧ lw < pw n ∧
      V = (sdg vs ((n : Int) - 1) s * 4294967296 + sdg vs ((n : Int) - 2) s) * pw n + lv ∧ lv < pw n ∧ 0 < sdg vs ((n : Int) - 1) s := by
  obtain ⟨m, rfl⟩ : ∃ m, n = m + 1 := ⟨n - 1, by omega⟩
  have hE : 0 < 2 ^ s := Nat.two_pow_pos s
  obtain ⟨E, hEq⟩ : ∃ E, E = 18446744073709551616 * 2 ^ s := ⟨_, rfl⟩
  have hE0 : 0 < E := by rw [hEq]; omega
  -- the divisor between its top digit's bounds
  have hsp := val_split vs m (by omega)
  have hlow : val (vs.take m) < pw m := by
    have := val_lt (okv.take m)
    rwa [List.length_take, Nat.min_eq_left (by omega)] at this
  have hd := drop_succ_val (k := m) (by omega : m < vs.length)
  rw [List.drop_eq_nil_of_le (by omega : vs.length ≤ m + 1)] at hd
  simp only [val, Nat.mul_zero, Nat.add_zero] at hd
  rw [hd] at hsp
  simp only [Nat.add_sub_cancel] at htop hpos
  obtain ⟨t, ht⟩ : ∃ t, vs[m]?.getD 0 = t := ⟨_, rfl⟩
  rw [ht] at hsp htop hpos
  have hV0 : 0 < val vs := by
    have : 0 < t := Nat.pos_of_ne_zero (fun h => by rw [h] at hpos; simp at hpos)
    have := Nat.mul_pos (pw_pos m) this
    omega
  have hVhi : val vs * 2 ^ s < pw (m + 1) := by
    have h1 : val vs < pw m * (t + 1) := by rw [Nat.mul_add]; omega
    have h2 := Nat.mul_lt_mul_of_pos_right h1 hE
    have h3 : pw m * ((t + 1) * 2 ^ s) ≤ pw m * 4294967296 := Nat.mul_le_mul_left _ htop
    rw [Nat.mul_assoc] at h2
    simp only [pw]
    omega
  have hVlo : pw m * 2147483648 ≤ val vs * 2 ^ s := by
    have h1 : pw m * t ≤ val vs := by omega
    have h2 := Nat.mul_le_mul_right (2 ^ s) h1
    rw [Nat.mul_assoc] at h2
    exact Nat.le_trans (Nat.mul_le_mul_left _ hpos) h2
  have a1 := sdg_eq okw (m + 2) s hs
  have a2 := sdg_eq okw (m + 1) s hs
  have a3 := sdg_eq okw m s hs
  have b2 := sdg_eq okv (m + 1) s hs
  have b3 := sdg_eq okv m s hs
  rw [show ((m + 2 : Nat) : Int) - 1 = ((m + 1 : Nat) : Int) from by omega] at a1
  rw [show ((m : Nat) : Int) - 1 = ((m + 1 : Nat) : Int) - 2 from by omega] at a3 b3
  rw [Nat.mul_assoc, ← hEq] at a1 a2 a3 b2 b3
  have hWV : val ws * E < val vs * E * 4294967296 := by
    rw [Nat.mul_right_comm]; exact Nat.mul_lt_mul_of_pos_right hlt hE0
  have hVE : val vs * E = val vs * 2 ^ s * 18446744073709551616 := by rw [hEq, Nat.mul_comm 18446744073709551616, ← Nat.mul_assoc]
  have hVE0 : 0 < val vs * E := Nat.mul_pos hV0 hE0
  have hq : val ws * E / (val vs * E) = val ws / val vs := Nat.mul_div_mul_right _ _ hE0
  clear hEq hsp hd hlow hlt
  generalize val ws * E = W at *
  generalize val vs * E = V at *
  generalize val vs * 2 ^ s = v at *
  have hP := pw_pos (m + 1)
  have e1 : ∀ z, z / pw (m + 2) = z / pw (m + 1) / 4294967296 := fun z => by
    rw [show pw (m + 2) = pw (m + 1) * 4294967296 from by rw [Nat.mul_comm]; rfl, Nat.div_div_eq_div_mul]
  have e2 : ∀ z, z / pw (m + 2 + 1) = z / pw (m + 1) / 4294967296 / 4294967296 := fun z => by
    rw [show pw (m + 2 + 1) = pw (m + 2) * 4294967296 from by rw [Nat.mul_comm]; rfl, ← Nat.div_div_eq_div_mul, e1]
  rw [e2] at a1
  rw [show m + 1 + 1 = m + 2 from rfl, e1] at a2 b2
  have hVp : V / pw (m + 1) < 18446744073709551616 := by
    rw [Nat.div_lt_iff_lt_mul hP, hVE, Nat.mul_comm 18446744073709551616]
    exact Nat.mul_lt_mul_of_pos_right hVhi (by omega)
  have hVq : 4294967296 ≤ V / pw (m + 1) := by
    rw [Nat.le_div_iff_mul_le hP, hVE]
    simp only [pw] at hVlo ⊢
    generalize pw m = q at *
    omega
  have hWp : W / pw (m + 1) / 4294967296 < 18446744073709551616 := by
    rw [Nat.div_lt_iff_lt_mul (by omega), Nat.div_lt_iff_lt_mul hP]
    have h1 : V < 18446744073709551616 * pw (m + 1) := (Nat.div_lt_iff_lt_mul hP).1 hVp
    generalize pw (m + 1) = q at *
    omega
  have hWd := Nat.div_add_mod W (pw (m + 1))
  have hVd := Nat.div_add_mod V (pw (m + 1))
  have hWm := Nat.mod_lt W hP
  have hVm := Nat.mod_lt V hP
  refine ⟨W, V, W % pw (m + 1), V % pw (m + 1), hVE0, hq, hWV, ?_, hWm, ?_, hVm, ?_⟩
  · rw [a1, a2, a3]
    generalize pw (m + 1) = q at *
    generalize W % q = r at *
    rw [Nat.mul_comm] at hWd
    generalize W / q = X at *
    rw [← hWd]
    congr 2
    omega
  · rw [b2, b3]
    generalize pw (m + 1) = q at *
    generalize V % q = r at *
    rw [Nat.mul_comm] at hVd
    generalize V / q = X at *
    rw [← hVd]
    congr 2
    omega
  · rw [b2]
    generalize V / pw (m + 1) = X at *
    omega
end Go.Proofs.YtlomgfgedkkhkaaGreatDoor

