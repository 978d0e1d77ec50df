/- Texts with a sign: CutPrefix, the references Is and Parse. -/
import Derived.Test.YtpdfahompajbjaaG3ToR10
import Derived.Test.YtpdfahompajbjaaR11
import Derived.Test.YtpdfahompajbjaaR12

namespace Go.Proofs.Ytpdfahompajbjaa
open Go.RowKit Dig
end Go.Proofs.Ytpdfahompajbjaa

/- zint.Parse, Text; the reference's Text. -/
namespace Go.Proofs.Ytpdfahompajbjaa
open Go.RowKit Dig
end Go.Proofs.Ytpdfahompajbjaa

/- Texts with a sign, in one piece: what is a number, and which. -/
namespace Go.Proofs.Ytpdfahompajbjaa
open Go Go.RowKit Dig
set_option linter.unusedVariables false
end Go.Proofs.Ytpdfahompajbjaa

/- gint: Text; the law's awake. -/
namespace Go.Proofs.Ytpdfahompajbjaa
open Go Go.RowKit Dig
set_option linter.unusedVariables false
section
variable {w : World} {va vb : Value} {x y u v : Int} {l m k n : Nat}
end
end Go.Proofs.Ytpdfahompajbjaa

/- The reference's Round, Zero; what quotients and rests are. -/
namespace Go.Proofs.Ytpdfahompajbjaa
open Go Go.RowKit Dig
set_option linter.unusedVariables false
section
variable {w : World} {va vb : Value} {x y u v : Int} {l m k n : Nat}
set_option maxHeartbeats 4000000 in
set_option maxRecDepth 20000 in
theorem rgZero_any (w : World) :
    Calls Try.prog 39 #[.agg #[.bool false, .slice none 0 0, .bool false, .slice none 0 0]] w fun e w' => e = .returned (.bool true) ∧ Below w.heap.size w w' := by
  go_enter Try.func39, Try.ntmps39
  have hb := Below.refl w.heap.size w
  refine wp_seq_k ?_
  intro K1 hK1
  refine wp_region_sq [0, 1] (by kernel_rfl) ?_
  refine sc fun K hK => ?_
  go_big_op
  obtain ⟨p_b1, w_1, eP, eW, x_b1, hn, kb_b1⟩ := newBox w #[.bool false, .slice none 0 0, .bool false, .slice none 0 0] 26 hb.size
  rw [eW, eP]
  clear eW eP
  replace hb := tm hb hn
  refine hK _ _ rfl ?_; clear hK K hn
  refine sc fun K hK => ?_
  go_big_move; refine hK _ _ rfl ?_; clear hK K
  apply wpSq_end
  refine hK1 _ _ ?_
  refine wp_seq_k ?_
  intro K2 hK2
  refine wp_region_sq [0, 1, 2, 3, 4, 5, 6, 7, 8] (by kernel_rfl) ?_
  refine sc fun K hK => ?_
  go_big_op; refine hK _ _ rfl ?_; clear hK K
  refine sc fun K hK => ?_
  obtain ⟨d0, d1, d2, d3⟩ := x_b1.f4
  go_big_op; refine hK _ _ rfl ?_; clear hK K d0 d1 d2 d3
  refine sc fun K hK => ?_
  go_big_op
  go_fit (rzero_any _)
  rintro e w_2 ⟨rfl, hb_2⟩
  replace x_b1 := x_b1.bl hb_2; replace hb := tm hb hb_2
  refine hK _ _ rfl ?_
  clear hK K hb_2
  refine sc fun K hK => ?_
  go_big_move; refine hK _ _ rfl ?_; clear hK K
  refine sc fun K hK => ?_
  go_big_op; refine hK _ _ rfl ?_; clear hK K
  refine sc fun K hK => ?_
  obtain ⟨d0, d1, d2, d3⟩ := x_b1.f4
  go_big_op; refine hK _ _ rfl ?_; clear hK K d0 d1 d2 d3
  refine sc fun K hK => ?_
  go_big_op
  go_fit (rzero_any _)
  rintro e w_3 ⟨rfl, hb_3⟩
  clear x_b1
  replace hb := tm hb hb_3
  refine hK _ _ rfl ?_
  clear hK K hb_3
  refine sc fun K hK => ?_
  go_big_op; refine hK _ _ rfl ?_; clear hK K
  refine sc fun K hK => ?_
  go_big_move; refine hK _ _ rfl ?_; clear hK K
  apply wpSq_end
  refine hK2 _ _ ?_
  refine wp_ret ?_
  try dsimp only [Exit.then, Exit.inBlock]
  refine bodyPost_ret (v := (.bool true)) (by simp [results, Try.results39, go_sem]) rfl ?_
  exact ⟨rfl, hb⟩
end
theorem sq_le {a n : Int} (h1 : -n ≤ a) (h2 : a ≤ n) : a * a ≤ n * n := by
  have h := Int.mul_nonneg (show 0 ≤ n - a by omega) (show 0 ≤ n + a by omega)
  have e : (n - a) * (n + a) = n * n - a * a := by grind
  omega
theorem gR_conj (x y u v : Int) : gR1 x y u v * u - gR2 x y u v * -v = gT1 x y u v - gQ1 x y u v * gN u v ∧ gR1 x y u v * -v + gR2 x y u v * u = gT2 x y u v - gQ2 x y u v * gN u v := by
  unfold gR1 gR2 gT1 gT2 gN
  generalize gQ1 x y u v = a
  generalize gQ2 x y u v = b
  constructor <;> grind
theorem gN_mul (a b c d : Int) : gN (a * c - b * d) (a * d + b * c) = gN a b * gN c d := by unfold gN; grind
theorem gN_conj (a b : Int) : gN a (-b) = gN a b := by unfold gN; grind
theorem gN_pos {u v : Int} (h : gN u v ≠ 0) : 0 < gN u v := by have := gN_nonneg u v; omega
theorem gR_half {x y u v : Int} (h0 : gN u v ≠ 0) : gN (gR1 x y u v) (gR2 x y u v) + gN (gR1 x y u v) (gR2 x y u v) ≤ gN u v := by
  have hp := gN_pos h0
  have b1 := (rnd_bd (x := gT1 x y u v) h0).1 hp
  have b2 := (rnd_bd (x := gT2 x y u v) h0).1 hp
  obtain ⟨e1, e2⟩ := gR_conj x y u v
  have hm := gN_mul (gR1 x y u v) (gR2 x y u v) u (-v)
  rw [gN_conj] at hm
  rw [show gR1 x y u v * u - gR2 x y u v * -v = gT1 x y u v - rnd (gT1 x y u v) (gN u v) * gN u v from e1, show gR1 x y u v * -v + gR2 x y u v * u = gT2 x y u v - rnd (gT2 x y u v) (gN u v) * gN u v from e2] at hm
  generalize gT1 x y u v - rnd (gT1 x y u v) (gN u v) * gN u v = a at *
  generalize gT2 x y u v - rnd (gT2 x y u v) (gN u v) * gN u v = b at *
  generalize gN (gR1 x y u v) (gR2 x y u v) = r at *
  generalize gN u v = n at *
  have s1 := sq_le (a := 2 * a) (n := n) (by omega) (by omega)
  have s2 := sq_le (a := 2 * b) (n := n) (by omega) (by omega)
  have hab : gN a b = a * a + b * b := rfl
  rw [hab] at hm
  have f1 : 2 * a * (2 * a) = 4 * (a * a) := by grind
  have f2 : 2 * b * (2 * b) = 4 * (b * b) := by grind
  have h3 : (r + r) * n ≤ n * n := by
    have : (r + r) * n = 2 * (r * n) := by grind
    omega
  exact Int.le_of_mul_le_mul_right h3 hp
end Go.Proofs.Ytpdfahompajbjaa

/- A quotient guessed from the tops of two numbers. -/
namespace Go.Proofs.Ytpdfahompajbjaa
open Go Go.RowKit Dig
set_option linter.unusedVariables false
theorem rnd_of {t n q : Int} (hn : 0 < n) (h1 : -n ≤ 2 * (t - q * n)) (h2 : 2 * (t - q * n) < n) : rnd t n = q := by
  unfold rnd
  rw [Int.fdiv_eq_ediv_of_nonneg _ (by omega)]
  have e : 2 * t + n = (2 * (t - q * n) + n) + q * (2 * n) := by grind
  rw [e, Int.add_mul_ediv_right _ _ (by omega), Int.ediv_eq_zero_of_lt (by omega) (by omega)]
  omega
theorem abs_mul_le {a b A B : Int} (ha : -A ≤ a ∧ a ≤ A) (hb : -B ≤ b ∧ b ≤ B) : -(A * B) ≤ a * b ∧ a * b ≤ A * B := by
  have hA : 0 ≤ A := by omega
  have hB : 0 ≤ B := by omega
  have h1 := Int.mul_nonneg (show 0 ≤ A - a by omega) (show 0 ≤ B + b by omega)
  have h2 := Int.mul_nonneg (show 0 ≤ A + a by omega) (show 0 ≤ B - b by omega)
  have h3 := Int.mul_nonneg (show 0 ≤ A - a by omega) (show 0 ≤ B - b by omega)
  have h4 := Int.mul_nonneg (show 0 ≤ A + a by omega) (show 0 ≤ B + b by omega)
  have e1 : (A - a) * (B + b) = A * B + A * b - a * B - a * b := by grind
  have e2 : (A + a) * (B - b) = A * B - A * b + a * B - a * b := by grind
  have e3 : (A - a) * (B - b) = A * B - A * b - a * B + a * b := by grind
  have e4 : (A + a) * (B + b) = A * B + A * b + a * B + a * b := by grind
  constructor <;> omega
theorem sq_lt {a A : Int} (hA : 0 ≤ A) (h : a * a ≤ A * A) : -A ≤ a ∧ a ≤ A := by
  have key : ∀ c : Int, 0 ≤ c → c * c ≤ A * A → c ≤ A := by
    intro c hc hcc
    rcases Int.lt_or_le A c with h1 | h1
    · have := Int.mul_self_lt_mul_self hA h1; omega
    · exact h1
  rcases Int.le_total 0 a with h0 | h0
  · have := key a h0 h; omega
  · have := key (-a) (by omega) (by rw [Int.neg_mul_neg]; exact h); omega
theorem msq (x : Int) : 0 ≤ x * x := by
  rcases Int.le_total 0 x with h | h
  · exact Int.mul_nonneg h h
  · exact Int.mul_nonneg_of_nonpos_of_nonpos h h
theorem norm_le {a b A : Int} (hA : 0 ≤ A) (h : gN a b ≤ A * A) : (-A ≤ a ∧ a ≤ A) ∧ (-A ≤ b ∧ b ≤ A) := by
  unfold gN at h
  have h1 := msq a
  have h2 := msq b
  exact ⟨sq_lt hA (by omega), sq_lt hA (by omega)⟩
theorem norm_ge {a b A : Int} (ha : -A ≤ a ∧ a ≤ A) (hb : -A ≤ b ∧ b ≤ A) : gN a b ≤ 2 * (A * A) := by
  have h1 := (abs_mul_le ha ha).2
  have h2 := (abs_mul_le hb hb).2
  unfold gN; omega
theorem guess {B a1 a2 b1 b2 c1 c2 d1 d2 m : Int} (hB : 0 < B) (hc1 : -B ≤ c1 ∧ c1 ≤ B) (hc2 : -B ≤ c2 ∧ c2 ≤ B) (hd1 : -B ≤ d1 ∧ d1 ≤ B) (hd2 : -B ≤ d2 ∧ d2 ≤ B) (hs1 : 0 ≤ b1 * d1) (hs2 : 0 ≤ b2 * d2)
    (hm : 340282366920938463463374607431768211456 ≤ m) (hb1 : -m ≤ b1 ∧ b1 ≤ m) (hb2 : -m ≤ b2 ∧ b2 ≤ m) (hmm : m * m ≤ gN b1 b2) (ha1 : -(18446744073709551616 * m) ≤ a1 ∧ a1 ≤ 18446744073709551616 * m) (ha2 : -(18446744073709551616 * m) ≤ a2 ∧ a2 ≤ 18446744073709551616 * m)
    {q1 q2 r1 r2 : Int} (hr1 : a1 = q1 * b1 - q2 * b2 + r1) (hr2 : a2 = q1 * b2 + q2 * b1 + r2) (hrr : gN r1 r2 + gN r1 r2 ≤ gN b1 b2)
    (hp1 : 2 * (r1 * b1 + r2 * b2) < gN b1 b2 - gN b1 b2 / 4294967296 ∧ -(gN b1 b2 - gN b1 b2 / 4294967296) < 2 * (r1 * b1 + r2 * b2))
    (hp2 : 2 * (r2 * b1 - r1 * b2) < gN b1 b2 - gN b1 b2 / 4294967296 ∧ -(gN b1 b2 - gN b1 b2 / 4294967296) < 2 * (r2 * b1 - r1 * b2)) :
    gQ1 (a1 * B + c1) (a2 * B + c2) (b1 * B + d1) (b2 * B + d2) = q1 ∧ gQ2 (a1 * B + c1) (a2 * B + c2) (b1 * B + d1) (b2 * B + d2) = q2 := by
  have hm0 : 0 ≤ m := by omega
  have hN2 : gN b1 b2 ≤ 2 * (m * m) := norm_ge hb1 hb2
  obtain ⟨R1, R2⟩ := norm_le (a := r1) (b := r2) hm0 (by omega)
  -- the quotient's parts
  have hq : gN q1 q2 ≤ 5444517870735015415413993718908291383296 := by
    have e1 : q1 * b1 - q2 * b2 = a1 - r1 := by omega
    have e2 : q1 * b2 + q2 * b1 = a2 - r2 := by omega
    have h1 := gN_mul q1 q2 b1 b2
    rw [e1, e2] at h1
    have h2 : gN (a1 - r1) (a2 - r2) ≤ 2 * ((36893488147419103232 * m) * (36893488147419103232 * m)) := norm_ge (by omega) (by omega)
    have h3 : (36893488147419103232 * m) * (36893488147419103232 * m) = 1361129467683753853853498429727072845824 * (m * m) := by grind
    rw [h3] at h2
    have h4 : 0 ≤ gN q1 q2 := by unfold gN; have := msq q1; have := msq q2; omega
    have h5 : gN q1 q2 * (m * m) ≤ gN q1 q2 * gN b1 b2 := Int.mul_le_mul_of_nonneg_left hmm h4
    have h6 : 0 < m * m := Int.mul_pos (by omega) (by omega)
    have h7 : gN q1 q2 * (m * m) ≤ 2722258935367507707706996859454145691648 * (m * m) := by omega
    have := Int.le_of_mul_le_mul_right h7 h6
    omega
  obtain ⟨Q1, Q2⟩ := norm_le (a := q1) (b := q2) (A := 73786976294838206464) (by decide) (by omega)
  -- what is left
  obtain ⟨e1, he1⟩ : ∃ e, e = c1 - (q1 * d1 - q2 * d2) := ⟨_, rfl⟩
  obtain ⟨e2, he2⟩ : ∃ e, e = c2 - (q1 * d2 + q2 * d1) := ⟨_, rfl⟩
  have k1 := abs_mul_le Q1 hd1
  have k2 := abs_mul_le Q2 hd2
  have k3 := abs_mul_le Q1 hd2
  have k4 := abs_mul_le Q2 hd1
  have E1 : -(295147905179352825856 * B) ≤ e1 ∧ e1 ≤ 295147905179352825856 * B := by omega
  have E2 : -(295147905179352825856 * B) ≤ e2 ∧ e2 ≤ 295147905179352825856 * B := by omega
  have hmB : B ≤ m * B := by
    have := Int.mul_le_mul_of_nonneg_right (show (1 : Int) ≤ m by omega) (Int.le_of_lt hB); omega
  have j1 := abs_mul_le hb1 (show -B ≤ B ∧ B ≤ B by omega)
  have j2 := abs_mul_le hb2 (show -B ≤ B ∧ B ≤ B by omega)
  have U : -(2 * (m * B)) ≤ b1 * B + d1 ∧ b1 * B + d1 ≤ 2 * (m * B) := by omega
  have V : -(2 * (m * B)) ≤ b2 * B + d2 ∧ b2 * B + d2 ≤ 2 * (m * B) := by omega
  have w1 := abs_mul_le E1 U
  have w2 := abs_mul_le E2 V
  have w3 := abs_mul_le E2 U
  have w4 := abs_mul_le E1 V
  have z1 := abs_mul_le R1 hd1
  have z2 := abs_mul_le R2 hd2
  have z3 := abs_mul_le R2 hd1
  have z4 := abs_mul_le R1 hd2
  have g0 : (295147905179352825856 * B) * (2 * (m * B)) = 590295810358705651712 * (m * (B * B)) := by grind
  rw [g0] at w1 w2 w3 w4
  -- r d, times B
  have y1 := abs_mul_le (a := r1 * d1 + r2 * d2) (b := B) (A := 2 * (m * B)) (B := B) (by omega) (by omega)
  have y2 := abs_mul_le (a := r2 * d1 - r1 * d2) (b := B) (A := 2 * (m * B)) (B := B) (by omega) (by omega)
  have g1 : 2 * (m * B) * B = 2 * (m * (B * B)) := by grind
  rw [g1] at y1 y2
  obtain ⟨S, hS⟩ : ∃ S, S = B * B := ⟨_, rfl⟩
  have hS0 : 0 < S := by rw [hS]; exact Int.mul_pos hB hB
  -- the norm below
  have hn : gN (b1 * B + d1) (b2 * B + d2) = gN b1 b2 * S + 2 * ((b1 * d1) * B) + 2 * ((b2 * d2) * B) + (d1 * d1 + d2 * d2) := by rw [hS]; unfold gN; grind
  have n1 := Int.mul_nonneg hs1 (Int.le_of_lt hB)
  have n2 := Int.mul_nonneg hs2 (Int.le_of_lt hB)
  have n3 := msq d1
  have n4 := msq d2
  have D1 : gT1 (a1 * B + c1) (a2 * B + c2) (b1 * B + d1) (b2 * B + d2) - q1 * gN (b1 * B + d1) (b2 * B + d2) = (r1 * b1 + r2 * b2) * S + (r1 * d1 + r2 * d2) * B + e1 * (b1 * B + d1) + e2 * (b2 * B + d2) := by
    rw [he1, he2, hS, hr1, hr2]; unfold gT1 gN; grind
  have D2 : gT2 (a1 * B + c1) (a2 * B + c2) (b1 * B + d1) (b2 * B + d2) - q2 * gN (b1 * B + d1) (b2 * B + d2) = (r2 * b1 - r1 * b2) * S + (r2 * d1 - r1 * d2) * B + e2 * (b1 * B + d1) - e1 * (b2 * B + d2) := by
    rw [he1, he2, hS, hr1, hr2]; unfold gT2 gN; grind
  rw [← hS] at w1 w2 w3 w4 y1 y2
  -- the far inside
  have hmS : 340282366920938463463374607431768211456 * (m * S) ≤ gN b1 b2 * S := by
    have h1 : 340282366920938463463374607431768211456 * m ≤ m * m := Int.mul_le_mul_of_nonneg_right hm hm0
    have h2 := Int.mul_le_mul_of_nonneg_right (Int.le_trans h1 hmm) (Int.le_of_lt hS0)
    have h3 : 340282366920938463463374607431768211456 * m * S = 340282366920938463463374607431768211456 * (m * S) := by grind
    omega
  have hmS0 : 0 < m * S := Int.mul_pos (by omega) hS0
  have far : ∀ p : Int, 2 * p < gN b1 b2 - gN b1 b2 / 4294967296 → -(gN b1 b2 - gN b1 b2 / 4294967296) < 2 * p → 4294967296 * (2 * (p * S)) ≤ 4294967295 * (gN b1 b2 * S) ∧ -(4294967295 * (gN b1 b2 * S)) ≤ 4294967296 * (2 * (p * S)) := by
    intro p h1 h2
    have h3 : 4294967296 * (2 * p) ≤ 4294967295 * gN b1 b2 := by omega
    have h4 : -(4294967295 * gN b1 b2) ≤ 4294967296 * (2 * p) := by omega
    have h5 := Int.mul_le_mul_of_nonneg_right h3 (Int.le_of_lt hS0)
    have h6 := Int.mul_le_mul_of_nonneg_right h4 (Int.le_of_lt hS0)
    have f1 : 4294967296 * (2 * p) * S = 4294967296 * (2 * (p * S)) := by grind
    have f2 : 4294967295 * gN b1 b2 * S = 4294967295 * (gN b1 b2 * S) := by grind
    have f3 : -(4294967295 * gN b1 b2) * S = -(4294967295 * (gN b1 b2 * S)) := by grind
    omega
  have F1 := far _ hp1.1 hp1.2
  have F2 := far _ hp2.1 hp2.2
  clear hp1 hp2 far
  generalize (r1 * b1 + r2 * b2) * S = p1 at *
  generalize (r2 * b1 - r1 * b2) * S = p2 at *
  generalize gN b1 b2 * S = NS at *
  generalize m * S = mS at *
  generalize (r1 * d1 + r2 * d2) * B = t1 at *
  generalize (r2 * d1 - r1 * d2) * B = t2 at *
  generalize e1 * (b1 * B + d1) = o1 at *
  generalize e2 * (b2 * B + d2) = o2 at *
  generalize e2 * (b1 * B + d1) = o3 at *
  generalize e1 * (b2 * B + d2) = o4 at *
  have hpos : 0 < gN (b1 * B + d1) (b2 * B + d2) := by omega
  refine ⟨rnd_of hpos ?_ ?_, rnd_of hpos ?_ ?_⟩
  · rw [D1]; omega
  · rw [D1]; omega
  · rw [D2]; omega
  · rw [D2]; omega
end Go.Proofs.Ytpdfahompajbjaa
