/- Texts with a sign: CutPrefix, the references Is and Parse. -/
import Derived.Test.YtpdfahompajbjaaG3ToR10
import Derived.Test.YtpdfahompajbjaaR11
import Derived.Test.YtpdfahompajbjaaR12

namespace Go.Proofs.Ytpdfahompajbjaa
open Go.RowKit Dig
end Go.Proofs.Ytpdfahompajbjaa

/- zint.Parse, Text; the reference's Text. -/
namespace Go.Proofs.Ytpdfahompajbjaa
open Go.RowKit Dig
end Go.Proofs.Ytpdfahompajbjaa

/- Texts with a sign, in one piece: what is a number, and which. -/
namespace Go.Proofs.Ytpdfahompajbjaa
open Go Go.RowKit Dig
set_option linter.unusedVariables false
end Go.Proofs.Ytpdfahompajbjaa

/- gint: Text; the law's awake. -/
namespace Go.Proofs.Ytpdfahompajbjaa
open Go Go.RowKit Dig
set_option linter.unusedVariables false
section
variable {w : World} {va vb : Value} {x y u v : Int} {l m k n : Nat}
end
end Go.Proofs.Ytpdfahompajbjaa

/- The reference's Round, Zero; what quotients and rests are. -/
namespace Go.Proofs.Ytpdfahompajbjaa
open Go Go.RowKit Dig
set_option linter.unusedVariables false
section
variable {w : World} {va vb : Value} {x y u v : Int} {l m k n : Nat}
set_option maxHeartbeats 4000000 in
set_option maxRecDepth 20000 in
theorem rgZero_any (w : World) :
    Calls Try.prog 39 #[.agg #[.bool false, .slice none 0 0, .bool false, .slice none 0 0]] w fun e w' => e = .returned (.bool true) ∧ Below w.heap.size w w' := by
  go_enter Try.func39, Try.ntmps39
  have hb := Below.refl w.heap.size w
  refine wp_seq_k ?_
  intro K1 hK1
  refine wp_region_sq [0, 1] (by kernel_rfl) ?_
  refine sc fun K hK => ?_
  go_big_op
  obtain ⟨p_b1, w_1, eP, eW, x_b1, hn, kb_b1⟩ := newBox w #[.bool false, .slice none 0 0, .bool false, .slice none 0 0] 26 hb.size
  rw [eW, eP]
  clear eW eP
  replace hb := tm hb hn
  refine hK _ _ rfl ?_; clear hK K hn
  refine sc fun K hK => ?_
  go_big_move; refine hK _ _ rfl ?_; clear hK K
  apply wpSq_end
  refine hK1 _ _ ?_
  refine wp_seq_k ?_
  intro K2 hK2
  refine wp_region_sq [0, 1, 2, 3, 4, 5, 6, 7, 8] (by kernel_rfl) ?_
  refine sc fun K hK => ?_
  go_big_op; refine hK _ _ rfl ?_; clear hK K
  refine sc fun K hK => ?_
  obtain ⟨d0, d1, d2, d3⟩ := x_b1.f4
  go_big_op; refine hK _ _ rfl ?_; clear hK K d0 d1 d2 d3
  refine sc fun K hK => ?_
  go_big_op
  go_fit (rzero_any _)
  rintro e w_2 ⟨rfl, hb_2⟩
  replace x_b1 := x_b1.bl hb_2; replace hb := tm hb hb_2
  refine hK _ _ rfl ?_
  clear hK K hb_2
  refine sc fun K hK => ?_
  go_big_move; refine hK _ _ rfl ?_; clear hK K
  refine sc fun K hK => ?_
  go_big_op; refine hK _ _ rfl ?_; clear hK K
  refine sc fun K hK => ?_
  obtain ⟨d0, d1, d2, d3⟩ := x_b1.f4
  go_big_op; refine hK _ _ rfl ?_; clear hK K d0 d1 d2 d3
  refine sc fun K hK => ?_
  go_big_op
  go_fit (rzero_any _)
  rintro e w_3 ⟨rfl, hb_3⟩
  clear x_b1
  replace hb := tm hb hb_3
  refine hK _ _ rfl ?_
  clear hK K hb_3
  refine sc fun K hK => ?_
  go_big_op; refine hK _ _ rfl ?_; clear hK K
  refine sc fun K hK => ?_
  go_big_move; refine hK _ _ rfl ?_; clear hK K
  apply wpSq_end
  refine hK2 _ _ ?_
  refine wp_ret ?_
  try dsimp only [Exit.then, Exit.inBlock]
  refine bodyPost_ret (v := (.bool true)) (by simp [results, Try.results39, go_sem]) rfl ?_
  exact ⟨rfl, hb⟩
end
theorem sq_le {a n : Int} (h1 : -n ≤ a) (h2 : a ≤ n) : a * a ≤ n * n := by
  have h := Int.mul_nonneg (show 0 ≤ n - a by omega) (show 0 ≤ n + a by omega)
  have e : (n - a) * (n + a) = n * n - a * a := by grind
  omega
theorem gR_conj (x y u v : Int) : gR1 x y u v * u - gR2 x y u v * -v = gT1 x y u v - gQ1 x y u v * gN u v ∧ gR1 x y u v * -v + gR2 x y u v * u = gT2 x y u v - gQ2 x y u v * gN u v := by
  unfold gR1 gR2 gT1 gT2 gN
  generalize gQ1 x y u v = a
  generalize gQ2 x y u v = b
  constructor <;> grind
theorem gN_mul (a b c d : Int) : gN (a * c - b * d) (a * d + b * c) = gN a b * gN c d := by unfold gN; grind
theorem gN_conj (a b : Int) : gN a (-b) = gN a b := by unfold gN; grind
theorem gN_pos {u v : Int} (h : gN u v ≠ 0) : 0 < gN u v := by have := gN_nonneg u v; omega
theorem gR_half {x y u v : Int} (h0 : gN u v ≠ 0) : gN (gR1 x y u v) (gR2 x y u v) + gN (gR1 x y u v) (gR2 x y u v) ≤ gN u v := by
  have hp := gN_pos h0
  have b1 := (rnd_bd (x := gT1 x y u v) h0).1 hp
  have b2 := (rnd_bd (x := gT2 x y u v) h0).1 hp
  obtain ⟨e1, e2⟩ := gR_conj x y u v
  have hm := gN_mul (gR1 x y u v) (gR2 x y u v) u (-v)
  rw [gN_conj] at hm
  rw [show gR1 x y u v * u - gR2 x y u v * -v = gT1 x y u v - rnd (gT1 x y u v) (gN u v) * gN u v from e1, show gR1 x y u v * -v + gR2 x y u v * u = gT2 x y u v - rnd (gT2 x y u v) (gN u v) * gN u v from e2] at hm
  generalize gT1 x y u v - rnd (gT1 x y u v) (gN u v) * gN u v = a at *
  generalize gT2 x y u v - rnd (gT2 x y u v) (gN u v) * gN u v = b at *
  generalize gN (gR1 x y u v) (gR2 x y u v) = r at *
  generalize gN u v = n at *
  have s1 := sq_le (a := 2 * a) (n := n) (by omega) (by omega)
  have s2 := sq_le (a := 2 * b) (n := n) (by omega) (by omega)
  have hab : gN a b = a * a + b * b := rfl
  rw [hab] at hm
  have f1 : 2 * a * (2 * a) = 4 * (a * a) := by grind
  have f2 : 2 * b * (2 * b) = 4 * (b * b) := by grind
  have h3 : (r + r) * n ≤ n * n := by
    have : (r + r) * n = 2 * (r * n) := by grind
    omega
  exact Int.le_of_mul_le_mul_right h3 hp
end Go.Proofs.Ytpdfahompajbjaa

/- A quotient guessed from the tops of two numbers. -/
namespace Go.Proofs.Ytpdfahompajbjaa
open Go Go.RowKit Dig
set_option linter.unusedVariables false
theorem abs_mul_le {a b A B : Int} (ha : -A ≤ a ∧ a ≤ A) (hb : -B ≤ b ∧ b ≤ B) : -(A * B) ≤ a * b ∧ a * b ≤ A * B := by
  have hA : 0 ≤ A := by omega
  have hB : 0 ≤ B := by omega
  have h1 := Int.mul_nonneg (show 0 ≤ A - a by omega) (show 0 ≤ B + b by omega)
  have h2 := Int.mul_nonneg (show 0 ≤ A + a by omega) (show 0 ≤ B - b by omega)
  have h3 := Int.mul_nonneg (show 0 ≤ A - a by omega) (show 0 ≤ B - b by omega)
  have h4 := Int.mul_nonneg (show 0 ≤ A + a by omega) (show 0 ≤ B + b by omega)
  have e1 : (A - a) * (B + b) = A * B + A * b - a * B - a * b := by grind
  have e2 : (A + a) * (B - b) = A * B - A * b + a * B - a * b := by grind
  have e3 : (A - a) * (B - b) = A * B - A * b - a * B + a * b := by grind
  have e4 : (A + a) * (B + b) = A * B + A * b + a * B + a * b := by grind
  constructor <;> omega
theorem sq_lt {a A : Int} (hA : 0 ≤ A) (h : a * a ≤ A * A) : -A ≤ a ∧ a ≤ A := by
  have key : ∀ c : Int, 0 ≤ c → c * c ≤ A * A → c ≤ A := by
    intro c hc hcc
    rcases Int.lt_or_le A c with h1 | h1
    · have := Int.mul_self_lt_mul_self hA h1; omega
    · exact h1
  rcases Int.le_total 0 a with h0 | h0
  · have := key a h0 h; omega
  · have := key (-a) (by omega) (by rw [Int.neg_mul_neg]; exact h); omega
theorem msq (x : Int) : 0 ≤ x * x := by
  rcases Int.le_total 0 x with h | h
  · exact Int.mul_nonneg h h
  · exact Int.mul_nonneg_of_nonpos_of_nonpos h h
theorem norm_le {a b A : Int} (hA : 0 ≤ A) (h : gN a b ≤ A * A) : (-A ≤ a ∧ a ≤ A) ∧ (-A ≤ b ∧ b ≤ A) := by
  unfold gN at h
  have h1 := msq a
  have h2 := msq b
  exact ⟨sq_lt hA (by omega), sq_lt hA (by omega)⟩
theorem norm_ge {a b A : Int} (ha : -A ≤ a ∧ a ≤ A) (hb : -A ≤ b ∧ b ≤ A) : gN a b ≤ 2 * (A * A) := by
  have h1 := (abs_mul_le ha ha).2
  have h2 := (abs_mul_le hb hb).2
  unfold gN; omega
end Go.Proofs.Ytpdfahompajbjaa
