/- Texts with a sign: CutPrefix, the references Is and Parse. -/
import Derived.Test.YthlhekkcjficdaaG3ToR10
import Derived.Test.YthlhekkcjficdaaR11
import Derived.Test.YthlhekkcjficdaaR12

namespace Go.Proofs.Ythlhekkcjficdaa
open Go.RowKit Dig

end Go.Proofs.Ythlhekkcjficdaa


/- zint.Parse, Text; the reference's Text. -/
namespace Go.Proofs.Ythlhekkcjficdaa
open Go.RowKit Dig

end Go.Proofs.Ythlhekkcjficdaa


/- Texts with a sign, in one piece: what is a number, and which. -/
namespace Go.Proofs.Ythlhekkcjficdaa
open Go Go.RowKit Dig
set_option linter.unusedVariables false

end Go.Proofs.Ythlhekkcjficdaa


/- gint: Text; the law's awake. -/
namespace Go.Proofs.Ythlhekkcjficdaa
open Go Go.RowKit Dig
set_option linter.unusedVariables false

section
variable {w : World} {va vb : Value} {x y u v : Int} {l m k n : Nat}
end
end Go.Proofs.Ythlhekkcjficdaa


/- The reference's Round, Zero; what quotients and rests are. -/
namespace Go.Proofs.Ythlhekkcjficdaa
open Go Go.RowKit Dig
set_option linter.unusedVariables false

section
variable {w : World} {va vb : Value} {x y u v : Int} {l m k n : Nat}
end
end Go.Proofs.Ythlhekkcjficdaa


/- gint: Cmp, IsUnit, Canon; the reference's. -/
namespace Go.Proofs.Ythlhekkcjficdaa
open Go Go.RowKit Dig
set_option linter.unusedVariables false

def or3 (a b c : Int) : Int := if a ≠ 0 then a else if b ≠ 0 then b else c
/-- How two numbers compare. -/
def gcmp (x y u v : Int) : Int := or3 (zcmp (gN x y) (gN u v)) (zcmp x u) (zcmp y v)
/-- How often a number is turned, by the signs of its parts. -/
def kq (x y : Int) : Nat := if y < 0 ∧ 0 ≤ x then 1 else if x < 0 ∧ y ≤ 0 then 2 else if 0 < y ∧ x ≤ 0 then 3 else 0
theorem kq_sign (x y : Int) : kq x.sign y.sign = kq x y := by
  have hx : (x.sign = -1 ∧ x < 0) ∨ (x.sign = 0 ∧ x = 0) ∨ (x.sign = 1 ∧ 0 < x) := by
    rcases Int.lt_trichotomy x 0 with h | h | h
    · exact .inl ⟨Int.sign_eq_neg_one_of_neg h, h⟩
    · exact .inr (.inl ⟨by rw [h]; rfl, h⟩)
    · exact .inr (.inr ⟨Int.sign_eq_one_of_pos h, h⟩)
  have hy : (y.sign = -1 ∧ y < 0) ∨ (y.sign = 0 ∧ y = 0) ∨ (y.sign = 1 ∧ 0 < y) := by
    rcases Int.lt_trichotomy y 0 with h | h | h
    · exact .inl ⟨Int.sign_eq_neg_one_of_neg h, h⟩
    · exact .inr (.inl ⟨by rw [h]; rfl, h⟩)
    · exact .inr (.inr ⟨Int.sign_eq_one_of_pos h, h⟩)
  unfold kq
  generalize x.sign = s at *
  generalize y.sign = t at *
  (repeat' split) <;> omega
theorem kq_lt (x y : Int) : kq x y < 4 := by unfold kq; (repeat' split) <;> omega
theorem kq_mod (x y : Int) : (((kq x y : Nat) : Int) % 4).toNat = kq x y := by have := kq_lt x y; omega
section
variable {w : World} {va vb : Value} {x y u v : Int} {l m k n : Nat}
set_option maxHeartbeats 4000000 in
set_option maxRecDepth 20000 in
theorem cmpOr_a {p : Nat} {a b c : Int} (hx : Bs w p #[.int .i64 a, .int .i64 b, .int .i64 c] 3) (h1 : a ≠ 0) :
    Calls Try.prog 44 #[.slice (some ⟨p, 0, none⟩) 3 3] w fun e w' => e = .returned (.int .i64 a) ∧ Below w.heap.size w w' := by
  go_enter Try.func44, Try.ntmps44
  have hs := St.nil w
  have lt_xx := hx.lt
  refine wp_seq_k ?_
  intro K1 hK1
  refine rg [0] ?_
  refine sq ?_
  refine .mv ?_
  apply wpSq_end
  refine hK1 _ _ ?_
  refine wp_seq_k ?_
  intro K2 hK2
  refine rg [0] ?_
  refine sq ?_
  refine .mv ?_
  apply wpSq_end
  refine hK2 _ _ ?_
  refine wp_seq_k ?_
  intro K3 hK3
  refine wp_seq_k ?_
  intro K4 hK4
  refine rg [0, 1, 2] ?_
  refine sq ?_
  refine .mv ?_
  refine sq ?_
  refine .r0 ?_
  refine sq ?_
  refine .mv ?_
  apply wpSq_end
  refine hK4 _ _ ?_
  refine wp_block ?_
  refine wp_loop_rounds 4 ?_
  show Code.wp _ _ _ _ _
  refine wp_seq_k ?_
  intro K5 hK5
  refine rg [0] ?_
  refine sq ?_
  refine .r0 ?_
  apply wpSq_end
  refine hK5 _ _ ?_
  refine wp_seq_k ?_
  intro K6 hK6
  refine ct ?_
  refine wp_skip ?_
  refine hK6 _ _ ?_
  refine wp_seq_k ?_
  intro K7 hK7
  refine wp_block ?_
  refine wp_seq_k ?_
  intro K8 hK8
  refine rg [0, 1, 2] ?_
  refine sq ?_
  refine .r0 ?_
  refine sq ?_
  refine .r1 (hx.cell 0 rfl) ?_
  refine sq ?_
  refine .mv ?_
  apply wpSq_end
  refine hK8 _ _ ?_
  refine wp_seq_k ?_
  intro K9 hK9
  refine rg [0, 1, 2] ?_
  refine sq ?_
  refine .mv ?_
  refine sq ?_
  refine .mv ?_
  refine sq ?_
  refine .r0 ?_
  apply wpSq_end
  refine hK9 _ _ ?_
  refine wp_cond_true (congrArg Value.bool (show _ = true from (by simpa using h1))) ?_
  refine wp_seq_k ?_
  intro K10 hK10
  refine rg [0, 1] ?_
  refine sq ?_
  refine .mv ?_
  refine sq ?_
  refine .mv ?_
  apply wpSq_end
  refine hK10 _ _ ?_
  refine wp_ret ?_
  try dsimp only [Exit.then, Exit.inBlock]
  refine bodyPost_ret (v := (.int .i64 a)) (by simp [results, Try.results44, go_sem]) rfl ?_
  have hb := hs.b
  exact ⟨rfl, hb⟩
set_option maxHeartbeats 4000000 in
set_option maxRecDepth 20000 in
theorem cmpOr_b {p : Nat} {b c : Int} (hx : Bs w p #[.int .i64 0, .int .i64 b, .int .i64 c] 3) (h2 : b ≠ 0) :
    Calls Try.prog 44 #[.slice (some ⟨p, 0, none⟩) 3 3] w fun e w' => e = .returned (.int .i64 b) ∧ Below w.heap.size w w' := by
  go_enter Try.func44, Try.ntmps44
  have hs := St.nil w
  have lt_xx := hx.lt
  refine wp_seq_k ?_
  intro K1 hK1
  refine rg [0] ?_
  refine sq ?_
  refine .mv ?_
  apply wpSq_end
  refine hK1 _ _ ?_
  refine wp_seq_k ?_
  intro K2 hK2
  refine rg [0] ?_
  refine sq ?_
  refine .mv ?_
  apply wpSq_end
  refine hK2 _ _ ?_
  refine wp_seq_k ?_
  intro K3 hK3
  refine wp_seq_k ?_
  intro K4 hK4
  refine rg [0, 1, 2] ?_
  refine sq ?_
  refine .mv ?_
  refine sq ?_
  refine .r0 ?_
  refine sq ?_
  refine .mv ?_
  apply wpSq_end
  refine hK4 _ _ ?_
  refine wp_block ?_
  refine wp_loop_rounds 4 ?_
  show Code.wp _ _ _ _ _
  refine wp_seq_k ?_
  intro K5 hK5
  refine rg [0] ?_
  refine sq ?_
  refine .r0 ?_
  apply wpSq_end
  refine hK5 _ _ ?_
  refine wp_seq_k ?_
  intro K6 hK6
  refine ct ?_
  refine wp_skip ?_
  refine hK6 _ _ ?_
  refine wp_seq_k ?_
  intro K7 hK7
  refine wp_block ?_
  refine wp_seq_k ?_
  intro K8 hK8
  refine rg [0, 1, 2] ?_
  refine sq ?_
  refine .r0 ?_
  refine sq ?_
  refine .r1 (hx.cell 0 rfl) ?_
  refine sq ?_
  refine .mv ?_
  apply wpSq_end
  refine hK8 _ _ ?_
  refine wp_seq_k ?_
  intro K9 hK9
  refine rg [0, 1, 2] ?_
  refine sq ?_
  refine .mv ?_
  refine sq ?_
  refine .mv ?_
  refine sq ?_
  refine .r0 ?_
  apply wpSq_end
  refine hK9 _ _ ?_
  refine cf ?_
  refine wp_skip ?_
  refine hK7 _ _ ?_
  refine rg [0, 1] ?_
  refine sq ?_
  refine .r0 ?_
  refine sq ?_
  refine .mv ?_
  apply wpSq_end
  show Code.wp _ _ _ _ _
  refine wp_seq_k ?_
  intro K10 hK10
  refine rg [0] ?_
  refine sq ?_
  refine .r0 ?_
  apply wpSq_end
  refine hK10 _ _ ?_
  refine wp_seq_k ?_
  intro K11 hK11
  refine ct ?_
  refine wp_skip ?_
  refine hK11 _ _ ?_
  refine wp_seq_k ?_
  intro K12 hK12
  refine wp_block ?_
  refine wp_seq_k ?_
  intro K13 hK13
  refine rg [0, 1, 2] ?_
  refine sq ?_
  refine .r0 ?_
  refine sq ?_
  refine .r1 (hx.cell 1 rfl) ?_
  refine sq ?_
  refine .mv ?_
  apply wpSq_end
  refine hK13 _ _ ?_
  refine wp_seq_k ?_
  intro K14 hK14
  refine rg [0, 1, 2] ?_
  refine sq ?_
  refine .mv ?_
  refine sq ?_
  refine .mv ?_
  refine sq ?_
  refine .r0 ?_
  apply wpSq_end
  refine hK14 _ _ ?_
  refine wp_cond_true (congrArg Value.bool (show _ = true from (by simpa using h2))) ?_
  refine wp_seq_k ?_
  intro K15 hK15
  refine rg [0, 1] ?_
  refine sq ?_
  refine .mv ?_
  refine sq ?_
  refine .mv ?_
  apply wpSq_end
  refine hK15 _ _ ?_
  refine wp_ret ?_
  try dsimp only [Exit.then, Exit.inBlock]
  refine bodyPost_ret (v := (.int .i64 b)) (by simp [results, Try.results44, go_sem]) rfl ?_
  have hb := hs.b
  exact ⟨rfl, hb⟩
set_option maxHeartbeats 4000000 in
set_option maxRecDepth 20000 in
theorem cmpOr_cz {p : Nat} {c : Int} (hx : Bs w p #[.int .i64 0, .int .i64 0, .int .i64 0] 3) :
    Calls Try.prog 44 #[.slice (some ⟨p, 0, none⟩) 3 3] w fun e w' => e = .returned (.int .i64 0) ∧ Below w.heap.size w w' := by
  go_enter Try.func44, Try.ntmps44
  have hs := St.nil w
  have lt_xx := hx.lt
  refine wp_seq_k ?_
  intro K1 hK1
  refine rg [0] ?_
  refine sq ?_
  refine .mv ?_
  apply wpSq_end
  refine hK1 _ _ ?_
  refine wp_seq_k ?_
  intro K2 hK2
  refine rg [0] ?_
  refine sq ?_
  refine .mv ?_
  apply wpSq_end
  refine hK2 _ _ ?_
  refine wp_seq_k ?_
  intro K3 hK3
  refine wp_seq_k ?_
  intro K4 hK4
  refine rg [0, 1, 2] ?_
  refine sq ?_
  refine .mv ?_
  refine sq ?_
  refine .r0 ?_
  refine sq ?_
  refine .mv ?_
  apply wpSq_end
  refine hK4 _ _ ?_
  refine wp_block ?_
  refine wp_loop_rounds 4 ?_
  show Code.wp _ _ _ _ _
  refine wp_seq_k ?_
  intro K5 hK5
  refine rg [0] ?_
  refine sq ?_
  refine .r0 ?_
  apply wpSq_end
  refine hK5 _ _ ?_
  refine wp_seq_k ?_
  intro K6 hK6
  refine ct ?_
  refine wp_skip ?_
  refine hK6 _ _ ?_
  refine wp_seq_k ?_
  intro K7 hK7
  refine wp_block ?_
  refine wp_seq_k ?_
  intro K8 hK8
  refine rg [0, 1, 2] ?_
  refine sq ?_
  refine .r0 ?_
  refine sq ?_
  refine .r1 (hx.cell 0 rfl) ?_
  refine sq ?_
  refine .mv ?_
  apply wpSq_end
  refine hK8 _ _ ?_
  refine wp_seq_k ?_
  intro K9 hK9
  refine rg [0, 1, 2] ?_
  refine sq ?_
  refine .mv ?_
  refine sq ?_
  refine .mv ?_
  refine sq ?_
  refine .r0 ?_
  apply wpSq_end
  refine hK9 _ _ ?_
  refine cf ?_
  refine wp_skip ?_
  refine hK7 _ _ ?_
  refine rg [0, 1] ?_
  refine sq ?_
  refine .r0 ?_
  refine sq ?_
  refine .mv ?_
  apply wpSq_end
  show Code.wp _ _ _ _ _
  refine wp_seq_k ?_
  intro K10 hK10
  refine rg [0] ?_
  refine sq ?_
  refine .r0 ?_
  apply wpSq_end
  refine hK10 _ _ ?_
  refine wp_seq_k ?_
  intro K11 hK11
  refine ct ?_
  refine wp_skip ?_
  refine hK11 _ _ ?_
  refine wp_seq_k ?_
  intro K12 hK12
  refine wp_block ?_
  refine wp_seq_k ?_
  intro K13 hK13
  refine rg [0, 1, 2] ?_
  refine sq ?_
  refine .r0 ?_
  refine sq ?_
  refine .r1 (hx.cell 1 rfl) ?_
  refine sq ?_
  refine .mv ?_
  apply wpSq_end
  refine hK13 _ _ ?_
  refine wp_seq_k ?_
  intro K14 hK14
  refine rg [0, 1, 2] ?_
  refine sq ?_
  refine .mv ?_
  refine sq ?_
  refine .mv ?_
  refine sq ?_
  refine .r0 ?_
  apply wpSq_end
  refine hK14 _ _ ?_
  refine cf ?_
  refine wp_skip ?_
  refine hK12 _ _ ?_
  refine rg [0, 1] ?_
  refine sq ?_
  refine .r0 ?_
  refine sq ?_
  refine .mv ?_
  apply wpSq_end
  show Code.wp _ _ _ _ _
  refine wp_seq_k ?_
  intro K15 hK15
  refine rg [0] ?_
  refine sq ?_
  refine .r0 ?_
  apply wpSq_end
  refine hK15 _ _ ?_
  refine wp_seq_k ?_
  intro K16 hK16
  refine ct ?_
  refine wp_skip ?_
  refine hK16 _ _ ?_
  refine wp_seq_k ?_
  intro K17 hK17
  refine wp_block ?_
  refine wp_seq_k ?_
  intro K18 hK18
  refine rg [0, 1, 2] ?_
  refine sq ?_
  refine .r0 ?_
  refine sq ?_
  refine .r1 (hx.cell 2 rfl) ?_
  refine sq ?_
  refine .mv ?_
  apply wpSq_end
  refine hK18 _ _ ?_
  refine wp_seq_k ?_
  intro K19 hK19
  refine rg [0, 1, 2] ?_
  refine sq ?_
  refine .mv ?_
  refine sq ?_
  refine .mv ?_
  refine sq ?_
  refine .r0 ?_
  apply wpSq_end
  refine hK19 _ _ ?_
  refine cf ?_
  refine wp_skip ?_
  refine hK17 _ _ ?_
  refine rg [0, 1] ?_
  refine sq ?_
  refine .r0 ?_
  refine sq ?_
  refine .mv ?_
  apply wpSq_end
  show Code.wp _ _ _ _ _
  refine wp_seq_k ?_
  intro K20 hK20
  refine rg [0] ?_
  refine sq ?_
  refine .r0 ?_
  apply wpSq_end
  refine hK20 _ _ ?_
  refine wp_seq_k ?_
  intro K21 hK21
  refine cf ?_
  refine wp_exit ?_
  refine hK3 _ _ ?_
  refine wp_seq_k ?_
  intro K22 hK22
  refine rg [0, 1] ?_
  refine sq ?_
  refine .mv ?_
  refine sq ?_
  refine .mv ?_
  apply wpSq_end
  refine hK22 _ _ ?_
  refine wp_ret ?_
  try dsimp only [Exit.then, Exit.inBlock]
  refine bodyPost_ret (v := (.int .i64 0)) (by simp [results, Try.results44, go_sem]) rfl ?_
  have hb := hs.b
  exact ⟨rfl, hb⟩
set_option maxHeartbeats 4000000 in
set_option maxRecDepth 20000 in
theorem cmpOr_cn {p : Nat} {c : Int} (hx : Bs w p #[.int .i64 0, .int .i64 0, .int .i64 c] 3) (h3 : c ≠ 0) :
    Calls Try.prog 44 #[.slice (some ⟨p, 0, none⟩) 3 3] w fun e w' => e = .returned (.int .i64 c) ∧ Below w.heap.size w w' := by
  go_enter Try.func44, Try.ntmps44
  have hs := St.nil w
  have lt_xx := hx.lt
  refine wp_seq_k ?_
  intro K1 hK1
  refine rg [0] ?_
  refine sq ?_
  refine .mv ?_
  apply wpSq_end
  refine hK1 _ _ ?_
  refine wp_seq_k ?_
  intro K2 hK2
  refine rg [0] ?_
  refine sq ?_
  refine .mv ?_
  apply wpSq_end
  refine hK2 _ _ ?_
  refine wp_seq_k ?_
  intro K3 hK3
  refine wp_seq_k ?_
  intro K4 hK4
  refine rg [0, 1, 2] ?_
  refine sq ?_
  refine .mv ?_
  refine sq ?_
  refine .r0 ?_
  refine sq ?_
  refine .mv ?_
  apply wpSq_end
  refine hK4 _ _ ?_
  refine wp_block ?_
  refine wp_loop_rounds 4 ?_
  show Code.wp _ _ _ _ _
  refine wp_seq_k ?_
  intro K5 hK5
  refine rg [0] ?_
  refine sq ?_
  refine .r0 ?_
  apply wpSq_end
  refine hK5 _ _ ?_
  refine wp_seq_k ?_
  intro K6 hK6
  refine ct ?_
  refine wp_skip ?_
  refine hK6 _ _ ?_
  refine wp_seq_k ?_
  intro K7 hK7
  refine wp_block ?_
  refine wp_seq_k ?_
  intro K8 hK8
  refine rg [0, 1, 2] ?_
  refine sq ?_
  refine .r0 ?_
  refine sq ?_
  refine .r1 (hx.cell 0 rfl) ?_
  refine sq ?_
  refine .mv ?_
  apply wpSq_end
  refine hK8 _ _ ?_
  refine wp_seq_k ?_
  intro K9 hK9
  refine rg [0, 1, 2] ?_
  refine sq ?_
  refine .mv ?_
  refine sq ?_
  refine .mv ?_
  refine sq ?_
  refine .r0 ?_
  apply wpSq_end
  refine hK9 _ _ ?_
  refine cf ?_
  refine wp_skip ?_
  refine hK7 _ _ ?_
  refine rg [0, 1] ?_
  refine sq ?_
  refine .r0 ?_
  refine sq ?_
  refine .mv ?_
  apply wpSq_end
  show Code.wp _ _ _ _ _
  refine wp_seq_k ?_
  intro K10 hK10
  refine rg [0] ?_
  refine sq ?_
  refine .r0 ?_
  apply wpSq_end
  refine hK10 _ _ ?_
  refine wp_seq_k ?_
  intro K11 hK11
  refine ct ?_
  refine wp_skip ?_
  refine hK11 _ _ ?_
  refine wp_seq_k ?_
  intro K12 hK12
  refine wp_block ?_
  refine wp_seq_k ?_
  intro K13 hK13
  refine rg [0, 1, 2] ?_
  refine sq ?_
  refine .r0 ?_
  refine sq ?_
  refine .r1 (hx.cell 1 rfl) ?_
  refine sq ?_
  refine .mv ?_
  apply wpSq_end
  refine hK13 _ _ ?_
  refine wp_seq_k ?_
  intro K14 hK14
  refine rg [0, 1, 2] ?_
  refine sq ?_
  refine .mv ?_
  refine sq ?_
  refine .mv ?_
  refine sq ?_
  refine .r0 ?_
  apply wpSq_end
  refine hK14 _ _ ?_
  refine cf ?_
  refine wp_skip ?_
  refine hK12 _ _ ?_
  refine rg [0, 1] ?_
  refine sq ?_
  refine .r0 ?_
  refine sq ?_
  refine .mv ?_
  apply wpSq_end
  show Code.wp _ _ _ _ _
  refine wp_seq_k ?_
  intro K15 hK15
  refine rg [0] ?_
  refine sq ?_
  refine .r0 ?_
  apply wpSq_end
  refine hK15 _ _ ?_
  refine wp_seq_k ?_
  intro K16 hK16
  refine ct ?_
  refine wp_skip ?_
  refine hK16 _ _ ?_
  refine wp_seq_k ?_
  intro K17 hK17
  refine wp_block ?_
  refine wp_seq_k ?_
  intro K18 hK18
  refine rg [0, 1, 2] ?_
  refine sq ?_
  refine .r0 ?_
  refine sq ?_
  refine .r1 (hx.cell 2 rfl) ?_
  refine sq ?_
  refine .mv ?_
  apply wpSq_end
  refine hK18 _ _ ?_
  refine wp_seq_k ?_
  intro K19 hK19
  refine rg [0, 1, 2] ?_
  refine sq ?_
  refine .mv ?_
  refine sq ?_
  refine .mv ?_
  refine sq ?_
  refine .r0 ?_
  apply wpSq_end
  refine hK19 _ _ ?_
  refine wp_cond_true (congrArg Value.bool (show _ = true from (by simpa using h3))) ?_
  refine wp_seq_k ?_
  intro K20 hK20
  refine rg [0, 1] ?_
  refine sq ?_
  refine .mv ?_
  refine sq ?_
  refine .mv ?_
  apply wpSq_end
  refine hK20 _ _ ?_
  refine wp_ret ?_
  try dsimp only [Exit.then, Exit.inBlock]
  refine bodyPost_ret (v := (.int .i64 c)) (by simp [results, Try.results44, go_sem]) rfl ?_
  have hb := hs.b
  exact ⟨rfl, hb⟩
theorem cmpOr_any {p : Nat} {a b c : Int} (hx : Bs w p #[.int .i64 a, .int .i64 b, .int .i64 c] 3) :
    Calls Try.prog 44 #[.slice (some ⟨p, 0, none⟩) 3 3] w fun e w' => e = .returned (.int .i64 (or3 a b c)) ∧ Below w.heap.size w w' := by
  unfold or3
  by_cases h1 : a = 0
  · subst h1
    rw [if_neg (by simp)]
    by_cases h2 : b = 0
    · subst h2
      rw [if_neg (by simp)]
      by_cases h3 : c = 0
      · subst h3; exact cmpOr_cz (c := 0) hx
      · exact cmpOr_cn hx h3
    · rw [if_pos h2]; exact cmpOr_b hx h2
  · rw [if_pos h1]; exact cmpOr_a hx h1
set_option maxHeartbeats 4000000 in
set_option maxRecDepth 20000 in
theorem gCmp_any (ha : PN w va x l y m) (hq : PN w vb u k v n) (hl : l ≤ 40000000) (hm : m ≤ 40000000) (hk : k ≤ 40000000) (hn : n ≤ 40000000) :
    Calls Try.prog 19 #[va, vb] w fun e w' => e = .returned (.int .i64 (gcmp x y u v)) ∧ Below w.heap.size w w' := by
  obtain ⟨A, hA⟩ : ∃ A, zcmp (gN x y) (gN u v) = A := ⟨_, rfl⟩
  obtain ⟨B, hB⟩ : ∃ B, zcmp x u = B := ⟨_, rfl⟩
  obtain ⟨C, hC⟩ : ∃ C, zcmp y v = C := ⟨_, rfl⟩
  have HA := hide hA
  have HB := hide hB
  have HC := hide hC
  obtain ⟨R, hR⟩ : ∃ R, or3 A B C = R := ⟨_, rfl⟩
  have HR := hide hR
  have E : gcmp x y u v = R := by unfold gcmp; rw [hA, hB, hC, hR]
  rw [E]
  clear hA hB hC hR E
  obtain ⟨n_0a, o_0a, k_0a, c_0a, n_0b, o_0b, k_0b, c_0b, rfl, ha1, ha2⟩ := ha
  obtain ⟨n_1a, o_1a, k_1a, c_1a, n_1b, o_1b, k_1b, c_1b, rfl, hq1, hq2⟩ := hq
  go_enter Try.func19, Try.ntmps19
  have hs := St.nil w
  refine wp_seq_k ?_
  intro K1 hK1
  refine rg [0, 1, 2] ?_
  refine sq ?_
  refine .al hs ?_; clear hs; intro p_b1 w_1 hs n1 kb_b1
  refine sq ?_
  refine .al hs ?_; clear hs; intro p_b2 w_2 hs n2 kb_b2
  refine sq ?_
  refine .mv ?_
  apply wpSq_end
  refine hK1 _ _ ?_
  refine wp_seq_k ?_
  intro K2 hK2
  refine wp_region_f4 [(0, false), (2, false), (5, false), (6, false), (7, false), (8, false), (10, false), (11, false), (12, false), (13, false), (1, true), (3, true), (4, true), (9, true), (14, true), (15, true), (16, true), (17, false)] [] [] (fun _ => default) [0, 99, 1, 99, 99, 99, 0, 99, 1, 99, 99, 0, 99, 1, 99, 99, 99, 99] [] (.c hs.g1 (.c hs.g0 .n)) fn fun w_3 n3 => ?_
  replace hs := hs.bl n3
  refine f4 ?_
  refine f4 ?_
  refine f0 ?_
  refine f4 ?_
  refine f0 ?_
  refine f4 ?_
  refine f0 ?_
  refine f4 ?_
  refine f0 ?_
  refine f4 ?_
  refine fl fun w_4 n4 => ?_
  replace hs := hs.bl n4
  intro K hK
  have k0_4 := (((kb n1).b n2).b n3).b n4
  replace ha1 := ha1.k k0_4
  replace ha2 := ha2.k k0_4
  go_big_op
  go_fit (gNorm_any (PN.mk' ha1 ha2) (by omega) (by omega) )
  rintro e w_5 ⟨v_g, rfl, g, hb_5⟩
  replace hs := hs.bl hb_5
  obtain ⟨n_g, o_g, k_g, c_g, rfl⟩ := g.open2
  have Lg := hide (g.lenOf (zlen_add (zlen_mul (ha1.len) (ha1.len)) (zlen_mul (ha2.len) (ha2.len))))
  refine hK _ _ rfl ⟨hb_5, (And.intro hs.g1 (And.intro hs.g0 trivial))⟩ ?_
  clear hK K
  refine fl fun w_6 n6 => ?_
  replace hs := hs.bl n6
  intro K hK
  have k0_6 := (k0_4.b hb_5).b n6
  replace hq1 := hq1.k k0_6
  replace hq2 := hq2.k k0_6
  go_big_op
  go_fit (gNorm_any (PN.mk' hq1 hq2) (by omega) (by omega) )
  rintro e w_7 ⟨v_h, rfl, h, hb_7⟩
  replace hs := hs.bl hb_7
  obtain ⟨n_h, o_h, k_h, c_h, rfl⟩ := h.open2
  have Lh := hide (h.lenOf (zlen_add (zlen_mul (hq1.len) (hq1.len)) (zlen_mul (hq2.len) (hq2.len))))
  refine hK _ _ rfl ⟨hb_7, (And.intro hs.g1 (And.intro hs.g0 trivial))⟩ ?_
  clear hK K
  refine fl fun w_8 n8 => ?_
  replace hs := hs.bl n8
  intro K hK
  have k5_8 := ((kb n6).b hb_7).b n8
  replace g := g.k k5_8
  have k7_8 := kb n8
  replace h := h.k k7_8
  go_big_op
  go_fit (zcmp_any (g.zn Lg.out) (h.zn Lh.out) (by omega) (by omega))
  rintro e w_9 ⟨rfl, hb_9⟩
  replace hs := hs.bl hb_9
  rw [HA.out]
  refine hK _ _ rfl ⟨hb_9, (And.intro hs.g1 (And.intro hs.g0 trivial))⟩ ?_
  clear hK K
  refine fl fun w_10 n10 => ?_
  replace hs := hs.bl n10
  intro K hK
  have k4_10 := (((((kb hb_5).b n6).b hb_7).b n8).b hb_9).b n10
  replace ha1 := ha1.k k4_10
  have k6_10 := (((kb hb_7).b n8).b hb_9).b n10
  replace hq1 := hq1.k k6_10
  go_big_op
  go_fit (zcmp_any ha1 hq1 (by omega) (by omega))
  rintro e w_11 ⟨rfl, hb_11⟩
  replace hs := hs.bl hb_11
  rw [HB.out]
  refine hK _ _ rfl ⟨hb_11, (And.intro hs.g1 (And.intro hs.g0 trivial))⟩ ?_
  clear hK K
  refine fl fun w_12 n12 => ?_
  replace hs := hs.bl n12
  intro K hK
  have k4_12 := (k4_10.b hb_11).b n12
  replace ha2 := ha2.k k4_12
  have k6_12 := (k6_10.b hb_11).b n12
  replace hq2 := hq2.k k6_12
  go_big_op
  go_fit (zcmp_any ha2 hq2 (by omega) (by omega))
  rintro e w_13 ⟨rfl, hb_13⟩
  replace hs := hs.bl hb_13
  rw [HC.out]
  refine hK _ _ rfl ⟨hb_13, (And.intro hs.g1 (And.intro hs.g0 trivial))⟩ ?_
  clear hK K
  refine fl fun w_14 n14 => ?_
  replace hs := hs.bl n14
  refine .al hs ?_ (e := fun _ _ hs n => ⟨n, (And.intro hs.g2 (And.intro hs.g1 trivial))⟩); clear hs; intro p_b3 w_15 hs n15 kb_b3
  refine fl fun w_16 n16 => ?_
  replace hs := hs.bl n16
  intro K hK
  have x_b3 := hs.g0
  go_big_op
  go_fit (cmpOr_any x_b3)
  rintro e w_17 ⟨rfl, hb_17⟩
  clear x_b3
  replace hs := hs.bl hb_17
  rw [HR.out]
  refine hK _ _ rfl ⟨hb_17, (And.intro hs.g2 (And.intro hs.g1 trivial))⟩ ?_
  clear hK K
  refine fmv ?_
  refine e0 hs ?_; clear hs; intro w_18 hs n18
  apply wpTail_end
  refine hK2 _ _ ?_
  refine wp_ret ?_
  try dsimp only [Exit.then, Exit.inBlock]
  refine bodyPost_ret (v := (.int .i64 R)) (by simp [results, Try.results19, go_sem]) rfl ?_
  have hb := hs.b
  exact ⟨rfl, hb⟩
end
end Go.Proofs.Ythlhekkcjficdaa

