/- gint: Cmp, IsUnit, Canon; the reference's. -/
import Derived.Test.YtgjainmfilkjmaaGreatDoorG4
import Derived.Test.YtgjainmfilkjmaaGreatDoorT1ToG9
import Derived.Test.YtgjainmfilkjmaaGreatDoorG10

namespace Go.Proofs.YtgjainmfilkjmaaGreatDoor
open Go Go.RowKit Dig
set_option linter.unusedVariables false

def or3 (a b c : Int) : Int := if a ≠ 0 then a else if b ≠ 0 then b else c
/-- How two numbers compare. -/
def gcmp (x y u v : Int) : Int := or3 (zcmp (gN x y) (gN u v)) (zcmp x u) (zcmp y v)
/-- How often a number is turned, by the signs of its parts. -/
def kq (x y : Int) : Nat := if y < 0 ∧ 0 ≤ x then 1 else if x < 0 ∧ y ≤ 0 then 2 else if 0 < y ∧ x ≤ 0 then 3 else 0
theorem kq_sign (x y : Int) : kq x.sign y.sign = kq x y := by
  have hx : (x.sign = -1 ∧ x < 0) ∨ (x.sign = 0 ∧ x = 0) ∨ (x.sign = 1 ∧ 0 < x) := by
    rcases Int.lt_trichotomy x 0 with h | h | h
    · exact .inl ⟨Int.sign_eq_neg_one_of_neg h, h⟩
    · exact .inr (.inl ⟨by rw [h]; rfl, h⟩)
    · exact .inr (.inr ⟨Int.sign_eq_one_of_pos h, h⟩)
  have hy : (y.sign = -1 ∧ y < 0) ∨ (y.sign = 0 ∧ y = 0) ∨ (y.sign = 1 ∧ 0 < y) := by
    rcases Int.lt_trichotomy y 0 with h | h | h
    · exact .inl ⟨Int.sign_eq_neg_one_of_neg h, h⟩
    · exact .inr (.inl ⟨by rw [h]; rfl, h⟩)
    · exact .inr (.inr ⟨Int.sign_eq_one_of_pos h, h⟩)
  unfold kq
  generalize x.sign = s at *
  generalize y.sign = t at *
  (repeat' split) <;> omega
theorem kq_lt (x y : Int) : kq x y < 4 := by unfold kq; (repeat' split) <;> omega
theorem kq_mod (x y : Int) : (((kq x y : Nat) : Int) % 4).toNat = kq x y := by have := kq_lt x y; omega
theorem kq_cases (x y : Int) : (kq x y = 1 ∧ y < 0 ∧ 0 ≤ x) ∨ (kq x y = 2 ∧ x < 0 ∧ y ≤ 0) ∨ (kq x y = 3 ∧ 0 < y ∧ x ≤ 0) ∨ (kq x y = 0 ∧ ((0 < x ∧ 0 ≤ y) ∨ (x = 0 ∧ y = 0))) := by
  unfold kq; (repeat' split) <;> omega
theorem turn_0 (p : Int × Int) : turn 0 p = p := rfl
theorem turn_1 (p : Int × Int) : turn 1 p = (-p.2, p.1) := rfl
theorem turn_2 (p : Int × Int) : turn 2 p = (-p.1, -p.2) := rfl
theorem turn_3 (p : Int × Int) : turn 3 p = (- -p.2, -p.1) := rfl
theorem turn_back (x y : Int) (r : Nat) (hr : r < 4) : turn (kq (turn r (x, y)).1 (turn r (x, y)).2) (turn r (x, y)) = turn (kq x y) (x, y) := by
  have h : r = 0 ∨ r = 1 ∨ r = 2 ∨ r = 3 := by omega
  have hk := kq_cases x y
  have hj := kq_cases (turn r (x, y)).1 (turn r (x, y)).2
  rcases h with rfl | rfl | rfl | rfl <;> simp only [turn_0, turn_1, turn_2, turn_3] at hj ⊢ <;> rcases hk with ⟨e, h1⟩ | ⟨e, h1⟩ | ⟨e, h1⟩ | ⟨e, h1⟩ <;> rcases hj with ⟨f, h2⟩ | ⟨f, h2⟩ | ⟨f, h2⟩ | ⟨f, h2⟩ <;> simp only [e, f, turn_0, turn_1, turn_2, turn_3, Prod.mk.injEq] <;> omega

section
variable {w : World} {va vb : Value} {x y u v : Int} {l m k n : Nat}
set_option maxHeartbeats 4000000 in
set_option maxRecDepth 20000 in
theorem cmpOr_a {p : Nat} {a b c : Int} (hx : Bs w p #[.int .i64 a, .int .i64 b, .int .i64 c] 3) (h1 : a ≠ 0) :
    Calls Tryz.prog 45 #[.slice (some ⟨p, 0, none⟩) 3 3] w fun e w' => e = .returned (.int .i64 a) ∧ Below w.heap.size w w' := by
  go_enter Tryz.func45, Tryz.ntmps45
  have hb := Below.refl w.heap.size w
  refine wp_seq_k ?_
  intro K1 hK1
  refine wp_region_sq [0] (by kernel_rfl) ?_
  refine wpSq_call rfl (by kernel_rfl) fun K hK => ?_
  go_big_move; refine hK _ _ rfl ?_; clear hK K
  apply wpSq_end
  refine hK1 _ _ ?_
  refine wp_seq_k ?_
  intro K2 hK2
  refine wp_region_sq [0] (by kernel_rfl) ?_
  refine wpSq_call rfl (by kernel_rfl) fun K hK => ?_
  go_big_move; refine hK _ _ rfl ?_; clear hK K
  apply wpSq_end
  refine hK2 _ _ ?_
  refine wp_seq_k ?_
  intro K3 hK3
  refine wp_seq_k ?_
  intro K4 hK4
  refine wp_region_sq [0, 1, 2] (by kernel_rfl) ?_
  refine wpSq_call rfl (by kernel_rfl) fun K hK => ?_
  go_big_move; refine hK _ _ rfl ?_; clear hK K
  refine wpSq_call rfl (by kernel_rfl) fun K hK => ?_
  go_big_op; refine hK _ _ rfl ?_; clear hK K
  refine wpSq_call rfl (by kernel_rfl) fun K hK => ?_
  go_big_move; refine hK _ _ rfl ?_; clear hK K
  apply wpSq_end
  refine hK4 _ _ ?_
  refine wp_block ?_
  refine wp_loop_rounds 4 ?_
  show Code.wp _ _ _ _ _
  refine wp_seq_k ?_
  intro K5 hK5
  refine wp_region_sq [0] (by kernel_rfl) ?_
  refine wpSq_call rfl (by kernel_rfl) fun K hK => ?_
  go_big_op; refine hK _ _ rfl ?_; clear hK K
  apply wpSq_end
  refine hK5 _ _ ?_
  refine wp_seq_k ?_
  intro K6 hK6
  refine wp_cond_true (congrArg Value.bool (show _ = true from (by first | rfl | assumption | (simp; done) | exact decide_eq_true (by omega) | omega))) ?_
  refine wp_skip ?_
  refine hK6 _ _ ?_
  refine wp_seq_k ?_
  intro K7 hK7
  refine wp_block ?_
  refine wp_seq_k ?_
  intro K8 hK8
  refine wp_region_sq [0, 1, 2] (by kernel_rfl) ?_
  refine wpSq_call rfl (by kernel_rfl) fun K hK => ?_
  go_big_op; refine hK _ _ rfl ?_; clear hK K
  refine wpSq_call rfl (by kernel_rfl) fun K hK => ?_
  have d0 : w.cell? ⟨p, 0, none⟩ = some (.int .i64 a) := hx.cell 0 rfl
  have d1 : w.cell? ⟨p, 1, none⟩ = some (.int .i64 b) := hx.cell 1 rfl
  have d2 : w.cell? ⟨p, 2, none⟩ = some (.int .i64 c) := hx.cell 2 rfl
  go_big_op; refine hK _ _ rfl ?_; clear hK K d0 d1 d2
  refine wpSq_call rfl (by kernel_rfl) fun K hK => ?_
  go_big_move; refine hK _ _ rfl ?_; clear hK K
  apply wpSq_end
  refine hK8 _ _ ?_
  refine wp_seq_k ?_
  intro K9 hK9
  refine wp_region_sq [0, 1, 2] (by kernel_rfl) ?_
  refine wpSq_call rfl (by kernel_rfl) fun K hK => ?_
  go_big_move; refine hK _ _ rfl ?_; clear hK K
  refine wpSq_call rfl (by kernel_rfl) fun K hK => ?_
  go_big_move; refine hK _ _ rfl ?_; clear hK K
  refine wpSq_call rfl (by kernel_rfl) fun K hK => ?_
  go_big_op; refine hK _ _ rfl ?_; clear hK K
  apply wpSq_end
  refine hK9 _ _ ?_
  refine wp_cond_true (congrArg Value.bool (show _ = true from (by simpa using h1))) ?_
  refine wp_seq_k ?_
  intro K10 hK10
  refine wp_region_sq [0, 1] (by kernel_rfl) ?_
  refine wpSq_call rfl (by kernel_rfl) fun K hK => ?_
  go_big_move; refine hK _ _ rfl ?_; clear hK K
  refine wpSq_call rfl (by kernel_rfl) fun K hK => ?_
  go_big_move; refine hK _ _ rfl ?_; clear hK K
  apply wpSq_end
  refine hK10 _ _ ?_
  refine wp_ret ?_
  try dsimp only [Exit.then, Exit.inBlock]
  refine bodyPost_ret (v := (.int .i64 a)) (by simp [results, Tryz.results45, go_sem]) rfl ?_
  exact ⟨rfl, hb⟩
set_option maxHeartbeats 4000000 in
set_option maxRecDepth 20000 in
theorem cmpOr_b {p : Nat} {b c : Int} (hx : Bs w p #[.int .i64 0, .int .i64 b, .int .i64 c] 3) (h2 : b ≠ 0) :
    Calls Tryz.prog 45 #[.slice (some ⟨p, 0, none⟩) 3 3] w fun e w' => e = .returned (.int .i64 b) ∧ Below w.heap.size w w' := by
  go_enter Tryz.func45, Tryz.ntmps45
  have hb := Below.refl w.heap.size w
  refine wp_seq_k ?_
  intro K1 hK1
  refine wp_region_sq [0] (by kernel_rfl) ?_
  refine wpSq_call rfl (by kernel_rfl) fun K hK => ?_
  go_big_move; refine hK _ _ rfl ?_; clear hK K
  apply wpSq_end
  refine hK1 _ _ ?_
  refine wp_seq_k ?_
  intro K2 hK2
  refine wp_region_sq [0] (by kernel_rfl) ?_
  refine wpSq_call rfl (by kernel_rfl) fun K hK => ?_
  go_big_move; refine hK _ _ rfl ?_; clear hK K
  apply wpSq_end
  refine hK2 _ _ ?_
  refine wp_seq_k ?_
  intro K3 hK3
  refine wp_seq_k ?_
  intro K4 hK4
  refine wp_region_sq [0, 1, 2] (by kernel_rfl) ?_
  refine wpSq_call rfl (by kernel_rfl) fun K hK => ?_
  go_big_move; refine hK _ _ rfl ?_; clear hK K
  refine wpSq_call rfl (by kernel_rfl) fun K hK => ?_
  go_big_op; refine hK _ _ rfl ?_; clear hK K
  refine wpSq_call rfl (by kernel_rfl) fun K hK => ?_
  go_big_move; refine hK _ _ rfl ?_; clear hK K
  apply wpSq_end
  refine hK4 _ _ ?_
  refine wp_block ?_
  refine wp_loop_rounds 4 ?_
  show Code.wp _ _ _ _ _
  refine wp_seq_k ?_
  intro K5 hK5
  refine wp_region_sq [0] (by kernel_rfl) ?_
  refine wpSq_call rfl (by kernel_rfl) fun K hK => ?_
  go_big_op; refine hK _ _ rfl ?_; clear hK K
  apply wpSq_end
  refine hK5 _ _ ?_
  refine wp_seq_k ?_
  intro K6 hK6
  refine wp_cond_true (congrArg Value.bool (show _ = true from (by first | rfl | assumption | (simp; done) | exact decide_eq_true (by omega) | omega))) ?_
  refine wp_skip ?_
  refine hK6 _ _ ?_
  refine wp_seq_k ?_
  intro K7 hK7
  refine wp_block ?_
  refine wp_seq_k ?_
  intro K8 hK8
  refine wp_region_sq [0, 1, 2] (by kernel_rfl) ?_
  refine wpSq_call rfl (by kernel_rfl) fun K hK => ?_
  go_big_op; refine hK _ _ rfl ?_; clear hK K
  refine wpSq_call rfl (by kernel_rfl) fun K hK => ?_
  have d0 : w.cell? ⟨p, 0, none⟩ = some (.int .i64 0) := hx.cell 0 rfl
  have d1 : w.cell? ⟨p, 1, none⟩ = some (.int .i64 b) := hx.cell 1 rfl
  have d2 : w.cell? ⟨p, 2, none⟩ = some (.int .i64 c) := hx.cell 2 rfl
  go_big_op; refine hK _ _ rfl ?_; clear hK K d0 d1 d2
  refine wpSq_call rfl (by kernel_rfl) fun K hK => ?_
  go_big_move; refine hK _ _ rfl ?_; clear hK K
  apply wpSq_end
  refine hK8 _ _ ?_
  refine wp_seq_k ?_
  intro K9 hK9
  refine wp_region_sq [0, 1, 2] (by kernel_rfl) ?_
  refine wpSq_call rfl (by kernel_rfl) fun K hK => ?_
  go_big_move; refine hK _ _ rfl ?_; clear hK K
  refine wpSq_call rfl (by kernel_rfl) fun K hK => ?_
  go_big_move; refine hK _ _ rfl ?_; clear hK K
  refine wpSq_call rfl (by kernel_rfl) fun K hK => ?_
  go_big_op; refine hK _ _ rfl ?_; clear hK K
  apply wpSq_end
  refine hK9 _ _ ?_
  refine wp_cond_false (congrArg Value.bool (show _ = false from (by first | rfl | assumption | (simp; done) | exact decide_eq_false (by omega) | omega))) ?_
  refine wp_skip ?_
  refine hK7 _ _ ?_
  refine wp_region_sq [0, 1] (by kernel_rfl) ?_
  refine wpSq_call rfl (by kernel_rfl) fun K hK => ?_
  go_big_op; refine hK _ _ rfl ?_; clear hK K
  refine wpSq_call rfl (by kernel_rfl) fun K hK => ?_
  go_big_move; refine hK _ _ rfl ?_; clear hK K
  apply wpSq_end
  show Code.wp _ _ _ _ _
  refine wp_seq_k ?_
  intro K10 hK10
  refine wp_region_sq [0] (by kernel_rfl) ?_
  refine wpSq_call rfl (by kernel_rfl) fun K hK => ?_
  go_big_op; refine hK _ _ rfl ?_; clear hK K
  apply wpSq_end
  refine hK10 _ _ ?_
  refine wp_seq_k ?_
  intro K11 hK11
  refine wp_cond_true (congrArg Value.bool (show _ = true from (by first | rfl | assumption | (simp; done) | exact decide_eq_true (by omega) | omega))) ?_
  refine wp_skip ?_
  refine hK11 _ _ ?_
  refine wp_seq_k ?_
  intro K12 hK12
  refine wp_block ?_
  refine wp_seq_k ?_
  intro K13 hK13
  refine wp_region_sq [0, 1, 2] (by kernel_rfl) ?_
  refine wpSq_call rfl (by kernel_rfl) fun K hK => ?_
  go_big_op; refine hK _ _ rfl ?_; clear hK K
  refine wpSq_call rfl (by kernel_rfl) fun K hK => ?_
  have d0 : w.cell? ⟨p, 0, none⟩ = some (.int .i64 0) := hx.cell 0 rfl
  have d1 : w.cell? ⟨p, 1, none⟩ = some (.int .i64 b) := hx.cell 1 rfl
  have d2 : w.cell? ⟨p, 2, none⟩ = some (.int .i64 c) := hx.cell 2 rfl
  go_big_op; refine hK _ _ rfl ?_; clear hK K d0 d1 d2
  refine wpSq_call rfl (by kernel_rfl) fun K hK => ?_
  go_big_move; refine hK _ _ rfl ?_; clear hK K
  apply wpSq_end
  refine hK13 _ _ ?_
  refine wp_seq_k ?_
  intro K14 hK14
  refine wp_region_sq [0, 1, 2] (by kernel_rfl) ?_
  refine wpSq_call rfl (by kernel_rfl) fun K hK => ?_
  go_big_move; refine hK _ _ rfl ?_; clear hK K
  refine wpSq_call rfl (by kernel_rfl) fun K hK => ?_
  go_big_move; refine hK _ _ rfl ?_; clear hK K
  refine wpSq_call rfl (by kernel_rfl) fun K hK => ?_
  go_big_op; refine hK _ _ rfl ?_; clear hK K
  apply wpSq_end
  refine hK14 _ _ ?_
  refine wp_cond_true (congrArg Value.bool (show _ = true from (by simpa using h2))) ?_
  refine wp_seq_k ?_
  intro K15 hK15
  refine wp_region_sq [0, 1] (by kernel_rfl) ?_
  refine wpSq_call rfl (by kernel_rfl) fun K hK => ?_
  go_big_move; refine hK _ _ rfl ?_; clear hK K
  refine wpSq_call rfl (by kernel_rfl) fun K hK => ?_
  go_big_move; refine hK _ _ rfl ?_; clear hK K
  apply wpSq_end
  refine hK15 _ _ ?_
  refine wp_ret ?_
  try dsimp only [Exit.then, Exit.inBlock]
  refine bodyPost_ret (v := (.int .i64 b)) (by simp [results, Tryz.results45, go_sem]) rfl ?_
  exact ⟨rfl, hb⟩
set_option maxHeartbeats 4000000 in
set_option maxRecDepth 20000 in
theorem cmpOr_cz {p : Nat} {c : Int} (hx : Bs w p #[.int .i64 0, .int .i64 0, .int .i64 0] 3) :
    Calls Tryz.prog 45 #[.slice (some ⟨p, 0, none⟩) 3 3] w fun e w' => e = .returned (.int .i64 0) ∧ Below w.heap.size w w' := by
  go_enter Tryz.func45, Tryz.ntmps45
  have hb := Below.refl w.heap.size w
  refine wp_seq_k ?_
  intro K1 hK1
  refine wp_region_sq [0] (by kernel_rfl) ?_
  refine wpSq_call rfl (by kernel_rfl) fun K hK => ?_
  go_big_move; refine hK _ _ rfl ?_; clear hK K
  apply wpSq_end
  refine hK1 _ _ ?_
  refine wp_seq_k ?_
  intro K2 hK2
  refine wp_region_sq [0] (by kernel_rfl) ?_
  refine wpSq_call rfl (by kernel_rfl) fun K hK => ?_
  go_big_move; refine hK _ _ rfl ?_; clear hK K
  apply wpSq_end
  refine hK2 _ _ ?_
  refine wp_seq_k ?_
  intro K3 hK3
  refine wp_seq_k ?_
  intro K4 hK4
  refine wp_region_sq [0, 1, 2] (by kernel_rfl) ?_
  refine wpSq_call rfl (by kernel_rfl) fun K hK => ?_
  go_big_move; refine hK _ _ rfl ?_; clear hK K
  refine wpSq_call rfl (by kernel_rfl) fun K hK => ?_
  go_big_op; refine hK _ _ rfl ?_; clear hK K
  refine wpSq_call rfl (by kernel_rfl) fun K hK => ?_
  go_big_move; refine hK _ _ rfl ?_; clear hK K
  apply wpSq_end
  refine hK4 _ _ ?_
  refine wp_block ?_
  refine wp_loop_rounds 4 ?_
  show Code.wp _ _ _ _ _
  refine wp_seq_k ?_
  intro K5 hK5
  refine wp_region_sq [0] (by kernel_rfl) ?_
  refine wpSq_call rfl (by kernel_rfl) fun K hK => ?_
  go_big_op; refine hK _ _ rfl ?_; clear hK K
  apply wpSq_end
  refine hK5 _ _ ?_
  refine wp_seq_k ?_
  intro K6 hK6
  refine wp_cond_true (congrArg Value.bool (show _ = true from (by first | rfl | assumption | (simp; done) | exact decide_eq_true (by omega) | omega))) ?_
  refine wp_skip ?_
  refine hK6 _ _ ?_
  refine wp_seq_k ?_
  intro K7 hK7
  refine wp_block ?_
  refine wp_seq_k ?_
  intro K8 hK8
  refine wp_region_sq [0, 1, 2] (by kernel_rfl) ?_
  refine wpSq_call rfl (by kernel_rfl) fun K hK => ?_
  go_big_op; refine hK _ _ rfl ?_; clear hK K
  refine wpSq_call rfl (by kernel_rfl) fun K hK => ?_
  have d0 : w.cell? ⟨p, 0, none⟩ = some (.int .i64 0) := hx.cell 0 rfl
  have d1 : w.cell? ⟨p, 1, none⟩ = some (.int .i64 0) := hx.cell 1 rfl
  have d2 : w.cell? ⟨p, 2, none⟩ = some (.int .i64 0) := hx.cell 2 rfl
  go_big_op; refine hK _ _ rfl ?_; clear hK K d0 d1 d2
  refine wpSq_call rfl (by kernel_rfl) fun K hK => ?_
  go_big_move; refine hK _ _ rfl ?_; clear hK K
  apply wpSq_end
  refine hK8 _ _ ?_
  refine wp_seq_k ?_
  intro K9 hK9
  refine wp_region_sq [0, 1, 2] (by kernel_rfl) ?_
  refine wpSq_call rfl (by kernel_rfl) fun K hK => ?_
  go_big_move; refine hK _ _ rfl ?_; clear hK K
  refine wpSq_call rfl (by kernel_rfl) fun K hK => ?_
  go_big_move; refine hK _ _ rfl ?_; clear hK K
  refine wpSq_call rfl (by kernel_rfl) fun K hK => ?_
  go_big_op; refine hK _ _ rfl ?_; clear hK K
  apply wpSq_end
  refine hK9 _ _ ?_
  refine wp_cond_false (congrArg Value.bool (show _ = false from (by first | rfl | assumption | (simp; done) | exact decide_eq_false (by omega) | omega))) ?_
  refine wp_skip ?_
  refine hK7 _ _ ?_
  refine wp_region_sq [0, 1] (by kernel_rfl) ?_
  refine wpSq_call rfl (by kernel_rfl) fun K hK => ?_
  go_big_op; refine hK _ _ rfl ?_; clear hK K
  refine wpSq_call rfl (by kernel_rfl) fun K hK => ?_
  go_big_move; refine hK _ _ rfl ?_; clear hK K
  apply wpSq_end
  show Code.wp _ _ _ _ _
  refine wp_seq_k ?_
  intro K10 hK10
  refine wp_region_sq [0] (by kernel_rfl) ?_
  refine wpSq_call rfl (by kernel_rfl) fun K hK => ?_
  go_big_op; refine hK _ _ rfl ?_; clear hK K
  apply wpSq_end
  refine hK10 _ _ ?_
  refine wp_seq_k ?_
  intro K11 hK11
  refine wp_cond_true (congrArg Value.bool (show _ = true from (by first | rfl | assumption | (simp; done) | exact decide_eq_true (by omega) | omega))) ?_
  refine wp_skip ?_
  refine hK11 _ _ ?_
  refine wp_seq_k ?_
  intro K12 hK12
  refine wp_block ?_
  refine wp_seq_k ?_
  intro K13 hK13
  refine wp_region_sq [0, 1, 2] (by kernel_rfl) ?_
  refine wpSq_call rfl (by kernel_rfl) fun K hK => ?_
  go_big_op; refine hK _ _ rfl ?_; clear hK K
  refine wpSq_call rfl (by kernel_rfl) fun K hK => ?_
  have d0 : w.cell? ⟨p, 0, none⟩ = some (.int .i64 0) := hx.cell 0 rfl
  have d1 : w.cell? ⟨p, 1, none⟩ = some (.int .i64 0) := hx.cell 1 rfl
  have d2 : w.cell? ⟨p, 2, none⟩ = some (.int .i64 0) := hx.cell 2 rfl
  go_big_op; refine hK _ _ rfl ?_; clear hK K d0 d1 d2
  refine wpSq_call rfl (by kernel_rfl) fun K hK => ?_
  go_big_move; refine hK _ _ rfl ?_; clear hK K
  apply wpSq_end
  refine hK13 _ _ ?_
  refine wp_seq_k ?_
  intro K14 hK14
  refine wp_region_sq [0, 1, 2] (by kernel_rfl) ?_
  refine wpSq_call rfl (by kernel_rfl) fun K hK => ?_
  go_big_move; refine hK _ _ rfl ?_; clear hK K
  refine wpSq_call rfl (by kernel_rfl) fun K hK => ?_
  go_big_move; refine hK _ _ rfl ?_; clear hK K
  refine wpSq_call rfl (by kernel_rfl) fun K hK => ?_
  go_big_op; refine hK _ _ rfl ?_; clear hK K
  apply wpSq_end
  refine hK14 _ _ ?_
  refine wp_cond_false (congrArg Value.bool (show _ = false from (by first | rfl | assumption | (simp; done) | exact decide_eq_false (by omega) | omega))) ?_
  refine wp_skip ?_
  refine hK12 _ _ ?_
  refine wp_region_sq [0, 1] (by kernel_rfl) ?_
  refine wpSq_call rfl (by kernel_rfl) fun K hK => ?_
  go_big_op; refine hK _ _ rfl ?_; clear hK K
  refine wpSq_call rfl (by kernel_rfl) fun K hK => ?_
  go_big_move; refine hK _ _ rfl ?_; clear hK K
  apply wpSq_end
  show Code.wp _ _ _ _ _
  refine wp_seq_k ?_
  intro K15 hK15
  refine wp_region_sq [0] (by kernel_rfl) ?_
  refine wpSq_call rfl (by kernel_rfl) fun K hK => ?_
  go_big_op; refine hK _ _ rfl ?_; clear hK K
  apply wpSq_end
  refine hK15 _ _ ?_
  refine wp_seq_k ?_
  intro K16 hK16
  refine wp_cond_true (congrArg Value.bool (show _ = true from (by first | rfl | assumption | (simp; done) | exact decide_eq_true (by omega) | omega))) ?_
  refine wp_skip ?_
  refine hK16 _ _ ?_
  refine wp_seq_k ?_
  intro K17 hK17
  refine wp_block ?_
  refine wp_seq_k ?_
  intro K18 hK18
  refine wp_region_sq [0, 1, 2] (by kernel_rfl) ?_
  refine wpSq_call rfl (by kernel_rfl) fun K hK => ?_
  go_big_op; refine hK _ _ rfl ?_; clear hK K
  refine wpSq_call rfl (by kernel_rfl) fun K hK => ?_
  have d0 : w.cell? ⟨p, 0, none⟩ = some (.int .i64 0) := hx.cell 0 rfl
  have d1 : w.cell? ⟨p, 1, none⟩ = some (.int .i64 0) := hx.cell 1 rfl
  have d2 : w.cell? ⟨p, 2, none⟩ = some (.int .i64 0) := hx.cell 2 rfl
  go_big_op; refine hK _ _ rfl ?_; clear hK K d0 d1 d2
  refine wpSq_call rfl (by kernel_rfl) fun K hK => ?_
  go_big_move; refine hK _ _ rfl ?_; clear hK K
  apply wpSq_end
  refine hK18 _ _ ?_
  refine wp_seq_k ?_
  intro K19 hK19
  refine wp_region_sq [0, 1, 2] (by kernel_rfl) ?_
  refine wpSq_call rfl (by kernel_rfl) fun K hK => ?_
  go_big_move; refine hK _ _ rfl ?_; clear hK K
  refine wpSq_call rfl (by kernel_rfl) fun K hK => ?_
  go_big_move; refine hK _ _ rfl ?_; clear hK K
  refine wpSq_call rfl (by kernel_rfl) fun K hK => ?_
  go_big_op; refine hK _ _ rfl ?_; clear hK K
  apply wpSq_end
  refine hK19 _ _ ?_
  refine wp_cond_false (congrArg Value.bool (show _ = false from (by first | rfl | assumption | (simp; done) | exact decide_eq_false (by omega) | omega))) ?_
  refine wp_skip ?_
  refine hK17 _ _ ?_
  refine wp_region_sq [0, 1] (by kernel_rfl) ?_
  refine wpSq_call rfl (by kernel_rfl) fun K hK => ?_
  go_big_op; refine hK _ _ rfl ?_; clear hK K
  refine wpSq_call rfl (by kernel_rfl) fun K hK => ?_
  go_big_move; refine hK _ _ rfl ?_; clear hK K
  apply wpSq_end
  show Code.wp _ _ _ _ _
  refine wp_seq_k ?_
  intro K20 hK20
  refine wp_region_sq [0] (by kernel_rfl) ?_
  refine wpSq_call rfl (by kernel_rfl) fun K hK => ?_
  go_big_op; refine hK _ _ rfl ?_; clear hK K
  apply wpSq_end
  refine hK20 _ _ ?_
  refine wp_seq_k ?_
  intro K21 hK21
  refine wp_cond_false (congrArg Value.bool (show _ = false from (by first | rfl | assumption | (simp; done) | exact decide_eq_false (by omega) | omega))) ?_
  refine wp_exit ?_
  refine hK3 _ _ ?_
  refine wp_seq_k ?_
  intro K22 hK22
  refine wp_region_sq [0, 1] (by kernel_rfl) ?_
  refine wpSq_call rfl (by kernel_rfl) fun K hK => ?_
  go_big_move; refine hK _ _ rfl ?_; clear hK K
  refine wpSq_call rfl (by kernel_rfl) fun K hK => ?_
  go_big_move; refine hK _ _ rfl ?_; clear hK K
  apply wpSq_end
  refine hK22 _ _ ?_
  refine wp_ret ?_
  try dsimp only [Exit.then, Exit.inBlock]
  refine bodyPost_ret (v := (.int .i64 0)) (by simp [results, Tryz.results45, go_sem]) rfl ?_
  exact ⟨rfl, hb⟩
set_option maxHeartbeats 4000000 in
set_option maxRecDepth 20000 in
theorem cmpOr_cn {p : Nat} {c : Int} (hx : Bs w p #[.int .i64 0, .int .i64 0, .int .i64 c] 3) (h3 : c ≠ 0) :
    Calls Tryz.prog 45 #[.slice (some ⟨p, 0, none⟩) 3 3] w fun e w' => e = .returned (.int .i64 c) ∧ Below w.heap.size w w' := by
  go_enter Tryz.func45, Tryz.ntmps45
  have hb := Below.refl w.heap.size w
  refine wp_seq_k ?_
  intro K1 hK1
  refine wp_region_sq [0] (by kernel_rfl) ?_
  refine wpSq_call rfl (by kernel_rfl) fun K hK => ?_
  go_big_move; refine hK _ _ rfl ?_; clear hK K
  apply wpSq_end
  refine hK1 _ _ ?_
  refine wp_seq_k ?_
  intro K2 hK2
  refine wp_region_sq [0] (by kernel_rfl) ?_
  refine wpSq_call rfl (by kernel_rfl) fun K hK => ?_
  go_big_move; refine hK _ _ rfl ?_; clear hK K
  apply wpSq_end
  refine hK2 _ _ ?_
  refine wp_seq_k ?_
  intro K3 hK3
  refine wp_seq_k ?_
  intro K4 hK4
  refine wp_region_sq [0, 1, 2] (by kernel_rfl) ?_
  refine wpSq_call rfl (by kernel_rfl) fun K hK => ?_
  go_big_move; refine hK _ _ rfl ?_; clear hK K
  refine wpSq_call rfl (by kernel_rfl) fun K hK => ?_
  go_big_op; refine hK _ _ rfl ?_; clear hK K
  refine wpSq_call rfl (by kernel_rfl) fun K hK => ?_
  go_big_move; refine hK _ _ rfl ?_; clear hK K
  apply wpSq_end
  refine hK4 _ _ ?_
  refine wp_block ?_
  refine wp_loop_rounds 4 ?_
  show Code.wp _ _ _ _ _
  refine wp_seq_k ?_
  intro K5 hK5
  refine wp_region_sq [0] (by kernel_rfl) ?_
  refine wpSq_call rfl (by kernel_rfl) fun K hK => ?_
  go_big_op; refine hK _ _ rfl ?_; clear hK K
  apply wpSq_end
  refine hK5 _ _ ?_
  refine wp_seq_k ?_
  intro K6 hK6
  refine wp_cond_true (congrArg Value.bool (show _ = true from (by first | rfl | assumption | (simp; done) | exact decide_eq_true (by omega) | omega))) ?_
  refine wp_skip ?_
  refine hK6 _ _ ?_
  refine wp_seq_k ?_
  intro K7 hK7
  refine wp_block ?_
  refine wp_seq_k ?_
  intro K8 hK8
  refine wp_region_sq [0, 1, 2] (by kernel_rfl) ?_
  refine wpSq_call rfl (by kernel_rfl) fun K hK => ?_
  go_big_op; refine hK _ _ rfl ?_; clear hK K
  refine wpSq_call rfl (by kernel_rfl) fun K hK => ?_
  have d0 : w.cell? ⟨p, 0, none⟩ = some (.int .i64 0) := hx.cell 0 rfl
  have d1 : w.cell? ⟨p, 1, none⟩ = some (.int .i64 0) := hx.cell 1 rfl
  have d2 : w.cell? ⟨p, 2, none⟩ = some (.int .i64 c) := hx.cell 2 rfl
  go_big_op; refine hK _ _ rfl ?_; clear hK K d0 d1 d2
  refine wpSq_call rfl (by kernel_rfl) fun K hK => ?_
  go_big_move; refine hK _ _ rfl ?_; clear hK K
  apply wpSq_end
  refine hK8 _ _ ?_
  refine wp_seq_k ?_
  intro K9 hK9
  refine wp_region_sq [0, 1, 2] (by kernel_rfl) ?_
  refine wpSq_call rfl (by kernel_rfl) fun K hK => ?_
  go_big_move; refine hK _ _ rfl ?_; clear hK K
  refine wpSq_call rfl (by kernel_rfl) fun K hK => ?_
  go_big_move; refine hK _ _ rfl ?_; clear hK K
  refine wpSq_call rfl (by kernel_rfl) fun K hK => ?_
  go_big_op; refine hK _ _ rfl ?_; clear hK K
  apply wpSq_end
  refine hK9 _ _ ?_
  refine wp_cond_false (congrArg Value.bool (show _ = false from (by first | rfl | assumption | (simp; done) | exact decide_eq_false (by omega) | omega))) ?_
  refine wp_skip ?_
  refine hK7 _ _ ?_
  refine wp_region_sq [0, 1] (by kernel_rfl) ?_
  refine wpSq_call rfl (by kernel_rfl) fun K hK => ?_
  go_big_op; refine hK _ _ rfl ?_; clear hK K
  refine wpSq_call rfl (by kernel_rfl) fun K hK => ?_
  go_big_move; refine hK _ _ rfl ?_; clear hK K
  apply wpSq_end
  show Code.wp _ _ _ _ _
  refine wp_seq_k ?_
  intro K10 hK10
  refine wp_region_sq [0] (by kernel_rfl) ?_
  refine wpSq_call rfl (by kernel_rfl) fun K hK => ?_
  go_big_op; refine hK _ _ rfl ?_; clear hK K
  apply wpSq_end
  refine hK10 _ _ ?_
  refine wp_seq_k ?_
  intro K11 hK11
  refine wp_cond_true (congrArg Value.bool (show _ = true from (by first | rfl | assumption | (simp; done) | exact decide_eq_true (by omega) | omega))) ?_
  refine wp_skip ?_
  refine hK11 _ _ ?_
  refine wp_seq_k ?_
  intro K12 hK12
  refine wp_block ?_
  refine wp_seq_k ?_
  intro K13 hK13
  refine wp_region_sq [0, 1, 2] (by kernel_rfl) ?_
  refine wpSq_call rfl (by kernel_rfl) fun K hK => ?_
  go_big_op; refine hK _ _ rfl ?_; clear hK K
  refine wpSq_call rfl (by kernel_rfl) fun K hK => ?_
  have d0 : w.cell? ⟨p, 0, none⟩ = some (.int .i64 0) := hx.cell 0 rfl
  have d1 : w.cell? ⟨p, 1, none⟩ = some (.int .i64 0) := hx.cell 1 rfl
  have d2 : w.cell? ⟨p, 2, none⟩ = some (.int .i64 c) := hx.cell 2 rfl
  go_big_op; refine hK _ _ rfl ?_; clear hK K d0 d1 d2
  refine wpSq_call rfl (by kernel_rfl) fun K hK => ?_
  go_big_move; refine hK _ _ rfl ?_; clear hK K
  apply wpSq_end
  refine hK13 _ _ ?_
  refine wp_seq_k ?_
  intro K14 hK14
  refine wp_region_sq [0, 1, 2] (by kernel_rfl) ?_
  refine wpSq_call rfl (by kernel_rfl) fun K hK => ?_
  go_big_move; refine hK _ _ rfl ?_; clear hK K
  refine wpSq_call rfl (by kernel_rfl) fun K hK => ?_
  go_big_move; refine hK _ _ rfl ?_; clear hK K
  refine wpSq_call rfl (by kernel_rfl) fun K hK => ?_
  go_big_op; refine hK _ _ rfl ?_; clear hK K
  apply wpSq_end
  refine hK14 _ _ ?_
  refine wp_cond_false (congrArg Value.bool (show _ = false from (by first | rfl | assumption | (simp; done) | exact decide_eq_false (by omega) | omega))) ?_
  refine wp_skip ?_
  refine hK12 _ _ ?_
  refine wp_region_sq [0, 1] (by kernel_rfl) ?_
  refine wpSq_call rfl (by kernel_rfl) fun K hK => ?_
  go_big_op; refine hK _ _ rfl ?_; clear hK K
  refine wpSq_call rfl (by kernel_rfl) fun K hK => ?_
  go_big_move; refine hK _ _ rfl ?_; clear hK K
  apply wpSq_end
  show Code.wp _ _ _ _ _
  refine wp_seq_k ?_
  intro K15 hK15
  refine wp_region_sq [0] (by kernel_rfl) ?_
  refine wpSq_call rfl (by kernel_rfl) fun K hK => ?_
  go_big_op; refine hK _ _ rfl ?_; clear hK K
  apply wpSq_end
  refine hK15 _ _ ?_
  refine wp_seq_k ?_
  intro K16 hK16
  refine wp_cond_true (congrArg Value.bool (show _ = true from (by first | rfl | assumption | (simp; done) | exact decide_eq_true (by omega) | omega))) ?_
  refine wp_skip ?_
  refine hK16 _ _ ?_
  refine wp_seq_k ?_
  intro K17 hK17
  refine wp_block ?_
  refine wp_seq_k ?_
  intro K18 hK18
  refine wp_region_sq [0, 1, 2] (by kernel_rfl) ?_
  refine wpSq_call rfl (by kernel_rfl) fun K hK => ?_
  go_big_op; refine hK _ _ rfl ?_; clear hK K
  refine wpSq_call rfl (by kernel_rfl) fun K hK => ?_
  have d0 : w.cell? ⟨p, 0, none⟩ = some (.int .i64 0) := hx.cell 0 rfl
  have d1 : w.cell? ⟨p, 1, none⟩ = some (.int .i64 0) := hx.cell 1 rfl
  have d2 : w.cell? ⟨p, 2, none⟩ = some (.int .i64 c) := hx.cell 2 rfl
  go_big_op; refine hK _ _ rfl ?_; clear hK K d0 d1 d2
  refine wpSq_call rfl (by kernel_rfl) fun K hK => ?_
  go_big_move; refine hK _ _ rfl ?_; clear hK K
  apply wpSq_end
  refine hK18 _ _ ?_
  refine wp_seq_k ?_
  intro K19 hK19
  refine wp_region_sq [0, 1, 2] (by kernel_rfl) ?_
  refine wpSq_call rfl (by kernel_rfl) fun K hK => ?_
  go_big_move; refine hK _ _ rfl ?_; clear hK K
  refine wpSq_call rfl (by kernel_rfl) fun K hK => ?_
  go_big_move; refine hK _ _ rfl ?_; clear hK K
  refine wpSq_call rfl (by kernel_rfl) fun K hK => ?_
  go_big_op; refine hK _ _ rfl ?_; clear hK K
  apply wpSq_end
  refine hK19 _ _ ?_
  refine wp_cond_true (congrArg Value.bool (show _ = true from (by simpa using h3))) ?_
  refine wp_seq_k ?_
  intro K20 hK20
  refine wp_region_sq [0, 1] (by kernel_rfl) ?_
  refine wpSq_call rfl (by kernel_rfl) fun K hK => ?_
  go_big_move; refine hK _ _ rfl ?_; clear hK K
  refine wpSq_call rfl (by kernel_rfl) fun K hK => ?_
  go_big_move; refine hK _ _ rfl ?_; clear hK K
  apply wpSq_end
  refine hK20 _ _ ?_
  refine wp_ret ?_
  try dsimp only [Exit.then, Exit.inBlock]
  refine bodyPost_ret (v := (.int .i64 c)) (by simp [results, Tryz.results45, go_sem]) rfl ?_
  exact ⟨rfl, hb⟩
theorem cmpOr_any {p : Nat} {a b c : Int} (hx : Bs w p #[.int .i64 a, .int .i64 b, .int .i64 c] 3) :
    Calls Tryz.prog 45 #[.slice (some ⟨p, 0, none⟩) 3 3] w fun e w' => e = .returned (.int .i64 (or3 a b c)) ∧ Below w.heap.size w w' := by
  unfold or3
  by_cases h1 : a = 0
  · subst h1
    rw [if_neg (by simp)]
    by_cases h2 : b = 0
    · subst h2
      rw [if_neg (by simp)]
      by_cases h3 : c = 0
      · subst h3; exact cmpOr_cz (c := 0) hx
      · exact cmpOr_cn hx h3
    · rw [if_pos h2]; exact cmpOr_b hx h2
  · rw [if_pos h1]; exact cmpOr_a hx h1
set_option maxHeartbeats 4000000 in
set_option maxRecDepth 20000 in
theorem gCmp_any (ha : PN w va x l y m) (hq : PN w vb u k v n) (hl : l ≤ 40000000) (hm : m ≤ 40000000) (hk : k ≤ 40000000) (hn : n ≤ 40000000) :
    Calls Tryz.prog 18 #[va, vb] w fun e w' => e = .returned (.int .i64 (gcmp x y u v)) ∧ Below w.heap.size w w' := by
  obtain ⟨A, hA⟩ : ∃ A, zcmp (gN x y) (gN u v) = A := ⟨_, rfl⟩
  obtain ⟨B, hB⟩ : ∃ B, zcmp x u = B := ⟨_, rfl⟩
  obtain ⟨C, hC⟩ : ∃ C, zcmp y v = C := ⟨_, rfl⟩
  have HA := hide hA
  have HB := hide hB
  have HC := hide hC
  obtain ⟨R, hR⟩ : ∃ R, or3 A B C = R := ⟨_, rfl⟩
  have HR := hide hR
  have E : gcmp x y u v = R := by unfold gcmp; rw [hA, hB, hC, hR]
  rw [E]
  clear hA hB hC hR E
  obtain ⟨n_0a, o_0a, k_0a, c_0a, n_0b, o_0b, k_0b, c_0b, rfl, ha1, ha2⟩ := ha
  obtain ⟨n_1a, o_1a, k_1a, c_1a, n_1b, o_1b, k_1b, c_1b, rfl, hq1, hq2⟩ := hq
  go_enter Tryz.func18, Tryz.ntmps18
  have hb := Below.refl w.heap.size w
  refine wp_seq_k ?_
  intro K1 hK1
  refine wp_region_sq [0, 1, 2] (by kernel_rfl) ?_
  refine wpSq_call rfl (by kernel_rfl) fun K hK => ?_
  go_big_op
  obtain ⟨p_b1, w_1, eP, eW, x_b1, hn, kb_b1⟩ := newBox w #[.bool n_0a, .slice o_0a k_0a c_0a, .bool n_0b, .slice o_0b k_0b c_0b] 29 hb.size
  rw [eW, eP]
  clear eW eP
  replace ha1 := ha1.bl hn; replace ha2 := ha2.bl hn; replace hq1 := hq1.bl hn; replace hq2 := hq2.bl hn; replace hb := hb.trans (hn.mono hb.size)
  refine hK _ _ rfl ?_; clear hK K hn
  refine wpSq_call rfl (by kernel_rfl) fun K hK => ?_
  go_big_op
  have lt_b1 := x_b1.lt
  obtain ⟨p_b2, w_2, eP, eW, x_b2, hn, kb_b2⟩ := newBox w_1 #[.bool n_1a, .slice o_1a k_1a c_1a, .bool n_1b, .slice o_1b k_1b c_1b] 29 hb.size
  have ne_b1_b2 : Hid (p_b1 ≠ p_b2) := Nat.ne_of_lt (eP ▸ lt_b1)
  rw [eW, eP]
  clear eW eP lt_b1
  replace ha1 := ha1.bl hn; replace ha2 := ha2.bl hn; replace hq1 := hq1.bl hn; replace hq2 := hq2.bl hn; replace x_b1 := x_b1.bl hn; replace hb := hb.trans (hn.mono hb.size)
  refine hK _ _ rfl ?_; clear hK K hn
  refine wpSq_call rfl (by kernel_rfl) fun K hK => ?_
  go_big_move; refine hK _ _ rfl ?_; clear hK K
  apply wpSq_end
  refine hK1 _ _ ?_
  refine wp_seq_k ?_
  intro K2 hK2
  refine wp_region_fl2 [(0, false), (2, false), (5, false), (6, false), (7, false), (8, false), (10, false), (11, false), (12, false), (13, false), (1, true), (3, true), (4, true), (9, true), (14, true), (15, true), (16, true), (17, false)] [] [] (fun _ => default) [0, 99, 1, 99, 99, 99, 0, 99, 1, 99, 99, 0, 99, 1, 99, 99, 99, 99] [] (fun w' => w'.cell? ⟨p_b1, 0, none⟩ = some (.bool n_0a) ∧ w'.cell? ⟨p_b1, 1, none⟩ = some (.slice o_0a k_0a c_0a) ∧ w'.cell? ⟨p_b1, 2, none⟩ = some (.bool n_0b) ∧ w'.cell? ⟨p_b1, 3, none⟩ = some (.slice o_0b k_0b c_0b) ∧ w'.cell? ⟨p_b2, 0, none⟩ = some (.bool n_1a) ∧ w'.cell? ⟨p_b2, 1, none⟩ = some (.slice o_1a k_1a c_1a) ∧ w'.cell? ⟨p_b2, 2, none⟩ = some (.bool n_1b) ∧ w'.cell? ⟨p_b2, 3, none⟩ = some (.slice o_1b k_1b c_1b)) [fun w' => w'.cell? ⟨p_b1, 0, none⟩ = some (.bool n_0a) ∧ w'.cell? ⟨p_b1, 1, none⟩ = some (.slice o_0a k_0a c_0a) ∧ w'.cell? ⟨p_b1, 2, none⟩ = some (.bool n_0b) ∧ w'.cell? ⟨p_b1, 3, none⟩ = some (.slice o_0b k_0b c_0b), fun w' => w'.cell? ⟨p_b2, 0, none⟩ = some (.bool n_1a) ∧ w'.cell? ⟨p_b2, 1, none⟩ = some (.slice o_1a k_1a c_1a) ∧ w'.cell? ⟨p_b2, 2, none⟩ = some (.bool n_1b) ∧ w'.cell? ⟨p_b2, 3, none⟩ = some (.slice o_1b k_1b c_1b)] (by kernel_rfl) (by kernel_rfl) (by kernel_rfl) (by kernel_rfl) (by kernel_rfl) (by kernel_rfl) (by kernel_rfl) (by kernel_rfl) (by decide) (by intro j hj; cases hj) (by intro w' o hC; obtain ⟨c0, c1, c2, c3, c4, c5, c6, c7⟩ := hC; exact ⟨cell_alloc c0 o, cell_alloc c1 o, cell_alloc c2 o, cell_alloc c3 o, cell_alloc c4 o, cell_alloc c5 o, cell_alloc c6 o, cell_alloc c7 o⟩) (by intro w' hC G hG; obtain ⟨c0, c1, c2, c3, c4, c5, c6, c7⟩ := hC; simp only [List.mem_cons, List.not_mem_nil, or_false] at hG; rcases hG with rfl | rfl <;> first | exact ⟨c0, c1, c2, c3⟩ | exact ⟨c4, c5, c6, c7⟩) ?_
  have lt_b1 := x_b1.lt
  have lt_b2 := x_b2.lt
  intro w_3 hn
  replace lt_b1 := Nat.lt_of_lt_of_le lt_b1 hn.size
  replace lt_b2 := Nat.lt_of_lt_of_le lt_b2 hn.size
  replace ha1 := ha1.bl hn; replace ha2 := ha2.bl hn; replace hq1 := hq1.bl hn; replace hq2 := hq2.bl hn; replace x_b1 := x_b1.bl hn; replace x_b2 := x_b2.bl hn; replace hb := hb.trans (hn.mono hb.size)
  clear hn
  have kb0 := hb.size
  refine ⟨⟨x_b1.cell 0 rfl, x_b1.cell 1 rfl, x_b1.cell 2 rfl, x_b1.cell 3 rfl, x_b2.cell 0 rfl, x_b2.cell 1 rfl, x_b2.cell 2 rfl, x_b2.cell 3 rfl⟩, ?_⟩
  apply wpFl_ld rfl rfl; (case h1 => intro w' hC K hK; obtain ⟨c0, c1, c2, c3⟩ := hC; go_big_op; exact hK); iterate 4 kernel_rfl
  apply wpFl_ld rfl rfl; (case h1 => intro w' hC K hK; obtain ⟨c0, c1, c2, c3⟩ := hC; go_big_op; exact hK); iterate 4 kernel_rfl
  apply wpFl_ld rfl rfl; (case h1 => intro w' hC K hK; go_big_op; exact hK); iterate 4 kernel_rfl
  apply wpFl_ld rfl rfl; (case h1 => intro w' hC K hK; obtain ⟨c0, c1, c2, c3⟩ := hC; go_big_op; exact hK); iterate 4 kernel_rfl
  apply wpFl_ld rfl rfl; (case h1 => intro w' hC K hK; go_big_op; exact hK); iterate 4 kernel_rfl
  apply wpFl_ld rfl rfl; (case h1 => intro w' hC K hK; obtain ⟨c0, c1, c2, c3⟩ := hC; go_big_op; exact hK); iterate 4 kernel_rfl
  apply wpFl_ld rfl rfl; (case h1 => intro w' hC K hK; go_big_op; exact hK); iterate 4 kernel_rfl
  apply wpFl_ld rfl rfl; (case h1 => intro w' hC K hK; obtain ⟨c0, c1, c2, c3⟩ := hC; go_big_op; exact hK); iterate 4 kernel_rfl
  apply wpFl_ld rfl rfl; (case h1 => intro w' hC K hK; go_big_op; exact hK); iterate 4 kernel_rfl
  apply wpFl_ld rfl rfl; (case h1 => intro w' hC K hK; obtain ⟨c0, c1, c2, c3⟩ := hC; go_big_op; exact hK); iterate 4 kernel_rfl
  refine wpFl_call rfl (by kernel_rfl) fun w_4 hn hC => ?_; clear hC
  replace ha1 := ha1.bl hn; replace ha2 := ha2.bl hn; replace hq1 := hq1.bl hn; replace hq2 := hq2.bl hn; replace x_b1 := x_b1.bl hn; replace x_b2 := x_b2.bl hn; replace hb := hb.trans (hn.mono hb.size)
  clear hn; intro K hK
  go_big_op
  go_fit (gNorm_any (PN.mk' ha1 ha2) (by omega) (by omega) )
  rintro e w_5 ⟨v_g, rfl, g, hb_5⟩
  replace ha1 := ha1.bl hb_5; replace ha2 := ha2.bl hb_5; replace hq1 := hq1.bl hb_5; replace hq2 := hq2.bl hb_5; replace x_b1 := x_b1.bl hb_5; replace x_b2 := x_b2.bl hb_5; replace hb := hb.trans (hb_5.mono hb.size)
  obtain ⟨n_g, o_g, k_g, c_g, rfl⟩ := g.open2
  have Lg := hide (g.lenOf (zlen_add (zlen_mul (ha1.len) (ha1.len)) (zlen_mul (ha2.len) (ha2.len))))
  refine hK _ _ rfl hb_5 ⟨x_b1.cell 0 rfl, x_b1.cell 1 rfl, x_b1.cell 2 rfl, x_b1.cell 3 rfl, x_b2.cell 0 rfl, x_b2.cell 1 rfl, x_b2.cell 2 rfl, x_b2.cell 3 rfl⟩ ?_
  clear hK K hb_5
  refine wpFl_call rfl (by kernel_rfl) fun w_6 hn hC => ?_; clear hC
  replace ha1 := ha1.bl hn; replace ha2 := ha2.bl hn; replace hq1 := hq1.bl hn; replace hq2 := hq2.bl hn; replace x_b1 := x_b1.bl hn; replace x_b2 := x_b2.bl hn; replace g := g.bl hn; replace hb := hb.trans (hn.mono hb.size)
  clear hn; intro K hK
  go_big_op
  go_fit (gNorm_any (PN.mk' hq1 hq2) (by omega) (by omega) )
  rintro e w_7 ⟨v_h, rfl, h, hb_7⟩
  replace ha1 := ha1.bl hb_7; replace ha2 := ha2.bl hb_7; replace hq1 := hq1.bl hb_7; replace hq2 := hq2.bl hb_7; replace x_b1 := x_b1.bl hb_7; replace x_b2 := x_b2.bl hb_7; replace g := g.bl hb_7; replace hb := hb.trans (hb_7.mono hb.size)
  obtain ⟨n_h, o_h, k_h, c_h, rfl⟩ := h.open2
  have Lh := hide (h.lenOf (zlen_add (zlen_mul (hq1.len) (hq1.len)) (zlen_mul (hq2.len) (hq2.len))))
  refine hK _ _ rfl hb_7 ⟨x_b1.cell 0 rfl, x_b1.cell 1 rfl, x_b1.cell 2 rfl, x_b1.cell 3 rfl, x_b2.cell 0 rfl, x_b2.cell 1 rfl, x_b2.cell 2 rfl, x_b2.cell 3 rfl⟩ ?_
  clear hK K hb_7
  refine wpFl_call rfl (by kernel_rfl) fun w_8 hn hC => ?_; clear hC
  replace ha1 := ha1.bl hn; replace ha2 := ha2.bl hn; replace hq1 := hq1.bl hn; replace hq2 := hq2.bl hn; replace x_b1 := x_b1.bl hn; replace x_b2 := x_b2.bl hn; replace g := g.bl hn; replace h := h.bl hn; replace hb := hb.trans (hn.mono hb.size)
  clear hn; intro K hK
  go_big_op
  go_fit (zcmp_any (g.zn Lg.out) (h.zn Lh.out) (by omega) (by omega))
  rintro e w_9 ⟨rfl, hb_9⟩
  replace ha1 := ha1.bl hb_9; replace ha2 := ha2.bl hb_9; replace hq1 := hq1.bl hb_9; replace hq2 := hq2.bl hb_9; replace x_b1 := x_b1.bl hb_9; replace x_b2 := x_b2.bl hb_9; replace g := g.bl hb_9; replace h := h.bl hb_9; replace hb := hb.trans (hb_9.mono hb.size)
  rw [HA.out]
  refine hK _ _ rfl hb_9 ⟨x_b1.cell 0 rfl, x_b1.cell 1 rfl, x_b1.cell 2 rfl, x_b1.cell 3 rfl, x_b2.cell 0 rfl, x_b2.cell 1 rfl, x_b2.cell 2 rfl, x_b2.cell 3 rfl⟩ ?_
  clear hK K hb_9
  refine wpFl_call rfl (by kernel_rfl) fun w_10 hn hC => ?_; clear hC
  clear g h
  replace ha1 := ha1.bl hn; replace ha2 := ha2.bl hn; replace hq1 := hq1.bl hn; replace hq2 := hq2.bl hn; replace x_b1 := x_b1.bl hn; replace x_b2 := x_b2.bl hn; replace hb := hb.trans (hn.mono hb.size)
  clear hn; intro K hK
  go_big_op
  go_fit (zcmp_any ha1 hq1 (by omega) (by omega))
  rintro e w_11 ⟨rfl, hb_11⟩
  replace ha1 := ha1.bl hb_11; replace ha2 := ha2.bl hb_11; replace hq1 := hq1.bl hb_11; replace hq2 := hq2.bl hb_11; replace x_b1 := x_b1.bl hb_11; replace x_b2 := x_b2.bl hb_11; replace hb := hb.trans (hb_11.mono hb.size)
  rw [HB.out]
  refine hK _ _ rfl hb_11 ⟨x_b1.cell 0 rfl, x_b1.cell 1 rfl, x_b1.cell 2 rfl, x_b1.cell 3 rfl, x_b2.cell 0 rfl, x_b2.cell 1 rfl, x_b2.cell 2 rfl, x_b2.cell 3 rfl⟩ ?_
  clear hK K hb_11
  refine wpFl_call rfl (by kernel_rfl) fun w_12 hn hC => ?_; clear hC
  replace ha1 := ha1.bl hn; replace ha2 := ha2.bl hn; replace hq1 := hq1.bl hn; replace hq2 := hq2.bl hn; replace x_b1 := x_b1.bl hn; replace x_b2 := x_b2.bl hn; replace hb := hb.trans (hn.mono hb.size)
  clear hn; intro K hK
  go_big_op
  go_fit (zcmp_any ha2 hq2 (by omega) (by omega))
  rintro e w_13 ⟨rfl, hb_13⟩
  replace ha1 := ha1.bl hb_13; replace ha2 := ha2.bl hb_13; replace hq1 := hq1.bl hb_13; replace hq2 := hq2.bl hb_13; replace x_b1 := x_b1.bl hb_13; replace x_b2 := x_b2.bl hb_13; replace hb := hb.trans (hb_13.mono hb.size)
  rw [HC.out]
  refine hK _ _ rfl hb_13 ⟨x_b1.cell 0 rfl, x_b1.cell 1 rfl, x_b1.cell 2 rfl, x_b1.cell 3 rfl, x_b2.cell 0 rfl, x_b2.cell 1 rfl, x_b2.cell 2 rfl, x_b2.cell 3 rfl⟩ ?_
  clear hK K hb_13
  refine wpFl_call rfl (by kernel_rfl) fun w_14 hn hC => ?_; clear hC
  replace ha1 := ha1.bl hn; replace ha2 := ha2.bl hn; replace hq1 := hq1.bl hn; replace hq2 := hq2.bl hn; replace x_b1 := x_b1.bl hn; replace x_b2 := x_b2.bl hn; replace hb := hb.trans (hn.mono hb.size)
  clear hn; intro K hK
  go_big_op
  have lt_b1 := x_b1.lt
  have lt_b2 := x_b2.lt
  obtain ⟨p_b3, w_15, eP, eW, x_b3, hn, kb_b3⟩ := newBox w_14 #[.int .i64 A, .int .i64 B, .int .i64 C] 3 hb.size
  have ne_b1_b3 : Hid (p_b1 ≠ p_b3) := Nat.ne_of_lt (eP ▸ lt_b1)
  have ne_b2_b3 : Hid (p_b2 ≠ p_b3) := Nat.ne_of_lt (eP ▸ lt_b2)
  rw [eW, eP]
  clear eW eP lt_b1 lt_b2
  replace ha1 := ha1.bl hn; replace ha2 := ha2.bl hn; replace hq1 := hq1.bl hn; replace hq2 := hq2.bl hn; replace x_b1 := x_b1.bl hn; replace x_b2 := x_b2.bl hn; replace hb := hb.trans (hn.mono hb.size)
  refine hK _ _ rfl hn ⟨x_b1.cell 0 rfl, x_b1.cell 1 rfl, x_b1.cell 2 rfl, x_b1.cell 3 rfl, x_b2.cell 0 rfl, x_b2.cell 1 rfl, x_b2.cell 2 rfl, x_b2.cell 3 rfl⟩ ?_; clear hK K hn
  refine wpFl_call rfl (by kernel_rfl) fun w_16 hn hC => ?_; clear hC
  replace ha1 := ha1.bl hn; replace ha2 := ha2.bl hn; replace hq1 := hq1.bl hn; replace hq2 := hq2.bl hn; replace x_b1 := x_b1.bl hn; replace x_b2 := x_b2.bl hn; replace x_b3 := x_b3.bl hn; replace hb := hb.trans (hn.mono hb.size)
  clear hn; intro K hK
  go_big_op
  go_fit (cmpOr_any x_b3)
  rintro e w_17 ⟨rfl, hb_17⟩
  replace ha1 := ha1.bl hb_17; replace ha2 := ha2.bl hb_17; replace hq1 := hq1.bl hb_17; replace hq2 := hq2.bl hb_17; replace x_b1 := x_b1.bl hb_17; replace x_b2 := x_b2.bl hb_17; replace x_b3 := x_b3.bl hb_17; replace hb := hb.trans (hb_17.mono hb.size)
  rw [HR.out]
  refine hK _ _ rfl hb_17 ⟨x_b1.cell 0 rfl, x_b1.cell 1 rfl, x_b1.cell 2 rfl, x_b1.cell 3 rfl, x_b2.cell 0 rfl, x_b2.cell 1 rfl, x_b2.cell 2 rfl, x_b2.cell 3 rfl⟩ ?_
  clear hK K hb_17
  apply wpFl_ld rfl rfl; (case h1 => intro w' hC K hK; go_big_move; exact hK); iterate 4 kernel_rfl
  apply wpFl_end
  case ha => intro pt; simp only [putF]; rfl
  case h =>
  intro w_18 pt hn hC hF hD
  clear hC
  clear x_b3
  replace ha1 := ha1.bl hn; replace ha2 := ha2.bl hn; replace hq1 := hq1.bl hn; replace hq2 := hq2.bl hn; replace x_b1 := x_b1.bl hn; replace x_b2 := x_b2.bl hn; replace hb := hb.trans (hn.mono hb.size)
  clear hn
  clear hF hD
  clear pt
  clear kb0 lt_b1 lt_b2
  apply wpTail_end
  refine hK2 _ _ ?_
  refine wp_ret ?_
  try dsimp only [Exit.then, Exit.inBlock]
  refine bodyPost_ret (v := (.int .i64 R)) (by simp [results, Tryz.results18, go_sem]) rfl ?_
  exact ⟨rfl, hb⟩
theorem bits_zero {n : Nat} : bitsN n = 0 ↔ n = 0 := bitsN_zero
theorem bits_one {n : Nat} : bitsN n = 1 ↔ n = 1 := by
  constructor
  · intro h
    have h1 := bitsN_lt n
    rw [h] at h1
    have h2 : n ≠ 0 := fun c => by rw [bits_zero.2 c] at h; omega
    omega
  · rintro rfl; rfl
theorem bits_bd {A l : Nat} (h : A < pw l) : bitsN A ≤ 32 * l := by
  rcases Nat.eq_zero_or_pos A with h0 | h0
  · rw [h0]; exact Nat.zero_le _
  · have h3 := bitsN_le (Nat.ne_of_gt h0)
    rw [pw_eq] at h
    have h4 := (Nat.pow_lt_pow_iff_right (by decide : 1 < 2)).1 (Nat.lt_of_le_of_lt h3 h)
    omega
theorem unit_bits (x y : Int) : (bitsN x.natAbs + bitsN y.natAbs = 1) ↔ gN x y = 1 := by
  have ex : x * x = ((x.natAbs * x.natAbs : Nat) : Int) := (Int.natAbs_mul_self).symm
  have ey : y * y = ((y.natAbs * y.natAbs : Nat) : Int) := (Int.natAbs_mul_self).symm
  unfold gN
  rw [ex, ey]
  generalize x.natAbs = a
  generalize y.natAbs = b
  constructor
  · intro h
    rcases (show (bitsN a = 0 ∧ bitsN b = 1) ∨ (bitsN a = 1 ∧ bitsN b = 0) by omega) with ⟨h1, h2⟩ | ⟨h1, h2⟩
    · rw [bits_zero.1 h1, bits_one.1 h2]; rfl
    · rw [bits_one.1 h1, bits_zero.1 h2]; rfl
  · intro h
    have h' : a * a + b * b = 1 := by exact_mod_cast h
    have ha : a ≤ 1 := by
      rcases Nat.lt_or_ge 1 a with c | c
      · have := Nat.mul_le_mul c c; omega
      · exact c
    have hb : b ≤ 1 := by
      rcases Nat.lt_or_ge 1 b with c | c
      · have := Nat.mul_le_mul c c; omega
      · exact c
    rcases (show a = 0 ∨ a = 1 by omega) with rfl | rfl <;> rcases (show b = 0 ∨ b = 1 by omega) with rfl | rfl
    · exact absurd h' (by decide)
    · rfl
    · rfl
    · exact absurd h' (by decide)
end
end Go.Proofs.YtgjainmfilkjmaaGreatDoor

/- gint: digits, isFarInside, quotient. -/
namespace Go.Proofs.YtgjainmfilkjmaaGreatDoor
open Go Go.RowKit Dig
set_option linter.unusedVariables false

/-- How many digits the longer part has. -/
def gdig (x y : Int) : Nat := (max (bitsN x.natAbs) (bitsN y.natAbs) + 31) / 32
/-- Does a rest lie far inside the square? -/
def far (x y u v : Int) : Prop := ((gT1 x y u v + gT1 x y u v).natAbs : Int) < gN u v - tp (gN u v) 1 ∧ ((gT2 x y u v + gT2 x y u v).natAbs : Int) < gN u v - tp (gN u v) 1
theorem pow_pw (k : Nat) : 2 ^ (32 * k) = pw k := (pw_eq k).symm
theorem gdig_top {x y : Int} : x.natAbs < pw (gdig x y) ∧ y.natAbs < pw (gdig x y) := by
  have h1 := bitsN_lt x.natAbs
  have h2 := bitsN_lt y.natAbs
  have h3 : bitsN x.natAbs ≤ 32 * gdig x y := by unfold gdig; omega
  have h4 : bitsN y.natAbs ≤ 32 * gdig x y := by unfold gdig; omega
  rw [← pow_pw]
  exact ⟨Nat.lt_of_lt_of_le h1 (Nat.pow_le_pow_right (by decide) h3), Nat.lt_of_lt_of_le h2 (Nat.pow_le_pow_right (by decide) h4)⟩
theorem gdig_low {x y : Int} (h : 0 < gdig x y) : pw (gdig x y - 1) ≤ x.natAbs ∨ pw (gdig x y - 1) ≤ y.natAbs := by
  have key : ∀ n : Nat, 32 * (gdig x y - 1) < bitsN n → pw (gdig x y - 1) ≤ n := by
    intro n hn
    have h0 : n ≠ 0 := fun c => by rw [c, bits_zero.2 rfl] at hn; omega
    rw [← pow_pw]
    exact Nat.le_trans (Nat.pow_le_pow_right (by decide) (by omega)) (bitsN_le h0)
  have : 32 * (gdig x y - 1) < max (bitsN x.natAbs) (bitsN y.natAbs) := by unfold gdig at h ⊢; omega
  rcases Nat.le_total (bitsN x.natAbs) (bitsN y.natAbs) with hc | hc
  · rw [Nat.max_eq_right hc] at this; exact .inr (key _ this)
  · rw [Nat.max_eq_left hc] at this; exact .inl (key _ this)
theorem tp_abs (x : Int) (k : Nat) : (tp x k).natAbs = x.natAbs / pw k := by
  unfold tp
  generalize x.natAbs / pw k = q
  split <;> omega

section
variable {w : World} {va vb : Value} {x y u v : Int} {l m k n : Nat}
set_option maxHeartbeats 4000000 in
set_option maxRecDepth 20000 in
theorem gdigits_any (ha : PN w va x l y m) (hl : l ≤ 100000000) (hm : m ≤ 100000000) :
    Calls Tryz.prog 81 #[va] w fun e w' => e = .returned (.int .i64 ((gdig x y : Nat) : Int)) ∧ Below w.heap.size w w' := by
  have h1 := bits_bd (Nat.lt_of_lt_of_le (lt_pw_dig x.natAbs) (pw_mono ha.len1))
  have h2 := bits_bd (Nat.lt_of_lt_of_le (lt_pw_dig y.natAbs) (pw_mono ha.len2))
  obtain ⟨A, hA⟩ : ∃ A, bitsN x.natAbs = A := ⟨_, rfl⟩
  obtain ⟨B, hB⟩ : ∃ B, bitsN y.natAbs = B := ⟨_, rfl⟩
  have e : gdig x y = (max A B + 31) / 32 := by unfold gdig; rw [hA, hB]
  rw [hA] at h1
  rw [hB] at h2
  have HA := hide hA
  have HB := hide hB
  obtain ⟨M, hM⟩ : ∃ M, max A B = M := ⟨_, rfl⟩
  have hmx : max (A : Int) (B : Int) = (M : Int) := by omega
  have hM2 : M ≤ 32000000000 := by omega
  obtain ⟨D, hD⟩ : ∃ D, (M + 31) / 32 = D := ⟨_, rfl⟩
  have hd : ((M : Int) + 31) / 32 = (D : Int) := by omega
  have hd2 : Int.tdiv ((M : Int) + 31) 32 = (D : Int) := by rw [Int.tdiv_eq_ediv_of_nonneg (by omega)]; exact hd
  have hD2 : D ≤ 32000000000 := by omega
  have e2 : gdig x y = D := by rw [e, hM, hD]
  rw [e2]
  clear hA hB e e2 h1 h2 hM hD
  obtain ⟨n_0a, o_0a, k_0a, c_0a, n_0b, o_0b, k_0b, c_0b, rfl, ha1, ha2⟩ := ha
  go_enter Tryz.func81, Tryz.ntmps81
  have hb := Below.refl w.heap.size w
  refine wp_seq_k ?_
  intro K1 hK1
  refine wp_region_sq [0, 1] (by kernel_rfl) ?_
  refine wpSq_call rfl (by kernel_rfl) fun K hK => ?_
  go_big_op
  obtain ⟨p_b1, w_1, eP, eW, x_b1, hn, kb_b1⟩ := newBox w #[.bool n_0a, .slice o_0a k_0a c_0a, .bool n_0b, .slice o_0b k_0b c_0b] 29 hb.size
  rw [eW, eP]
  clear eW eP
  replace ha1 := ha1.bl hn; replace ha2 := ha2.bl hn; replace hb := hb.trans (hn.mono hb.size)
  refine hK _ _ rfl ?_; clear hK K hn
  refine wpSq_call rfl (by kernel_rfl) fun K hK => ?_
  go_big_move; refine hK _ _ rfl ?_; clear hK K
  apply wpSq_end
  refine hK1 _ _ ?_
  refine wp_seq_k ?_
  intro K2 hK2
  refine wp_region_fl2 [(0, false), (1, false), (3, false), (4, false), (2, true), (5, true), (6, true), (7, false), (8, false), (9, false)] [] [] (fun _ => default) [99, 0, 99, 99, 0, 99, 99, 99, 99, 99] [] (fun w' => w'.cell? ⟨p_b1, 0, none⟩ = some (.bool n_0a) ∧ w'.cell? ⟨p_b1, 1, none⟩ = some (.slice o_0a k_0a c_0a) ∧ w'.cell? ⟨p_b1, 2, none⟩ = some (.bool n_0b) ∧ w'.cell? ⟨p_b1, 3, none⟩ = some (.slice o_0b k_0b c_0b)) [fun w' => w'.cell? ⟨p_b1, 0, none⟩ = some (.bool n_0a) ∧ w'.cell? ⟨p_b1, 1, none⟩ = some (.slice o_0a k_0a c_0a) ∧ w'.cell? ⟨p_b1, 2, none⟩ = some (.bool n_0b) ∧ w'.cell? ⟨p_b1, 3, none⟩ = some (.slice o_0b k_0b c_0b)] (by kernel_rfl) (by kernel_rfl) (by kernel_rfl) (by kernel_rfl) (by kernel_rfl) (by kernel_rfl) (by kernel_rfl) (by kernel_rfl) (by decide) (by intro j hj; cases hj) (by intro w' o hC; obtain ⟨c0, c1, c2, c3⟩ := hC; exact ⟨cell_alloc c0 o, cell_alloc c1 o, cell_alloc c2 o, cell_alloc c3 o⟩) (by intro w' hC G hG; obtain ⟨c0, c1, c2, c3⟩ := hC; simp only [List.mem_cons, List.not_mem_nil, or_false] at hG; rcases hG with rfl <;> first | exact ⟨c0, c1, c2, c3⟩) ?_
  have lt_b1 := x_b1.lt
  intro w_2 hn
  replace lt_b1 := Nat.lt_of_lt_of_le lt_b1 hn.size
  replace ha1 := ha1.bl hn; replace ha2 := ha2.bl hn; replace x_b1 := x_b1.bl hn; replace hb := hb.trans (hn.mono hb.size)
  clear hn
  have kb0 := hb.size
  refine ⟨⟨x_b1.cell 0 rfl, x_b1.cell 1 rfl, x_b1.cell 2 rfl, x_b1.cell 3 rfl⟩, ?_⟩
  apply wpFl_ld rfl rfl; (case h1 => intro w' hC K hK; go_big_op; exact hK); iterate 4 kernel_rfl
  apply wpFl_ld rfl rfl; (case h1 => intro w' hC K hK; obtain ⟨c0, c1, c2, c3⟩ := hC; go_big_op; exact hK); iterate 4 kernel_rfl
  apply wpFl_ld rfl rfl; (case h1 => intro w' hC K hK; go_big_op; exact hK); iterate 4 kernel_rfl
  apply wpFl_ld rfl rfl; (case h1 => intro w' hC K hK; obtain ⟨c0, c1, c2, c3⟩ := hC; go_big_op; exact hK); iterate 4 kernel_rfl
  refine wpFl_call rfl (by kernel_rfl) fun w_3 hn hC => ?_; clear hC
  replace ha1 := ha1.bl hn; replace ha2 := ha2.bl hn; replace x_b1 := x_b1.bl hn; replace hb := hb.trans (hn.mono hb.size)
  clear hn; intro K hK
  go_big_op
  go_fit (zbits_any ha1 (by omega) )
  rintro e w_4 ⟨rfl, hb_4⟩
  replace ha1 := ha1.bl hb_4; replace ha2 := ha2.bl hb_4; replace x_b1 := x_b1.bl hb_4; replace hb := hb.trans (hb_4.mono hb.size)
  rw [HA.out]
  refine hK _ _ rfl hb_4 ⟨x_b1.cell 0 rfl, x_b1.cell 1 rfl, x_b1.cell 2 rfl, x_b1.cell 3 rfl⟩ ?_
  clear hK K hb_4
  refine wpFl_call rfl (by kernel_rfl) fun w_5 hn hC => ?_; clear hC
  replace ha1 := ha1.bl hn; replace ha2 := ha2.bl hn; replace x_b1 := x_b1.bl hn; replace hb := hb.trans (hn.mono hb.size)
  clear hn; intro K hK
  go_big_op
  go_fit (zbits_any ha2 (by omega) )
  rintro e w_6 ⟨rfl, hb_6⟩
  replace ha1 := ha1.bl hb_6; replace ha2 := ha2.bl hb_6; replace x_b1 := x_b1.bl hb_6; replace hb := hb.trans (hb_6.mono hb.size)
  rw [HB.out]
  refine hK _ _ rfl hb_6 ⟨x_b1.cell 0 rfl, x_b1.cell 1 rfl, x_b1.cell 2 rfl, x_b1.cell 3 rfl⟩ ?_
  clear hK K hb_6
  refine wpFl_call rfl (by kernel_rfl) fun w_7 hn hC => ?_; clear hC
  replace ha1 := ha1.bl hn; replace ha2 := ha2.bl hn; replace x_b1 := x_b1.bl hn; replace hb := hb.trans (hn.mono hb.size)
  clear hn; intro K hK
  go_big_op; refine hK _ _ rfl (Below.refl _ _) ⟨x_b1.cell 0 rfl, x_b1.cell 1 rfl, x_b1.cell 2 rfl, x_b1.cell 3 rfl⟩ ?_; clear hK K
  apply wpFl_ld rfl rfl; (case h1 => intro w' hC K hK; go_big_op; exact hK); iterate 4 kernel_rfl
  apply wpFl_ld rfl rfl; (case h1 => intro w' hC K hK; go_big_op; exact hK); iterate 4 kernel_rfl
  apply wpFl_ld rfl rfl; (case h1 => intro w' hC K hK; go_big_move; exact hK); iterate 4 kernel_rfl
  apply wpFl_end
  case ha => intro pt; simp only [putF]; rfl
  case h =>
  intro w_8 pt hn hC hF hD
  clear hC
  replace ha1 := ha1.bl hn; replace ha2 := ha2.bl hn; replace x_b1 := x_b1.bl hn; replace hb := hb.trans (hn.mono hb.size)
  clear hn
  clear hF hD
  clear pt
  clear kb0 lt_b1
  apply wpTail_end
  refine hK2 _ _ ?_
  refine wp_ret ?_
  try dsimp only [Exit.then, Exit.inBlock]
  refine bodyPost_ret (v := (.int .i64 (D : Int))) (by simp [results, Tryz.results81, go_sem]) rfl ?_
  exact ⟨rfl, hb⟩
set_option maxHeartbeats 4000000 in
set_option maxRecDepth 20000 in
theorem far_yes (ha : PN w va x l y m) (hq : PN w vb u k v n) (hl : l ≤ 20000000) (hm : m ≤ 20000000) (hk : k ≤ 20000000) (hn : n ≤ 20000000) (h1 : ((gT1 x y u v + gT1 x y u v).natAbs : Int) < gN u v - tp (gN u v) 1) (h2 : ((gT2 x y u v + gT2 x y u v).natAbs : Int) < gN u v - tp (gN u v) 1) :
    Calls Tryz.prog 83 #[va, vb] w fun e w' => e = .returned (.bool true) ∧ Below w.heap.size w w' := by
  have HC1 := hide (zcmp_lt h1)
  have HC2 := hide (zcmp_lt h2)
  clear h1 h2
  obtain ⟨n_0a, o_0a, k_0a, c_0a, n_0b, o_0b, k_0b, c_0b, rfl, ha1, ha2⟩ := ha
  obtain ⟨n_1a, o_1a, k_1a, c_1a, n_1b, o_1b, k_1b, c_1b, rfl, hq1, hq2⟩ := hq
  go_enter Tryz.func83, Tryz.ntmps83
  have hb := Below.refl w.heap.size w
  refine wp_seq_k ?_
  intro K1 hK1
  refine wp_region_sq [0, 1, 2] (by kernel_rfl) ?_
  refine wpSq_call rfl (by kernel_rfl) fun K hK => ?_
  go_big_op
  obtain ⟨p_b1, w_1, eP, eW, x_b1, hn, kb_b1⟩ := newBox w #[.bool n_0a, .slice o_0a k_0a c_0a, .bool n_0b, .slice o_0b k_0b c_0b] 29 hb.size
  rw [eW, eP]
  clear eW eP
  replace ha1 := ha1.bl hn; replace ha2 := ha2.bl hn; replace hq1 := hq1.bl hn; replace hq2 := hq2.bl hn; replace hb := hb.trans (hn.mono hb.size)
  refine hK _ _ rfl ?_; clear hK K hn
  refine wpSq_call rfl (by kernel_rfl) fun K hK => ?_
  go_big_op
  have lt_b1 := x_b1.lt
  obtain ⟨p_b2, w_2, eP, eW, x_b2, hn, kb_b2⟩ := newBox w_1 #[.bool n_1a, .slice o_1a k_1a c_1a, .bool n_1b, .slice o_1b k_1b c_1b] 29 hb.size
  have ne_b1_b2 : Hid (p_b1 ≠ p_b2) := Nat.ne_of_lt (eP ▸ lt_b1)
  rw [eW, eP]
  clear eW eP lt_b1
  replace ha1 := ha1.bl hn; replace ha2 := ha2.bl hn; replace hq1 := hq1.bl hn; replace hq2 := hq2.bl hn; replace x_b1 := x_b1.bl hn; replace hb := hb.trans (hn.mono hb.size)
  refine hK _ _ rfl ?_; clear hK K hn
  refine wpSq_call rfl (by kernel_rfl) fun K hK => ?_
  go_big_move; refine hK _ _ rfl ?_; clear hK K
  apply wpSq_end
  refine hK1 _ _ ?_
  refine wp_seq_k ?_
  intro K2 hK2
  refine wp_region_sq [0, 1, 2, 3, 4, 5, 6, 7, 8, 9] (by kernel_rfl) ?_
  refine wpSq_call rfl (by kernel_rfl) fun K hK => ?_
  obtain ⟨d0, d1, d2, d3⟩ := x_b1.f4
  go_big_op; refine hK _ _ rfl ?_; clear hK K d0 d1 d2 d3
  refine wpSq_call rfl (by kernel_rfl) fun K hK => ?_
  obtain ⟨d0, d1, d2, d3⟩ := x_b2.f4
  go_big_op; refine hK _ _ rfl ?_; clear hK K d0 d1 d2 d3
  refine wpSq_call rfl (by kernel_rfl) fun K hK => ?_
  go_big_op
  go_fit (overNorm_any (PN.mk' ha1 ha2) (PN.mk' hq1 hq2) (by omega) (by omega) (by omega) (by omega) )
  rintro e w_3 ⟨_, v_g2, rfl, ⟨n_g1a, o_g1a, k_g1a, c_g1a, n_g1b, o_g1b, k_g1b, c_g1b, rfl, g11, g12⟩, g2, hb_3⟩
  clear x_b1 x_b2
  replace ha1 := ha1.bl hb_3; replace ha2 := ha2.bl hb_3; replace hq1 := hq1.bl hb_3; replace hq2 := hq2.bl hb_3; replace hb := hb.trans (hb_3.mono hb.size)
  obtain ⟨n_g2, o_g2, k_g2, c_g2, rfl⟩ := g2.open2
  have Lg11 := hide (g11.lenOf (zlen_gT1 (ha1.len) (ha2.len) (hq1.len) (hq2.len)))
  have Lg12 := hide (g12.lenOf (zlen_gT2 (ha1.len) (ha2.len) (hq1.len) (hq2.len)))
  have Lg2 := hide (g2.lenOf (zlen_gN (hq1.len) (hq2.len)))
  refine hK _ _ rfl ?_
  clear hK K hb_3
  refine wpSq_call rfl (by kernel_rfl) fun K hK => ?_
  go_big_move; refine hK _ _ rfl ?_; clear hK K
  refine wpSq_call rfl (by kernel_rfl) fun K hK => ?_
  go_big_op; refine hK _ _ rfl ?_; clear hK K
  refine wpSq_call rfl (by kernel_rfl) fun K hK => ?_
  go_big_op; refine hK _ _ rfl ?_; clear hK K
  refine wpSq_call rfl (by kernel_rfl) fun K hK => ?_
  go_big_op
  clear ha1 ha2 hq1 hq2
  obtain ⟨p_b3, w_4, eP, eW, x_b3, hn, kb_b3⟩ := newBox w_3 #[.bool false, .slice none 0 0, .bool false, .slice none 0 0] 29 hb.size
  rw [eW, eP]
  clear eW eP
  replace g11 := g11.bl hn; replace g12 := g12.bl hn; replace g2 := g2.bl hn; replace hb := hb.trans (hn.mono hb.size)
  refine hK _ _ rfl ?_; clear hK K hn
  refine wpSq_call rfl (by kernel_rfl) fun K hK => ?_
  go_big_op
  have lt_b3 := x_b3.lt
  obtain ⟨p_b4, w_5, eP, eW, x_b4, hn, kb_b4⟩ := newBox w_4 #[.bool false, .slice none 0 0] 26 hb.size
  have ne_b3_b4 : Hid (p_b3 ≠ p_b4) := Nat.ne_of_lt (eP ▸ lt_b3)
  rw [eW, eP]
  clear eW eP lt_b3
  replace g11 := g11.bl hn; replace g12 := g12.bl hn; replace g2 := g2.bl hn; replace x_b3 := x_b3.bl hn; replace hb := hb.trans (hn.mono hb.size)
  refine hK _ _ rfl ?_; clear hK K hn
  refine wpSq_call rfl (by kernel_rfl) fun K hK => ?_
  obtain ⟨d0, d1, d2, d3⟩ := x_b3.f4
  have f0 := x_b3.free 0; have f1 := x_b3.free 1; have f2 := x_b3.free 2; have f3 := x_b3.free 3
  go_big_op
  have hnd := x_b3.nod rfl rfl
  obtain ⟨w_6, eW, x_b3', ho⟩ : ∃ w', ((((w_5.setCell ⟨p_b3, 0, none⟩ (.bool n_g1a)).setCell ⟨p_b3, 1, none⟩ (.slice o_g1a k_g1a c_g1a)).setCell ⟨p_b3, 2, none⟩ (.bool n_g1b)).setCell ⟨p_b3, 3, none⟩ (.slice o_g1b k_g1b c_g1b)) = w' ∧ Bs w' p_b3 #[.bool n_g1a, .slice o_g1a k_g1a c_g1a, .bool n_g1b, .slice o_g1b k_g1b c_g1b] 29 ∧ Only p_b3 w_5 w' := x_b3.setN [(0, .bool n_g1a), (1, .slice o_g1a k_g1a c_g1a), (2, .bool n_g1b), (3, .slice o_g1b k_g1b c_g1b)]
  rw [eW]; clear eW d0 d1 d2 d3 f0 f1 f2 f3 x_b3
  have x_b3 := x_b3'; clear x_b3'
  replace g11 := g11.fr hnd ho; replace g12 := g12.fr hnd ho; replace g2 := g2.fr hnd ho; replace x_b4 := x_b4.frame ho ne_b3_b4.symm; replace hb := belowOnly hb ho kb_b3
  refine hK _ _ rfl ?_; clear hK K ho hnd
  refine wpSq_call rfl (by kernel_rfl) fun K hK => ?_
  obtain ⟨d0, d1⟩ := x_b4.f2
  have f0 := x_b4.free 0; have f1 := x_b4.free 1
  go_big_op
  have hnd := x_b4.nod rfl rfl
  obtain ⟨w_7, eW, x_b4', ho⟩ : ∃ w', ((w_6.setCell ⟨p_b4, 0, none⟩ (.bool n_g2)).setCell ⟨p_b4, 1, none⟩ (.slice o_g2 k_g2 c_g2)) = w' ∧ Bs w' p_b4 #[.bool n_g2, .slice o_g2 k_g2 c_g2] 26 ∧ Only p_b4 w_6 w' := x_b4.setN [(0, .bool n_g2), (1, .slice o_g2 k_g2 c_g2)]
  rw [eW]; clear eW d0 d1 f0 f1 x_b4
  have x_b4 := x_b4'; clear x_b4'
  replace g11 := g11.fr hnd ho; replace g12 := g12.fr hnd ho; replace g2 := g2.fr hnd ho; replace x_b3 := x_b3.frame ho ne_b3_b4; replace hb := belowOnly hb ho kb_b4
  refine hK _ _ rfl ?_; clear hK K ho hnd
  apply wpSq_end
  refine hK2 _ _ ?_
  refine wp_seq_k ?_
  intro K3 hK3
  refine wp_region_fl2 [(0, false), (1, false), (2, true), (3, true)] [4] [] (fun _ => default) [0, 0, 99, 99, 99] [(4, 0)] (fun w' => w'.cell? ⟨p_b4, 0, none⟩ = some (.bool n_g2) ∧ w'.cell? ⟨p_b4, 1, none⟩ = some (.slice o_g2 k_g2 c_g2)) [fun w' => w'.cell? ⟨p_b4, 0, none⟩ = some (.bool n_g2) ∧ w'.cell? ⟨p_b4, 1, none⟩ = some (.slice o_g2 k_g2 c_g2)] (by kernel_rfl) (by kernel_rfl) (by kernel_rfl) (by kernel_rfl) (by kernel_rfl) (by kernel_rfl) (by kernel_rfl) (by kernel_rfl) (by decide) (by intro j hj; cases hj) (by intro w' o hC; obtain ⟨c0, c1⟩ := hC; exact ⟨cell_alloc c0 o, cell_alloc c1 o⟩) (by intro w' hC G hG; obtain ⟨c0, c1⟩ := hC; simp only [List.mem_cons, List.not_mem_nil, or_false] at hG; rcases hG with rfl <;> first | exact ⟨c0, c1⟩) ?_
  have lt_b3 := x_b3.lt
  have lt_b4 := x_b4.lt
  intro w_8 hn
  replace lt_b3 := Nat.lt_of_lt_of_le lt_b3 hn.size
  replace lt_b4 := Nat.lt_of_lt_of_le lt_b4 hn.size
  replace g11 := g11.bl hn; replace g12 := g12.bl hn; replace g2 := g2.bl hn; replace x_b3 := x_b3.bl hn; replace x_b4 := x_b4.bl hn; replace hb := hb.trans (hn.mono hb.size)
  clear hn
  have kb0 := hb.size
  refine ⟨⟨x_b4.cell 0 rfl, x_b4.cell 1 rfl⟩, ?_⟩
  apply wpFl_ld rfl rfl; (case h1 => intro w' hC K hK; obtain ⟨c0, c1⟩ := hC; go_big_op; exact hK); iterate 4 kernel_rfl
  apply wpFl_ld rfl rfl; (case h1 => intro w' hC K hK; obtain ⟨c0, c1⟩ := hC; go_big_op; exact hK); iterate 4 kernel_rfl
  refine wpFl_call rfl (by kernel_rfl) fun w_9 hn hC => ?_; clear hC
  replace g11 := g11.bl hn; replace g12 := g12.bl hn; replace g2 := g2.bl hn; replace x_b3 := x_b3.bl hn; replace x_b4 := x_b4.bl hn; replace hb := hb.trans (hn.mono hb.size)
  clear hn; intro K hK
  go_big_op
  go_fit (topOf_any 1 (g2.zn Lg2.out) (by omega) (by decide))
  rintro e w_10 ⟨v_g3, rfl, g3, hb_10⟩
  replace g11 := g11.bl hb_10; replace g12 := g12.bl hb_10; replace g2 := g2.bl hb_10; replace x_b3 := x_b3.bl hb_10; replace x_b4 := x_b4.bl hb_10; replace hb := hb.trans (hb_10.mono hb.size)
  obtain ⟨n_g3, o_g3, k_g3, c_g3, rfl⟩ := g3.open2
  refine hK _ _ rfl hb_10 ⟨x_b4.cell 0 rfl, x_b4.cell 1 rfl⟩ ?_
  clear hK K hb_10
  refine wpFl_call rfl (by kernel_rfl) fun w_11 hn hC => ?_; clear hC
  replace g11 := g11.bl hn; replace g12 := g12.bl hn; replace g2 := g2.bl hn; replace x_b3 := x_b3.bl hn; replace x_b4 := x_b4.bl hn; replace g3 := g3.bl hn; replace hb := hb.trans (hn.mono hb.size)
  clear hn; intro K hK
  go_big_op
  go_fit (zsub_any (g2.zn Lg2.out) g3 (by omega) (by omega) )
  rintro e w_12 ⟨v_g4, rfl, g4, hb_12⟩
  replace g11 := g11.bl hb_12; replace g12 := g12.bl hb_12; replace g2 := g2.bl hb_12; replace x_b3 := x_b3.bl hb_12; replace x_b4 := x_b4.bl hb_12; replace g3 := g3.bl hb_12; replace hb := hb.trans (hb_12.mono hb.size)
  replace g4 := g4.rd
  obtain ⟨n_g4, o_g4, k_g4, c_g4, rfl⟩ := g4.open2
  have Lg4 := hide (g4.lenOf (zlen_sub (Lg2.out) (g3.len)))
  refine hK _ _ rfl hb_12 ⟨x_b4.cell 0 rfl, x_b4.cell 1 rfl⟩ ?_
  clear hK K hb_12
  apply wpFl_end
  case ha => intro pt; simp only [putF]; rfl
  case h =>
  intro w_13 pt hn hC hF hD
  clear hC
  clear g3
  replace g11 := g11.bl hn; replace g12 := g12.bl hn; replace g2 := g2.bl hn; replace x_b3 := x_b3.bl hn; replace x_b4 := x_b4.bl hn; replace g4 := g4.bl hn; replace hb := hb.trans (hn.mono hb.size)
  clear hn
  clear hF hD
  clear pt
  clear kb0 lt_b3 lt_b4
  refine wpTail_call rfl (by kernel_rfl) fun K hK => ?_
  obtain ⟨d0, d1⟩ := x_b4.f2
  have f0 := x_b4.free 0; have f1 := x_b4.free 1
  go_big_op
  have hnd := x_b4.nod rfl rfl
  obtain ⟨w_14, eW, x_b4', ho⟩ : ∃ w', ((w_13.setCell ⟨p_b4, 0, none⟩ (.bool n_g4)).setCell ⟨p_b4, 1, none⟩ (.slice o_g4 k_g4 c_g4)) = w' ∧ Bs w' p_b4 #[.bool n_g4, .slice o_g4 k_g4 c_g4] 26 ∧ Only p_b4 w_13 w' := x_b4.setN [(0, .bool n_g4), (1, .slice o_g4 k_g4 c_g4)]
  rw [eW]; clear eW d0 d1 f0 f1 x_b4
  have x_b4 := x_b4'; clear x_b4'
  clear g2
  replace g11 := g11.fr hnd ho; replace g12 := g12.fr hnd ho; replace x_b3 := x_b3.frame ho ne_b3_b4; replace g4 := g4.fr hnd ho; replace hb := belowOnly hb ho kb_b4
  refine hK _ _ rfl (And.intro True.intro True.intro) ?_; clear hK K ho hnd
  apply wpTail_end
  refine hK3 _ _ ?_
  refine wp_seq_k ?_
  intro K4 hK4
  refine wp_seq_k ?_
  intro K5 hK5
  refine wp_region_sq [0, 1, 2, 3, 4, 5, 6] (by kernel_rfl) ?_
  refine wpSq_call rfl (by kernel_rfl) fun K hK => ?_
  go_big_op; refine hK _ _ rfl ?_; clear hK K
  refine wpSq_call rfl (by kernel_rfl) fun K hK => ?_
  obtain ⟨d0, d1, d2, d3⟩ := x_b3.f4
  go_big_op; refine hK _ _ rfl ?_; clear hK K d0 d1 d2 d3
  refine wpSq_call rfl (by kernel_rfl) fun K hK => ?_
  go_big_op; refine hK _ _ rfl ?_; clear hK K
  refine wpSq_call rfl (by kernel_rfl) fun K hK => ?_
  obtain ⟨d0, d1, d2, d3⟩ := x_b3.f4
  go_big_op; refine hK _ _ rfl ?_; clear hK K d0 d1 d2 d3
  refine wpSq_call rfl (by kernel_rfl) fun K hK => ?_
  go_big_op
  clear x_b3
  have lt_b4 := x_b4.lt
  obtain ⟨p_b5, w_15, eP, eW, x_b5, hn, kb_b5⟩ := newBox w_14 #[.bool n_g1a, .slice o_g1a k_g1a c_g1a, .bool n_g1b, .slice o_g1b k_g1b c_g1b] 26 hb.size
  have ne_b4_b5 : Hid (p_b4 ≠ p_b5) := Nat.ne_of_lt (eP ▸ lt_b4)
  rw [eW, eP]
  clear eW eP lt_b4
  replace g11 := g11.bl hn; replace g12 := g12.bl hn; replace x_b4 := x_b4.bl hn; replace g4 := g4.bl hn; replace hb := hb.trans (hn.mono hb.size)
  refine hK _ _ rfl ?_; clear hK K hn
  refine wpSq_call rfl (by kernel_rfl) fun K hK => ?_
  go_big_op; refine hK _ _ rfl ?_; clear hK K
  refine wpSq_call rfl (by kernel_rfl) fun K hK => ?_
  go_big_move; refine hK _ _ rfl ?_; clear hK K
  apply wpSq_end
  refine hK5 _ _ ?_
  refine wp_block ?_
  refine wp_loop_rounds 3 ?_
  show Code.wp _ _ _ _ _
  refine wp_seq_k ?_
  intro K6 hK6
  refine wp_region_sq [0] (by kernel_rfl) ?_
  refine wpSq_call rfl (by kernel_rfl) fun K hK => ?_
  go_big_op; refine hK _ _ rfl ?_; clear hK K
  apply wpSq_end
  refine hK6 _ _ ?_
  refine wp_seq_k ?_
  intro K7 hK7
  refine wp_cond_true (congrArg Value.bool (show _ = true from (by first | rfl | assumption | (simp; done) | exact decide_eq_true (by omega) | omega))) ?_
  refine wp_skip ?_
  refine hK7 _ _ ?_
  refine wp_seq_k ?_
  intro K8 hK8
  refine wp_block ?_
  refine wp_seq_k ?_
  intro K9 hK9
  refine wp_region_sq [0, 1, 2, 3] (by kernel_rfl) ?_
  refine wpSq_call rfl (by kernel_rfl) fun K hK => ?_
  go_big_op; refine hK _ _ rfl ?_; clear hK K
  refine wpSq_call rfl (by kernel_rfl) fun K hK => ?_
  obtain ⟨d0, d1, d2, d3⟩ := x_b5.f4
  go_big_op; refine hK _ _ rfl ?_; clear hK K d0 d1 d2 d3
  refine wpSq_call rfl (by kernel_rfl) fun K hK => ?_
  go_big_op
  have lt_b4 := x_b4.lt
  have lt_b5 := x_b5.lt
  obtain ⟨p_b6, w_16, eP, eW, x_b6, hn, kb_b6⟩ := newBox w_15 #[.bool false, .slice none 0 0] 26 hb.size
  have ne_b4_b6 : Hid (p_b4 ≠ p_b6) := Nat.ne_of_lt (eP ▸ lt_b4)
  have ne_b5_b6 : Hid (p_b5 ≠ p_b6) := Nat.ne_of_lt (eP ▸ lt_b5)
  rw [eW, eP]
  clear eW eP lt_b4 lt_b5
  replace g11 := g11.bl hn; replace g12 := g12.bl hn; replace x_b4 := x_b4.bl hn; replace g4 := g4.bl hn; replace x_b5 := x_b5.bl hn; replace hb := hb.trans (hn.mono hb.size)
  refine hK _ _ rfl ?_; clear hK K hn
  refine wpSq_call rfl (by kernel_rfl) fun K hK => ?_
  obtain ⟨d0, d1⟩ := x_b6.f2
  have f0 := x_b6.free 0; have f1 := x_b6.free 1
  go_big_op
  have hnd := x_b6.nod rfl rfl
  obtain ⟨w_17, eW, x_b6', ho⟩ : ∃ w', ((w_16.setCell ⟨p_b6, 0, none⟩ (.bool n_g1a)).setCell ⟨p_b6, 1, none⟩ (.slice o_g1a k_g1a c_g1a)) = w' ∧ Bs w' p_b6 #[.bool n_g1a, .slice o_g1a k_g1a c_g1a] 26 ∧ Only p_b6 w_16 w' := x_b6.setN [(0, .bool n_g1a), (1, .slice o_g1a k_g1a c_g1a)]
  rw [eW]; clear eW d0 d1 f0 f1 x_b6
  have x_b6 := x_b6'; clear x_b6'
  replace g11 := g11.fr hnd ho; replace g12 := g12.fr hnd ho; replace x_b4 := x_b4.frame ho ne_b4_b6; replace g4 := g4.fr hnd ho; replace x_b5 := x_b5.frame ho ne_b5_b6; replace hb := belowOnly hb ho kb_b6
  refine hK _ _ rfl ?_; clear hK K ho hnd
  apply wpSq_end
  refine hK9 _ _ ?_
  refine wp_seq_k ?_
  intro K10 hK10
  refine wp_region_fl2 [(0, false), (1, false), (4, false), (2, true), (3, true), (5, true), (6, false)] [] [] (fun _ => default) [0, 0, 99, 99, 1, 99, 99] [] (fun w' => w'.cell? ⟨p_b6, 0, none⟩ = some (.bool n_g1a) ∧ w'.cell? ⟨p_b6, 1, none⟩ = some (.slice o_g1a k_g1a c_g1a) ∧ w'.cell? ⟨p_b4, 0, none⟩ = some (.bool n_g4) ∧ w'.cell? ⟨p_b4, 1, none⟩ = some (.slice o_g4 k_g4 c_g4)) [fun w' => w'.cell? ⟨p_b6, 0, none⟩ = some (.bool n_g1a) ∧ w'.cell? ⟨p_b6, 1, none⟩ = some (.slice o_g1a k_g1a c_g1a), fun w' => w'.cell? ⟨p_b4, 0, none⟩ = some (.bool n_g4) ∧ w'.cell? ⟨p_b4, 1, none⟩ = some (.slice o_g4 k_g4 c_g4)] (by kernel_rfl) (by kernel_rfl) (by kernel_rfl) (by kernel_rfl) (by kernel_rfl) (by kernel_rfl) (by kernel_rfl) (by kernel_rfl) (by decide) (by intro j hj; cases hj) (by intro w' o hC; obtain ⟨c0, c1, c2, c3⟩ := hC; exact ⟨cell_alloc c0 o, cell_alloc c1 o, cell_alloc c2 o, cell_alloc c3 o⟩) (by intro w' hC G hG; obtain ⟨c0, c1, c2, c3⟩ := hC; simp only [List.mem_cons, List.not_mem_nil, or_false] at hG; rcases hG with rfl | rfl <;> first | exact ⟨c0, c1⟩ | exact ⟨c2, c3⟩) ?_
  have lt_b4 := x_b4.lt
  have lt_b5 := x_b5.lt
  have lt_b6 := x_b6.lt
  intro w_18 hn
  replace lt_b4 := Nat.lt_of_lt_of_le lt_b4 hn.size
  replace lt_b5 := Nat.lt_of_lt_of_le lt_b5 hn.size
  replace lt_b6 := Nat.lt_of_lt_of_le lt_b6 hn.size
  replace g11 := g11.bl hn; replace g12 := g12.bl hn; replace x_b4 := x_b4.bl hn; replace g4 := g4.bl hn; replace x_b5 := x_b5.bl hn; replace x_b6 := x_b6.bl hn; replace hb := hb.trans (hn.mono hb.size)
  clear hn
  have kb0 := hb.size
  refine ⟨⟨x_b6.cell 0 rfl, x_b6.cell 1 rfl, x_b4.cell 0 rfl, x_b4.cell 1 rfl⟩, ?_⟩
  apply wpFl_ld rfl rfl; (case h1 => intro w' hC K hK; obtain ⟨c0, c1⟩ := hC; go_big_op; exact hK); iterate 4 kernel_rfl
  apply wpFl_ld rfl rfl; (case h1 => intro w' hC K hK; obtain ⟨c0, c1⟩ := hC; go_big_op; exact hK); iterate 4 kernel_rfl
  apply wpFl_ld rfl rfl; (case h1 => intro w' hC K hK; obtain ⟨c0, c1⟩ := hC; go_big_op; exact hK); iterate 4 kernel_rfl
  refine wpFl_call rfl (by kernel_rfl) fun w_19 hn hC => ?_; clear hC
  replace g11 := g11.bl hn; replace g12 := g12.bl hn; replace x_b4 := x_b4.bl hn; replace g4 := g4.bl hn; replace x_b5 := x_b5.bl hn; replace x_b6 := x_b6.bl hn; replace hb := hb.trans (hn.mono hb.size)
  clear hn; intro K hK
  go_big_op
  go_fit (zadd_any (g11.zn Lg11.out) (g11.zn Lg11.out) (by omega) (by omega) )
  rintro e w_20 ⟨v_g5, rfl, g5, hb_20⟩
  replace g11 := g11.bl hb_20; replace g12 := g12.bl hb_20; replace x_b4 := x_b4.bl hb_20; replace g4 := g4.bl hb_20; replace x_b5 := x_b5.bl hb_20; replace x_b6 := x_b6.bl hb_20; replace hb := hb.trans (hb_20.mono hb.size)
  replace g5 := g5.rd
  obtain ⟨n_g5, o_g5, k_g5, c_g5, rfl⟩ := g5.open2
  have Lg5 := hide (g5.lenOf (zlen_add (Lg11.out) (Lg11.out)))
  refine hK _ _ rfl hb_20 ⟨x_b6.cell 0 rfl, x_b6.cell 1 rfl, x_b4.cell 0 rfl, x_b4.cell 1 rfl⟩ ?_
  clear hK K hb_20
  refine wpFl_call rfl (by kernel_rfl) fun w_21 hn hC => ?_; clear hC
  replace g11 := g11.bl hn; replace g12 := g12.bl hn; replace x_b4 := x_b4.bl hn; replace g4 := g4.bl hn; replace x_b5 := x_b5.bl hn; replace x_b6 := x_b6.bl hn; replace g5 := g5.bl hn; replace hb := hb.trans (hn.mono hb.size)
  clear hn; intro K hK
  go_big_op
  go_fit (zabs_any (g5.zn Lg5.out) (by omega) )
  rintro e w_22 ⟨v_g6, rfl, g6, hb_22⟩
  replace g11 := g11.bl hb_22; replace g12 := g12.bl hb_22; replace x_b4 := x_b4.bl hb_22; replace g4 := g4.bl hb_22; replace x_b5 := x_b5.bl hb_22; replace x_b6 := x_b6.bl hb_22; replace g5 := g5.bl hb_22; replace hb := hb.trans (hb_22.mono hb.size)
  replace g6 := g6.rd
  obtain ⟨n_g6, o_g6, k_g6, c_g6, rfl⟩ := g6.open2
  have Lg6 := hide (g6.lenOf (zlen_abs (Lg5.out)))
  refine hK _ _ rfl hb_22 ⟨x_b6.cell 0 rfl, x_b6.cell 1 rfl, x_b4.cell 0 rfl, x_b4.cell 1 rfl⟩ ?_
  clear hK K hb_22
  refine wpFl_call rfl (by kernel_rfl) fun w_23 hn hC => ?_; clear hC
  replace g11 := g11.bl hn; replace g12 := g12.bl hn; replace x_b4 := x_b4.bl hn; replace g4 := g4.bl hn; replace x_b5 := x_b5.bl hn; replace x_b6 := x_b6.bl hn; replace g5 := g5.bl hn; replace g6 := g6.bl hn; replace hb := hb.trans (hn.mono hb.size)
  clear hn; intro K hK
  go_big_op
  go_fit (zcmp_any (g6.zn Lg6.out) (g4.zn Lg4.out) (by omega) (by omega) )
  rintro e w_24 ⟨rfl, hb_24⟩
  replace g11 := g11.bl hb_24; replace g12 := g12.bl hb_24; replace x_b4 := x_b4.bl hb_24; replace g4 := g4.bl hb_24; replace x_b5 := x_b5.bl hb_24; replace x_b6 := x_b6.bl hb_24; replace g5 := g5.bl hb_24; replace g6 := g6.bl hb_24; replace hb := hb.trans (hb_24.mono hb.size)
  rw [HC1.out]
  refine hK _ _ rfl hb_24 ⟨x_b6.cell 0 rfl, x_b6.cell 1 rfl, x_b4.cell 0 rfl, x_b4.cell 1 rfl⟩ ?_
  clear hK K hb_24
  apply wpFl_ld rfl rfl; (case h1 => intro w' hC K hK; go_big_op; exact hK); iterate 4 kernel_rfl
  apply wpFl_end
  case ha => intro pt; simp only [putF]; rfl
  case h =>
  intro w_25 pt hn hC hF hD
  clear hC
  replace g11 := g11.bl hn; replace g12 := g12.bl hn; replace x_b4 := x_b4.bl hn; replace g4 := g4.bl hn; replace x_b5 := x_b5.bl hn; replace x_b6 := x_b6.bl hn; replace g5 := g5.bl hn; replace g6 := g6.bl hn; replace hb := hb.trans (hn.mono hb.size)
  clear hn
  clear hF hD
  clear pt
  clear kb0 lt_b4 lt_b5 lt_b6
  apply wpTail_end
  refine hK10 _ _ ?_
  refine wp_cond_false (congrArg Value.bool (show _ = false from (by first | rfl | assumption | (simp; done) | exact decide_eq_false (by omega) | omega))) ?_
  refine wp_skip ?_
  refine hK8 _ _ ?_
  refine wp_region_sq [0, 1] (by kernel_rfl) ?_
  refine wpSq_call rfl (by kernel_rfl) fun K hK => ?_
  go_big_op; refine hK _ _ rfl ?_; clear hK K
  refine wpSq_call rfl (by kernel_rfl) fun K hK => ?_
  go_big_move; refine hK _ _ rfl ?_; clear hK K
  apply wpSq_end
  show Code.wp _ _ _ _ _
  refine wp_seq_k ?_
  intro K11 hK11
  refine wp_region_sq [0] (by kernel_rfl) ?_
  refine wpSq_call rfl (by kernel_rfl) fun K hK => ?_
  go_big_op; refine hK _ _ rfl ?_; clear hK K
  apply wpSq_end
  refine hK11 _ _ ?_
  refine wp_seq_k ?_
  intro K12 hK12
  refine wp_cond_true (congrArg Value.bool (show _ = true from (by first | rfl | assumption | (simp; done) | exact decide_eq_true (by omega) | omega))) ?_
  refine wp_skip ?_
  refine hK12 _ _ ?_
  refine wp_seq_k ?_
  intro K13 hK13
  refine wp_block ?_
  refine wp_seq_k ?_
  intro K14 hK14
  refine wp_region_sq [0, 1, 2, 3] (by kernel_rfl) ?_
  refine wpSq_call rfl (by kernel_rfl) fun K hK => ?_
  go_big_op; refine hK _ _ rfl ?_; clear hK K
  refine wpSq_call rfl (by kernel_rfl) fun K hK => ?_
  obtain ⟨d0, d1, d2, d3⟩ := x_b5.f4
  go_big_op; refine hK _ _ rfl ?_; clear hK K d0 d1 d2 d3
  refine wpSq_call rfl (by kernel_rfl) fun K hK => ?_
  go_big_op
  have lt_b4 := x_b4.lt
  have lt_b5 := x_b5.lt
  have lt_b6 := x_b6.lt
  obtain ⟨p_b7, w_26, eP, eW, x_b7, hn, kb_b7⟩ := newBox w_25 #[.bool false, .slice none 0 0] 26 hb.size
  have ne_b4_b7 : Hid (p_b4 ≠ p_b7) := Nat.ne_of_lt (eP ▸ lt_b4)
  have ne_b5_b7 : Hid (p_b5 ≠ p_b7) := Nat.ne_of_lt (eP ▸ lt_b5)
  have ne_b6_b7 : Hid (p_b6 ≠ p_b7) := Nat.ne_of_lt (eP ▸ lt_b6)
  rw [eW, eP]
  clear eW eP lt_b4 lt_b5 lt_b6
  replace g11 := g11.bl hn; replace g12 := g12.bl hn; replace x_b4 := x_b4.bl hn; replace g4 := g4.bl hn; replace x_b5 := x_b5.bl hn; replace x_b6 := x_b6.bl hn; replace g5 := g5.bl hn; replace g6 := g6.bl hn; replace hb := hb.trans (hn.mono hb.size)
  refine hK _ _ rfl ?_; clear hK K hn
  refine wpSq_call rfl (by kernel_rfl) fun K hK => ?_
  obtain ⟨d0, d1⟩ := x_b7.f2
  have f0 := x_b7.free 0; have f1 := x_b7.free 1
  go_big_op
  have hnd := x_b7.nod rfl rfl
  obtain ⟨w_27, eW, x_b7', ho⟩ : ∃ w', ((w_26.setCell ⟨p_b7, 0, none⟩ (.bool n_g1b)).setCell ⟨p_b7, 1, none⟩ (.slice o_g1b k_g1b c_g1b)) = w' ∧ Bs w' p_b7 #[.bool n_g1b, .slice o_g1b k_g1b c_g1b] 26 ∧ Only p_b7 w_26 w' := x_b7.setN [(0, .bool n_g1b), (1, .slice o_g1b k_g1b c_g1b)]
  rw [eW]; clear eW d0 d1 f0 f1 x_b7
  have x_b7 := x_b7'; clear x_b7'
  clear x_b6
  replace g11 := g11.fr hnd ho; replace g12 := g12.fr hnd ho; replace x_b4 := x_b4.frame ho ne_b4_b7; replace g4 := g4.fr hnd ho; replace x_b5 := x_b5.frame ho ne_b5_b7; replace g5 := g5.fr hnd ho; replace g6 := g6.fr hnd ho; replace hb := belowOnly hb ho kb_b7
  refine hK _ _ rfl ?_; clear hK K ho hnd
  apply wpSq_end
  refine hK14 _ _ ?_
  refine wp_seq_k ?_
  intro K15 hK15
  refine wp_region_fl2 [(0, false), (1, false), (4, false), (2, true), (3, true), (5, true), (6, false)] [] [] (fun _ => default) [0, 0, 99, 99, 1, 99, 99] [] (fun w' => w'.cell? ⟨p_b7, 0, none⟩ = some (.bool n_g1b) ∧ w'.cell? ⟨p_b7, 1, none⟩ = some (.slice o_g1b k_g1b c_g1b) ∧ w'.cell? ⟨p_b4, 0, none⟩ = some (.bool n_g4) ∧ w'.cell? ⟨p_b4, 1, none⟩ = some (.slice o_g4 k_g4 c_g4)) [fun w' => w'.cell? ⟨p_b7, 0, none⟩ = some (.bool n_g1b) ∧ w'.cell? ⟨p_b7, 1, none⟩ = some (.slice o_g1b k_g1b c_g1b), fun w' => w'.cell? ⟨p_b4, 0, none⟩ = some (.bool n_g4) ∧ w'.cell? ⟨p_b4, 1, none⟩ = some (.slice o_g4 k_g4 c_g4)] (by kernel_rfl) (by kernel_rfl) (by kernel_rfl) (by kernel_rfl) (by kernel_rfl) (by kernel_rfl) (by kernel_rfl) (by kernel_rfl) (by decide) (by intro j hj; cases hj) (by intro w' o hC; obtain ⟨c0, c1, c2, c3⟩ := hC; exact ⟨cell_alloc c0 o, cell_alloc c1 o, cell_alloc c2 o, cell_alloc c3 o⟩) (by intro w' hC G hG; obtain ⟨c0, c1, c2, c3⟩ := hC; simp only [List.mem_cons, List.not_mem_nil, or_false] at hG; rcases hG with rfl | rfl <;> first | exact ⟨c0, c1⟩ | exact ⟨c2, c3⟩) ?_
  have lt_b4 := x_b4.lt
  have lt_b5 := x_b5.lt
  have lt_b7 := x_b7.lt
  intro w_28 hn
  replace lt_b4 := Nat.lt_of_lt_of_le lt_b4 hn.size
  replace lt_b5 := Nat.lt_of_lt_of_le lt_b5 hn.size
  replace lt_b7 := Nat.lt_of_lt_of_le lt_b7 hn.size
  replace g11 := g11.bl hn; replace g12 := g12.bl hn; replace x_b4 := x_b4.bl hn; replace g4 := g4.bl hn; replace x_b5 := x_b5.bl hn; replace g5 := g5.bl hn; replace g6 := g6.bl hn; replace x_b7 := x_b7.bl hn; replace hb := hb.trans (hn.mono hb.size)
  clear hn
  have kb0 := hb.size
  refine ⟨⟨x_b7.cell 0 rfl, x_b7.cell 1 rfl, x_b4.cell 0 rfl, x_b4.cell 1 rfl⟩, ?_⟩
  apply wpFl_ld rfl rfl; (case h1 => intro w' hC K hK; obtain ⟨c0, c1⟩ := hC; go_big_op; exact hK); iterate 4 kernel_rfl
  apply wpFl_ld rfl rfl; (case h1 => intro w' hC K hK; obtain ⟨c0, c1⟩ := hC; go_big_op; exact hK); iterate 4 kernel_rfl
  apply wpFl_ld rfl rfl; (case h1 => intro w' hC K hK; obtain ⟨c0, c1⟩ := hC; go_big_op; exact hK); iterate 4 kernel_rfl
  refine wpFl_call rfl (by kernel_rfl) fun w_29 hn hC => ?_; clear hC
  replace g11 := g11.bl hn; replace g12 := g12.bl hn; replace x_b4 := x_b4.bl hn; replace g4 := g4.bl hn; replace x_b5 := x_b5.bl hn; replace g5 := g5.bl hn; replace g6 := g6.bl hn; replace x_b7 := x_b7.bl hn; replace hb := hb.trans (hn.mono hb.size)
  clear hn; intro K hK
  go_big_op
  go_fit (zadd_any (g12.zn Lg12.out) (g12.zn Lg12.out) (by omega) (by omega) )
  rintro e w_30 ⟨v_g7, rfl, g7, hb_30⟩
  replace g11 := g11.bl hb_30; replace g12 := g12.bl hb_30; replace x_b4 := x_b4.bl hb_30; replace g4 := g4.bl hb_30; replace x_b5 := x_b5.bl hb_30; replace g5 := g5.bl hb_30; replace g6 := g6.bl hb_30; replace x_b7 := x_b7.bl hb_30; replace hb := hb.trans (hb_30.mono hb.size)
  replace g7 := g7.rd
  obtain ⟨n_g7, o_g7, k_g7, c_g7, rfl⟩ := g7.open2
  have Lg7 := hide (g7.lenOf (zlen_add (Lg12.out) (Lg12.out)))
  refine hK _ _ rfl hb_30 ⟨x_b7.cell 0 rfl, x_b7.cell 1 rfl, x_b4.cell 0 rfl, x_b4.cell 1 rfl⟩ ?_
  clear hK K hb_30
  refine wpFl_call rfl (by kernel_rfl) fun w_31 hn hC => ?_; clear hC
  clear g5
  replace g11 := g11.bl hn; replace g12 := g12.bl hn; replace x_b4 := x_b4.bl hn; replace g4 := g4.bl hn; replace x_b5 := x_b5.bl hn; replace g6 := g6.bl hn; replace x_b7 := x_b7.bl hn; replace g7 := g7.bl hn; replace hb := hb.trans (hn.mono hb.size)
  clear hn; intro K hK
  go_big_op
  go_fit (zabs_any (g7.zn Lg7.out) (by omega) )
  rintro e w_32 ⟨v_g8, rfl, g8, hb_32⟩
  replace g11 := g11.bl hb_32; replace g12 := g12.bl hb_32; replace x_b4 := x_b4.bl hb_32; replace g4 := g4.bl hb_32; replace x_b5 := x_b5.bl hb_32; replace g6 := g6.bl hb_32; replace x_b7 := x_b7.bl hb_32; replace g7 := g7.bl hb_32; replace hb := hb.trans (hb_32.mono hb.size)
  replace g8 := g8.rd
  obtain ⟨n_g8, o_g8, k_g8, c_g8, rfl⟩ := g8.open2
  have Lg8 := hide (g8.lenOf (zlen_abs (Lg7.out)))
  refine hK _ _ rfl hb_32 ⟨x_b7.cell 0 rfl, x_b7.cell 1 rfl, x_b4.cell 0 rfl, x_b4.cell 1 rfl⟩ ?_
  clear hK K hb_32
  refine wpFl_call rfl (by kernel_rfl) fun w_33 hn hC => ?_; clear hC
  clear g6
  replace g11 := g11.bl hn; replace g12 := g12.bl hn; replace x_b4 := x_b4.bl hn; replace g4 := g4.bl hn; replace x_b5 := x_b5.bl hn; replace x_b7 := x_b7.bl hn; replace g7 := g7.bl hn; replace g8 := g8.bl hn; replace hb := hb.trans (hn.mono hb.size)
  clear hn; intro K hK
  go_big_op
  go_fit (zcmp_any (g8.zn Lg8.out) (g4.zn Lg4.out) (by omega) (by omega) )
  rintro e w_34 ⟨rfl, hb_34⟩
  replace g11 := g11.bl hb_34; replace g12 := g12.bl hb_34; replace x_b4 := x_b4.bl hb_34; replace g4 := g4.bl hb_34; replace x_b5 := x_b5.bl hb_34; replace x_b7 := x_b7.bl hb_34; replace g7 := g7.bl hb_34; replace g8 := g8.bl hb_34; replace hb := hb.trans (hb_34.mono hb.size)
  rw [HC2.out]
  refine hK _ _ rfl hb_34 ⟨x_b7.cell 0 rfl, x_b7.cell 1 rfl, x_b4.cell 0 rfl, x_b4.cell 1 rfl⟩ ?_
  clear hK K hb_34
  apply wpFl_ld rfl rfl; (case h1 => intro w' hC K hK; go_big_op; exact hK); iterate 4 kernel_rfl
  apply wpFl_end
  case ha => intro pt; simp only [putF]; rfl
  case h =>
  intro w_35 pt hn hC hF hD
  clear hC
  replace g11 := g11.bl hn; replace g12 := g12.bl hn; replace x_b4 := x_b4.bl hn; replace g4 := g4.bl hn; replace x_b5 := x_b5.bl hn; replace x_b7 := x_b7.bl hn; replace g7 := g7.bl hn; replace g8 := g8.bl hn; replace hb := hb.trans (hn.mono hb.size)
  clear hn
  clear hF hD
  clear pt
  clear kb0 lt_b4 lt_b5 lt_b7
  apply wpTail_end
  refine hK15 _ _ ?_
  refine wp_cond_false (congrArg Value.bool (show _ = false from (by first | rfl | assumption | (simp; done) | exact decide_eq_false (by omega) | omega))) ?_
  refine wp_skip ?_
  refine hK13 _ _ ?_
  refine wp_region_sq [0, 1] (by kernel_rfl) ?_
  refine wpSq_call rfl (by kernel_rfl) fun K hK => ?_
  go_big_op; refine hK _ _ rfl ?_; clear hK K
  refine wpSq_call rfl (by kernel_rfl) fun K hK => ?_
  go_big_move; refine hK _ _ rfl ?_; clear hK K
  apply wpSq_end
  show Code.wp _ _ _ _ _
  refine wp_seq_k ?_
  intro K16 hK16
  refine wp_region_sq [0] (by kernel_rfl) ?_
  refine wpSq_call rfl (by kernel_rfl) fun K hK => ?_
  go_big_op; refine hK _ _ rfl ?_; clear hK K
  apply wpSq_end
  refine hK16 _ _ ?_
  refine wp_seq_k ?_
  intro K17 hK17
  refine wp_cond_false (congrArg Value.bool (show _ = false from (by first | rfl | assumption | (simp; done) | exact decide_eq_false (by omega) | omega))) ?_
  refine wp_exit ?_
  refine hK4 _ _ ?_
  refine wp_seq_k ?_
  intro K18 hK18
  refine wp_region_sq [0] (by kernel_rfl) ?_
  refine wpSq_call rfl (by kernel_rfl) fun K hK => ?_
  go_big_move; refine hK _ _ rfl ?_; clear hK K
  apply wpSq_end
  refine hK18 _ _ ?_
  refine wp_ret ?_
  try dsimp only [Exit.then, Exit.inBlock]
  refine bodyPost_ret (v := (.bool true)) (by simp [results, Tryz.results83, go_sem]) rfl ?_
  exact ⟨rfl, hb⟩
set_option maxHeartbeats 4000000 in
set_option maxRecDepth 20000 in
theorem far_no1 (ha : PN w va x l y m) (hq : PN w vb u k v n) (hl : l ≤ 20000000) (hm : m ≤ 20000000) (hk : k ≤ 20000000) (hn : n ≤ 20000000) (h1 : ¬ ((gT1 x y u v + gT1 x y u v).natAbs : Int) < gN u v - tp (gN u v) 1) :
    Calls Tryz.prog 83 #[va, vb] w fun e w' => e = .returned (.bool false) ∧ Below w.heap.size w w' := by
  have hg1 := zcmp_ge (Int.not_lt.1 h1)
  obtain ⟨C1, hC1⟩ : ∃ C, zcmp ((gT1 x y u v + gT1 x y u v).natAbs : Int) (gN u v - tp (gN u v) 1) = C := ⟨_, rfl⟩
  rw [hC1] at hg1
  have HC1 := hide hC1
  have hgt1 : (0 ≤ C1) = True := eq_true hg1
  clear hC1
  clear h1
  obtain ⟨n_0a, o_0a, k_0a, c_0a, n_0b, o_0b, k_0b, c_0b, rfl, ha1, ha2⟩ := ha
  obtain ⟨n_1a, o_1a, k_1a, c_1a, n_1b, o_1b, k_1b, c_1b, rfl, hq1, hq2⟩ := hq
  go_enter Tryz.func83, Tryz.ntmps83
  have hb := Below.refl w.heap.size w
  refine wp_seq_k ?_
  intro K1 hK1
  refine wp_region_sq [0, 1, 2] (by kernel_rfl) ?_
  refine wpSq_call rfl (by kernel_rfl) fun K hK => ?_
  go_big_op
  obtain ⟨p_b1, w_1, eP, eW, x_b1, hn, kb_b1⟩ := newBox w #[.bool n_0a, .slice o_0a k_0a c_0a, .bool n_0b, .slice o_0b k_0b c_0b] 29 hb.size
  rw [eW, eP]
  clear eW eP
  replace ha1 := ha1.bl hn; replace ha2 := ha2.bl hn; replace hq1 := hq1.bl hn; replace hq2 := hq2.bl hn; replace hb := hb.trans (hn.mono hb.size)
  refine hK _ _ rfl ?_; clear hK K hn
  refine wpSq_call rfl (by kernel_rfl) fun K hK => ?_
  go_big_op
  have lt_b1 := x_b1.lt
  obtain ⟨p_b2, w_2, eP, eW, x_b2, hn, kb_b2⟩ := newBox w_1 #[.bool n_1a, .slice o_1a k_1a c_1a, .bool n_1b, .slice o_1b k_1b c_1b] 29 hb.size
  have ne_b1_b2 : Hid (p_b1 ≠ p_b2) := Nat.ne_of_lt (eP ▸ lt_b1)
  rw [eW, eP]
  clear eW eP lt_b1
  replace ha1 := ha1.bl hn; replace ha2 := ha2.bl hn; replace hq1 := hq1.bl hn; replace hq2 := hq2.bl hn; replace x_b1 := x_b1.bl hn; replace hb := hb.trans (hn.mono hb.size)
  refine hK _ _ rfl ?_; clear hK K hn
  refine wpSq_call rfl (by kernel_rfl) fun K hK => ?_
  go_big_move; refine hK _ _ rfl ?_; clear hK K
  apply wpSq_end
  refine hK1 _ _ ?_
  refine wp_seq_k ?_
  intro K2 hK2
  refine wp_region_sq [0, 1, 2, 3, 4, 5, 6, 7, 8, 9] (by kernel_rfl) ?_
  refine wpSq_call rfl (by kernel_rfl) fun K hK => ?_
  obtain ⟨d0, d1, d2, d3⟩ := x_b1.f4
  go_big_op; refine hK _ _ rfl ?_; clear hK K d0 d1 d2 d3
  refine wpSq_call rfl (by kernel_rfl) fun K hK => ?_
  obtain ⟨d0, d1, d2, d3⟩ := x_b2.f4
  go_big_op; refine hK _ _ rfl ?_; clear hK K d0 d1 d2 d3
  refine wpSq_call rfl (by kernel_rfl) fun K hK => ?_
  go_big_op
  go_fit (overNorm_any (PN.mk' ha1 ha2) (PN.mk' hq1 hq2) (by omega) (by omega) (by omega) (by omega) )
  rintro e w_3 ⟨_, v_g2, rfl, ⟨n_g1a, o_g1a, k_g1a, c_g1a, n_g1b, o_g1b, k_g1b, c_g1b, rfl, g11, g12⟩, g2, hb_3⟩
  clear x_b1 x_b2
  replace ha1 := ha1.bl hb_3; replace ha2 := ha2.bl hb_3; replace hq1 := hq1.bl hb_3; replace hq2 := hq2.bl hb_3; replace hb := hb.trans (hb_3.mono hb.size)
  obtain ⟨n_g2, o_g2, k_g2, c_g2, rfl⟩ := g2.open2
  have Lg11 := hide (g11.lenOf (zlen_gT1 (ha1.len) (ha2.len) (hq1.len) (hq2.len)))
  have Lg12 := hide (g12.lenOf (zlen_gT2 (ha1.len) (ha2.len) (hq1.len) (hq2.len)))
  have Lg2 := hide (g2.lenOf (zlen_gN (hq1.len) (hq2.len)))
  refine hK _ _ rfl ?_
  clear hK K hb_3
  refine wpSq_call rfl (by kernel_rfl) fun K hK => ?_
  go_big_move; refine hK _ _ rfl ?_; clear hK K
  refine wpSq_call rfl (by kernel_rfl) fun K hK => ?_
  go_big_op; refine hK _ _ rfl ?_; clear hK K
  refine wpSq_call rfl (by kernel_rfl) fun K hK => ?_
  go_big_op; refine hK _ _ rfl ?_; clear hK K
  refine wpSq_call rfl (by kernel_rfl) fun K hK => ?_
  go_big_op
  clear ha1 ha2 hq1 hq2
  obtain ⟨p_b3, w_4, eP, eW, x_b3, hn, kb_b3⟩ := newBox w_3 #[.bool false, .slice none 0 0, .bool false, .slice none 0 0] 29 hb.size
  rw [eW, eP]
  clear eW eP
  replace g11 := g11.bl hn; replace g12 := g12.bl hn; replace g2 := g2.bl hn; replace hb := hb.trans (hn.mono hb.size)
  refine hK _ _ rfl ?_; clear hK K hn
  refine wpSq_call rfl (by kernel_rfl) fun K hK => ?_
  go_big_op
  have lt_b3 := x_b3.lt
  obtain ⟨p_b4, w_5, eP, eW, x_b4, hn, kb_b4⟩ := newBox w_4 #[.bool false, .slice none 0 0] 26 hb.size
  have ne_b3_b4 : Hid (p_b3 ≠ p_b4) := Nat.ne_of_lt (eP ▸ lt_b3)
  rw [eW, eP]
  clear eW eP lt_b3
  replace g11 := g11.bl hn; replace g12 := g12.bl hn; replace g2 := g2.bl hn; replace x_b3 := x_b3.bl hn; replace hb := hb.trans (hn.mono hb.size)
  refine hK _ _ rfl ?_; clear hK K hn
  refine wpSq_call rfl (by kernel_rfl) fun K hK => ?_
  obtain ⟨d0, d1, d2, d3⟩ := x_b3.f4
  have f0 := x_b3.free 0; have f1 := x_b3.free 1; have f2 := x_b3.free 2; have f3 := x_b3.free 3
  go_big_op
  have hnd := x_b3.nod rfl rfl
  obtain ⟨w_6, eW, x_b3', ho⟩ : ∃ w', ((((w_5.setCell ⟨p_b3, 0, none⟩ (.bool n_g1a)).setCell ⟨p_b3, 1, none⟩ (.slice o_g1a k_g1a c_g1a)).setCell ⟨p_b3, 2, none⟩ (.bool n_g1b)).setCell ⟨p_b3, 3, none⟩ (.slice o_g1b k_g1b c_g1b)) = w' ∧ Bs w' p_b3 #[.bool n_g1a, .slice o_g1a k_g1a c_g1a, .bool n_g1b, .slice o_g1b k_g1b c_g1b] 29 ∧ Only p_b3 w_5 w' := x_b3.setN [(0, .bool n_g1a), (1, .slice o_g1a k_g1a c_g1a), (2, .bool n_g1b), (3, .slice o_g1b k_g1b c_g1b)]
  rw [eW]; clear eW d0 d1 d2 d3 f0 f1 f2 f3 x_b3
  have x_b3 := x_b3'; clear x_b3'
  replace g11 := g11.fr hnd ho; replace g12 := g12.fr hnd ho; replace g2 := g2.fr hnd ho; replace x_b4 := x_b4.frame ho ne_b3_b4.symm; replace hb := belowOnly hb ho kb_b3
  refine hK _ _ rfl ?_; clear hK K ho hnd
  refine wpSq_call rfl (by kernel_rfl) fun K hK => ?_
  obtain ⟨d0, d1⟩ := x_b4.f2
  have f0 := x_b4.free 0; have f1 := x_b4.free 1
  go_big_op
  have hnd := x_b4.nod rfl rfl
  obtain ⟨w_7, eW, x_b4', ho⟩ : ∃ w', ((w_6.setCell ⟨p_b4, 0, none⟩ (.bool n_g2)).setCell ⟨p_b4, 1, none⟩ (.slice o_g2 k_g2 c_g2)) = w' ∧ Bs w' p_b4 #[.bool n_g2, .slice o_g2 k_g2 c_g2] 26 ∧ Only p_b4 w_6 w' := x_b4.setN [(0, .bool n_g2), (1, .slice o_g2 k_g2 c_g2)]
  rw [eW]; clear eW d0 d1 f0 f1 x_b4
  have x_b4 := x_b4'; clear x_b4'
  replace g11 := g11.fr hnd ho; replace g12 := g12.fr hnd ho; replace g2 := g2.fr hnd ho; replace x_b3 := x_b3.frame ho ne_b3_b4; replace hb := belowOnly hb ho kb_b4
  refine hK _ _ rfl ?_; clear hK K ho hnd
  apply wpSq_end
  refine hK2 _ _ ?_
  refine wp_seq_k ?_
  intro K3 hK3
  refine wp_region_fl2 [(0, false), (1, false), (2, true), (3, true)] [4] [] (fun _ => default) [0, 0, 99, 99, 99] [(4, 0)] (fun w' => w'.cell? ⟨p_b4, 0, none⟩ = some (.bool n_g2) ∧ w'.cell? ⟨p_b4, 1, none⟩ = some (.slice o_g2 k_g2 c_g2)) [fun w' => w'.cell? ⟨p_b4, 0, none⟩ = some (.bool n_g2) ∧ w'.cell? ⟨p_b4, 1, none⟩ = some (.slice o_g2 k_g2 c_g2)] (by kernel_rfl) (by kernel_rfl) (by kernel_rfl) (by kernel_rfl) (by kernel_rfl) (by kernel_rfl) (by kernel_rfl) (by kernel_rfl) (by decide) (by intro j hj; cases hj) (by intro w' o hC; obtain ⟨c0, c1⟩ := hC; exact ⟨cell_alloc c0 o, cell_alloc c1 o⟩) (by intro w' hC G hG; obtain ⟨c0, c1⟩ := hC; simp only [List.mem_cons, List.not_mem_nil, or_false] at hG; rcases hG with rfl <;> first | exact ⟨c0, c1⟩) ?_
  have lt_b3 := x_b3.lt
  have lt_b4 := x_b4.lt
  intro w_8 hn
  replace lt_b3 := Nat.lt_of_lt_of_le lt_b3 hn.size
  replace lt_b4 := Nat.lt_of_lt_of_le lt_b4 hn.size
  replace g11 := g11.bl hn; replace g12 := g12.bl hn; replace g2 := g2.bl hn; replace x_b3 := x_b3.bl hn; replace x_b4 := x_b4.bl hn; replace hb := hb.trans (hn.mono hb.size)
  clear hn
  have kb0 := hb.size
  refine ⟨⟨x_b4.cell 0 rfl, x_b4.cell 1 rfl⟩, ?_⟩
  apply wpFl_ld rfl rfl; (case h1 => intro w' hC K hK; obtain ⟨c0, c1⟩ := hC; go_big_op; exact hK); iterate 4 kernel_rfl
  apply wpFl_ld rfl rfl; (case h1 => intro w' hC K hK; obtain ⟨c0, c1⟩ := hC; go_big_op; exact hK); iterate 4 kernel_rfl
  refine wpFl_call rfl (by kernel_rfl) fun w_9 hn hC => ?_; clear hC
  replace g11 := g11.bl hn; replace g12 := g12.bl hn; replace g2 := g2.bl hn; replace x_b3 := x_b3.bl hn; replace x_b4 := x_b4.bl hn; replace hb := hb.trans (hn.mono hb.size)
  clear hn; intro K hK
  go_big_op
  go_fit (topOf_any 1 (g2.zn Lg2.out) (by omega) (by decide))
  rintro e w_10 ⟨v_g3, rfl, g3, hb_10⟩
  replace g11 := g11.bl hb_10; replace g12 := g12.bl hb_10; replace g2 := g2.bl hb_10; replace x_b3 := x_b3.bl hb_10; replace x_b4 := x_b4.bl hb_10; replace hb := hb.trans (hb_10.mono hb.size)
  obtain ⟨n_g3, o_g3, k_g3, c_g3, rfl⟩ := g3.open2
  refine hK _ _ rfl hb_10 ⟨x_b4.cell 0 rfl, x_b4.cell 1 rfl⟩ ?_
  clear hK K hb_10
  refine wpFl_call rfl (by kernel_rfl) fun w_11 hn hC => ?_; clear hC
  replace g11 := g11.bl hn; replace g12 := g12.bl hn; replace g2 := g2.bl hn; replace x_b3 := x_b3.bl hn; replace x_b4 := x_b4.bl hn; replace g3 := g3.bl hn; replace hb := hb.trans (hn.mono hb.size)
  clear hn; intro K hK
  go_big_op
  go_fit (zsub_any (g2.zn Lg2.out) g3 (by omega) (by omega) )
  rintro e w_12 ⟨v_g4, rfl, g4, hb_12⟩
  replace g11 := g11.bl hb_12; replace g12 := g12.bl hb_12; replace g2 := g2.bl hb_12; replace x_b3 := x_b3.bl hb_12; replace x_b4 := x_b4.bl hb_12; replace g3 := g3.bl hb_12; replace hb := hb.trans (hb_12.mono hb.size)
  replace g4 := g4.rd
  obtain ⟨n_g4, o_g4, k_g4, c_g4, rfl⟩ := g4.open2
  have Lg4 := hide (g4.lenOf (zlen_sub (Lg2.out) (g3.len)))
  refine hK _ _ rfl hb_12 ⟨x_b4.cell 0 rfl, x_b4.cell 1 rfl⟩ ?_
  clear hK K hb_12
  apply wpFl_end
  case ha => intro pt; simp only [putF]; rfl
  case h =>
  intro w_13 pt hn hC hF hD
  clear hC
  clear g3
  replace g11 := g11.bl hn; replace g12 := g12.bl hn; replace g2 := g2.bl hn; replace x_b3 := x_b3.bl hn; replace x_b4 := x_b4.bl hn; replace g4 := g4.bl hn; replace hb := hb.trans (hn.mono hb.size)
  clear hn
  clear hF hD
  clear pt
  clear kb0 lt_b3 lt_b4
  refine wpTail_call rfl (by kernel_rfl) fun K hK => ?_
  obtain ⟨d0, d1⟩ := x_b4.f2
  have f0 := x_b4.free 0; have f1 := x_b4.free 1
  go_big_op
  have hnd := x_b4.nod rfl rfl
  obtain ⟨w_14, eW, x_b4', ho⟩ : ∃ w', ((w_13.setCell ⟨p_b4, 0, none⟩ (.bool n_g4)).setCell ⟨p_b4, 1, none⟩ (.slice o_g4 k_g4 c_g4)) = w' ∧ Bs w' p_b4 #[.bool n_g4, .slice o_g4 k_g4 c_g4] 26 ∧ Only p_b4 w_13 w' := x_b4.setN [(0, .bool n_g4), (1, .slice o_g4 k_g4 c_g4)]
  rw [eW]; clear eW d0 d1 f0 f1 x_b4
  have x_b4 := x_b4'; clear x_b4'
  clear g2
  replace g11 := g11.fr hnd ho; replace g12 := g12.fr hnd ho; replace x_b3 := x_b3.frame ho ne_b3_b4; replace g4 := g4.fr hnd ho; replace hb := belowOnly hb ho kb_b4
  refine hK _ _ rfl (And.intro True.intro True.intro) ?_; clear hK K ho hnd
  apply wpTail_end
  refine hK3 _ _ ?_
  refine wp_seq_k ?_
  intro K4 hK4
  refine wp_seq_k ?_
  intro K5 hK5
  refine wp_region_sq [0, 1, 2, 3, 4, 5, 6] (by kernel_rfl) ?_
  refine wpSq_call rfl (by kernel_rfl) fun K hK => ?_
  go_big_op; refine hK _ _ rfl ?_; clear hK K
  refine wpSq_call rfl (by kernel_rfl) fun K hK => ?_
  obtain ⟨d0, d1, d2, d3⟩ := x_b3.f4
  go_big_op; refine hK _ _ rfl ?_; clear hK K d0 d1 d2 d3
  refine wpSq_call rfl (by kernel_rfl) fun K hK => ?_
  go_big_op; refine hK _ _ rfl ?_; clear hK K
  refine wpSq_call rfl (by kernel_rfl) fun K hK => ?_
  obtain ⟨d0, d1, d2, d3⟩ := x_b3.f4
  go_big_op; refine hK _ _ rfl ?_; clear hK K d0 d1 d2 d3
  refine wpSq_call rfl (by kernel_rfl) fun K hK => ?_
  go_big_op
  clear x_b3
  have lt_b4 := x_b4.lt
  obtain ⟨p_b5, w_15, eP, eW, x_b5, hn, kb_b5⟩ := newBox w_14 #[.bool n_g1a, .slice o_g1a k_g1a c_g1a, .bool n_g1b, .slice o_g1b k_g1b c_g1b] 26 hb.size
  have ne_b4_b5 : Hid (p_b4 ≠ p_b5) := Nat.ne_of_lt (eP ▸ lt_b4)
  rw [eW, eP]
  clear eW eP lt_b4
  replace g11 := g11.bl hn; replace g12 := g12.bl hn; replace x_b4 := x_b4.bl hn; replace g4 := g4.bl hn; replace hb := hb.trans (hn.mono hb.size)
  refine hK _ _ rfl ?_; clear hK K hn
  refine wpSq_call rfl (by kernel_rfl) fun K hK => ?_
  go_big_op; refine hK _ _ rfl ?_; clear hK K
  refine wpSq_call rfl (by kernel_rfl) fun K hK => ?_
  go_big_move; refine hK _ _ rfl ?_; clear hK K
  apply wpSq_end
  refine hK5 _ _ ?_
  refine wp_block ?_
  refine wp_loop_rounds 3 ?_
  show Code.wp _ _ _ _ _
  refine wp_seq_k ?_
  intro K6 hK6
  refine wp_region_sq [0] (by kernel_rfl) ?_
  refine wpSq_call rfl (by kernel_rfl) fun K hK => ?_
  go_big_op; refine hK _ _ rfl ?_; clear hK K
  apply wpSq_end
  refine hK6 _ _ ?_
  refine wp_seq_k ?_
  intro K7 hK7
  refine wp_cond_true (congrArg Value.bool (show _ = true from (by first | rfl | assumption | (simp; done) | exact decide_eq_true (by omega) | omega))) ?_
  refine wp_skip ?_
  refine hK7 _ _ ?_
  refine wp_seq_k ?_
  intro K8 hK8
  refine wp_block ?_
  refine wp_seq_k ?_
  intro K9 hK9
  refine wp_region_sq [0, 1, 2, 3] (by kernel_rfl) ?_
  refine wpSq_call rfl (by kernel_rfl) fun K hK => ?_
  go_big_op; refine hK _ _ rfl ?_; clear hK K
  refine wpSq_call rfl (by kernel_rfl) fun K hK => ?_
  obtain ⟨d0, d1, d2, d3⟩ := x_b5.f4
  go_big_op; refine hK _ _ rfl ?_; clear hK K d0 d1 d2 d3
  refine wpSq_call rfl (by kernel_rfl) fun K hK => ?_
  go_big_op
  have lt_b4 := x_b4.lt
  have lt_b5 := x_b5.lt
  obtain ⟨p_b6, w_16, eP, eW, x_b6, hn, kb_b6⟩ := newBox w_15 #[.bool false, .slice none 0 0] 26 hb.size
  have ne_b4_b6 : Hid (p_b4 ≠ p_b6) := Nat.ne_of_lt (eP ▸ lt_b4)
  have ne_b5_b6 : Hid (p_b5 ≠ p_b6) := Nat.ne_of_lt (eP ▸ lt_b5)
  rw [eW, eP]
  clear eW eP lt_b4 lt_b5
  replace g11 := g11.bl hn; replace g12 := g12.bl hn; replace x_b4 := x_b4.bl hn; replace g4 := g4.bl hn; replace x_b5 := x_b5.bl hn; replace hb := hb.trans (hn.mono hb.size)
  refine hK _ _ rfl ?_; clear hK K hn
  refine wpSq_call rfl (by kernel_rfl) fun K hK => ?_
  obtain ⟨d0, d1⟩ := x_b6.f2
  have f0 := x_b6.free 0; have f1 := x_b6.free 1
  go_big_op
  have hnd := x_b6.nod rfl rfl
  obtain ⟨w_17, eW, x_b6', ho⟩ : ∃ w', ((w_16.setCell ⟨p_b6, 0, none⟩ (.bool n_g1a)).setCell ⟨p_b6, 1, none⟩ (.slice o_g1a k_g1a c_g1a)) = w' ∧ Bs w' p_b6 #[.bool n_g1a, .slice o_g1a k_g1a c_g1a] 26 ∧ Only p_b6 w_16 w' := x_b6.setN [(0, .bool n_g1a), (1, .slice o_g1a k_g1a c_g1a)]
  rw [eW]; clear eW d0 d1 f0 f1 x_b6
  have x_b6 := x_b6'; clear x_b6'
  replace g11 := g11.fr hnd ho; replace g12 := g12.fr hnd ho; replace x_b4 := x_b4.frame ho ne_b4_b6; replace g4 := g4.fr hnd ho; replace x_b5 := x_b5.frame ho ne_b5_b6; replace hb := belowOnly hb ho kb_b6
  refine hK _ _ rfl ?_; clear hK K ho hnd
  apply wpSq_end
  refine hK9 _ _ ?_
  refine wp_seq_k ?_
  intro K10 hK10
  refine wp_region_fl2 [(0, false), (1, false), (4, false), (2, true), (3, true), (5, true), (6, false)] [] [] (fun _ => default) [0, 0, 99, 99, 1, 99, 99] [] (fun w' => w'.cell? ⟨p_b6, 0, none⟩ = some (.bool n_g1a) ∧ w'.cell? ⟨p_b6, 1, none⟩ = some (.slice o_g1a k_g1a c_g1a) ∧ w'.cell? ⟨p_b4, 0, none⟩ = some (.bool n_g4) ∧ w'.cell? ⟨p_b4, 1, none⟩ = some (.slice o_g4 k_g4 c_g4)) [fun w' => w'.cell? ⟨p_b6, 0, none⟩ = some (.bool n_g1a) ∧ w'.cell? ⟨p_b6, 1, none⟩ = some (.slice o_g1a k_g1a c_g1a), fun w' => w'.cell? ⟨p_b4, 0, none⟩ = some (.bool n_g4) ∧ w'.cell? ⟨p_b4, 1, none⟩ = some (.slice o_g4 k_g4 c_g4)] (by kernel_rfl) (by kernel_rfl) (by kernel_rfl) (by kernel_rfl) (by kernel_rfl) (by kernel_rfl) (by kernel_rfl) (by kernel_rfl) (by decide) (by intro j hj; cases hj) (by intro w' o hC; obtain ⟨c0, c1, c2, c3⟩ := hC; exact ⟨cell_alloc c0 o, cell_alloc c1 o, cell_alloc c2 o, cell_alloc c3 o⟩) (by intro w' hC G hG; obtain ⟨c0, c1, c2, c3⟩ := hC; simp only [List.mem_cons, List.not_mem_nil, or_false] at hG; rcases hG with rfl | rfl <;> first | exact ⟨c0, c1⟩ | exact ⟨c2, c3⟩) ?_
  have lt_b4 := x_b4.lt
  have lt_b5 := x_b5.lt
  have lt_b6 := x_b6.lt
  intro w_18 hn
  replace lt_b4 := Nat.lt_of_lt_of_le lt_b4 hn.size
  replace lt_b5 := Nat.lt_of_lt_of_le lt_b5 hn.size
  replace lt_b6 := Nat.lt_of_lt_of_le lt_b6 hn.size
  replace g11 := g11.bl hn; replace g12 := g12.bl hn; replace x_b4 := x_b4.bl hn; replace g4 := g4.bl hn; replace x_b5 := x_b5.bl hn; replace x_b6 := x_b6.bl hn; replace hb := hb.trans (hn.mono hb.size)
  clear hn
  have kb0 := hb.size
  refine ⟨⟨x_b6.cell 0 rfl, x_b6.cell 1 rfl, x_b4.cell 0 rfl, x_b4.cell 1 rfl⟩, ?_⟩
  apply wpFl_ld rfl rfl; (case h1 => intro w' hC K hK; obtain ⟨c0, c1⟩ := hC; go_big_op; exact hK); iterate 4 kernel_rfl
  apply wpFl_ld rfl rfl; (case h1 => intro w' hC K hK; obtain ⟨c0, c1⟩ := hC; go_big_op; exact hK); iterate 4 kernel_rfl
  apply wpFl_ld rfl rfl; (case h1 => intro w' hC K hK; obtain ⟨c0, c1⟩ := hC; go_big_op; exact hK); iterate 4 kernel_rfl
  refine wpFl_call rfl (by kernel_rfl) fun w_19 hn hC => ?_; clear hC
  replace g11 := g11.bl hn; replace g12 := g12.bl hn; replace x_b4 := x_b4.bl hn; replace g4 := g4.bl hn; replace x_b5 := x_b5.bl hn; replace x_b6 := x_b6.bl hn; replace hb := hb.trans (hn.mono hb.size)
  clear hn; intro K hK
  go_big_op
  go_fit (zadd_any (g11.zn Lg11.out) (g11.zn Lg11.out) (by omega) (by omega) )
  rintro e w_20 ⟨v_g5, rfl, g5, hb_20⟩
  replace g11 := g11.bl hb_20; replace g12 := g12.bl hb_20; replace x_b4 := x_b4.bl hb_20; replace g4 := g4.bl hb_20; replace x_b5 := x_b5.bl hb_20; replace x_b6 := x_b6.bl hb_20; replace hb := hb.trans (hb_20.mono hb.size)
  replace g5 := g5.rd
  obtain ⟨n_g5, o_g5, k_g5, c_g5, rfl⟩ := g5.open2
  have Lg5 := hide (g5.lenOf (zlen_add (Lg11.out) (Lg11.out)))
  refine hK _ _ rfl hb_20 ⟨x_b6.cell 0 rfl, x_b6.cell 1 rfl, x_b4.cell 0 rfl, x_b4.cell 1 rfl⟩ ?_
  clear hK K hb_20
  refine wpFl_call rfl (by kernel_rfl) fun w_21 hn hC => ?_; clear hC
  replace g11 := g11.bl hn; replace g12 := g12.bl hn; replace x_b4 := x_b4.bl hn; replace g4 := g4.bl hn; replace x_b5 := x_b5.bl hn; replace x_b6 := x_b6.bl hn; replace g5 := g5.bl hn; replace hb := hb.trans (hn.mono hb.size)
  clear hn; intro K hK
  go_big_op
  go_fit (zabs_any (g5.zn Lg5.out) (by omega) )
  rintro e w_22 ⟨v_g6, rfl, g6, hb_22⟩
  replace g11 := g11.bl hb_22; replace g12 := g12.bl hb_22; replace x_b4 := x_b4.bl hb_22; replace g4 := g4.bl hb_22; replace x_b5 := x_b5.bl hb_22; replace x_b6 := x_b6.bl hb_22; replace g5 := g5.bl hb_22; replace hb := hb.trans (hb_22.mono hb.size)
  replace g6 := g6.rd
  obtain ⟨n_g6, o_g6, k_g6, c_g6, rfl⟩ := g6.open2
  have Lg6 := hide (g6.lenOf (zlen_abs (Lg5.out)))
  refine hK _ _ rfl hb_22 ⟨x_b6.cell 0 rfl, x_b6.cell 1 rfl, x_b4.cell 0 rfl, x_b4.cell 1 rfl⟩ ?_
  clear hK K hb_22
  refine wpFl_call rfl (by kernel_rfl) fun w_23 hn hC => ?_; clear hC
  replace g11 := g11.bl hn; replace g12 := g12.bl hn; replace x_b4 := x_b4.bl hn; replace g4 := g4.bl hn; replace x_b5 := x_b5.bl hn; replace x_b6 := x_b6.bl hn; replace g5 := g5.bl hn; replace g6 := g6.bl hn; replace hb := hb.trans (hn.mono hb.size)
  clear hn; intro K hK
  go_big_op
  go_fit (zcmp_any (g6.zn Lg6.out) (g4.zn Lg4.out) (by omega) (by omega) )
  rintro e w_24 ⟨rfl, hb_24⟩
  replace g11 := g11.bl hb_24; replace g12 := g12.bl hb_24; replace x_b4 := x_b4.bl hb_24; replace g4 := g4.bl hb_24; replace x_b5 := x_b5.bl hb_24; replace x_b6 := x_b6.bl hb_24; replace g5 := g5.bl hb_24; replace g6 := g6.bl hb_24; replace hb := hb.trans (hb_24.mono hb.size)
  rw [HC1.out]
  refine hK _ _ rfl hb_24 ⟨x_b6.cell 0 rfl, x_b6.cell 1 rfl, x_b4.cell 0 rfl, x_b4.cell 1 rfl⟩ ?_
  clear hK K hb_24
  apply wpFl_ld rfl rfl; (case h1 => intro w' hC K hK; go_big_op; exact hK); iterate 4 kernel_rfl
  apply wpFl_end
  case ha => intro pt; simp only [putF]; rfl
  case h =>
  intro w_25 pt hn hC hF hD
  clear hC
  replace g11 := g11.bl hn; replace g12 := g12.bl hn; replace x_b4 := x_b4.bl hn; replace g4 := g4.bl hn; replace x_b5 := x_b5.bl hn; replace x_b6 := x_b6.bl hn; replace g5 := g5.bl hn; replace g6 := g6.bl hn; replace hb := hb.trans (hn.mono hb.size)
  clear hn
  clear hF hD
  clear pt
  clear kb0 lt_b4 lt_b5 lt_b6
  apply wpTail_end
  refine hK10 _ _ ?_
  refine wp_cond_true (congrArg Value.bool (show _ = true from (by first | rfl | assumption | (simp; done) | exact decide_eq_true (by omega) | omega))) ?_
  refine wp_seq_k ?_
  intro K11 hK11
  refine wp_region_sq [0] (by kernel_rfl) ?_
  refine wpSq_call rfl (by kernel_rfl) fun K hK => ?_
  go_big_move; refine hK _ _ rfl ?_; clear hK K
  apply wpSq_end
  refine hK11 _ _ ?_
  refine wp_ret ?_
  try dsimp only [Exit.then, Exit.inBlock]
  refine bodyPost_ret (v := (.bool false)) (by simp [results, Tryz.results83, go_sem]) rfl ?_
  exact ⟨rfl, hb⟩
set_option maxHeartbeats 4000000 in
set_option maxRecDepth 20000 in
theorem far_no2 (ha : PN w va x l y m) (hq : PN w vb u k v n) (hl : l ≤ 20000000) (hm : m ≤ 20000000) (hk : k ≤ 20000000) (hn : n ≤ 20000000) (h1 : ((gT1 x y u v + gT1 x y u v).natAbs : Int) < gN u v - tp (gN u v) 1) (h2 : ¬ ((gT2 x y u v + gT2 x y u v).natAbs : Int) < gN u v - tp (gN u v) 1) :
    Calls Tryz.prog 83 #[va, vb] w fun e w' => e = .returned (.bool false) ∧ Below w.heap.size w w' := by
  have HC1 := hide (zcmp_lt h1)
  have hg2 := zcmp_ge (Int.not_lt.1 h2)
  obtain ⟨C2, hC2⟩ : ∃ C, zcmp ((gT2 x y u v + gT2 x y u v).natAbs : Int) (gN u v - tp (gN u v) 1) = C := ⟨_, rfl⟩
  rw [hC2] at hg2
  have HC2 := hide hC2
  have hgt2 : (0 ≤ C2) = True := eq_true hg2
  clear hC2
  clear h1 h2
  obtain ⟨n_0a, o_0a, k_0a, c_0a, n_0b, o_0b, k_0b, c_0b, rfl, ha1, ha2⟩ := ha
  obtain ⟨n_1a, o_1a, k_1a, c_1a, n_1b, o_1b, k_1b, c_1b, rfl, hq1, hq2⟩ := hq
  go_enter Tryz.func83, Tryz.ntmps83
  have hb := Below.refl w.heap.size w
  refine wp_seq_k ?_
  intro K1 hK1
  refine wp_region_sq [0, 1, 2] (by kernel_rfl) ?_
  refine wpSq_call rfl (by kernel_rfl) fun K hK => ?_
  go_big_op
  obtain ⟨p_b1, w_1, eP, eW, x_b1, hn, kb_b1⟩ := newBox w #[.bool n_0a, .slice o_0a k_0a c_0a, .bool n_0b, .slice o_0b k_0b c_0b] 29 hb.size
  rw [eW, eP]
  clear eW eP
  replace ha1 := ha1.bl hn; replace ha2 := ha2.bl hn; replace hq1 := hq1.bl hn; replace hq2 := hq2.bl hn; replace hb := hb.trans (hn.mono hb.size)
  refine hK _ _ rfl ?_; clear hK K hn
  refine wpSq_call rfl (by kernel_rfl) fun K hK => ?_
  go_big_op
  have lt_b1 := x_b1.lt
  obtain ⟨p_b2, w_2, eP, eW, x_b2, hn, kb_b2⟩ := newBox w_1 #[.bool n_1a, .slice o_1a k_1a c_1a, .bool n_1b, .slice o_1b k_1b c_1b] 29 hb.size
  have ne_b1_b2 : Hid (p_b1 ≠ p_b2) := Nat.ne_of_lt (eP ▸ lt_b1)
  rw [eW, eP]
  clear eW eP lt_b1
  replace ha1 := ha1.bl hn; replace ha2 := ha2.bl hn; replace hq1 := hq1.bl hn; replace hq2 := hq2.bl hn; replace x_b1 := x_b1.bl hn; replace hb := hb.trans (hn.mono hb.size)
  refine hK _ _ rfl ?_; clear hK K hn
  refine wpSq_call rfl (by kernel_rfl) fun K hK => ?_
  go_big_move; refine hK _ _ rfl ?_; clear hK K
  apply wpSq_end
  refine hK1 _ _ ?_
  refine wp_seq_k ?_
  intro K2 hK2
  refine wp_region_sq [0, 1, 2, 3, 4, 5, 6, 7, 8, 9] (by kernel_rfl) ?_
  refine wpSq_call rfl (by kernel_rfl) fun K hK => ?_
  obtain ⟨d0, d1, d2, d3⟩ := x_b1.f4
  go_big_op; refine hK _ _ rfl ?_; clear hK K d0 d1 d2 d3
  refine wpSq_call rfl (by kernel_rfl) fun K hK => ?_
  obtain ⟨d0, d1, d2, d3⟩ := x_b2.f4
  go_big_op; refine hK _ _ rfl ?_; clear hK K d0 d1 d2 d3
  refine wpSq_call rfl (by kernel_rfl) fun K hK => ?_
  go_big_op
  go_fit (overNorm_any (PN.mk' ha1 ha2) (PN.mk' hq1 hq2) (by omega) (by omega) (by omega) (by omega) )
  rintro e w_3 ⟨_, v_g2, rfl, ⟨n_g1a, o_g1a, k_g1a, c_g1a, n_g1b, o_g1b, k_g1b, c_g1b, rfl, g11, g12⟩, g2, hb_3⟩
  clear x_b1 x_b2
  replace ha1 := ha1.bl hb_3; replace ha2 := ha2.bl hb_3; replace hq1 := hq1.bl hb_3; replace hq2 := hq2.bl hb_3; replace hb := hb.trans (hb_3.mono hb.size)
  obtain ⟨n_g2, o_g2, k_g2, c_g2, rfl⟩ := g2.open2
  have Lg11 := hide (g11.lenOf (zlen_gT1 (ha1.len) (ha2.len) (hq1.len) (hq2.len)))
  have Lg12 := hide (g12.lenOf (zlen_gT2 (ha1.len) (ha2.len) (hq1.len) (hq2.len)))
  have Lg2 := hide (g2.lenOf (zlen_gN (hq1.len) (hq2.len)))
  refine hK _ _ rfl ?_
  clear hK K hb_3
  refine wpSq_call rfl (by kernel_rfl) fun K hK => ?_
  go_big_move; refine hK _ _ rfl ?_; clear hK K
  refine wpSq_call rfl (by kernel_rfl) fun K hK => ?_
  go_big_op; refine hK _ _ rfl ?_; clear hK K
  refine wpSq_call rfl (by kernel_rfl) fun K hK => ?_
  go_big_op; refine hK _ _ rfl ?_; clear hK K
  refine wpSq_call rfl (by kernel_rfl) fun K hK => ?_
  go_big_op
  clear ha1 ha2 hq1 hq2
  obtain ⟨p_b3, w_4, eP, eW, x_b3, hn, kb_b3⟩ := newBox w_3 #[.bool false, .slice none 0 0, .bool false, .slice none 0 0] 29 hb.size
  rw [eW, eP]
  clear eW eP
  replace g11 := g11.bl hn; replace g12 := g12.bl hn; replace g2 := g2.bl hn; replace hb := hb.trans (hn.mono hb.size)
  refine hK _ _ rfl ?_; clear hK K hn
  refine wpSq_call rfl (by kernel_rfl) fun K hK => ?_
  go_big_op
  have lt_b3 := x_b3.lt
  obtain ⟨p_b4, w_5, eP, eW, x_b4, hn, kb_b4⟩ := newBox w_4 #[.bool false, .slice none 0 0] 26 hb.size
  have ne_b3_b4 : Hid (p_b3 ≠ p_b4) := Nat.ne_of_lt (eP ▸ lt_b3)
  rw [eW, eP]
  clear eW eP lt_b3
  replace g11 := g11.bl hn; replace g12 := g12.bl hn; replace g2 := g2.bl hn; replace x_b3 := x_b3.bl hn; replace hb := hb.trans (hn.mono hb.size)
  refine hK _ _ rfl ?_; clear hK K hn
  refine wpSq_call rfl (by kernel_rfl) fun K hK => ?_
  obtain ⟨d0, d1, d2, d3⟩ := x_b3.f4
  have f0 := x_b3.free 0; have f1 := x_b3.free 1; have f2 := x_b3.free 2; have f3 := x_b3.free 3
  go_big_op
  have hnd := x_b3.nod rfl rfl
  obtain ⟨w_6, eW, x_b3', ho⟩ : ∃ w', ((((w_5.setCell ⟨p_b3, 0, none⟩ (.bool n_g1a)).setCell ⟨p_b3, 1, none⟩ (.slice o_g1a k_g1a c_g1a)).setCell ⟨p_b3, 2, none⟩ (.bool n_g1b)).setCell ⟨p_b3, 3, none⟩ (.slice o_g1b k_g1b c_g1b)) = w' ∧ Bs w' p_b3 #[.bool n_g1a, .slice o_g1a k_g1a c_g1a, .bool n_g1b, .slice o_g1b k_g1b c_g1b] 29 ∧ Only p_b3 w_5 w' := x_b3.setN [(0, .bool n_g1a), (1, .slice o_g1a k_g1a c_g1a), (2, .bool n_g1b), (3, .slice o_g1b k_g1b c_g1b)]
  rw [eW]; clear eW d0 d1 d2 d3 f0 f1 f2 f3 x_b3
  have x_b3 := x_b3'; clear x_b3'
  replace g11 := g11.fr hnd ho; replace g12 := g12.fr hnd ho; replace g2 := g2.fr hnd ho; replace x_b4 := x_b4.frame ho ne_b3_b4.symm; replace hb := belowOnly hb ho kb_b3
  refine hK _ _ rfl ?_; clear hK K ho hnd
  refine wpSq_call rfl (by kernel_rfl) fun K hK => ?_
  obtain ⟨d0, d1⟩ := x_b4.f2
  have f0 := x_b4.free 0; have f1 := x_b4.free 1
  go_big_op
  have hnd := x_b4.nod rfl rfl
  obtain ⟨w_7, eW, x_b4', ho⟩ : ∃ w', ((w_6.setCell ⟨p_b4, 0, none⟩ (.bool n_g2)).setCell ⟨p_b4, 1, none⟩ (.slice o_g2 k_g2 c_g2)) = w' ∧ Bs w' p_b4 #[.bool n_g2, .slice o_g2 k_g2 c_g2] 26 ∧ Only p_b4 w_6 w' := x_b4.setN [(0, .bool n_g2), (1, .slice o_g2 k_g2 c_g2)]
  rw [eW]; clear eW d0 d1 f0 f1 x_b4
  have x_b4 := x_b4'; clear x_b4'
  replace g11 := g11.fr hnd ho; replace g12 := g12.fr hnd ho; replace g2 := g2.fr hnd ho; replace x_b3 := x_b3.frame ho ne_b3_b4; replace hb := belowOnly hb ho kb_b4
  refine hK _ _ rfl ?_; clear hK K ho hnd
  apply wpSq_end
  refine hK2 _ _ ?_
  refine wp_seq_k ?_
  intro K3 hK3
  refine wp_region_fl2 [(0, false), (1, false), (2, true), (3, true)] [4] [] (fun _ => default) [0, 0, 99, 99, 99] [(4, 0)] (fun w' => w'.cell? ⟨p_b4, 0, none⟩ = some (.bool n_g2) ∧ w'.cell? ⟨p_b4, 1, none⟩ = some (.slice o_g2 k_g2 c_g2)) [fun w' => w'.cell? ⟨p_b4, 0, none⟩ = some (.bool n_g2) ∧ w'.cell? ⟨p_b4, 1, none⟩ = some (.slice o_g2 k_g2 c_g2)] (by kernel_rfl) (by kernel_rfl) (by kernel_rfl) (by kernel_rfl) (by kernel_rfl) (by kernel_rfl) (by kernel_rfl) (by kernel_rfl) (by decide) (by intro j hj; cases hj) (by intro w' o hC; obtain ⟨c0, c1⟩ := hC; exact ⟨cell_alloc c0 o, cell_alloc c1 o⟩) (by intro w' hC G hG; obtain ⟨c0, c1⟩ := hC; simp only [List.mem_cons, List.not_mem_nil, or_false] at hG; rcases hG with rfl <;> first | exact ⟨c0, c1⟩) ?_
  have lt_b3 := x_b3.lt
  have lt_b4 := x_b4.lt
  intro w_8 hn
  replace lt_b3 := Nat.lt_of_lt_of_le lt_b3 hn.size
  replace lt_b4 := Nat.lt_of_lt_of_le lt_b4 hn.size
  replace g11 := g11.bl hn; replace g12 := g12.bl hn; replace g2 := g2.bl hn; replace x_b3 := x_b3.bl hn; replace x_b4 := x_b4.bl hn; replace hb := hb.trans (hn.mono hb.size)
  clear hn
  have kb0 := hb.size
  refine ⟨⟨x_b4.cell 0 rfl, x_b4.cell 1 rfl⟩, ?_⟩
  apply wpFl_ld rfl rfl; (case h1 => intro w' hC K hK; obtain ⟨c0, c1⟩ := hC; go_big_op; exact hK); iterate 4 kernel_rfl
  apply wpFl_ld rfl rfl; (case h1 => intro w' hC K hK; obtain ⟨c0, c1⟩ := hC; go_big_op; exact hK); iterate 4 kernel_rfl
  refine wpFl_call rfl (by kernel_rfl) fun w_9 hn hC => ?_; clear hC
  replace g11 := g11.bl hn; replace g12 := g12.bl hn; replace g2 := g2.bl hn; replace x_b3 := x_b3.bl hn; replace x_b4 := x_b4.bl hn; replace hb := hb.trans (hn.mono hb.size)
  clear hn; intro K hK
  go_big_op
  go_fit (topOf_any 1 (g2.zn Lg2.out) (by omega) (by decide))
  rintro e w_10 ⟨v_g3, rfl, g3, hb_10⟩
  replace g11 := g11.bl hb_10; replace g12 := g12.bl hb_10; replace g2 := g2.bl hb_10; replace x_b3 := x_b3.bl hb_10; replace x_b4 := x_b4.bl hb_10; replace hb := hb.trans (hb_10.mono hb.size)
  obtain ⟨n_g3, o_g3, k_g3, c_g3, rfl⟩ := g3.open2
  refine hK _ _ rfl hb_10 ⟨x_b4.cell 0 rfl, x_b4.cell 1 rfl⟩ ?_
  clear hK K hb_10
  refine wpFl_call rfl (by kernel_rfl) fun w_11 hn hC => ?_; clear hC
  replace g11 := g11.bl hn; replace g12 := g12.bl hn; replace g2 := g2.bl hn; replace x_b3 := x_b3.bl hn; replace x_b4 := x_b4.bl hn; replace g3 := g3.bl hn; replace hb := hb.trans (hn.mono hb.size)
  clear hn; intro K hK
  go_big_op
  go_fit (zsub_any (g2.zn Lg2.out) g3 (by omega) (by omega) )
  rintro e w_12 ⟨v_g4, rfl, g4, hb_12⟩
  replace g11 := g11.bl hb_12; replace g12 := g12.bl hb_12; replace g2 := g2.bl hb_12; replace x_b3 := x_b3.bl hb_12; replace x_b4 := x_b4.bl hb_12; replace g3 := g3.bl hb_12; replace hb := hb.trans (hb_12.mono hb.size)
  replace g4 := g4.rd
  obtain ⟨n_g4, o_g4, k_g4, c_g4, rfl⟩ := g4.open2
  have Lg4 := hide (g4.lenOf (zlen_sub (Lg2.out) (g3.len)))
  refine hK _ _ rfl hb_12 ⟨x_b4.cell 0 rfl, x_b4.cell 1 rfl⟩ ?_
  clear hK K hb_12
  apply wpFl_end
  case ha => intro pt; simp only [putF]; rfl
  case h =>
  intro w_13 pt hn hC hF hD
  clear hC
  clear g3
  replace g11 := g11.bl hn; replace g12 := g12.bl hn; replace g2 := g2.bl hn; replace x_b3 := x_b3.bl hn; replace x_b4 := x_b4.bl hn; replace g4 := g4.bl hn; replace hb := hb.trans (hn.mono hb.size)
  clear hn
  clear hF hD
  clear pt
  clear kb0 lt_b3 lt_b4
  refine wpTail_call rfl (by kernel_rfl) fun K hK => ?_
  obtain ⟨d0, d1⟩ := x_b4.f2
  have f0 := x_b4.free 0; have f1 := x_b4.free 1
  go_big_op
  have hnd := x_b4.nod rfl rfl
  obtain ⟨w_14, eW, x_b4', ho⟩ : ∃ w', ((w_13.setCell ⟨p_b4, 0, none⟩ (.bool n_g4)).setCell ⟨p_b4, 1, none⟩ (.slice o_g4 k_g4 c_g4)) = w' ∧ Bs w' p_b4 #[.bool n_g4, .slice o_g4 k_g4 c_g4] 26 ∧ Only p_b4 w_13 w' := x_b4.setN [(0, .bool n_g4), (1, .slice o_g4 k_g4 c_g4)]
  rw [eW]; clear eW d0 d1 f0 f1 x_b4
  have x_b4 := x_b4'; clear x_b4'
  clear g2
  replace g11 := g11.fr hnd ho; replace g12 := g12.fr hnd ho; replace x_b3 := x_b3.frame ho ne_b3_b4; replace g4 := g4.fr hnd ho; replace hb := belowOnly hb ho kb_b4
  refine hK _ _ rfl (And.intro True.intro True.intro) ?_; clear hK K ho hnd
  apply wpTail_end
  refine hK3 _ _ ?_
  refine wp_seq_k ?_
  intro K4 hK4
  refine wp_seq_k ?_
  intro K5 hK5
  refine wp_region_sq [0, 1, 2, 3, 4, 5, 6] (by kernel_rfl) ?_
  refine wpSq_call rfl (by kernel_rfl) fun K hK => ?_
  go_big_op; refine hK _ _ rfl ?_; clear hK K
  refine wpSq_call rfl (by kernel_rfl) fun K hK => ?_
  obtain ⟨d0, d1, d2, d3⟩ := x_b3.f4
  go_big_op; refine hK _ _ rfl ?_; clear hK K d0 d1 d2 d3
  refine wpSq_call rfl (by kernel_rfl) fun K hK => ?_
  go_big_op; refine hK _ _ rfl ?_; clear hK K
  refine wpSq_call rfl (by kernel_rfl) fun K hK => ?_
  obtain ⟨d0, d1, d2, d3⟩ := x_b3.f4
  go_big_op; refine hK _ _ rfl ?_; clear hK K d0 d1 d2 d3
  refine wpSq_call rfl (by kernel_rfl) fun K hK => ?_
  go_big_op
  clear x_b3
  have lt_b4 := x_b4.lt
  obtain ⟨p_b5, w_15, eP, eW, x_b5, hn, kb_b5⟩ := newBox w_14 #[.bool n_g1a, .slice o_g1a k_g1a c_g1a, .bool n_g1b, .slice o_g1b k_g1b c_g1b] 26 hb.size
  have ne_b4_b5 : Hid (p_b4 ≠ p_b5) := Nat.ne_of_lt (eP ▸ lt_b4)
  rw [eW, eP]
  clear eW eP lt_b4
  replace g11 := g11.bl hn; replace g12 := g12.bl hn; replace x_b4 := x_b4.bl hn; replace g4 := g4.bl hn; replace hb := hb.trans (hn.mono hb.size)
  refine hK _ _ rfl ?_; clear hK K hn
  refine wpSq_call rfl (by kernel_rfl) fun K hK => ?_
  go_big_op; refine hK _ _ rfl ?_; clear hK K
  refine wpSq_call rfl (by kernel_rfl) fun K hK => ?_
  go_big_move; refine hK _ _ rfl ?_; clear hK K
  apply wpSq_end
  refine hK5 _ _ ?_
  refine wp_block ?_
  refine wp_loop_rounds 3 ?_
  show Code.wp _ _ _ _ _
  refine wp_seq_k ?_
  intro K6 hK6
  refine wp_region_sq [0] (by kernel_rfl) ?_
  refine wpSq_call rfl (by kernel_rfl) fun K hK => ?_
  go_big_op; refine hK _ _ rfl ?_; clear hK K
  apply wpSq_end
  refine hK6 _ _ ?_
  refine wp_seq_k ?_
  intro K7 hK7
  refine wp_cond_true (congrArg Value.bool (show _ = true from (by first | rfl | assumption | (simp; done) | exact decide_eq_true (by omega) | omega))) ?_
  refine wp_skip ?_
  refine hK7 _ _ ?_
  refine wp_seq_k ?_
  intro K8 hK8
  refine wp_block ?_
  refine wp_seq_k ?_
  intro K9 hK9
  refine wp_region_sq [0, 1, 2, 3] (by kernel_rfl) ?_
  refine wpSq_call rfl (by kernel_rfl) fun K hK => ?_
  go_big_op; refine hK _ _ rfl ?_; clear hK K
  refine wpSq_call rfl (by kernel_rfl) fun K hK => ?_
  obtain ⟨d0, d1, d2, d3⟩ := x_b5.f4
  go_big_op; refine hK _ _ rfl ?_; clear hK K d0 d1 d2 d3
  refine wpSq_call rfl (by kernel_rfl) fun K hK => ?_
  go_big_op
  have lt_b4 := x_b4.lt
  have lt_b5 := x_b5.lt
  obtain ⟨p_b6, w_16, eP, eW, x_b6, hn, kb_b6⟩ := newBox w_15 #[.bool false, .slice none 0 0] 26 hb.size
  have ne_b4_b6 : Hid (p_b4 ≠ p_b6) := Nat.ne_of_lt (eP ▸ lt_b4)
  have ne_b5_b6 : Hid (p_b5 ≠ p_b6) := Nat.ne_of_lt (eP ▸ lt_b5)
  rw [eW, eP]
  clear eW eP lt_b4 lt_b5
  replace g11 := g11.bl hn; replace g12 := g12.bl hn; replace x_b4 := x_b4.bl hn; replace g4 := g4.bl hn; replace x_b5 := x_b5.bl hn; replace hb := hb.trans (hn.mono hb.size)
  refine hK _ _ rfl ?_; clear hK K hn
  refine wpSq_call rfl (by kernel_rfl) fun K hK => ?_
  obtain ⟨d0, d1⟩ := x_b6.f2
  have f0 := x_b6.free 0; have f1 := x_b6.free 1
  go_big_op
  have hnd := x_b6.nod rfl rfl
  obtain ⟨w_17, eW, x_b6', ho⟩ : ∃ w', ((w_16.setCell ⟨p_b6, 0, none⟩ (.bool n_g1a)).setCell ⟨p_b6, 1, none⟩ (.slice o_g1a k_g1a c_g1a)) = w' ∧ Bs w' p_b6 #[.bool n_g1a, .slice o_g1a k_g1a c_g1a] 26 ∧ Only p_b6 w_16 w' := x_b6.setN [(0, .bool n_g1a), (1, .slice o_g1a k_g1a c_g1a)]
  rw [eW]; clear eW d0 d1 f0 f1 x_b6
  have x_b6 := x_b6'; clear x_b6'
  replace g11 := g11.fr hnd ho; replace g12 := g12.fr hnd ho; replace x_b4 := x_b4.frame ho ne_b4_b6; replace g4 := g4.fr hnd ho; replace x_b5 := x_b5.frame ho ne_b5_b6; replace hb := belowOnly hb ho kb_b6
  refine hK _ _ rfl ?_; clear hK K ho hnd
  apply wpSq_end
  refine hK9 _ _ ?_
  refine wp_seq_k ?_
  intro K10 hK10
  refine wp_region_fl2 [(0, false), (1, false), (4, false), (2, true), (3, true), (5, true), (6, false)] [] [] (fun _ => default) [0, 0, 99, 99, 1, 99, 99] [] (fun w' => w'.cell? ⟨p_b6, 0, none⟩ = some (.bool n_g1a) ∧ w'.cell? ⟨p_b6, 1, none⟩ = some (.slice o_g1a k_g1a c_g1a) ∧ w'.cell? ⟨p_b4, 0, none⟩ = some (.bool n_g4) ∧ w'.cell? ⟨p_b4, 1, none⟩ = some (.slice o_g4 k_g4 c_g4)) [fun w' => w'.cell? ⟨p_b6, 0, none⟩ = some (.bool n_g1a) ∧ w'.cell? ⟨p_b6, 1, none⟩ = some (.slice o_g1a k_g1a c_g1a), fun w' => w'.cell? ⟨p_b4, 0, none⟩ = some (.bool n_g4) ∧ w'.cell? ⟨p_b4, 1, none⟩ = some (.slice o_g4 k_g4 c_g4)] (by kernel_rfl) (by kernel_rfl) (by kernel_rfl) (by kernel_rfl) (by kernel_rfl) (by kernel_rfl) (by kernel_rfl) (by kernel_rfl) (by decide) (by intro j hj; cases hj) (by intro w' o hC; obtain ⟨c0, c1, c2, c3⟩ := hC; exact ⟨cell_alloc c0 o, cell_alloc c1 o, cell_alloc c2 o, cell_alloc c3 o⟩) (by intro w' hC G hG; obtain ⟨c0, c1, c2, c3⟩ := hC; simp only [List.mem_cons, List.not_mem_nil, or_false] at hG; rcases hG with rfl | rfl <;> first | exact ⟨c0, c1⟩ | exact ⟨c2, c3⟩) ?_
  have lt_b4 := x_b4.lt
  have lt_b5 := x_b5.lt
  have lt_b6 := x_b6.lt
  intro w_18 hn
  replace lt_b4 := Nat.lt_of_lt_of_le lt_b4 hn.size
  replace lt_b5 := Nat.lt_of_lt_of_le lt_b5 hn.size
  replace lt_b6 := Nat.lt_of_lt_of_le lt_b6 hn.size
  replace g11 := g11.bl hn; replace g12 := g12.bl hn; replace x_b4 := x_b4.bl hn; replace g4 := g4.bl hn; replace x_b5 := x_b5.bl hn; replace x_b6 := x_b6.bl hn; replace hb := hb.trans (hn.mono hb.size)
  clear hn
  have kb0 := hb.size
  refine ⟨⟨x_b6.cell 0 rfl, x_b6.cell 1 rfl, x_b4.cell 0 rfl, x_b4.cell 1 rfl⟩, ?_⟩
  apply wpFl_ld rfl rfl; (case h1 => intro w' hC K hK; obtain ⟨c0, c1⟩ := hC; go_big_op; exact hK); iterate 4 kernel_rfl
  apply wpFl_ld rfl rfl; (case h1 => intro w' hC K hK; obtain ⟨c0, c1⟩ := hC; go_big_op; exact hK); iterate 4 kernel_rfl
  apply wpFl_ld rfl rfl; (case h1 => intro w' hC K hK; obtain ⟨c0, c1⟩ := hC; go_big_op; exact hK); iterate 4 kernel_rfl
  refine wpFl_call rfl (by kernel_rfl) fun w_19 hn hC => ?_; clear hC
  replace g11 := g11.bl hn; replace g12 := g12.bl hn; replace x_b4 := x_b4.bl hn; replace g4 := g4.bl hn; replace x_b5 := x_b5.bl hn; replace x_b6 := x_b6.bl hn; replace hb := hb.trans (hn.mono hb.size)
  clear hn; intro K hK
  go_big_op
  go_fit (zadd_any (g11.zn Lg11.out) (g11.zn Lg11.out) (by omega) (by omega) )
  rintro e w_20 ⟨v_g5, rfl, g5, hb_20⟩
  replace g11 := g11.bl hb_20; replace g12 := g12.bl hb_20; replace x_b4 := x_b4.bl hb_20; replace g4 := g4.bl hb_20; replace x_b5 := x_b5.bl hb_20; replace x_b6 := x_b6.bl hb_20; replace hb := hb.trans (hb_20.mono hb.size)
  replace g5 := g5.rd
  obtain ⟨n_g5, o_g5, k_g5, c_g5, rfl⟩ := g5.open2
  have Lg5 := hide (g5.lenOf (zlen_add (Lg11.out) (Lg11.out)))
  refine hK _ _ rfl hb_20 ⟨x_b6.cell 0 rfl, x_b6.cell 1 rfl, x_b4.cell 0 rfl, x_b4.cell 1 rfl⟩ ?_
  clear hK K hb_20
  refine wpFl_call rfl (by kernel_rfl) fun w_21 hn hC => ?_; clear hC
  replace g11 := g11.bl hn; replace g12 := g12.bl hn; replace x_b4 := x_b4.bl hn; replace g4 := g4.bl hn; replace x_b5 := x_b5.bl hn; replace x_b6 := x_b6.bl hn; replace g5 := g5.bl hn; replace hb := hb.trans (hn.mono hb.size)
  clear hn; intro K hK
  go_big_op
  go_fit (zabs_any (g5.zn Lg5.out) (by omega) )
  rintro e w_22 ⟨v_g6, rfl, g6, hb_22⟩
  replace g11 := g11.bl hb_22; replace g12 := g12.bl hb_22; replace x_b4 := x_b4.bl hb_22; replace g4 := g4.bl hb_22; replace x_b5 := x_b5.bl hb_22; replace x_b6 := x_b6.bl hb_22; replace g5 := g5.bl hb_22; replace hb := hb.trans (hb_22.mono hb.size)
  replace g6 := g6.rd
  obtain ⟨n_g6, o_g6, k_g6, c_g6, rfl⟩ := g6.open2
  have Lg6 := hide (g6.lenOf (zlen_abs (Lg5.out)))
  refine hK _ _ rfl hb_22 ⟨x_b6.cell 0 rfl, x_b6.cell 1 rfl, x_b4.cell 0 rfl, x_b4.cell 1 rfl⟩ ?_
  clear hK K hb_22
  refine wpFl_call rfl (by kernel_rfl) fun w_23 hn hC => ?_; clear hC
  replace g11 := g11.bl hn; replace g12 := g12.bl hn; replace x_b4 := x_b4.bl hn; replace g4 := g4.bl hn; replace x_b5 := x_b5.bl hn; replace x_b6 := x_b6.bl hn; replace g5 := g5.bl hn; replace g6 := g6.bl hn; replace hb := hb.trans (hn.mono hb.size)
  clear hn; intro K hK
  go_big_op
  go_fit (zcmp_any (g6.zn Lg6.out) (g4.zn Lg4.out) (by omega) (by omega) )
  rintro e w_24 ⟨rfl, hb_24⟩
  replace g11 := g11.bl hb_24; replace g12 := g12.bl hb_24; replace x_b4 := x_b4.bl hb_24; replace g4 := g4.bl hb_24; replace x_b5 := x_b5.bl hb_24; replace x_b6 := x_b6.bl hb_24; replace g5 := g5.bl hb_24; replace g6 := g6.bl hb_24; replace hb := hb.trans (hb_24.mono hb.size)
  rw [HC1.out]
  refine hK _ _ rfl hb_24 ⟨x_b6.cell 0 rfl, x_b6.cell 1 rfl, x_b4.cell 0 rfl, x_b4.cell 1 rfl⟩ ?_
  clear hK K hb_24
  apply wpFl_ld rfl rfl; (case h1 => intro w' hC K hK; go_big_op; exact hK); iterate 4 kernel_rfl
  apply wpFl_end
  case ha => intro pt; simp only [putF]; rfl
  case h =>
  intro w_25 pt hn hC hF hD
  clear hC
  replace g11 := g11.bl hn; replace g12 := g12.bl hn; replace x_b4 := x_b4.bl hn; replace g4 := g4.bl hn; replace x_b5 := x_b5.bl hn; replace x_b6 := x_b6.bl hn; replace g5 := g5.bl hn; replace g6 := g6.bl hn; replace hb := hb.trans (hn.mono hb.size)
  clear hn
  clear hF hD
  clear pt
  clear kb0 lt_b4 lt_b5 lt_b6
  apply wpTail_end
  refine hK10 _ _ ?_
  refine wp_cond_false (congrArg Value.bool (show _ = false from (by first | rfl | assumption | (simp; done) | exact decide_eq_false (by omega) | omega))) ?_
  refine wp_skip ?_
  refine hK8 _ _ ?_
  refine wp_region_sq [0, 1] (by kernel_rfl) ?_
  refine wpSq_call rfl (by kernel_rfl) fun K hK => ?_
  go_big_op; refine hK _ _ rfl ?_; clear hK K
  refine wpSq_call rfl (by kernel_rfl) fun K hK => ?_
  go_big_move; refine hK _ _ rfl ?_; clear hK K
  apply wpSq_end
  show Code.wp _ _ _ _ _
  refine wp_seq_k ?_
  intro K11 hK11
  refine wp_region_sq [0] (by kernel_rfl) ?_
  refine wpSq_call rfl (by kernel_rfl) fun K hK => ?_
  go_big_op; refine hK _ _ rfl ?_; clear hK K
  apply wpSq_end
  refine hK11 _ _ ?_
  refine wp_seq_k ?_
  intro K12 hK12
  refine wp_cond_true (congrArg Value.bool (show _ = true from (by first | rfl | assumption | (simp; done) | exact decide_eq_true (by omega) | omega))) ?_
  refine wp_skip ?_
  refine hK12 _ _ ?_
  refine wp_seq_k ?_
  intro K13 hK13
  refine wp_block ?_
  refine wp_seq_k ?_
  intro K14 hK14
  refine wp_region_sq [0, 1, 2, 3] (by kernel_rfl) ?_
  refine wpSq_call rfl (by kernel_rfl) fun K hK => ?_
  go_big_op; refine hK _ _ rfl ?_; clear hK K
  refine wpSq_call rfl (by kernel_rfl) fun K hK => ?_
  obtain ⟨d0, d1, d2, d3⟩ := x_b5.f4
  go_big_op; refine hK _ _ rfl ?_; clear hK K d0 d1 d2 d3
  refine wpSq_call rfl (by kernel_rfl) fun K hK => ?_
  go_big_op
  have lt_b4 := x_b4.lt
  have lt_b5 := x_b5.lt
  have lt_b6 := x_b6.lt
  obtain ⟨p_b7, w_26, eP, eW, x_b7, hn, kb_b7⟩ := newBox w_25 #[.bool false, .slice none 0 0] 26 hb.size
  have ne_b4_b7 : Hid (p_b4 ≠ p_b7) := Nat.ne_of_lt (eP ▸ lt_b4)
  have ne_b5_b7 : Hid (p_b5 ≠ p_b7) := Nat.ne_of_lt (eP ▸ lt_b5)
  have ne_b6_b7 : Hid (p_b6 ≠ p_b7) := Nat.ne_of_lt (eP ▸ lt_b6)
  rw [eW, eP]
  clear eW eP lt_b4 lt_b5 lt_b6
  replace g11 := g11.bl hn; replace g12 := g12.bl hn; replace x_b4 := x_b4.bl hn; replace g4 := g4.bl hn; replace x_b5 := x_b5.bl hn; replace x_b6 := x_b6.bl hn; replace g5 := g5.bl hn; replace g6 := g6.bl hn; replace hb := hb.trans (hn.mono hb.size)
  refine hK _ _ rfl ?_; clear hK K hn
  refine wpSq_call rfl (by kernel_rfl) fun K hK => ?_
  obtain ⟨d0, d1⟩ := x_b7.f2
  have f0 := x_b7.free 0; have f1 := x_b7.free 1
  go_big_op
  have hnd := x_b7.nod rfl rfl
  obtain ⟨w_27, eW, x_b7', ho⟩ : ∃ w', ((w_26.setCell ⟨p_b7, 0, none⟩ (.bool n_g1b)).setCell ⟨p_b7, 1, none⟩ (.slice o_g1b k_g1b c_g1b)) = w' ∧ Bs w' p_b7 #[.bool n_g1b, .slice o_g1b k_g1b c_g1b] 26 ∧ Only p_b7 w_26 w' := x_b7.setN [(0, .bool n_g1b), (1, .slice o_g1b k_g1b c_g1b)]
  rw [eW]; clear eW d0 d1 f0 f1 x_b7
  have x_b7 := x_b7'; clear x_b7'
  clear x_b6
  replace g11 := g11.fr hnd ho; replace g12 := g12.fr hnd ho; replace x_b4 := x_b4.frame ho ne_b4_b7; replace g4 := g4.fr hnd ho; replace x_b5 := x_b5.frame ho ne_b5_b7; replace g5 := g5.fr hnd ho; replace g6 := g6.fr hnd ho; replace hb := belowOnly hb ho kb_b7
  refine hK _ _ rfl ?_; clear hK K ho hnd
  apply wpSq_end
  refine hK14 _ _ ?_
  refine wp_seq_k ?_
  intro K15 hK15
  refine wp_region_fl2 [(0, false), (1, false), (4, false), (2, true), (3, true), (5, true), (6, false)] [] [] (fun _ => default) [0, 0, 99, 99, 1, 99, 99] [] (fun w' => w'.cell? ⟨p_b7, 0, none⟩ = some (.bool n_g1b) ∧ w'.cell? ⟨p_b7, 1, none⟩ = some (.slice o_g1b k_g1b c_g1b) ∧ w'.cell? ⟨p_b4, 0, none⟩ = some (.bool n_g4) ∧ w'.cell? ⟨p_b4, 1, none⟩ = some (.slice o_g4 k_g4 c_g4)) [fun w' => w'.cell? ⟨p_b7, 0, none⟩ = some (.bool n_g1b) ∧ w'.cell? ⟨p_b7, 1, none⟩ = some (.slice o_g1b k_g1b c_g1b), fun w' => w'.cell? ⟨p_b4, 0, none⟩ = some (.bool n_g4) ∧ w'.cell? ⟨p_b4, 1, none⟩ = some (.slice o_g4 k_g4 c_g4)] (by kernel_rfl) (by kernel_rfl) (by kernel_rfl) (by kernel_rfl) (by kernel_rfl) (by kernel_rfl) (by kernel_rfl) (by kernel_rfl) (by decide) (by intro j hj; cases hj) (by intro w' o hC; obtain ⟨c0, c1, c2, c3⟩ := hC; exact ⟨cell_alloc c0 o, cell_alloc c1 o, cell_alloc c2 o, cell_alloc c3 o⟩) (by intro w' hC G hG; obtain ⟨c0, c1, c2, c3⟩ := hC; simp only [List.mem_cons, List.not_mem_nil, or_false] at hG; rcases hG with rfl | rfl <;> first | exact ⟨c0, c1⟩ | exact ⟨c2, c3⟩) ?_
  have lt_b4 := x_b4.lt
  have lt_b5 := x_b5.lt
  have lt_b7 := x_b7.lt
  intro w_28 hn
  replace lt_b4 := Nat.lt_of_lt_of_le lt_b4 hn.size
  replace lt_b5 := Nat.lt_of_lt_of_le lt_b5 hn.size
  replace lt_b7 := Nat.lt_of_lt_of_le lt_b7 hn.size
  replace g11 := g11.bl hn; replace g12 := g12.bl hn; replace x_b4 := x_b4.bl hn; replace g4 := g4.bl hn; replace x_b5 := x_b5.bl hn; replace g5 := g5.bl hn; replace g6 := g6.bl hn; replace x_b7 := x_b7.bl hn; replace hb := hb.trans (hn.mono hb.size)
  clear hn
  have kb0 := hb.size
  refine ⟨⟨x_b7.cell 0 rfl, x_b7.cell 1 rfl, x_b4.cell 0 rfl, x_b4.cell 1 rfl⟩, ?_⟩
  apply wpFl_ld rfl rfl; (case h1 => intro w' hC K hK; obtain ⟨c0, c1⟩ := hC; go_big_op; exact hK); iterate 4 kernel_rfl
  apply wpFl_ld rfl rfl; (case h1 => intro w' hC K hK; obtain ⟨c0, c1⟩ := hC; go_big_op; exact hK); iterate 4 kernel_rfl
  apply wpFl_ld rfl rfl; (case h1 => intro w' hC K hK; obtain ⟨c0, c1⟩ := hC; go_big_op; exact hK); iterate 4 kernel_rfl
  refine wpFl_call rfl (by kernel_rfl) fun w_29 hn hC => ?_; clear hC
  replace g11 := g11.bl hn; replace g12 := g12.bl hn; replace x_b4 := x_b4.bl hn; replace g4 := g4.bl hn; replace x_b5 := x_b5.bl hn; replace g5 := g5.bl hn; replace g6 := g6.bl hn; replace x_b7 := x_b7.bl hn; replace hb := hb.trans (hn.mono hb.size)
  clear hn; intro K hK
  go_big_op
  go_fit (zadd_any (g12.zn Lg12.out) (g12.zn Lg12.out) (by omega) (by omega) )
  rintro e w_30 ⟨v_g7, rfl, g7, hb_30⟩
  replace g11 := g11.bl hb_30; replace g12 := g12.bl hb_30; replace x_b4 := x_b4.bl hb_30; replace g4 := g4.bl hb_30; replace x_b5 := x_b5.bl hb_30; replace g5 := g5.bl hb_30; replace g6 := g6.bl hb_30; replace x_b7 := x_b7.bl hb_30; replace hb := hb.trans (hb_30.mono hb.size)
  replace g7 := g7.rd
  obtain ⟨n_g7, o_g7, k_g7, c_g7, rfl⟩ := g7.open2
  have Lg7 := hide (g7.lenOf (zlen_add (Lg12.out) (Lg12.out)))
  refine hK _ _ rfl hb_30 ⟨x_b7.cell 0 rfl, x_b7.cell 1 rfl, x_b4.cell 0 rfl, x_b4.cell 1 rfl⟩ ?_
  clear hK K hb_30
  refine wpFl_call rfl (by kernel_rfl) fun w_31 hn hC => ?_; clear hC
  clear g5
  replace g11 := g11.bl hn; replace g12 := g12.bl hn; replace x_b4 := x_b4.bl hn; replace g4 := g4.bl hn; replace x_b5 := x_b5.bl hn; replace g6 := g6.bl hn; replace x_b7 := x_b7.bl hn; replace g7 := g7.bl hn; replace hb := hb.trans (hn.mono hb.size)
  clear hn; intro K hK
  go_big_op
  go_fit (zabs_any (g7.zn Lg7.out) (by omega) )
  rintro e w_32 ⟨v_g8, rfl, g8, hb_32⟩
  replace g11 := g11.bl hb_32; replace g12 := g12.bl hb_32; replace x_b4 := x_b4.bl hb_32; replace g4 := g4.bl hb_32; replace x_b5 := x_b5.bl hb_32; replace g6 := g6.bl hb_32; replace x_b7 := x_b7.bl hb_32; replace g7 := g7.bl hb_32; replace hb := hb.trans (hb_32.mono hb.size)
  replace g8 := g8.rd
  obtain ⟨n_g8, o_g8, k_g8, c_g8, rfl⟩ := g8.open2
  have Lg8 := hide (g8.lenOf (zlen_abs (Lg7.out)))
  refine hK _ _ rfl hb_32 ⟨x_b7.cell 0 rfl, x_b7.cell 1 rfl, x_b4.cell 0 rfl, x_b4.cell 1 rfl⟩ ?_
  clear hK K hb_32
  refine wpFl_call rfl (by kernel_rfl) fun w_33 hn hC => ?_; clear hC
  clear g6
  replace g11 := g11.bl hn; replace g12 := g12.bl hn; replace x_b4 := x_b4.bl hn; replace g4 := g4.bl hn; replace x_b5 := x_b5.bl hn; replace x_b7 := x_b7.bl hn; replace g7 := g7.bl hn; replace g8 := g8.bl hn; replace hb := hb.trans (hn.mono hb.size)
  clear hn; intro K hK
  go_big_op
  go_fit (zcmp_any (g8.zn Lg8.out) (g4.zn Lg4.out) (by omega) (by omega) )
  rintro e w_34 ⟨rfl, hb_34⟩
  replace g11 := g11.bl hb_34; replace g12 := g12.bl hb_34; replace x_b4 := x_b4.bl hb_34; replace g4 := g4.bl hb_34; replace x_b5 := x_b5.bl hb_34; replace x_b7 := x_b7.bl hb_34; replace g7 := g7.bl hb_34; replace g8 := g8.bl hb_34; replace hb := hb.trans (hb_34.mono hb.size)
  rw [HC2.out]
  refine hK _ _ rfl hb_34 ⟨x_b7.cell 0 rfl, x_b7.cell 1 rfl, x_b4.cell 0 rfl, x_b4.cell 1 rfl⟩ ?_
  clear hK K hb_34
  apply wpFl_ld rfl rfl; (case h1 => intro w' hC K hK; go_big_op; exact hK); iterate 4 kernel_rfl
  apply wpFl_end
  case ha => intro pt; simp only [putF]; rfl
  case h =>
  intro w_35 pt hn hC hF hD
  clear hC
  replace g11 := g11.bl hn; replace g12 := g12.bl hn; replace x_b4 := x_b4.bl hn; replace g4 := g4.bl hn; replace x_b5 := x_b5.bl hn; replace x_b7 := x_b7.bl hn; replace g7 := g7.bl hn; replace g8 := g8.bl hn; replace hb := hb.trans (hn.mono hb.size)
  clear hn
  clear hF hD
  clear pt
  clear kb0 lt_b4 lt_b5 lt_b7
  apply wpTail_end
  refine hK15 _ _ ?_
  refine wp_cond_true (congrArg Value.bool (show _ = true from (by first | rfl | assumption | (simp; done) | exact decide_eq_true (by omega) | omega))) ?_
  refine wp_seq_k ?_
  intro K16 hK16
  refine wp_region_sq [0] (by kernel_rfl) ?_
  refine wpSq_call rfl (by kernel_rfl) fun K hK => ?_
  go_big_move; refine hK _ _ rfl ?_; clear hK K
  apply wpSq_end
  refine hK16 _ _ ?_
  refine wp_ret ?_
  try dsimp only [Exit.then, Exit.inBlock]
  refine bodyPost_ret (v := (.bool false)) (by simp [results, Tryz.results83, go_sem]) rfl ?_
  exact ⟨rfl, hb⟩
end
end Go.Proofs.YtgjainmfilkjmaaGreatDoor
