/- gint: Cmp, IsUnit, Canon; the reference's. -/
import Derived.Test.YtgjainmfilkjmaaDoorG4
import Derived.Test.YtgjainmfilkjmaaDoorT1ToG6
namespace Go.Proofs.YtgjainmfilkjmaaDoor
open Go Go.RowKit Dig
set_option linter.unusedVariables false

def or3 (a b c : Int) : Int := if a ≠ 0 then a else if b ≠ 0 then b else c
/-- How two numbers compare. -/
def gcmp (x y u v : Int) : Int := or3 (zcmp (gN x y) (gN u v)) (zcmp x u) (zcmp y v)
section
variable {w : World} {va vb : Value} {x y u v : Int} {l m k n : Nat}
set_option maxHeartbeats 4000000 in
set_option maxRecDepth 20000 in
theorem cmpOr_a {p : Nat} {a b c : Int} (hx : Bs w p #[.int .i64 a, .int .i64 b, .int .i64 c] 3) (h1 : a ≠ 0) :
    Calls Tryd.prog 69 #[.slice (some ⟨p, 0, none⟩) 3 3] w fun e w' => e = .returned (.int .i64 a) ∧ Below w.heap.size w w' := by
  go_enter Tryd.func69, Tryd.ntmps69
  have hb := Below.refl w.heap.size w
  refine wp_seq_k ?_
  intro K1 hK1
  refine wp_region_sq [0] (by kernel_rfl) ?_
  refine wpSq_call rfl (by kernel_rfl) fun K hK => ?_
  go_big_move; refine hK _ _ rfl ?_; clear hK K
  apply wpSq_end
  refine hK1 _ _ ?_
  refine wp_seq_k ?_
  intro K2 hK2
  refine wp_region_sq [0] (by kernel_rfl) ?_
  refine wpSq_call rfl (by kernel_rfl) fun K hK => ?_
  go_big_move; refine hK _ _ rfl ?_; clear hK K
  apply wpSq_end
  refine hK2 _ _ ?_
  refine wp_seq_k ?_
  intro K3 hK3
  refine wp_seq_k ?_
  intro K4 hK4
  refine wp_region_sq [0, 1, 2] (by kernel_rfl) ?_
  refine wpSq_call rfl (by kernel_rfl) fun K hK => ?_
  go_big_move; refine hK _ _ rfl ?_; clear hK K
  refine wpSq_call rfl (by kernel_rfl) fun K hK => ?_
  go_big_op; refine hK _ _ rfl ?_; clear hK K
  refine wpSq_call rfl (by kernel_rfl) fun K hK => ?_
  go_big_move; refine hK _ _ rfl ?_; clear hK K
  apply wpSq_end
  refine hK4 _ _ ?_
  refine wp_block ?_
  refine wp_loop_rounds 4 ?_
  show Code.wp _ _ _ _ _
  refine wp_seq_k ?_
  intro K5 hK5
  refine wp_region_sq [0] (by kernel_rfl) ?_
  refine wpSq_call rfl (by kernel_rfl) fun K hK => ?_
  go_big_op; refine hK _ _ rfl ?_; clear hK K
  apply wpSq_end
  refine hK5 _ _ ?_
  refine wp_seq_k ?_
  intro K6 hK6
  refine wp_cond_true (congrArg Value.bool (show _ = true from (by first | rfl | assumption | (simp; done) | exact decide_eq_true (by omega) | omega))) ?_
  refine wp_skip ?_
  refine hK6 _ _ ?_
  refine wp_seq_k ?_
  intro K7 hK7
  refine wp_block ?_
  refine wp_seq_k ?_
  intro K8 hK8
  refine wp_region_sq [0, 1, 2] (by kernel_rfl) ?_
  refine wpSq_call rfl (by kernel_rfl) fun K hK => ?_
  go_big_op; refine hK _ _ rfl ?_; clear hK K
  refine wpSq_call rfl (by kernel_rfl) fun K hK => ?_
  have d0 : w.cell? ⟨p, 0, none⟩ = some (.int .i64 a) := hx.cell 0 rfl
  have d1 : w.cell? ⟨p, 1, none⟩ = some (.int .i64 b) := hx.cell 1 rfl
  have d2 : w.cell? ⟨p, 2, none⟩ = some (.int .i64 c) := hx.cell 2 rfl
  go_big_op; refine hK _ _ rfl ?_; clear hK K d0 d1 d2
  refine wpSq_call rfl (by kernel_rfl) fun K hK => ?_
  go_big_move; refine hK _ _ rfl ?_; clear hK K
  apply wpSq_end
  refine hK8 _ _ ?_
  refine wp_seq_k ?_
  intro K9 hK9
  refine wp_region_sq [0, 1, 2] (by kernel_rfl) ?_
  refine wpSq_call rfl (by kernel_rfl) fun K hK => ?_
  go_big_move; refine hK _ _ rfl ?_; clear hK K
  refine wpSq_call rfl (by kernel_rfl) fun K hK => ?_
  go_big_move; refine hK _ _ rfl ?_; clear hK K
  refine wpSq_call rfl (by kernel_rfl) fun K hK => ?_
  go_big_op; refine hK _ _ rfl ?_; clear hK K
  apply wpSq_end
  refine hK9 _ _ ?_
  refine wp_cond_true (congrArg Value.bool (show _ = true from (by simpa using h1))) ?_
  refine wp_seq_k ?_
  intro K10 hK10
  refine wp_region_sq [0, 1] (by kernel_rfl) ?_
  refine wpSq_call rfl (by kernel_rfl) fun K hK => ?_
  go_big_move; refine hK _ _ rfl ?_; clear hK K
  refine wpSq_call rfl (by kernel_rfl) fun K hK => ?_
  go_big_move; refine hK _ _ rfl ?_; clear hK K
  apply wpSq_end
  refine hK10 _ _ ?_
  refine wp_ret ?_
  try dsimp only [Exit.then, Exit.inBlock]
  refine bodyPost_ret (v := (.int .i64 a)) (by simp [results, Tryd.results69, go_sem]) rfl ?_
  exact ⟨rfl, hb⟩
set_option maxHeartbeats 4000000 in
set_option maxRecDepth 20000 in
theorem cmpOr_b {p : Nat} {b c : Int} (hx : Bs w p #[.int .i64 0, .int .i64 b, .int .i64 c] 3) (h2 : b ≠ 0) :
    Calls Tryd.prog 69 #[.slice (some ⟨p, 0, none⟩) 3 3] w fun e w' => e = .returned (.int .i64 b) ∧ Below w.heap.size w w' := by
  go_enter Tryd.func69, Tryd.ntmps69
  have hb := Below.refl w.heap.size w
  refine wp_seq_k ?_
  intro K1 hK1
  refine wp_region_sq [0] (by kernel_rfl) ?_
  refine wpSq_call rfl (by kernel_rfl) fun K hK => ?_
  go_big_move; refine hK _ _ rfl ?_; clear hK K
  apply wpSq_end
  refine hK1 _ _ ?_
  refine wp_seq_k ?_
  intro K2 hK2
  refine wp_region_sq [0] (by kernel_rfl) ?_
  refine wpSq_call rfl (by kernel_rfl) fun K hK => ?_
  go_big_move; refine hK _ _ rfl ?_; clear hK K
  apply wpSq_end
  refine hK2 _ _ ?_
  refine wp_seq_k ?_
  intro K3 hK3
  refine wp_seq_k ?_
  intro K4 hK4
  refine wp_region_sq [0, 1, 2] (by kernel_rfl) ?_
  refine wpSq_call rfl (by kernel_rfl) fun K hK => ?_
  go_big_move; refine hK _ _ rfl ?_; clear hK K
  refine wpSq_call rfl (by kernel_rfl) fun K hK => ?_
  go_big_op; refine hK _ _ rfl ?_; clear hK K
  refine wpSq_call rfl (by kernel_rfl) fun K hK => ?_
  go_big_move; refine hK _ _ rfl ?_; clear hK K
  apply wpSq_end
  refine hK4 _ _ ?_
  refine wp_block ?_
  refine wp_loop_rounds 4 ?_
  show Code.wp _ _ _ _ _
  refine wp_seq_k ?_
  intro K5 hK5
  refine wp_region_sq [0] (by kernel_rfl) ?_
  refine wpSq_call rfl (by kernel_rfl) fun K hK => ?_
  go_big_op; refine hK _ _ rfl ?_; clear hK K
  apply wpSq_end
  refine hK5 _ _ ?_
  refine wp_seq_k ?_
  intro K6 hK6
  refine wp_cond_true (congrArg Value.bool (show _ = true from (by first | rfl | assumption | (simp; done) | exact decide_eq_true (by omega) | omega))) ?_
  refine wp_skip ?_
  refine hK6 _ _ ?_
  refine wp_seq_k ?_
  intro K7 hK7
  refine wp_block ?_
  refine wp_seq_k ?_
  intro K8 hK8
  refine wp_region_sq [0, 1, 2] (by kernel_rfl) ?_
  refine wpSq_call rfl (by kernel_rfl) fun K hK => ?_
  go_big_op; refine hK _ _ rfl ?_; clear hK K
  refine wpSq_call rfl (by kernel_rfl) fun K hK => ?_
  have d0 : w.cell? ⟨p, 0, none⟩ = some (.int .i64 0) := hx.cell 0 rfl
  have d1 : w.cell? ⟨p, 1, none⟩ = some (.int .i64 b) := hx.cell 1 rfl
  have d2 : w.cell? ⟨p, 2, none⟩ = some (.int .i64 c) := hx.cell 2 rfl
  go_big_op; refine hK _ _ rfl ?_; clear hK K d0 d1 d2
  refine wpSq_call rfl (by kernel_rfl) fun K hK => ?_
  go_big_move; refine hK _ _ rfl ?_; clear hK K
  apply wpSq_end
  refine hK8 _ _ ?_
  refine wp_seq_k ?_
  intro K9 hK9
  refine wp_region_sq [0, 1, 2] (by kernel_rfl) ?_
  refine wpSq_call rfl (by kernel_rfl) fun K hK => ?_
  go_big_move; refine hK _ _ rfl ?_; clear hK K
  refine wpSq_call rfl (by kernel_rfl) fun K hK => ?_
  go_big_move; refine hK _ _ rfl ?_; clear hK K
  refine wpSq_call rfl (by kernel_rfl) fun K hK => ?_
  go_big_op; refine hK _ _ rfl ?_; clear hK K
  apply wpSq_end
  refine hK9 _ _ ?_
  refine wp_cond_false (congrArg Value.bool (show _ = false from (by first | rfl | assumption | (simp; done) | exact decide_eq_false (by omega) | omega))) ?_
  refine wp_skip ?_
  refine hK7 _ _ ?_
  refine wp_region_sq [0, 1] (by kernel_rfl) ?_
  refine wpSq_call rfl (by kernel_rfl) fun K hK => ?_
  go_big_op; refine hK _ _ rfl ?_; clear hK K
  refine wpSq_call rfl (by kernel_rfl) fun K hK => ?_
  go_big_move; refine hK _ _ rfl ?_; clear hK K
  apply wpSq_end
  show Code.wp _ _ _ _ _
  refine wp_seq_k ?_
  intro K10 hK10
  refine wp_region_sq [0] (by kernel_rfl) ?_
  refine wpSq_call rfl (by kernel_rfl) fun K hK => ?_
  go_big_op; refine hK _ _ rfl ?_; clear hK K
  apply wpSq_end
  refine hK10 _ _ ?_
  refine wp_seq_k ?_
  intro K11 hK11
  refine wp_cond_true (congrArg Value.bool (show _ = true from (by first | rfl | assumption | (simp; done) | exact decide_eq_true (by omega) | omega))) ?_
  refine wp_skip ?_
  refine hK11 _ _ ?_
  refine wp_seq_k ?_
  intro K12 hK12
  refine wp_block ?_
  refine wp_seq_k ?_
  intro K13 hK13
  refine wp_region_sq [0, 1, 2] (by kernel_rfl) ?_
  refine wpSq_call rfl (by kernel_rfl) fun K hK => ?_
  go_big_op; refine hK _ _ rfl ?_; clear hK K
  refine wpSq_call rfl (by kernel_rfl) fun K hK => ?_
  have d0 : w.cell? ⟨p, 0, none⟩ = some (.int .i64 0) := hx.cell 0 rfl
  have d1 : w.cell? ⟨p, 1, none⟩ = some (.int .i64 b) := hx.cell 1 rfl
  have d2 : w.cell? ⟨p, 2, none⟩ = some (.int .i64 c) := hx.cell 2 rfl
  go_big_op; refine hK _ _ rfl ?_; clear hK K d0 d1 d2
  refine wpSq_call rfl (by kernel_rfl) fun K hK => ?_
  go_big_move; refine hK _ _ rfl ?_; clear hK K
  apply wpSq_end
  refine hK13 _ _ ?_
  refine wp_seq_k ?_
  intro K14 hK14
  refine wp_region_sq [0, 1, 2] (by kernel_rfl) ?_
  refine wpSq_call rfl (by kernel_rfl) fun K hK => ?_
  go_big_move; refine hK _ _ rfl ?_; clear hK K
  refine wpSq_call rfl (by kernel_rfl) fun K hK => ?_
  go_big_move; refine hK _ _ rfl ?_; clear hK K
  refine wpSq_call rfl (by kernel_rfl) fun K hK => ?_
  go_big_op; refine hK _ _ rfl ?_; clear hK K
  apply wpSq_end
  refine hK14 _ _ ?_
  refine wp_cond_true (congrArg Value.bool (show _ = true from (by simpa using h2))) ?_
  refine wp_seq_k ?_
  intro K15 hK15
  refine wp_region_sq [0, 1] (by kernel_rfl) ?_
  refine wpSq_call rfl (by kernel_rfl) fun K hK => ?_
  go_big_move; refine hK _ _ rfl ?_; clear hK K
  refine wpSq_call rfl (by kernel_rfl) fun K hK => ?_
  go_big_move; refine hK _ _ rfl ?_; clear hK K
  apply wpSq_end
  refine hK15 _ _ ?_
  refine wp_ret ?_
  try dsimp only [Exit.then, Exit.inBlock]
  refine bodyPost_ret (v := (.int .i64 b)) (by simp [results, Tryd.results69, go_sem]) rfl ?_
  exact ⟨rfl, hb⟩
set_option maxHeartbeats 4000000 in
set_option maxRecDepth 20000 in
theorem cmpOr_cz {p : Nat} {c : Int} (hx : Bs w p #[.int .i64 0, .int .i64 0, .int .i64 0] 3) :
    Calls Tryd.prog 69 #[.slice (some ⟨p, 0, none⟩) 3 3] w fun e w' => e = .returned (.int .i64 0) ∧ Below w.heap.size w w' := by
  go_enter Tryd.func69, Tryd.ntmps69
  have hb := Below.refl w.heap.size w
  refine wp_seq_k ?_
  intro K1 hK1
  refine wp_region_sq [0] (by kernel_rfl) ?_
  refine wpSq_call rfl (by kernel_rfl) fun K hK => ?_
  go_big_move; refine hK _ _ rfl ?_; clear hK K
  apply wpSq_end
  refine hK1 _ _ ?_
  refine wp_seq_k ?_
  intro K2 hK2
  refine wp_region_sq [0] (by kernel_rfl) ?_
  refine wpSq_call rfl (by kernel_rfl) fun K hK => ?_
  go_big_move; refine hK _ _ rfl ?_; clear hK K
  apply wpSq_end
  refine hK2 _ _ ?_
  refine wp_seq_k ?_
  intro K3 hK3
  refine wp_seq_k ?_
  intro K4 hK4
  refine wp_region_sq [0, 1, 2] (by kernel_rfl) ?_
  refine wpSq_call rfl (by kernel_rfl) fun K hK => ?_
  go_big_move; refine hK _ _ rfl ?_; clear hK K
  refine wpSq_call rfl (by kernel_rfl) fun K hK => ?_
  go_big_op; refine hK _ _ rfl ?_; clear hK K
  refine wpSq_call rfl (by kernel_rfl) fun K hK => ?_
  go_big_move; refine hK _ _ rfl ?_; clear hK K
  apply wpSq_end
  refine hK4 _ _ ?_
  refine wp_block ?_
  refine wp_loop_rounds 4 ?_
  show Code.wp _ _ _ _ _
  refine wp_seq_k ?_
  intro K5 hK5
  refine wp_region_sq [0] (by kernel_rfl) ?_
  refine wpSq_call rfl (by kernel_rfl) fun K hK => ?_
  go_big_op; refine hK _ _ rfl ?_; clear hK K
  apply wpSq_end
  refine hK5 _ _ ?_
  refine wp_seq_k ?_
  intro K6 hK6
  refine wp_cond_true (congrArg Value.bool (show _ = true from (by first | rfl | assumption | (simp; done) | exact decide_eq_true (by omega) | omega))) ?_
  refine wp_skip ?_
  refine hK6 _ _ ?_
  refine wp_seq_k ?_
  intro K7 hK7
  refine wp_block ?_
  refine wp_seq_k ?_
  intro K8 hK8
  refine wp_region_sq [0, 1, 2] (by kernel_rfl) ?_
  refine wpSq_call rfl (by kernel_rfl) fun K hK => ?_
  go_big_op; refine hK _ _ rfl ?_; clear hK K
  refine wpSq_call rfl (by kernel_rfl) fun K hK => ?_
  have d0 : w.cell? ⟨p, 0, none⟩ = some (.int .i64 0) := hx.cell 0 rfl
  have d1 : w.cell? ⟨p, 1, none⟩ = some (.int .i64 0) := hx.cell 1 rfl
  have d2 : w.cell? ⟨p, 2, none⟩ = some (.int .i64 0) := hx.cell 2 rfl
  go_big_op; refine hK _ _ rfl ?_; clear hK K d0 d1 d2
  refine wpSq_call rfl (by kernel_rfl) fun K hK => ?_
  go_big_move; refine hK _ _ rfl ?_; clear hK K
  apply wpSq_end
  refine hK8 _ _ ?_
  refine wp_seq_k ?_
  intro K9 hK9
  refine wp_region_sq [0, 1, 2] (by kernel_rfl) ?_
  refine wpSq_call rfl (by kernel_rfl) fun K hK => ?_
  go_big_move; refine hK _ _ rfl ?_; clear hK K
  refine wpSq_call rfl (by kernel_rfl) fun K hK => ?_
  go_big_move; refine hK _ _ rfl ?_; clear hK K
  refine wpSq_call rfl (by kernel_rfl) fun K hK => ?_
  go_big_op; refine hK _ _ rfl ?_; clear hK K
  apply wpSq_end
  refine hK9 _ _ ?_
  refine wp_cond_false (congrArg Value.bool (show _ = false from (by first | rfl | assumption | (simp; done) | exact decide_eq_false (by omega) | omega))) ?_
  refine wp_skip ?_
  refine hK7 _ _ ?_
  refine wp_region_sq [0, 1] (by kernel_rfl) ?_
  refine wpSq_call rfl (by kernel_rfl) fun K hK => ?_
  go_big_op; refine hK _ _ rfl ?_; clear hK K
  refine wpSq_call rfl (by kernel_rfl) fun K hK => ?_
  go_big_move; refine hK _ _ rfl ?_; clear hK K
  apply wpSq_end
  show Code.wp _ _ _ _ _
  refine wp_seq_k ?_
  intro K10 hK10
  refine wp_region_sq [0] (by kernel_rfl) ?_
  refine wpSq_call rfl (by kernel_rfl) fun K hK => ?_
  go_big_op; refine hK _ _ rfl ?_; clear hK K
  apply wpSq_end
  refine hK10 _ _ ?_
  refine wp_seq_k ?_
  intro K11 hK11
  refine wp_cond_true (congrArg Value.bool (show _ = true from (by first | rfl | assumption | (simp; done) | exact decide_eq_true (by omega) | omega))) ?_
  refine wp_skip ?_
  refine hK11 _ _ ?_
  refine wp_seq_k ?_
  intro K12 hK12
  refine wp_block ?_
  refine wp_seq_k ?_
  intro K13 hK13
  refine wp_region_sq [0, 1, 2] (by kernel_rfl) ?_
  refine wpSq_call rfl (by kernel_rfl) fun K hK => ?_
  go_big_op; refine hK _ _ rfl ?_; clear hK K
  refine wpSq_call rfl (by kernel_rfl) fun K hK => ?_
  have d0 : w.cell? ⟨p, 0, none⟩ = some (.int .i64 0) := hx.cell 0 rfl
  have d1 : w.cell? ⟨p, 1, none⟩ = some (.int .i64 0) := hx.cell 1 rfl
  have d2 : w.cell? ⟨p, 2, none⟩ = some (.int .i64 0) := hx.cell 2 rfl
  go_big_op; refine hK _ _ rfl ?_; clear hK K d0 d1 d2
  refine wpSq_call rfl (by kernel_rfl) fun K hK => ?_
  go_big_move; refine hK _ _ rfl ?_; clear hK K
  apply wpSq_end
  refine hK13 _ _ ?_
  refine wp_seq_k ?_
  intro K14 hK14
  refine wp_region_sq [0, 1, 2] (by kernel_rfl) ?_
  refine wpSq_call rfl (by kernel_rfl) fun K hK => ?_
  go_big_move; refine hK _ _ rfl ?_; clear hK K
  refine wpSq_call rfl (by kernel_rfl) fun K hK => ?_
  go_big_move; refine hK _ _ rfl ?_; clear hK K
  refine wpSq_call rfl (by kernel_rfl) fun K hK => ?_
  go_big_op; refine hK _ _ rfl ?_; clear hK K
  apply wpSq_end
  refine hK14 _ _ ?_
  refine wp_cond_false (congrArg Value.bool (show _ = false from (by first | rfl | assumption | (simp; done) | exact decide_eq_false (by omega) | omega))) ?_
  refine wp_skip ?_
  refine hK12 _ _ ?_
  refine wp_region_sq [0, 1] (by kernel_rfl) ?_
  refine wpSq_call rfl (by kernel_rfl) fun K hK => ?_
  go_big_op; refine hK _ _ rfl ?_; clear hK K
  refine wpSq_call rfl (by kernel_rfl) fun K hK => ?_
  go_big_move; refine hK _ _ rfl ?_; clear hK K
  apply wpSq_end
  show Code.wp _ _ _ _ _
  refine wp_seq_k ?_
  intro K15 hK15
  refine wp_region_sq [0] (by kernel_rfl) ?_
  refine wpSq_call rfl (by kernel_rfl) fun K hK => ?_
  go_big_op; refine hK _ _ rfl ?_; clear hK K
  apply wpSq_end
  refine hK15 _ _ ?_
  refine wp_seq_k ?_
  intro K16 hK16
  refine wp_cond_true (congrArg Value.bool (show _ = true from (by first | rfl | assumption | (simp; done) | exact decide_eq_true (by omega) | omega))) ?_
  refine wp_skip ?_
  refine hK16 _ _ ?_
  refine wp_seq_k ?_
  intro K17 hK17
  refine wp_block ?_
  refine wp_seq_k ?_
  intro K18 hK18
  refine wp_region_sq [0, 1, 2] (by kernel_rfl) ?_
  refine wpSq_call rfl (by kernel_rfl) fun K hK => ?_
  go_big_op; refine hK _ _ rfl ?_; clear hK K
  refine wpSq_call rfl (by kernel_rfl) fun K hK => ?_
  have d0 : w.cell? ⟨p, 0, none⟩ = some (.int .i64 0) := hx.cell 0 rfl
  have d1 : w.cell? ⟨p, 1, none⟩ = some (.int .i64 0) := hx.cell 1 rfl
  have d2 : w.cell? ⟨p, 2, none⟩ = some (.int .i64 0) := hx.cell 2 rfl
  go_big_op; refine hK _ _ rfl ?_; clear hK K d0 d1 d2
  refine wpSq_call rfl (by kernel_rfl) fun K hK => ?_
  go_big_move; refine hK _ _ rfl ?_; clear hK K
  apply wpSq_end
  refine hK18 _ _ ?_
  refine wp_seq_k ?_
  intro K19 hK19
  refine wp_region_sq [0, 1, 2] (by kernel_rfl) ?_
  refine wpSq_call rfl (by kernel_rfl) fun K hK => ?_
  go_big_move; refine hK _ _ rfl ?_; clear hK K
  refine wpSq_call rfl (by kernel_rfl) fun K hK => ?_
  go_big_move; refine hK _ _ rfl ?_; clear hK K
  refine wpSq_call rfl (by kernel_rfl) fun K hK => ?_
  go_big_op; refine hK _ _ rfl ?_; clear hK K
  apply wpSq_end
  refine hK19 _ _ ?_
  refine wp_cond_false (congrArg Value.bool (show _ = false from (by first | rfl | assumption | (simp; done) | exact decide_eq_false (by omega) | omega))) ?_
  refine wp_skip ?_
  refine hK17 _ _ ?_
  refine wp_region_sq [0, 1] (by kernel_rfl) ?_
  refine wpSq_call rfl (by kernel_rfl) fun K hK => ?_
  go_big_op; refine hK _ _ rfl ?_; clear hK K
  refine wpSq_call rfl (by kernel_rfl) fun K hK => ?_
  go_big_move; refine hK _ _ rfl ?_; clear hK K
  apply wpSq_end
  show Code.wp _ _ _ _ _
  refine wp_seq_k ?_
  intro K20 hK20
  refine wp_region_sq [0] (by kernel_rfl) ?_
  refine wpSq_call rfl (by kernel_rfl) fun K hK => ?_
  go_big_op; refine hK _ _ rfl ?_; clear hK K
  apply wpSq_end
  refine hK20 _ _ ?_
  refine wp_seq_k ?_
  intro K21 hK21
  refine wp_cond_false (congrArg Value.bool (show _ = false from (by first | rfl | assumption | (simp; done) | exact decide_eq_false (by omega) | omega))) ?_
  refine wp_exit ?_
  refine hK3 _ _ ?_
  refine wp_seq_k ?_
  intro K22 hK22
  refine wp_region_sq [0, 1] (by kernel_rfl) ?_
  refine wpSq_call rfl (by kernel_rfl) fun K hK => ?_
  go_big_move; refine hK _ _ rfl ?_; clear hK K
  refine wpSq_call rfl (by kernel_rfl) fun K hK => ?_
  go_big_move; refine hK _ _ rfl ?_; clear hK K
  apply wpSq_end
  refine hK22 _ _ ?_
  refine wp_ret ?_
  try dsimp only [Exit.then, Exit.inBlock]
  refine bodyPost_ret (v := (.int .i64 0)) (by simp [results, Tryd.results69, go_sem]) rfl ?_
  exact ⟨rfl, hb⟩
set_option maxHeartbeats 4000000 in
set_option maxRecDepth 20000 in
theorem cmpOr_cn {p : Nat} {c : Int} (hx : Bs w p #[.int .i64 0, .int .i64 0, .int .i64 c] 3) (h3 : c ≠ 0) :
    Calls Tryd.prog 69 #[.slice (some ⟨p, 0, none⟩) 3 3] w fun e w' => e = .returned (.int .i64 c) ∧ Below w.heap.size w w' := by
  go_enter Tryd.func69, Tryd.ntmps69
  have hb := Below.refl w.heap.size w
  refine wp_seq_k ?_
  intro K1 hK1
  refine wp_region_sq [0] (by kernel_rfl) ?_
  refine wpSq_call rfl (by kernel_rfl) fun K hK => ?_
  go_big_move; refine hK _ _ rfl ?_; clear hK K
  apply wpSq_end
  refine hK1 _ _ ?_
  refine wp_seq_k ?_
  intro K2 hK2
  refine wp_region_sq [0] (by kernel_rfl) ?_
  refine wpSq_call rfl (by kernel_rfl) fun K hK => ?_
  go_big_move; refine hK _ _ rfl ?_; clear hK K
  apply wpSq_end
  refine hK2 _ _ ?_
  refine wp_seq_k ?_
  intro K3 hK3
  refine wp_seq_k ?_
  intro K4 hK4
  refine wp_region_sq [0, 1, 2] (by kernel_rfl) ?_
  refine wpSq_call rfl (by kernel_rfl) fun K hK => ?_
  go_big_move; refine hK _ _ rfl ?_; clear hK K
  refine wpSq_call rfl (by kernel_rfl) fun K hK => ?_
  go_big_op; refine hK _ _ rfl ?_; clear hK K
  refine wpSq_call rfl (by kernel_rfl) fun K hK => ?_
  go_big_move; refine hK _ _ rfl ?_; clear hK K
  apply wpSq_end
  refine hK4 _ _ ?_
  refine wp_block ?_
  refine wp_loop_rounds 4 ?_
  show Code.wp _ _ _ _ _
  refine wp_seq_k ?_
  intro K5 hK5
  refine wp_region_sq [0] (by kernel_rfl) ?_
  refine wpSq_call rfl (by kernel_rfl) fun K hK => ?_
  go_big_op; refine hK _ _ rfl ?_; clear hK K
  apply wpSq_end
  refine hK5 _ _ ?_
  refine wp_seq_k ?_
  intro K6 hK6
  refine wp_cond_true (congrArg Value.bool (show _ = true from (by first | rfl | assumption | (simp; done) | exact decide_eq_true (by omega) | omega))) ?_
  refine wp_skip ?_
  refine hK6 _ _ ?_
  refine wp_seq_k ?_
  intro K7 hK7
  refine wp_block ?_
  refine wp_seq_k ?_
  intro K8 hK8
  refine wp_region_sq [0, 1, 2] (by kernel_rfl) ?_
  refine wpSq_call rfl (by kernel_rfl) fun K hK => ?_
  go_big_op; refine hK _ _ rfl ?_; clear hK K
  refine wpSq_call rfl (by kernel_rfl) fun K hK => ?_
  have d0 : w.cell? ⟨p, 0, none⟩ = some (.int .i64 0) := hx.cell 0 rfl
  have d1 : w.cell? ⟨p, 1, none⟩ = some (.int .i64 0) := hx.cell 1 rfl
  have d2 : w.cell? ⟨p, 2, none⟩ = some (.int .i64 c) := hx.cell 2 rfl
  go_big_op; refine hK _ _ rfl ?_; clear hK K d0 d1 d2
  refine wpSq_call rfl (by kernel_rfl) fun K hK => ?_
  go_big_move; refine hK _ _ rfl ?_; clear hK K
  apply wpSq_end
  refine hK8 _ _ ?_
  refine wp_seq_k ?_
  intro K9 hK9
  refine wp_region_sq [0, 1, 2] (by kernel_rfl) ?_
  refine wpSq_call rfl (by kernel_rfl) fun K hK => ?_
  go_big_move; refine hK _ _ rfl ?_; clear hK K
  refine wpSq_call rfl (by kernel_rfl) fun K hK => ?_
  go_big_move; refine hK _ _ rfl ?_; clear hK K
  refine wpSq_call rfl (by kernel_rfl) fun K hK => ?_
  go_big_op; refine hK _ _ rfl ?_; clear hK K
  apply wpSq_end
  refine hK9 _ _ ?_
  refine wp_cond_false (congrArg Value.bool (show _ = false from (by first | rfl | assumption | (simp; done) | exact decide_eq_false (by omega) | omega))) ?_
  refine wp_skip ?_
  refine hK7 _ _ ?_
  refine wp_region_sq [0, 1] (by kernel_rfl) ?_
  refine wpSq_call rfl (by kernel_rfl) fun K hK => ?_
  go_big_op; refine hK _ _ rfl ?_; clear hK K
  refine wpSq_call rfl (by kernel_rfl) fun K hK => ?_
  go_big_move; refine hK _ _ rfl ?_; clear hK K
  apply wpSq_end
  show Code.wp _ _ _ _ _
  refine wp_seq_k ?_
  intro K10 hK10
  refine wp_region_sq [0] (by kernel_rfl) ?_
  refine wpSq_call rfl (by kernel_rfl) fun K hK => ?_
  go_big_op; refine hK _ _ rfl ?_; clear hK K
  apply wpSq_end
  refine hK10 _ _ ?_
  refine wp_seq_k ?_
  intro K11 hK11
  refine wp_cond_true (congrArg Value.bool (show _ = true from (by first | rfl | assumption | (simp; done) | exact decide_eq_true (by omega) | omega))) ?_
  refine wp_skip ?_
  refine hK11 _ _ ?_
  refine wp_seq_k ?_
  intro K12 hK12
  refine wp_block ?_
  refine wp_seq_k ?_
  intro K13 hK13
  refine wp_region_sq [0, 1, 2] (by kernel_rfl) ?_
  refine wpSq_call rfl (by kernel_rfl) fun K hK => ?_
  go_big_op; refine hK _ _ rfl ?_; clear hK K
  refine wpSq_call rfl (by kernel_rfl) fun K hK => ?_
  have d0 : w.cell? ⟨p, 0, none⟩ = some (.int .i64 0) := hx.cell 0 rfl
  have d1 : w.cell? ⟨p, 1, none⟩ = some (.int .i64 0) := hx.cell 1 rfl
  have d2 : w.cell? ⟨p, 2, none⟩ = some (.int .i64 c) := hx.cell 2 rfl
  go_big_op; refine hK _ _ rfl ?_; clear hK K d0 d1 d2
  refine wpSq_call rfl (by kernel_rfl) fun K hK => ?_
  go_big_move; refine hK _ _ rfl ?_; clear hK K
  apply wpSq_end
  refine hK13 _ _ ?_
  refine wp_seq_k ?_
  intro K14 hK14
  refine wp_region_sq [0, 1, 2] (by kernel_rfl) ?_
  refine wpSq_call rfl (by kernel_rfl) fun K hK => ?_
  go_big_move; refine hK _ _ rfl ?_; clear hK K
  refine wpSq_call rfl (by kernel_rfl) fun K hK => ?_
  go_big_move; refine hK _ _ rfl ?_; clear hK K
  refine wpSq_call rfl (by kernel_rfl) fun K hK => ?_
  go_big_op; refine hK _ _ rfl ?_; clear hK K
  apply wpSq_end
  refine hK14 _ _ ?_
  refine wp_cond_false (congrArg Value.bool (show _ = false from (by first | rfl | assumption | (simp; done) | exact decide_eq_false (by omega) | omega))) ?_
  refine wp_skip ?_
  refine hK12 _ _ ?_
  refine wp_region_sq [0, 1] (by kernel_rfl) ?_
  refine wpSq_call rfl (by kernel_rfl) fun K hK => ?_
  go_big_op; refine hK _ _ rfl ?_; clear hK K
  refine wpSq_call rfl (by kernel_rfl) fun K hK => ?_
  go_big_move; refine hK _ _ rfl ?_; clear hK K
  apply wpSq_end
  show Code.wp _ _ _ _ _
  refine wp_seq_k ?_
  intro K15 hK15
  refine wp_region_sq [0] (by kernel_rfl) ?_
  refine wpSq_call rfl (by kernel_rfl) fun K hK => ?_
  go_big_op; refine hK _ _ rfl ?_; clear hK K
  apply wpSq_end
  refine hK15 _ _ ?_
  refine wp_seq_k ?_
  intro K16 hK16
  refine wp_cond_true (congrArg Value.bool (show _ = true from (by first | rfl | assumption | (simp; done) | exact decide_eq_true (by omega) | omega))) ?_
  refine wp_skip ?_
  refine hK16 _ _ ?_
  refine wp_seq_k ?_
  intro K17 hK17
  refine wp_block ?_
  refine wp_seq_k ?_
  intro K18 hK18
  refine wp_region_sq [0, 1, 2] (by kernel_rfl) ?_
  refine wpSq_call rfl (by kernel_rfl) fun K hK => ?_
  go_big_op; refine hK _ _ rfl ?_; clear hK K
  refine wpSq_call rfl (by kernel_rfl) fun K hK => ?_
  have d0 : w.cell? ⟨p, 0, none⟩ = some (.int .i64 0) := hx.cell 0 rfl
  have d1 : w.cell? ⟨p, 1, none⟩ = some (.int .i64 0) := hx.cell 1 rfl
  have d2 : w.cell? ⟨p, 2, none⟩ = some (.int .i64 c) := hx.cell 2 rfl
  go_big_op; refine hK _ _ rfl ?_; clear hK K d0 d1 d2
  refine wpSq_call rfl (by kernel_rfl) fun K hK => ?_
  go_big_move; refine hK _ _ rfl ?_; clear hK K
  apply wpSq_end
  refine hK18 _ _ ?_
  refine wp_seq_k ?_
  intro K19 hK19
  refine wp_region_sq [0, 1, 2] (by kernel_rfl) ?_
  refine wpSq_call rfl (by kernel_rfl) fun K hK => ?_
  go_big_move; refine hK _ _ rfl ?_; clear hK K
  refine wpSq_call rfl (by kernel_rfl) fun K hK => ?_
  go_big_move; refine hK _ _ rfl ?_; clear hK K
  refine wpSq_call rfl (by kernel_rfl) fun K hK => ?_
  go_big_op; refine hK _ _ rfl ?_; clear hK K
  apply wpSq_end
  refine hK19 _ _ ?_
  refine wp_cond_true (congrArg Value.bool (show _ = true from (by simpa using h3))) ?_
  refine wp_seq_k ?_
  intro K20 hK20
  refine wp_region_sq [0, 1] (by kernel_rfl) ?_
  refine wpSq_call rfl (by kernel_rfl) fun K hK => ?_
  go_big_move; refine hK _ _ rfl ?_; clear hK K
  refine wpSq_call rfl (by kernel_rfl) fun K hK => ?_
  go_big_move; refine hK _ _ rfl ?_; clear hK K
  apply wpSq_end
  refine hK20 _ _ ?_
  refine wp_ret ?_
  try dsimp only [Exit.then, Exit.inBlock]
  refine bodyPost_ret (v := (.int .i64 c)) (by simp [results, Tryd.results69, go_sem]) rfl ?_
  exact ⟨rfl, hb⟩
theorem cmpOr_any {p : Nat} {a b c : Int} (hx : Bs w p #[.int .i64 a, .int .i64 b, .int .i64 c] 3) :
    Calls Tryd.prog 69 #[.slice (some ⟨p, 0, none⟩) 3 3] w fun e w' => e = .returned (.int .i64 (or3 a b c)) ∧ Below w.heap.size w w' := by
  unfold or3
  by_cases h1 : a = 0
  · subst h1
    rw [if_neg (by simp)]
    by_cases h2 : b = 0
    · subst h2
      rw [if_neg (by simp)]
      by_cases h3 : c = 0
      · subst h3; exact cmpOr_cz (c := 0) hx
      · exact cmpOr_cn hx h3
    · rw [if_pos h2]; exact cmpOr_b hx h2
  · rw [if_pos h1]; exact cmpOr_a hx h1
set_option maxHeartbeats 4000000 in
set_option maxRecDepth 20000 in
theorem gCmp_any (ha : PN w va x l y m) (hq : PN w vb u k v n) (hl : l ≤ 40000000) (hm : m ≤ 40000000) (hk : k ≤ 40000000) (hn : n ≤ 40000000) :
    Calls Tryd.prog 32 #[va, vb] w fun e w' => e = .returned (.int .i64 (gcmp x y u v)) ∧ Below w.heap.size w w' := by
  obtain ⟨A, hA⟩ : ∃ A, zcmp (gN x y) (gN u v) = A := ⟨_, rfl⟩
  obtain ⟨B, hB⟩ : ∃ B, zcmp x u = B := ⟨_, rfl⟩
  obtain ⟨C, hC⟩ : ∃ C, zcmp y v = C := ⟨_, rfl⟩
  have HA := hide hA
  have HB := hide hB
  have HC := hide hC
  obtain ⟨R, hR⟩ : ∃ R, or3 A B C = R := ⟨_, rfl⟩
  have HR := hide hR
  have E : gcmp x y u v = R := by unfold gcmp; rw [hA, hB, hC, hR]
  rw [E]
  clear hA hB hC hR E
  obtain ⟨n_0a, o_0a, k_0a, c_0a, n_0b, o_0b, k_0b, c_0b, rfl, ha1, ha2⟩ := ha
  obtain ⟨n_1a, o_1a, k_1a, c_1a, n_1b, o_1b, k_1b, c_1b, rfl, hq1, hq2⟩ := hq
  go_enter Tryd.func32, Tryd.ntmps32
  have hb := Below.refl w.heap.size w
  refine wp_seq_k ?_
  intro K1 hK1
  refine wp_region_sq [0, 1, 2] (by kernel_rfl) ?_
  refine wpSq_call rfl (by kernel_rfl) fun K hK => ?_
  go_big_op
  obtain ⟨p_b1, w_1, eP, eW, x_b1, hn, kb_b1⟩ := newBox w #[.bool n_0a, .slice o_0a k_0a c_0a, .bool n_0b, .slice o_0b k_0b c_0b] 26 hb.size
  rw [eW, eP]
  clear eW eP
  replace ha1 := ha1.bl hn; replace ha2 := ha2.bl hn; replace hq1 := hq1.bl hn; replace hq2 := hq2.bl hn; replace hb := hb.trans (hn.mono hb.size)
  refine hK _ _ rfl ?_; clear hK K hn
  refine wpSq_call rfl (by kernel_rfl) fun K hK => ?_
  go_big_op
  have lt_b1 := x_b1.lt
  obtain ⟨p_b2, w_2, eP, eW, x_b2, hn, kb_b2⟩ := newBox w_1 #[.bool n_1a, .slice o_1a k_1a c_1a, .bool n_1b, .slice o_1b k_1b c_1b] 26 hb.size
  have ne_b1_b2 : Hid (p_b1 ≠ p_b2) := Nat.ne_of_lt (eP ▸ lt_b1)
  rw [eW, eP]
  clear eW eP lt_b1
  replace ha1 := ha1.bl hn; replace ha2 := ha2.bl hn; replace hq1 := hq1.bl hn; replace hq2 := hq2.bl hn; replace x_b1 := x_b1.bl hn; replace hb := hb.trans (hn.mono hb.size)
  refine hK _ _ rfl ?_; clear hK K hn
  refine wpSq_call rfl (by kernel_rfl) fun K hK => ?_
  go_big_move; refine hK _ _ rfl ?_; clear hK K
  apply wpSq_end
  refine hK1 _ _ ?_
  refine wp_seq_k ?_
  intro K2 hK2
  refine wp_region_fl2 [(0, false), (2, false), (5, false), (6, false), (7, false), (8, false), (10, false), (11, false), (12, false), (13, false), (1, true), (3, true), (4, true), (9, true), (14, true), (15, true), (16, true), (17, false)] [] [] (fun _ => default) [0, 99, 1, 99, 99, 99, 0, 99, 1, 99, 99, 0, 99, 1, 99, 99, 99, 99] [] (fun w' => w'.cell? ⟨p_b1, 0, none⟩ = some (.bool n_0a) ∧ w'.cell? ⟨p_b1, 1, none⟩ = some (.slice o_0a k_0a c_0a) ∧ w'.cell? ⟨p_b1, 2, none⟩ = some (.bool n_0b) ∧ w'.cell? ⟨p_b1, 3, none⟩ = some (.slice o_0b k_0b c_0b) ∧ w'.cell? ⟨p_b2, 0, none⟩ = some (.bool n_1a) ∧ w'.cell? ⟨p_b2, 1, none⟩ = some (.slice o_1a k_1a c_1a) ∧ w'.cell? ⟨p_b2, 2, none⟩ = some (.bool n_1b) ∧ w'.cell? ⟨p_b2, 3, none⟩ = some (.slice o_1b k_1b c_1b)) [fun w' => w'.cell? ⟨p_b1, 0, none⟩ = some (.bool n_0a) ∧ w'.cell? ⟨p_b1, 1, none⟩ = some (.slice o_0a k_0a c_0a) ∧ w'.cell? ⟨p_b1, 2, none⟩ = some (.bool n_0b) ∧ w'.cell? ⟨p_b1, 3, none⟩ = some (.slice o_0b k_0b c_0b), fun w' => w'.cell? ⟨p_b2, 0, none⟩ = some (.bool n_1a) ∧ w'.cell? ⟨p_b2, 1, none⟩ = some (.slice o_1a k_1a c_1a) ∧ w'.cell? ⟨p_b2, 2, none⟩ = some (.bool n_1b) ∧ w'.cell? ⟨p_b2, 3, none⟩ = some (.slice o_1b k_1b c_1b)] (by kernel_rfl) (by kernel_rfl) (by kernel_rfl) (by kernel_rfl) (by kernel_rfl) (by kernel_rfl) (by kernel_rfl) (by kernel_rfl) (by decide) (by intro j hj; cases hj) (by intro w' o hC; obtain ⟨c0, c1, c2, c3, c4, c5, c6, c7⟩ := hC; exact ⟨cell_alloc c0 o, cell_alloc c1 o, cell_alloc c2 o, cell_alloc c3 o, cell_alloc c4 o, cell_alloc c5 o, cell_alloc c6 o, cell_alloc c7 o⟩) (by intro w' hC G hG; obtain ⟨c0, c1, c2, c3, c4, c5, c6, c7⟩ := hC; simp only [List.mem_cons, List.not_mem_nil, or_false] at hG; rcases hG with rfl | rfl <;> first | exact ⟨c0, c1, c2, c3⟩ | exact ⟨c4, c5, c6, c7⟩) ?_
  have lt_b1 := x_b1.lt
  have lt_b2 := x_b2.lt
  intro w_3 hn
  replace lt_b1 := Nat.lt_of_lt_of_le lt_b1 hn.size
  replace lt_b2 := Nat.lt_of_lt_of_le lt_b2 hn.size
  replace ha1 := ha1.bl hn; replace ha2 := ha2.bl hn; replace hq1 := hq1.bl hn; replace hq2 := hq2.bl hn; replace x_b1 := x_b1.bl hn; replace x_b2 := x_b2.bl hn; replace hb := hb.trans (hn.mono hb.size)
  clear hn
  have kb0 := hb.size
  refine ⟨⟨x_b1.cell 0 rfl, x_b1.cell 1 rfl, x_b1.cell 2 rfl, x_b1.cell 3 rfl, x_b2.cell 0 rfl, x_b2.cell 1 rfl, x_b2.cell 2 rfl, x_b2.cell 3 rfl⟩, ?_⟩
  apply wpFl_ld rfl rfl; (case h1 => intro w' hC K hK; obtain ⟨c0, c1, c2, c3⟩ := hC; go_big_op; exact hK); iterate 4 kernel_rfl
  apply wpFl_ld rfl rfl; (case h1 => intro w' hC K hK; obtain ⟨c0, c1, c2, c3⟩ := hC; go_big_op; exact hK); iterate 4 kernel_rfl
  apply wpFl_ld rfl rfl; (case h1 => intro w' hC K hK; go_big_op; exact hK); iterate 4 kernel_rfl
  apply wpFl_ld rfl rfl; (case h1 => intro w' hC K hK; obtain ⟨c0, c1, c2, c3⟩ := hC; go_big_op; exact hK); iterate 4 kernel_rfl
  apply wpFl_ld rfl rfl; (case h1 => intro w' hC K hK; go_big_op; exact hK); iterate 4 kernel_rfl
  apply wpFl_ld rfl rfl; (case h1 => intro w' hC K hK; obtain ⟨c0, c1, c2, c3⟩ := hC; go_big_op; exact hK); iterate 4 kernel_rfl
  apply wpFl_ld rfl rfl; (case h1 => intro w' hC K hK; go_big_op; exact hK); iterate 4 kernel_rfl
  apply wpFl_ld rfl rfl; (case h1 => intro w' hC K hK; obtain ⟨c0, c1, c2, c3⟩ := hC; go_big_op; exact hK); iterate 4 kernel_rfl
  apply wpFl_ld rfl rfl; (case h1 => intro w' hC K hK; go_big_op; exact hK); iterate 4 kernel_rfl
  apply wpFl_ld rfl rfl; (case h1 => intro w' hC K hK; obtain ⟨c0, c1, c2, c3⟩ := hC; go_big_op; exact hK); iterate 4 kernel_rfl
  refine wpFl_call rfl (by kernel_rfl) fun w_4 hn hC => ?_; clear hC
  replace ha1 := ha1.bl hn; replace ha2 := ha2.bl hn; replace hq1 := hq1.bl hn; replace hq2 := hq2.bl hn; replace x_b1 := x_b1.bl hn; replace x_b2 := x_b2.bl hn; replace hb := hb.trans (hn.mono hb.size)
  clear hn; intro K hK
  go_big_op
  go_fit (gNorm_any (PN.mk' ha1 ha2) (by omega) (by omega) )
  rintro e w_5 ⟨v_g, rfl, g, hb_5⟩
  replace ha1 := ha1.bl hb_5; replace ha2 := ha2.bl hb_5; replace hq1 := hq1.bl hb_5; replace hq2 := hq2.bl hb_5; replace x_b1 := x_b1.bl hb_5; replace x_b2 := x_b2.bl hb_5; replace hb := hb.trans (hb_5.mono hb.size)
  obtain ⟨n_g, o_g, k_g, c_g, rfl⟩ := g.open2
  have Lg := hide (g.lenOf (zlen_add (zlen_mul (ha1.len) (ha1.len)) (zlen_mul (ha2.len) (ha2.len))))
  refine hK _ _ rfl hb_5 ⟨x_b1.cell 0 rfl, x_b1.cell 1 rfl, x_b1.cell 2 rfl, x_b1.cell 3 rfl, x_b2.cell 0 rfl, x_b2.cell 1 rfl, x_b2.cell 2 rfl, x_b2.cell 3 rfl⟩ ?_
  clear hK K hb_5
  refine wpFl_call rfl (by kernel_rfl) fun w_6 hn hC => ?_; clear hC
  replace ha1 := ha1.bl hn; replace ha2 := ha2.bl hn; replace hq1 := hq1.bl hn; replace hq2 := hq2.bl hn; replace x_b1 := x_b1.bl hn; replace x_b2 := x_b2.bl hn; replace g := g.bl hn; replace hb := hb.trans (hn.mono hb.size)
  clear hn; intro K hK
  go_big_op
  go_fit (gNorm_any (PN.mk' hq1 hq2) (by omega) (by omega) )
  rintro e w_7 ⟨v_h, rfl, h, hb_7⟩
  replace ha1 := ha1.bl hb_7; replace ha2 := ha2.bl hb_7; replace hq1 := hq1.bl hb_7; replace hq2 := hq2.bl hb_7; replace x_b1 := x_b1.bl hb_7; replace x_b2 := x_b2.bl hb_7; replace g := g.bl hb_7; replace hb := hb.trans (hb_7.mono hb.size)
  obtain ⟨n_h, o_h, k_h, c_h, rfl⟩ := h.open2
  have Lh := hide (h.lenOf (zlen_add (zlen_mul (hq1.len) (hq1.len)) (zlen_mul (hq2.len) (hq2.len))))
  refine hK _ _ rfl hb_7 ⟨x_b1.cell 0 rfl, x_b1.cell 1 rfl, x_b1.cell 2 rfl, x_b1.cell 3 rfl, x_b2.cell 0 rfl, x_b2.cell 1 rfl, x_b2.cell 2 rfl, x_b2.cell 3 rfl⟩ ?_
  clear hK K hb_7
  refine wpFl_call rfl (by kernel_rfl) fun w_8 hn hC => ?_; clear hC
  replace ha1 := ha1.bl hn; replace ha2 := ha2.bl hn; replace hq1 := hq1.bl hn; replace hq2 := hq2.bl hn; replace x_b1 := x_b1.bl hn; replace x_b2 := x_b2.bl hn; replace g := g.bl hn; replace h := h.bl hn; replace hb := hb.trans (hn.mono hb.size)
  clear hn; intro K hK
  go_big_op
  go_fit (zcmp_any (g.zn Lg.out) (h.zn Lh.out) (by omega) (by omega))
  rintro e w_9 ⟨rfl, hb_9⟩
  replace ha1 := ha1.bl hb_9; replace ha2 := ha2.bl hb_9; replace hq1 := hq1.bl hb_9; replace hq2 := hq2.bl hb_9; replace x_b1 := x_b1.bl hb_9; replace x_b2 := x_b2.bl hb_9; replace g := g.bl hb_9; replace h := h.bl hb_9; replace hb := hb.trans (hb_9.mono hb.size)
  rw [HA.out]
  refine hK _ _ rfl hb_9 ⟨x_b1.cell 0 rfl, x_b1.cell 1 rfl, x_b1.cell 2 rfl, x_b1.cell 3 rfl, x_b2.cell 0 rfl, x_b2.cell 1 rfl, x_b2.cell 2 rfl, x_b2.cell 3 rfl⟩ ?_
  clear hK K hb_9
  refine wpFl_call rfl (by kernel_rfl) fun w_10 hn hC => ?_; clear hC
  clear g h
  replace ha1 := ha1.bl hn; replace ha2 := ha2.bl hn; replace hq1 := hq1.bl hn; replace hq2 := hq2.bl hn; replace x_b1 := x_b1.bl hn; replace x_b2 := x_b2.bl hn; replace hb := hb.trans (hn.mono hb.size)
  clear hn; intro K hK
  go_big_op
  go_fit (zcmp_any ha1 hq1 (by omega) (by omega))
  rintro e w_11 ⟨rfl, hb_11⟩
  replace ha1 := ha1.bl hb_11; replace ha2 := ha2.bl hb_11; replace hq1 := hq1.bl hb_11; replace hq2 := hq2.bl hb_11; replace x_b1 := x_b1.bl hb_11; replace x_b2 := x_b2.bl hb_11; replace hb := hb.trans (hb_11.mono hb.size)
  rw [HB.out]
  refine hK _ _ rfl hb_11 ⟨x_b1.cell 0 rfl, x_b1.cell 1 rfl, x_b1.cell 2 rfl, x_b1.cell 3 rfl, x_b2.cell 0 rfl, x_b2.cell 1 rfl, x_b2.cell 2 rfl, x_b2.cell 3 rfl⟩ ?_
  clear hK K hb_11
  refine wpFl_call rfl (by kernel_rfl) fun w_12 hn hC => ?_; clear hC
  replace ha1 := ha1.bl hn; replace ha2 := ha2.bl hn; replace hq1 := hq1.bl hn; replace hq2 := hq2.bl hn; replace x_b1 := x_b1.bl hn; replace x_b2 := x_b2.bl hn; replace hb := hb.trans (hn.mono hb.size)
  clear hn; intro K hK
  go_big_op
  go_fit (zcmp_any ha2 hq2 (by omega) (by omega))
  rintro e w_13 ⟨rfl, hb_13⟩
  replace ha1 := ha1.bl hb_13; replace ha2 := ha2.bl hb_13; replace hq1 := hq1.bl hb_13; replace hq2 := hq2.bl hb_13; replace x_b1 := x_b1.bl hb_13; replace x_b2 := x_b2.bl hb_13; replace hb := hb.trans (hb_13.mono hb.size)
  rw [HC.out]
  refine hK _ _ rfl hb_13 ⟨x_b1.cell 0 rfl, x_b1.cell 1 rfl, x_b1.cell 2 rfl, x_b1.cell 3 rfl, x_b2.cell 0 rfl, x_b2.cell 1 rfl, x_b2.cell 2 rfl, x_b2.cell 3 rfl⟩ ?_
  clear hK K hb_13
  refine wpFl_call rfl (by kernel_rfl) fun w_14 hn hC => ?_; clear hC
  replace ha1 := ha1.bl hn; replace ha2 := ha2.bl hn; replace hq1 := hq1.bl hn; replace hq2 := hq2.bl hn; replace x_b1 := x_b1.bl hn; replace x_b2 := x_b2.bl hn; replace hb := hb.trans (hn.mono hb.size)
  clear hn; intro K hK
  go_big_op
  have lt_b1 := x_b1.lt
  have lt_b2 := x_b2.lt
  obtain ⟨p_b3, w_15, eP, eW, x_b3, hn, kb_b3⟩ := newBox w_14 #[.int .i64 A, .int .i64 B, .int .i64 C] 3 hb.size
  have ne_b1_b3 : Hid (p_b1 ≠ p_b3) := Nat.ne_of_lt (eP ▸ lt_b1)
  have ne_b2_b3 : Hid (p_b2 ≠ p_b3) := Nat.ne_of_lt (eP ▸ lt_b2)
  rw [eW, eP]
  clear eW eP lt_b1 lt_b2
  replace ha1 := ha1.bl hn; replace ha2 := ha2.bl hn; replace hq1 := hq1.bl hn; replace hq2 := hq2.bl hn; replace x_b1 := x_b1.bl hn; replace x_b2 := x_b2.bl hn; replace hb := hb.trans (hn.mono hb.size)
  refine hK _ _ rfl hn ⟨x_b1.cell 0 rfl, x_b1.cell 1 rfl, x_b1.cell 2 rfl, x_b1.cell 3 rfl, x_b2.cell 0 rfl, x_b2.cell 1 rfl, x_b2.cell 2 rfl, x_b2.cell 3 rfl⟩ ?_; clear hK K hn
  refine wpFl_call rfl (by kernel_rfl) fun w_16 hn hC => ?_; clear hC
  replace ha1 := ha1.bl hn; replace ha2 := ha2.bl hn; replace hq1 := hq1.bl hn; replace hq2 := hq2.bl hn; replace x_b1 := x_b1.bl hn; replace x_b2 := x_b2.bl hn; replace x_b3 := x_b3.bl hn; replace hb := hb.trans (hn.mono hb.size)
  clear hn; intro K hK
  go_big_op
  go_fit (cmpOr_any x_b3)
  rintro e w_17 ⟨rfl, hb_17⟩
  replace ha1 := ha1.bl hb_17; replace ha2 := ha2.bl hb_17; replace hq1 := hq1.bl hb_17; replace hq2 := hq2.bl hb_17; replace x_b1 := x_b1.bl hb_17; replace x_b2 := x_b2.bl hb_17; replace x_b3 := x_b3.bl hb_17; replace hb := hb.trans (hb_17.mono hb.size)
  rw [HR.out]
  refine hK _ _ rfl hb_17 ⟨x_b1.cell 0 rfl, x_b1.cell 1 rfl, x_b1.cell 2 rfl, x_b1.cell 3 rfl, x_b2.cell 0 rfl, x_b2.cell 1 rfl, x_b2.cell 2 rfl, x_b2.cell 3 rfl⟩ ?_
  clear hK K hb_17
  apply wpFl_ld rfl rfl; (case h1 => intro w' hC K hK; go_big_move; exact hK); iterate 4 kernel_rfl
  apply wpFl_end
  case ha => intro pt; simp only [putF]; rfl
  case h =>
  intro w_18 pt hn hC hF hD
  clear hC
  clear x_b3
  replace ha1 := ha1.bl hn; replace ha2 := ha2.bl hn; replace hq1 := hq1.bl hn; replace hq2 := hq2.bl hn; replace x_b1 := x_b1.bl hn; replace x_b2 := x_b2.bl hn; replace hb := hb.trans (hn.mono hb.size)
  clear hn
  clear hF hD
  clear pt
  clear kb0 lt_b1 lt_b2
  apply wpTail_end
  refine hK2 _ _ ?_
  refine wp_ret ?_
  try dsimp only [Exit.then, Exit.inBlock]
  refine bodyPost_ret (v := (.int .i64 R)) (by simp [results, Tryd.results32, go_sem]) rfl ?_
  exact ⟨rfl, hb⟩
set_option maxHeartbeats 4000000 in
set_option maxRecDepth 20000 in
theorem rgCmp_a {A B C : Int} (ha : PN w va x l y m) (hq : PN w vb u k v n) (hl : l ≤ 40000000) (hm : m ≤ 40000000) (hk : k ≤ 40000000) (hn : n ≤ 40000000) (hA : zcmp (gN x y) (gN u v) = A) (hB : zcmp x u = B) (hC : zcmp y v = C) (h1 : A ≠ 0) :
    Calls Tryd.prog 33 #[va, vb] w fun e w' => e = .returned (.int .i64 A) ∧ Below w.heap.size w w' := by
  have HA := hide hA
  have HB := hide hB
  have HC := hide hC
  clear hA hB hC
  obtain ⟨n_0a, o_0a, k_0a, c_0a, n_0b, o_0b, k_0b, c_0b, rfl, ha1, ha2⟩ := ha
  obtain ⟨n_1a, o_1a, k_1a, c_1a, n_1b, o_1b, k_1b, c_1b, rfl, hq1, hq2⟩ := hq
  go_enter Tryd.func33, Tryd.ntmps33
  have hb := Below.refl w.heap.size w
  refine wp_seq_k ?_
  intro K1 hK1
  refine wp_region_sq [0, 1, 2] (by kernel_rfl) ?_
  refine wpSq_call rfl (by kernel_rfl) fun K hK => ?_
  go_big_op
  obtain ⟨p_b1, w_1, eP, eW, x_b1, hn, kb_b1⟩ := newBox w #[.bool n_0a, .slice o_0a k_0a c_0a, .bool n_0b, .slice o_0b k_0b c_0b] 26 hb.size
  rw [eW, eP]
  clear eW eP
  replace ha1 := ha1.bl hn; replace ha2 := ha2.bl hn; replace hq1 := hq1.bl hn; replace hq2 := hq2.bl hn; replace hb := hb.trans (hn.mono hb.size)
  refine hK _ _ rfl ?_; clear hK K hn
  refine wpSq_call rfl (by kernel_rfl) fun K hK => ?_
  go_big_op
  have lt_b1 := x_b1.lt
  obtain ⟨p_b2, w_2, eP, eW, x_b2, hn, kb_b2⟩ := newBox w_1 #[.bool n_1a, .slice o_1a k_1a c_1a, .bool n_1b, .slice o_1b k_1b c_1b] 26 hb.size
  have ne_b1_b2 : Hid (p_b1 ≠ p_b2) := Nat.ne_of_lt (eP ▸ lt_b1)
  rw [eW, eP]
  clear eW eP lt_b1
  replace ha1 := ha1.bl hn; replace ha2 := ha2.bl hn; replace hq1 := hq1.bl hn; replace hq2 := hq2.bl hn; replace x_b1 := x_b1.bl hn; replace hb := hb.trans (hn.mono hb.size)
  refine hK _ _ rfl ?_; clear hK K hn
  refine wpSq_call rfl (by kernel_rfl) fun K hK => ?_
  go_big_move; refine hK _ _ rfl ?_; clear hK K
  apply wpSq_end
  refine hK1 _ _ ?_
  refine wp_seq_k ?_
  intro K2 hK2
  refine wp_region_fl2 [(0, false), (2, false), (1, true), (3, true), (4, true), (5, false)] [] [] (fun _ => default) [0, 99, 1, 99, 99, 99] [] (fun w' => w'.cell? ⟨p_b1, 0, none⟩ = some (.bool n_0a) ∧ w'.cell? ⟨p_b1, 1, none⟩ = some (.slice o_0a k_0a c_0a) ∧ w'.cell? ⟨p_b1, 2, none⟩ = some (.bool n_0b) ∧ w'.cell? ⟨p_b1, 3, none⟩ = some (.slice o_0b k_0b c_0b) ∧ w'.cell? ⟨p_b2, 0, none⟩ = some (.bool n_1a) ∧ w'.cell? ⟨p_b2, 1, none⟩ = some (.slice o_1a k_1a c_1a) ∧ w'.cell? ⟨p_b2, 2, none⟩ = some (.bool n_1b) ∧ w'.cell? ⟨p_b2, 3, none⟩ = some (.slice o_1b k_1b c_1b)) [fun w' => w'.cell? ⟨p_b1, 0, none⟩ = some (.bool n_0a) ∧ w'.cell? ⟨p_b1, 1, none⟩ = some (.slice o_0a k_0a c_0a) ∧ w'.cell? ⟨p_b1, 2, none⟩ = some (.bool n_0b) ∧ w'.cell? ⟨p_b1, 3, none⟩ = some (.slice o_0b k_0b c_0b), fun w' => w'.cell? ⟨p_b2, 0, none⟩ = some (.bool n_1a) ∧ w'.cell? ⟨p_b2, 1, none⟩ = some (.slice o_1a k_1a c_1a) ∧ w'.cell? ⟨p_b2, 2, none⟩ = some (.bool n_1b) ∧ w'.cell? ⟨p_b2, 3, none⟩ = some (.slice o_1b k_1b c_1b)] (by kernel_rfl) (by kernel_rfl) (by kernel_rfl) (by kernel_rfl) (by kernel_rfl) (by kernel_rfl) (by kernel_rfl) (by kernel_rfl) (by decide) (by intro j hj; cases hj) (by intro w' o hC; obtain ⟨c0, c1, c2, c3, c4, c5, c6, c7⟩ := hC; exact ⟨cell_alloc c0 o, cell_alloc c1 o, cell_alloc c2 o, cell_alloc c3 o, cell_alloc c4 o, cell_alloc c5 o, cell_alloc c6 o, cell_alloc c7 o⟩) (by intro w' hC G hG; obtain ⟨c0, c1, c2, c3, c4, c5, c6, c7⟩ := hC; simp only [List.mem_cons, List.not_mem_nil, or_false] at hG; rcases hG with rfl | rfl <;> first | exact ⟨c0, c1, c2, c3⟩ | exact ⟨c4, c5, c6, c7⟩) ?_
  have lt_b1 := x_b1.lt
  have lt_b2 := x_b2.lt
  intro w_3 hn
  replace lt_b1 := Nat.lt_of_lt_of_le lt_b1 hn.size
  replace lt_b2 := Nat.lt_of_lt_of_le lt_b2 hn.size
  replace ha1 := ha1.bl hn; replace ha2 := ha2.bl hn; replace hq1 := hq1.bl hn; replace hq2 := hq2.bl hn; replace x_b1 := x_b1.bl hn; replace x_b2 := x_b2.bl hn; replace hb := hb.trans (hn.mono hb.size)
  clear hn
  have kb0 := hb.size
  refine ⟨⟨x_b1.cell 0 rfl, x_b1.cell 1 rfl, x_b1.cell 2 rfl, x_b1.cell 3 rfl, x_b2.cell 0 rfl, x_b2.cell 1 rfl, x_b2.cell 2 rfl, x_b2.cell 3 rfl⟩, ?_⟩
  apply wpFl_ld rfl rfl; (case h1 => intro w' hC K hK; obtain ⟨c0, c1, c2, c3⟩ := hC; go_big_op; exact hK); iterate 4 kernel_rfl
  apply wpFl_ld rfl rfl; (case h1 => intro w' hC K hK; obtain ⟨c0, c1, c2, c3⟩ := hC; go_big_op; exact hK); iterate 4 kernel_rfl
  refine wpFl_call rfl (by kernel_rfl) fun w_4 hn hC => ?_; clear hC
  replace ha1 := ha1.bl hn; replace ha2 := ha2.bl hn; replace hq1 := hq1.bl hn; replace hq2 := hq2.bl hn; replace x_b1 := x_b1.bl hn; replace x_b2 := x_b2.bl hn; replace hb := hb.trans (hn.mono hb.size)
  clear hn; intro K hK
  go_big_op
  go_fit (rgNorm_any (PN.mk' ha1 ha2) (by omega) (by omega) )
  rintro e w_5 ⟨v_g, rfl, g, hb_5⟩
  replace ha1 := ha1.bl hb_5; replace ha2 := ha2.bl hb_5; replace hq1 := hq1.bl hb_5; replace hq2 := hq2.bl hb_5; replace x_b1 := x_b1.bl hb_5; replace x_b2 := x_b2.bl hb_5; replace hb := hb.trans (hb_5.mono hb.size)
  obtain ⟨n_g, o_g, k_g, c_g, rfl⟩ := g.open2
  have Lg := hide (g.lenOf (zlen_add (zlen_mul (ha1.len) (ha1.len)) (zlen_mul (ha2.len) (ha2.len))))
  refine hK _ _ rfl hb_5 ⟨x_b1.cell 0 rfl, x_b1.cell 1 rfl, x_b1.cell 2 rfl, x_b1.cell 3 rfl, x_b2.cell 0 rfl, x_b2.cell 1 rfl, x_b2.cell 2 rfl, x_b2.cell 3 rfl⟩ ?_
  clear hK K hb_5
  refine wpFl_call rfl (by kernel_rfl) fun w_6 hn hC => ?_; clear hC
  replace ha1 := ha1.bl hn; replace ha2 := ha2.bl hn; replace hq1 := hq1.bl hn; replace hq2 := hq2.bl hn; replace x_b1 := x_b1.bl hn; replace x_b2 := x_b2.bl hn; replace g := g.bl hn; replace hb := hb.trans (hn.mono hb.size)
  clear hn; intro K hK
  go_big_op
  go_fit (rgNorm_any (PN.mk' hq1 hq2) (by omega) (by omega) )
  rintro e w_7 ⟨v_h, rfl, h, hb_7⟩
  replace ha1 := ha1.bl hb_7; replace ha2 := ha2.bl hb_7; replace hq1 := hq1.bl hb_7; replace hq2 := hq2.bl hb_7; replace x_b1 := x_b1.bl hb_7; replace x_b2 := x_b2.bl hb_7; replace g := g.bl hb_7; replace hb := hb.trans (hb_7.mono hb.size)
  obtain ⟨n_h, o_h, k_h, c_h, rfl⟩ := h.open2
  have Lh := hide (h.lenOf (zlen_add (zlen_mul (hq1.len) (hq1.len)) (zlen_mul (hq2.len) (hq2.len))))
  refine hK _ _ rfl hb_7 ⟨x_b1.cell 0 rfl, x_b1.cell 1 rfl, x_b1.cell 2 rfl, x_b1.cell 3 rfl, x_b2.cell 0 rfl, x_b2.cell 1 rfl, x_b2.cell 2 rfl, x_b2.cell 3 rfl⟩ ?_
  clear hK K hb_7
  refine wpFl_call rfl (by kernel_rfl) fun w_8 hn hC => ?_; clear hC
  replace ha1 := ha1.bl hn; replace ha2 := ha2.bl hn; replace hq1 := hq1.bl hn; replace hq2 := hq2.bl hn; replace x_b1 := x_b1.bl hn; replace x_b2 := x_b2.bl hn; replace g := g.bl hn; replace h := h.bl hn; replace hb := hb.trans (hn.mono hb.size)
  clear hn; intro K hK
  go_big_op
  go_fit (rzcmp_any (g.zn Lg.out) (h.zn Lh.out) (by omega) (by omega))
  rintro e w_9 ⟨rfl, hb_9⟩
  replace ha1 := ha1.bl hb_9; replace ha2 := ha2.bl hb_9; replace hq1 := hq1.bl hb_9; replace hq2 := hq2.bl hb_9; replace x_b1 := x_b1.bl hb_9; replace x_b2 := x_b2.bl hb_9; replace g := g.bl hb_9; replace h := h.bl hb_9; replace hb := hb.trans (hb_9.mono hb.size)
  rw [HA.out]
  refine hK _ _ rfl hb_9 ⟨x_b1.cell 0 rfl, x_b1.cell 1 rfl, x_b1.cell 2 rfl, x_b1.cell 3 rfl, x_b2.cell 0 rfl, x_b2.cell 1 rfl, x_b2.cell 2 rfl, x_b2.cell 3 rfl⟩ ?_
  clear hK K hb_9
  apply wpFl_ld rfl rfl; (case h1 => intro w' hC K hK; go_big_move; exact hK); iterate 4 kernel_rfl
  apply wpFl_end
  case ha => intro pt; simp only [putF]; rfl
  case h =>
  intro w_10 pt hn hC hF hD
  clear hC
  clear g h
  replace ha1 := ha1.bl hn; replace ha2 := ha2.bl hn; replace hq1 := hq1.bl hn; replace hq2 := hq2.bl hn; replace x_b1 := x_b1.bl hn; replace x_b2 := x_b2.bl hn; replace hb := hb.trans (hn.mono hb.size)
  clear hn
  clear hF hD
  clear pt
  clear kb0 lt_b1 lt_b2
  apply wpTail_end
  refine hK2 _ _ ?_
  refine wp_seq_k ?_
  intro K3 hK3
  refine wp_seq_k ?_
  intro K4 hK4
  refine wp_region_sq [0, 1] (by kernel_rfl) ?_
  refine wpSq_call rfl (by kernel_rfl) fun K hK => ?_
  go_big_move; refine hK _ _ rfl ?_; clear hK K
  refine wpSq_call rfl (by kernel_rfl) fun K hK => ?_
  go_big_op; refine hK _ _ rfl ?_; clear hK K
  apply wpSq_end
  refine hK4 _ _ ?_
  refine wp_cond_false (congrArg Value.bool (show _ = false from (by simpa using h1))) ?_
  refine wp_skip ?_
  refine hK3 _ _ ?_
  refine wp_seq_k ?_
  intro K5 hK5
  refine wp_seq_k ?_
  intro K6 hK6
  refine wp_region_sq [0, 1] (by kernel_rfl) ?_
  refine wpSq_call rfl (by kernel_rfl) fun K hK => ?_
  go_big_move; refine hK _ _ rfl ?_; clear hK K
  refine wpSq_call rfl (by kernel_rfl) fun K hK => ?_
  go_big_op; refine hK _ _ rfl ?_; clear hK K
  apply wpSq_end
  refine hK6 _ _ ?_
  refine wp_cond_false (congrArg Value.bool (show _ = false from (by simpa using h1))) ?_
  refine wp_skip ?_
  refine hK5 _ _ ?_
  refine wp_seq_k ?_
  intro K7 hK7
  refine wp_region_sq [0, 1] (by kernel_rfl) ?_
  refine wpSq_call rfl (by kernel_rfl) fun K hK => ?_
  go_big_move; refine hK _ _ rfl ?_; clear hK K
  refine wpSq_call rfl (by kernel_rfl) fun K hK => ?_
  go_big_move; refine hK _ _ rfl ?_; clear hK K
  apply wpSq_end
  refine hK7 _ _ ?_
  refine wp_ret ?_
  try dsimp only [Exit.then, Exit.inBlock]
  refine bodyPost_ret (v := (.int .i64 A)) (by simp [results, Tryd.results33, go_sem]) rfl ?_
  exact ⟨rfl, hb⟩
set_option maxHeartbeats 4000000 in
set_option maxRecDepth 20000 in
theorem rgCmp_b {A B C : Int} (ha : PN w va x l y m) (hq : PN w vb u k v n) (hl : l ≤ 40000000) (hm : m ≤ 40000000) (hk : k ≤ 40000000) (hn : n ≤ 40000000) (hA : zcmp (gN x y) (gN u v) = A) (hB : zcmp x u = B) (hC : zcmp y v = C) (h1 : A = 0) (h2 : B ≠ 0) :
    Calls Tryd.prog 33 #[va, vb] w fun e w' => e = .returned (.int .i64 B) ∧ Below w.heap.size w w' := by
  have HA := hide hA
  have HB := hide hB
  have HC := hide hC
  clear hA hB hC
  subst h1
  obtain ⟨n_0a, o_0a, k_0a, c_0a, n_0b, o_0b, k_0b, c_0b, rfl, ha1, ha2⟩ := ha
  obtain ⟨n_1a, o_1a, k_1a, c_1a, n_1b, o_1b, k_1b, c_1b, rfl, hq1, hq2⟩ := hq
  go_enter Tryd.func33, Tryd.ntmps33
  have hb := Below.refl w.heap.size w
  refine wp_seq_k ?_
  intro K1 hK1
  refine wp_region_sq [0, 1, 2] (by kernel_rfl) ?_
  refine wpSq_call rfl (by kernel_rfl) fun K hK => ?_
  go_big_op
  obtain ⟨p_b1, w_1, eP, eW, x_b1, hn, kb_b1⟩ := newBox w #[.bool n_0a, .slice o_0a k_0a c_0a, .bool n_0b, .slice o_0b k_0b c_0b] 26 hb.size
  rw [eW, eP]
  clear eW eP
  replace ha1 := ha1.bl hn; replace ha2 := ha2.bl hn; replace hq1 := hq1.bl hn; replace hq2 := hq2.bl hn; replace hb := hb.trans (hn.mono hb.size)
  refine hK _ _ rfl ?_; clear hK K hn
  refine wpSq_call rfl (by kernel_rfl) fun K hK => ?_
  go_big_op
  have lt_b1 := x_b1.lt
  obtain ⟨p_b2, w_2, eP, eW, x_b2, hn, kb_b2⟩ := newBox w_1 #[.bool n_1a, .slice o_1a k_1a c_1a, .bool n_1b, .slice o_1b k_1b c_1b] 26 hb.size
  have ne_b1_b2 : Hid (p_b1 ≠ p_b2) := Nat.ne_of_lt (eP ▸ lt_b1)
  rw [eW, eP]
  clear eW eP lt_b1
  replace ha1 := ha1.bl hn; replace ha2 := ha2.bl hn; replace hq1 := hq1.bl hn; replace hq2 := hq2.bl hn; replace x_b1 := x_b1.bl hn; replace hb := hb.trans (hn.mono hb.size)
  refine hK _ _ rfl ?_; clear hK K hn
  refine wpSq_call rfl (by kernel_rfl) fun K hK => ?_
  go_big_move; refine hK _ _ rfl ?_; clear hK K
  apply wpSq_end
  refine hK1 _ _ ?_
  refine wp_seq_k ?_
  intro K2 hK2
  refine wp_region_fl2 [(0, false), (2, false), (1, true), (3, true), (4, true), (5, false)] [] [] (fun _ => default) [0, 99, 1, 99, 99, 99] [] (fun w' => w'.cell? ⟨p_b1, 0, none⟩ = some (.bool n_0a) ∧ w'.cell? ⟨p_b1, 1, none⟩ = some (.slice o_0a k_0a c_0a) ∧ w'.cell? ⟨p_b1, 2, none⟩ = some (.bool n_0b) ∧ w'.cell? ⟨p_b1, 3, none⟩ = some (.slice o_0b k_0b c_0b) ∧ w'.cell? ⟨p_b2, 0, none⟩ = some (.bool n_1a) ∧ w'.cell? ⟨p_b2, 1, none⟩ = some (.slice o_1a k_1a c_1a) ∧ w'.cell? ⟨p_b2, 2, none⟩ = some (.bool n_1b) ∧ w'.cell? ⟨p_b2, 3, none⟩ = some (.slice o_1b k_1b c_1b)) [fun w' => w'.cell? ⟨p_b1, 0, none⟩ = some (.bool n_0a) ∧ w'.cell? ⟨p_b1, 1, none⟩ = some (.slice o_0a k_0a c_0a) ∧ w'.cell? ⟨p_b1, 2, none⟩ = some (.bool n_0b) ∧ w'.cell? ⟨p_b1, 3, none⟩ = some (.slice o_0b k_0b c_0b), fun w' => w'.cell? ⟨p_b2, 0, none⟩ = some (.bool n_1a) ∧ w'.cell? ⟨p_b2, 1, none⟩ = some (.slice o_1a k_1a c_1a) ∧ w'.cell? ⟨p_b2, 2, none⟩ = some (.bool n_1b) ∧ w'.cell? ⟨p_b2, 3, none⟩ = some (.slice o_1b k_1b c_1b)] (by kernel_rfl) (by kernel_rfl) (by kernel_rfl) (by kernel_rfl) (by kernel_rfl) (by kernel_rfl) (by kernel_rfl) (by kernel_rfl) (by decide) (by intro j hj; cases hj) (by intro w' o hC; obtain ⟨c0, c1, c2, c3, c4, c5, c6, c7⟩ := hC; exact ⟨cell_alloc c0 o, cell_alloc c1 o, cell_alloc c2 o, cell_alloc c3 o, cell_alloc c4 o, cell_alloc c5 o, cell_alloc c6 o, cell_alloc c7 o⟩) (by intro w' hC G hG; obtain ⟨c0, c1, c2, c3, c4, c5, c6, c7⟩ := hC; simp only [List.mem_cons, List.not_mem_nil, or_false] at hG; rcases hG with rfl | rfl <;> first | exact ⟨c0, c1, c2, c3⟩ | exact ⟨c4, c5, c6, c7⟩) ?_
  have lt_b1 := x_b1.lt
  have lt_b2 := x_b2.lt
  intro w_3 hn
  replace lt_b1 := Nat.lt_of_lt_of_le lt_b1 hn.size
  replace lt_b2 := Nat.lt_of_lt_of_le lt_b2 hn.size
  replace ha1 := ha1.bl hn; replace ha2 := ha2.bl hn; replace hq1 := hq1.bl hn; replace hq2 := hq2.bl hn; replace x_b1 := x_b1.bl hn; replace x_b2 := x_b2.bl hn; replace hb := hb.trans (hn.mono hb.size)
  clear hn
  have kb0 := hb.size
  refine ⟨⟨x_b1.cell 0 rfl, x_b1.cell 1 rfl, x_b1.cell 2 rfl, x_b1.cell 3 rfl, x_b2.cell 0 rfl, x_b2.cell 1 rfl, x_b2.cell 2 rfl, x_b2.cell 3 rfl⟩, ?_⟩
  apply wpFl_ld rfl rfl; (case h1 => intro w' hC K hK; obtain ⟨c0, c1, c2, c3⟩ := hC; go_big_op; exact hK); iterate 4 kernel_rfl
  apply wpFl_ld rfl rfl; (case h1 => intro w' hC K hK; obtain ⟨c0, c1, c2, c3⟩ := hC; go_big_op; exact hK); iterate 4 kernel_rfl
  refine wpFl_call rfl (by kernel_rfl) fun w_4 hn hC => ?_; clear hC
  replace ha1 := ha1.bl hn; replace ha2 := ha2.bl hn; replace hq1 := hq1.bl hn; replace hq2 := hq2.bl hn; replace x_b1 := x_b1.bl hn; replace x_b2 := x_b2.bl hn; replace hb := hb.trans (hn.mono hb.size)
  clear hn; intro K hK
  go_big_op
  go_fit (rgNorm_any (PN.mk' ha1 ha2) (by omega) (by omega) )
  rintro e w_5 ⟨v_g, rfl, g, hb_5⟩
  replace ha1 := ha1.bl hb_5; replace ha2 := ha2.bl hb_5; replace hq1 := hq1.bl hb_5; replace hq2 := hq2.bl hb_5; replace x_b1 := x_b1.bl hb_5; replace x_b2 := x_b2.bl hb_5; replace hb := hb.trans (hb_5.mono hb.size)
  obtain ⟨n_g, o_g, k_g, c_g, rfl⟩ := g.open2
  have Lg := hide (g.lenOf (zlen_add (zlen_mul (ha1.len) (ha1.len)) (zlen_mul (ha2.len) (ha2.len))))
  refine hK _ _ rfl hb_5 ⟨x_b1.cell 0 rfl, x_b1.cell 1 rfl, x_b1.cell 2 rfl, x_b1.cell 3 rfl, x_b2.cell 0 rfl, x_b2.cell 1 rfl, x_b2.cell 2 rfl, x_b2.cell 3 rfl⟩ ?_
  clear hK K hb_5
  refine wpFl_call rfl (by kernel_rfl) fun w_6 hn hC => ?_; clear hC
  replace ha1 := ha1.bl hn; replace ha2 := ha2.bl hn; replace hq1 := hq1.bl hn; replace hq2 := hq2.bl hn; replace x_b1 := x_b1.bl hn; replace x_b2 := x_b2.bl hn; replace g := g.bl hn; replace hb := hb.trans (hn.mono hb.size)
  clear hn; intro K hK
  go_big_op
  go_fit (rgNorm_any (PN.mk' hq1 hq2) (by omega) (by omega) )
  rintro e w_7 ⟨v_h, rfl, h, hb_7⟩
  replace ha1 := ha1.bl hb_7; replace ha2 := ha2.bl hb_7; replace hq1 := hq1.bl hb_7; replace hq2 := hq2.bl hb_7; replace x_b1 := x_b1.bl hb_7; replace x_b2 := x_b2.bl hb_7; replace g := g.bl hb_7; replace hb := hb.trans (hb_7.mono hb.size)
  obtain ⟨n_h, o_h, k_h, c_h, rfl⟩ := h.open2
  have Lh := hide (h.lenOf (zlen_add (zlen_mul (hq1.len) (hq1.len)) (zlen_mul (hq2.len) (hq2.len))))
  refine hK _ _ rfl hb_7 ⟨x_b1.cell 0 rfl, x_b1.cell 1 rfl, x_b1.cell 2 rfl, x_b1.cell 3 rfl, x_b2.cell 0 rfl, x_b2.cell 1 rfl, x_b2.cell 2 rfl, x_b2.cell 3 rfl⟩ ?_
  clear hK K hb_7
  refine wpFl_call rfl (by kernel_rfl) fun w_8 hn hC => ?_; clear hC
  replace ha1 := ha1.bl hn; replace ha2 := ha2.bl hn; replace hq1 := hq1.bl hn; replace hq2 := hq2.bl hn; replace x_b1 := x_b1.bl hn; replace x_b2 := x_b2.bl hn; replace g := g.bl hn; replace h := h.bl hn; replace hb := hb.trans (hn.mono hb.size)
  clear hn; intro K hK
  go_big_op
  go_fit (rzcmp_any (g.zn Lg.out) (h.zn Lh.out) (by omega) (by omega))
  rintro e w_9 ⟨rfl, hb_9⟩
  replace ha1 := ha1.bl hb_9; replace ha2 := ha2.bl hb_9; replace hq1 := hq1.bl hb_9; replace hq2 := hq2.bl hb_9; replace x_b1 := x_b1.bl hb_9; replace x_b2 := x_b2.bl hb_9; replace g := g.bl hb_9; replace h := h.bl hb_9; replace hb := hb.trans (hb_9.mono hb.size)
  rw [HA.out]
  refine hK _ _ rfl hb_9 ⟨x_b1.cell 0 rfl, x_b1.cell 1 rfl, x_b1.cell 2 rfl, x_b1.cell 3 rfl, x_b2.cell 0 rfl, x_b2.cell 1 rfl, x_b2.cell 2 rfl, x_b2.cell 3 rfl⟩ ?_
  clear hK K hb_9
  apply wpFl_ld rfl rfl; (case h1 => intro w' hC K hK; go_big_move; exact hK); iterate 4 kernel_rfl
  apply wpFl_end
  case ha => intro pt; simp only [putF]; rfl
  case h =>
  intro w_10 pt hn hC hF hD
  clear hC
  clear g h
  replace ha1 := ha1.bl hn; replace ha2 := ha2.bl hn; replace hq1 := hq1.bl hn; replace hq2 := hq2.bl hn; replace x_b1 := x_b1.bl hn; replace x_b2 := x_b2.bl hn; replace hb := hb.trans (hn.mono hb.size)
  clear hn
  clear hF hD
  clear pt
  clear kb0 lt_b1 lt_b2
  apply wpTail_end
  refine hK2 _ _ ?_
  refine wp_seq_k ?_
  intro K3 hK3
  refine wp_seq_k ?_
  intro K4 hK4
  refine wp_region_sq [0, 1] (by kernel_rfl) ?_
  refine wpSq_call rfl (by kernel_rfl) fun K hK => ?_
  go_big_move; refine hK _ _ rfl ?_; clear hK K
  refine wpSq_call rfl (by kernel_rfl) fun K hK => ?_
  go_big_op; refine hK _ _ rfl ?_; clear hK K
  apply wpSq_end
  refine hK4 _ _ ?_
  refine wp_cond_true (congrArg Value.bool (show _ = true from (by first | rfl | assumption | (simp; done) | exact decide_eq_true (by omega) | omega))) ?_
  refine wp_region_sq [0, 1, 2, 3, 4, 5] (by kernel_rfl) ?_
  refine wpSq_call rfl (by kernel_rfl) fun K hK => ?_
  go_big_op; refine hK _ _ rfl ?_; clear hK K
  refine wpSq_call rfl (by kernel_rfl) fun K hK => ?_
  obtain ⟨d0, d1, d2, d3⟩ := x_b1.f4
  go_big_op; refine hK _ _ rfl ?_; clear hK K d0 d1 d2 d3
  refine wpSq_call rfl (by kernel_rfl) fun K hK => ?_
  go_big_op; refine hK _ _ rfl ?_; clear hK K
  refine wpSq_call rfl (by kernel_rfl) fun K hK => ?_
  obtain ⟨d0, d1, d2, d3⟩ := x_b2.f4
  go_big_op; refine hK _ _ rfl ?_; clear hK K d0 d1 d2 d3
  refine wpSq_call rfl (by kernel_rfl) fun K hK => ?_
  go_big_op
  go_fit (rzcmp_any ha1 hq1 (by omega) (by omega))
  rintro e w_11 ⟨rfl, hb_11⟩
  replace ha1 := ha1.bl hb_11; replace ha2 := ha2.bl hb_11; replace hq1 := hq1.bl hb_11; replace hq2 := hq2.bl hb_11; replace x_b1 := x_b1.bl hb_11; replace x_b2 := x_b2.bl hb_11; replace hb := hb.trans (hb_11.mono hb.size)
  rw [HB.out]
  refine hK _ _ rfl ?_
  clear hK K hb_11
  refine wpSq_call rfl (by kernel_rfl) fun K hK => ?_
  go_big_move; refine hK _ _ rfl ?_; clear hK K
  apply wpSq_end
  refine hK3 _ _ ?_
  refine wp_seq_k ?_
  intro K5 hK5
  refine wp_seq_k ?_
  intro K6 hK6
  refine wp_region_sq [0, 1] (by kernel_rfl) ?_
  refine wpSq_call rfl (by kernel_rfl) fun K hK => ?_
  go_big_move; refine hK _ _ rfl ?_; clear hK K
  refine wpSq_call rfl (by kernel_rfl) fun K hK => ?_
  go_big_op; refine hK _ _ rfl ?_; clear hK K
  apply wpSq_end
  refine hK6 _ _ ?_
  refine wp_cond_false (congrArg Value.bool (show _ = false from (by simpa using h2))) ?_
  refine wp_skip ?_
  refine hK5 _ _ ?_
  refine wp_seq_k ?_
  intro K7 hK7
  refine wp_region_sq [0, 1] (by kernel_rfl) ?_
  refine wpSq_call rfl (by kernel_rfl) fun K hK => ?_
  go_big_move; refine hK _ _ rfl ?_; clear hK K
  refine wpSq_call rfl (by kernel_rfl) fun K hK => ?_
  go_big_move; refine hK _ _ rfl ?_; clear hK K
  apply wpSq_end
  refine hK7 _ _ ?_
  refine wp_ret ?_
  try dsimp only [Exit.then, Exit.inBlock]
  refine bodyPost_ret (v := (.int .i64 B)) (by simp [results, Tryd.results33, go_sem]) rfl ?_
  exact ⟨rfl, hb⟩
set_option maxHeartbeats 4000000 in
set_option maxRecDepth 20000 in
theorem rgCmp_c {A B C : Int} (ha : PN w va x l y m) (hq : PN w vb u k v n) (hl : l ≤ 40000000) (hm : m ≤ 40000000) (hk : k ≤ 40000000) (hn : n ≤ 40000000) (hA : zcmp (gN x y) (gN u v) = A) (hB : zcmp x u = B) (hC : zcmp y v = C) (h1 : A = 0) (h2 : B = 0) :
    Calls Tryd.prog 33 #[va, vb] w fun e w' => e = .returned (.int .i64 C) ∧ Below w.heap.size w w' := by
  have HA := hide hA
  have HB := hide hB
  have HC := hide hC
  clear hA hB hC
  subst h1
  subst h2
  obtain ⟨n_0a, o_0a, k_0a, c_0a, n_0b, o_0b, k_0b, c_0b, rfl, ha1, ha2⟩ := ha
  obtain ⟨n_1a, o_1a, k_1a, c_1a, n_1b, o_1b, k_1b, c_1b, rfl, hq1, hq2⟩ := hq
  go_enter Tryd.func33, Tryd.ntmps33
  have hb := Below.refl w.heap.size w
  refine wp_seq_k ?_
  intro K1 hK1
  refine wp_region_sq [0, 1, 2] (by kernel_rfl) ?_
  refine wpSq_call rfl (by kernel_rfl) fun K hK => ?_
  go_big_op
  obtain ⟨p_b1, w_1, eP, eW, x_b1, hn, kb_b1⟩ := newBox w #[.bool n_0a, .slice o_0a k_0a c_0a, .bool n_0b, .slice o_0b k_0b c_0b] 26 hb.size
  rw [eW, eP]
  clear eW eP
  replace ha1 := ha1.bl hn; replace ha2 := ha2.bl hn; replace hq1 := hq1.bl hn; replace hq2 := hq2.bl hn; replace hb := hb.trans (hn.mono hb.size)
  refine hK _ _ rfl ?_; clear hK K hn
  refine wpSq_call rfl (by kernel_rfl) fun K hK => ?_
  go_big_op
  have lt_b1 := x_b1.lt
  obtain ⟨p_b2, w_2, eP, eW, x_b2, hn, kb_b2⟩ := newBox w_1 #[.bool n_1a, .slice o_1a k_1a c_1a, .bool n_1b, .slice o_1b k_1b c_1b] 26 hb.size
  have ne_b1_b2 : Hid (p_b1 ≠ p_b2) := Nat.ne_of_lt (eP ▸ lt_b1)
  rw [eW, eP]
  clear eW eP lt_b1
  replace ha1 := ha1.bl hn; replace ha2 := ha2.bl hn; replace hq1 := hq1.bl hn; replace hq2 := hq2.bl hn; replace x_b1 := x_b1.bl hn; replace hb := hb.trans (hn.mono hb.size)
  refine hK _ _ rfl ?_; clear hK K hn
  refine wpSq_call rfl (by kernel_rfl) fun K hK => ?_
  go_big_move; refine hK _ _ rfl ?_; clear hK K
  apply wpSq_end
  refine hK1 _ _ ?_
  refine wp_seq_k ?_
  intro K2 hK2
  refine wp_region_fl2 [(0, false), (2, false), (1, true), (3, true), (4, true), (5, false)] [] [] (fun _ => default) [0, 99, 1, 99, 99, 99] [] (fun w' => w'.cell? ⟨p_b1, 0, none⟩ = some (.bool n_0a) ∧ w'.cell? ⟨p_b1, 1, none⟩ = some (.slice o_0a k_0a c_0a) ∧ w'.cell? ⟨p_b1, 2, none⟩ = some (.bool n_0b) ∧ w'.cell? ⟨p_b1, 3, none⟩ = some (.slice o_0b k_0b c_0b) ∧ w'.cell? ⟨p_b2, 0, none⟩ = some (.bool n_1a) ∧ w'.cell? ⟨p_b2, 1, none⟩ = some (.slice o_1a k_1a c_1a) ∧ w'.cell? ⟨p_b2, 2, none⟩ = some (.bool n_1b) ∧ w'.cell? ⟨p_b2, 3, none⟩ = some (.slice o_1b k_1b c_1b)) [fun w' => w'.cell? ⟨p_b1, 0, none⟩ = some (.bool n_0a) ∧ w'.cell? ⟨p_b1, 1, none⟩ = some (.slice o_0a k_0a c_0a) ∧ w'.cell? ⟨p_b1, 2, none⟩ = some (.bool n_0b) ∧ w'.cell? ⟨p_b1, 3, none⟩ = some (.slice o_0b k_0b c_0b), fun w' => w'.cell? ⟨p_b2, 0, none⟩ = some (.bool n_1a) ∧ w'.cell? ⟨p_b2, 1, none⟩ = some (.slice o_1a k_1a c_1a) ∧ w'.cell? ⟨p_b2, 2, none⟩ = some (.bool n_1b) ∧ w'.cell? ⟨p_b2, 3, none⟩ = some (.slice o_1b k_1b c_1b)] (by kernel_rfl) (by kernel_rfl) (by kernel_rfl) (by kernel_rfl) (by kernel_rfl) (by kernel_rfl) (by kernel_rfl) (by kernel_rfl) (by decide) (by intro j hj; cases hj) (by intro w' o hC; obtain ⟨c0, c1, c2, c3, c4, c5, c6, c7⟩ := hC; exact ⟨cell_alloc c0 o, cell_alloc c1 o, cell_alloc c2 o, cell_alloc c3 o, cell_alloc c4 o, cell_alloc c5 o, cell_alloc c6 o, cell_alloc c7 o⟩) (by intro w' hC G hG; obtain ⟨c0, c1, c2, c3, c4, c5, c6, c7⟩ := hC; simp only [List.mem_cons, List.not_mem_nil, or_false] at hG; rcases hG with rfl | rfl <;> first | exact ⟨c0, c1, c2, c3⟩ | exact ⟨c4, c5, c6, c7⟩) ?_
  have lt_b1 := x_b1.lt
  have lt_b2 := x_b2.lt
  intro w_3 hn
  replace lt_b1 := Nat.lt_of_lt_of_le lt_b1 hn.size
  replace lt_b2 := Nat.lt_of_lt_of_le lt_b2 hn.size
  replace ha1 := ha1.bl hn; replace ha2 := ha2.bl hn; replace hq1 := hq1.bl hn; replace hq2 := hq2.bl hn; replace x_b1 := x_b1.bl hn; replace x_b2 := x_b2.bl hn; replace hb := hb.trans (hn.mono hb.size)
  clear hn
  have kb0 := hb.size
  refine ⟨⟨x_b1.cell 0 rfl, x_b1.cell 1 rfl, x_b1.cell 2 rfl, x_b1.cell 3 rfl, x_b2.cell 0 rfl, x_b2.cell 1 rfl, x_b2.cell 2 rfl, x_b2.cell 3 rfl⟩, ?_⟩
  apply wpFl_ld rfl rfl; (case h1 => intro w' hC K hK; obtain ⟨c0, c1, c2, c3⟩ := hC; go_big_op; exact hK); iterate 4 kernel_rfl
  apply wpFl_ld rfl rfl; (case h1 => intro w' hC K hK; obtain ⟨c0, c1, c2, c3⟩ := hC; go_big_op; exact hK); iterate 4 kernel_rfl
  refine wpFl_call rfl (by kernel_rfl) fun w_4 hn hC => ?_; clear hC
  replace ha1 := ha1.bl hn; replace ha2 := ha2.bl hn; replace hq1 := hq1.bl hn; replace hq2 := hq2.bl hn; replace x_b1 := x_b1.bl hn; replace x_b2 := x_b2.bl hn; replace hb := hb.trans (hn.mono hb.size)
  clear hn; intro K hK
  go_big_op
  go_fit (rgNorm_any (PN.mk' ha1 ha2) (by omega) (by omega) )
  rintro e w_5 ⟨v_g, rfl, g, hb_5⟩
  replace ha1 := ha1.bl hb_5; replace ha2 := ha2.bl hb_5; replace hq1 := hq1.bl hb_5; replace hq2 := hq2.bl hb_5; replace x_b1 := x_b1.bl hb_5; replace x_b2 := x_b2.bl hb_5; replace hb := hb.trans (hb_5.mono hb.size)
  obtain ⟨n_g, o_g, k_g, c_g, rfl⟩ := g.open2
  have Lg := hide (g.lenOf (zlen_add (zlen_mul (ha1.len) (ha1.len)) (zlen_mul (ha2.len) (ha2.len))))
  refine hK _ _ rfl hb_5 ⟨x_b1.cell 0 rfl, x_b1.cell 1 rfl, x_b1.cell 2 rfl, x_b1.cell 3 rfl, x_b2.cell 0 rfl, x_b2.cell 1 rfl, x_b2.cell 2 rfl, x_b2.cell 3 rfl⟩ ?_
  clear hK K hb_5
  refine wpFl_call rfl (by kernel_rfl) fun w_6 hn hC => ?_; clear hC
  replace ha1 := ha1.bl hn; replace ha2 := ha2.bl hn; replace hq1 := hq1.bl hn; replace hq2 := hq2.bl hn; replace x_b1 := x_b1.bl hn; replace x_b2 := x_b2.bl hn; replace g := g.bl hn; replace hb := hb.trans (hn.mono hb.size)
  clear hn; intro K hK
  go_big_op
  go_fit (rgNorm_any (PN.mk' hq1 hq2) (by omega) (by omega) )
  rintro e w_7 ⟨v_h, rfl, h, hb_7⟩
  replace ha1 := ha1.bl hb_7; replace ha2 := ha2.bl hb_7; replace hq1 := hq1.bl hb_7; replace hq2 := hq2.bl hb_7; replace x_b1 := x_b1.bl hb_7; replace x_b2 := x_b2.bl hb_7; replace g := g.bl hb_7; replace hb := hb.trans (hb_7.mono hb.size)
  obtain ⟨n_h, o_h, k_h, c_h, rfl⟩ := h.open2
  have Lh := hide (h.lenOf (zlen_add (zlen_mul (hq1.len) (hq1.len)) (zlen_mul (hq2.len) (hq2.len))))
  refine hK _ _ rfl hb_7 ⟨x_b1.cell 0 rfl, x_b1.cell 1 rfl, x_b1.cell 2 rfl, x_b1.cell 3 rfl, x_b2.cell 0 rfl, x_b2.cell 1 rfl, x_b2.cell 2 rfl, x_b2.cell 3 rfl⟩ ?_
  clear hK K hb_7
  refine wpFl_call rfl (by kernel_rfl) fun w_8 hn hC => ?_; clear hC
  replace ha1 := ha1.bl hn; replace ha2 := ha2.bl hn; replace hq1 := hq1.bl hn; replace hq2 := hq2.bl hn; replace x_b1 := x_b1.bl hn; replace x_b2 := x_b2.bl hn; replace g := g.bl hn; replace h := h.bl hn; replace hb := hb.trans (hn.mono hb.size)
  clear hn; intro K hK
  go_big_op
  go_fit (rzcmp_any (g.zn Lg.out) (h.zn Lh.out) (by omega) (by omega))
  rintro e w_9 ⟨rfl, hb_9⟩
  replace ha1 := ha1.bl hb_9; replace ha2 := ha2.bl hb_9; replace hq1 := hq1.bl hb_9; replace hq2 := hq2.bl hb_9; replace x_b1 := x_b1.bl hb_9; replace x_b2 := x_b2.bl hb_9; replace g := g.bl hb_9; replace h := h.bl hb_9; replace hb := hb.trans (hb_9.mono hb.size)
  rw [HA.out]
  refine hK _ _ rfl hb_9 ⟨x_b1.cell 0 rfl, x_b1.cell 1 rfl, x_b1.cell 2 rfl, x_b1.cell 3 rfl, x_b2.cell 0 rfl, x_b2.cell 1 rfl, x_b2.cell 2 rfl, x_b2.cell 3 rfl⟩ ?_
  clear hK K hb_9
  apply wpFl_ld rfl rfl; (case h1 => intro w' hC K hK; go_big_move; exact hK); iterate 4 kernel_rfl
  apply wpFl_end
  case ha => intro pt; simp only [putF]; rfl
  case h =>
  intro w_10 pt hn hC hF hD
  clear hC
  clear g h
  replace ha1 := ha1.bl hn; replace ha2 := ha2.bl hn; replace hq1 := hq1.bl hn; replace hq2 := hq2.bl hn; replace x_b1 := x_b1.bl hn; replace x_b2 := x_b2.bl hn; replace hb := hb.trans (hn.mono hb.size)
  clear hn
  clear hF hD
  clear pt
  clear kb0 lt_b1 lt_b2
  apply wpTail_end
  refine hK2 _ _ ?_
  refine wp_seq_k ?_
  intro K3 hK3
  refine wp_seq_k ?_
  intro K4 hK4
  refine wp_region_sq [0, 1] (by kernel_rfl) ?_
  refine wpSq_call rfl (by kernel_rfl) fun K hK => ?_
  go_big_move; refine hK _ _ rfl ?_; clear hK K
  refine wpSq_call rfl (by kernel_rfl) fun K hK => ?_
  go_big_op; refine hK _ _ rfl ?_; clear hK K
  apply wpSq_end
  refine hK4 _ _ ?_
  refine wp_cond_true (congrArg Value.bool (show _ = true from (by first | rfl | assumption | (simp; done) | exact decide_eq_true (by omega) | omega))) ?_
  refine wp_region_sq [0, 1, 2, 3, 4, 5] (by kernel_rfl) ?_
  refine wpSq_call rfl (by kernel_rfl) fun K hK => ?_
  go_big_op; refine hK _ _ rfl ?_; clear hK K
  refine wpSq_call rfl (by kernel_rfl) fun K hK => ?_
  obtain ⟨d0, d1, d2, d3⟩ := x_b1.f4
  go_big_op; refine hK _ _ rfl ?_; clear hK K d0 d1 d2 d3
  refine wpSq_call rfl (by kernel_rfl) fun K hK => ?_
  go_big_op; refine hK _ _ rfl ?_; clear hK K
  refine wpSq_call rfl (by kernel_rfl) fun K hK => ?_
  obtain ⟨d0, d1, d2, d3⟩ := x_b2.f4
  go_big_op; refine hK _ _ rfl ?_; clear hK K d0 d1 d2 d3
  refine wpSq_call rfl (by kernel_rfl) fun K hK => ?_
  go_big_op
  go_fit (rzcmp_any ha1 hq1 (by omega) (by omega))
  rintro e w_11 ⟨rfl, hb_11⟩
  replace ha1 := ha1.bl hb_11; replace ha2 := ha2.bl hb_11; replace hq1 := hq1.bl hb_11; replace hq2 := hq2.bl hb_11; replace x_b1 := x_b1.bl hb_11; replace x_b2 := x_b2.bl hb_11; replace hb := hb.trans (hb_11.mono hb.size)
  rw [HB.out]
  refine hK _ _ rfl ?_
  clear hK K hb_11
  refine wpSq_call rfl (by kernel_rfl) fun K hK => ?_
  go_big_move; refine hK _ _ rfl ?_; clear hK K
  apply wpSq_end
  refine hK3 _ _ ?_
  refine wp_seq_k ?_
  intro K5 hK5
  refine wp_seq_k ?_
  intro K6 hK6
  refine wp_region_sq [0, 1] (by kernel_rfl) ?_
  refine wpSq_call rfl (by kernel_rfl) fun K hK => ?_
  go_big_move; refine hK _ _ rfl ?_; clear hK K
  refine wpSq_call rfl (by kernel_rfl) fun K hK => ?_
  go_big_op; refine hK _ _ rfl ?_; clear hK K
  apply wpSq_end
  refine hK6 _ _ ?_
  refine wp_cond_true (congrArg Value.bool (show _ = true from (by first | rfl | assumption | (simp; done) | exact decide_eq_true (by omega) | omega))) ?_
  refine wp_region_sq [0, 1, 2, 3, 4, 5] (by kernel_rfl) ?_
  refine wpSq_call rfl (by kernel_rfl) fun K hK => ?_
  go_big_op; refine hK _ _ rfl ?_; clear hK K
  refine wpSq_call rfl (by kernel_rfl) fun K hK => ?_
  obtain ⟨d0, d1, d2, d3⟩ := x_b1.f4
  go_big_op; refine hK _ _ rfl ?_; clear hK K d0 d1 d2 d3
  refine wpSq_call rfl (by kernel_rfl) fun K hK => ?_
  go_big_op; refine hK _ _ rfl ?_; clear hK K
  refine wpSq_call rfl (by kernel_rfl) fun K hK => ?_
  obtain ⟨d0, d1, d2, d3⟩ := x_b2.f4
  go_big_op; refine hK _ _ rfl ?_; clear hK K d0 d1 d2 d3
  refine wpSq_call rfl (by kernel_rfl) fun K hK => ?_
  go_big_op
  go_fit (rzcmp_any ha2 hq2 (by omega) (by omega))
  rintro e w_12 ⟨rfl, hb_12⟩
  clear ha1 hq1 x_b1 x_b2
  replace ha2 := ha2.bl hb_12; replace hq2 := hq2.bl hb_12; replace hb := hb.trans (hb_12.mono hb.size)
  rw [HC.out]
  refine hK _ _ rfl ?_
  clear hK K hb_12
  refine wpSq_call rfl (by kernel_rfl) fun K hK => ?_
  go_big_move; refine hK _ _ rfl ?_; clear hK K
  apply wpSq_end
  refine hK5 _ _ ?_
  refine wp_seq_k ?_
  intro K7 hK7
  refine wp_region_sq [0, 1] (by kernel_rfl) ?_
  refine wpSq_call rfl (by kernel_rfl) fun K hK => ?_
  go_big_move; refine hK _ _ rfl ?_; clear hK K
  refine wpSq_call rfl (by kernel_rfl) fun K hK => ?_
  go_big_move; refine hK _ _ rfl ?_; clear hK K
  apply wpSq_end
  refine hK7 _ _ ?_
  refine wp_ret ?_
  try dsimp only [Exit.then, Exit.inBlock]
  refine bodyPost_ret (v := (.int .i64 C)) (by simp [results, Tryd.results33, go_sem]) rfl ?_
  exact ⟨rfl, hb⟩
theorem rgCmp_any (ha : PN w va x l y m) (hq : PN w vb u k v n) (hl : l ≤ 40000000) (hm : m ≤ 40000000) (hk : k ≤ 40000000) (hn : n ≤ 40000000) :
    Calls Tryd.prog 33 #[va, vb] w fun e w' => e = .returned (.int .i64 (gcmp x y u v)) ∧ Below w.heap.size w w' := by
  unfold gcmp or3
  by_cases h1 : zcmp (gN x y) (gN u v) = 0
  · rw [if_neg (by simpa using h1)]
    by_cases h2 : zcmp x u = 0
    · rw [if_neg (by simpa using h2)]; exact rgCmp_c ha hq hl hm hk hn rfl rfl rfl h1 h2
    · rw [if_pos h2]; exact rgCmp_b ha hq hl hm hk hn rfl rfl rfl h1 h2
  · rw [if_pos h1]; exact rgCmp_a ha hq hl hm hk hn rfl rfl rfl h1
theorem bits_zero {n : Nat} : bitsN n = 0 ↔ n = 0 := bitsN_zero
theorem bits_one {n : Nat} : bitsN n = 1 ↔ n = 1 := by
  constructor
  · intro h
    have h1 := bitsN_lt n
    rw [h] at h1
    have h2 : n ≠ 0 := fun c => by rw [bits_zero.2 c] at h; omega
    omega
  · rintro rfl; rfl
theorem bits_bd {A l : Nat} (h : A < pw l) : bitsN A ≤ 32 * l := by
  rcases Nat.eq_zero_or_pos A with h0 | h0
  · rw [h0]; exact Nat.zero_le _
  · have h3 := bitsN_le (Nat.ne_of_gt h0)
    rw [pw_eq] at h
    have h4 := (Nat.pow_lt_pow_iff_right (by decide : 1 < 2)).1 (Nat.lt_of_le_of_lt h3 h)
    omega
theorem unit_bits (x y : Int) : (bitsN x.natAbs + bitsN y.natAbs = 1) ↔ gN x y = 1 := by
  have ex : x * x = ((x.natAbs * x.natAbs : Nat) : Int) := (Int.natAbs_mul_self).symm
  have ey : y * y = ((y.natAbs * y.natAbs : Nat) : Int) := (Int.natAbs_mul_self).symm
  unfold gN
  rw [ex, ey]
  generalize x.natAbs = a
  generalize y.natAbs = b
  constructor
  · intro h
    rcases (show (bitsN a = 0 ∧ bitsN b = 1) ∨ (bitsN a = 1 ∧ bitsN b = 0) by omega) with ⟨h1, h2⟩ | ⟨h1, h2⟩
    · rw [bits_zero.1 h1, bits_one.1 h2]; rfl
    · rw [bits_one.1 h1, bits_zero.1 h2]; rfl
  · intro h
    have h' : a * a + b * b = 1 := by exact_mod_cast h
    have ha : a ≤ 1 := by
      rcases Nat.lt_or_ge 1 a with c | c
      · have := Nat.mul_le_mul c c; omega
      · exact c
    have hb : b ≤ 1 := by
      rcases Nat.lt_or_ge 1 b with c | c
      · have := Nat.mul_le_mul c c; omega
      · exact c
    rcases (show a = 0 ∨ a = 1 by omega) with rfl | rfl <;> rcases (show b = 0 ∨ b = 1 by omega) with rfl | rfl
    · exact absurd h' (by decide)
    · rfl
    · rfl
    · exact absurd h' (by decide)
set_option maxHeartbeats 4000000 in
set_option maxRecDepth 20000 in
theorem gUnit_yes (ha : PN w va x l y m) (hl : l ≤ 10000000) (hm : m ≤ 10000000) (h : gN x y = 1) :
    Calls Tryd.prog 30 #[va] w fun e w' => e = .returned (.bool true) ∧ Below w.heap.size w w' := by
  have h1 := bits_bd (Nat.lt_of_lt_of_le (lt_pw_dig x.natAbs) (pw_mono ha.len1))
  have h2 := bits_bd (Nat.lt_of_lt_of_le (lt_pw_dig y.natAbs) (pw_mono ha.len2))
  rw [← unit_bits] at h
  obtain ⟨A, hA⟩ : ∃ A, bitsN x.natAbs = A := ⟨_, rfl⟩
  obtain ⟨B, hB⟩ : ∃ B, bitsN y.natAbs = B := ⟨_, rfl⟩
  rw [hA] at h h1
  rw [hB] at h h2
  have HA := hide hA
  have HB := hide hB
  have hw : wrap64 ((A : Int) + (B : Int)) = ((A + B : Nat) : Int) := by unfold wrap64; omega
  have hw2 : IntKind.i64.wrap ((A : Int) + (B : Int)) = ((A + B : Nat) : Int) := by rw [IntKind.wrap_i64]; omega
  have hz : (((A + B : Nat) : Int) == 1) = true := by rw [h]; rfl
  generalize A + B = C at *
  clear hA hB h h1 h2
  obtain ⟨n_0a, o_0a, k_0a, c_0a, n_0b, o_0b, k_0b, c_0b, rfl, ha1, ha2⟩ := ha
  go_enter Tryd.func30, Tryd.ntmps30
  have hb := Below.refl w.heap.size w
  refine wp_seq_k ?_
  intro K1 hK1
  refine wp_region_sq [0, 1] (by kernel_rfl) ?_
  refine wpSq_call rfl (by kernel_rfl) fun K hK => ?_
  go_big_op
  obtain ⟨p_b1, w_1, eP, eW, x_b1, hn, kb_b1⟩ := newBox w #[.bool n_0a, .slice o_0a k_0a c_0a, .bool n_0b, .slice o_0b k_0b c_0b] 26 hb.size
  rw [eW, eP]
  clear eW eP
  replace ha1 := ha1.bl hn; replace ha2 := ha2.bl hn; replace hb := hb.trans (hn.mono hb.size)
  refine hK _ _ rfl ?_; clear hK K hn
  refine wpSq_call rfl (by kernel_rfl) fun K hK => ?_
  go_big_move; refine hK _ _ rfl ?_; clear hK K
  apply wpSq_end
  refine hK1 _ _ ?_
  refine wp_seq_k ?_
  intro K2 hK2
  refine wp_region_fl2 [(0, false), (1, false), (3, false), (4, false), (2, true), (5, true), (6, false), (7, false), (8, false)] [] [] (fun _ => default) [99, 0, 99, 99, 0, 99, 99, 99, 99] [] (fun w' => w'.cell? ⟨p_b1, 0, none⟩ = some (.bool n_0a) ∧ w'.cell? ⟨p_b1, 1, none⟩ = some (.slice o_0a k_0a c_0a) ∧ w'.cell? ⟨p_b1, 2, none⟩ = some (.bool n_0b) ∧ w'.cell? ⟨p_b1, 3, none⟩ = some (.slice o_0b k_0b c_0b)) [fun w' => w'.cell? ⟨p_b1, 0, none⟩ = some (.bool n_0a) ∧ w'.cell? ⟨p_b1, 1, none⟩ = some (.slice o_0a k_0a c_0a) ∧ w'.cell? ⟨p_b1, 2, none⟩ = some (.bool n_0b) ∧ w'.cell? ⟨p_b1, 3, none⟩ = some (.slice o_0b k_0b c_0b)] (by kernel_rfl) (by kernel_rfl) (by kernel_rfl) (by kernel_rfl) (by kernel_rfl) (by kernel_rfl) (by kernel_rfl) (by kernel_rfl) (by decide) (by intro j hj; cases hj) (by intro w' o hC; obtain ⟨c0, c1, c2, c3⟩ := hC; exact ⟨cell_alloc c0 o, cell_alloc c1 o, cell_alloc c2 o, cell_alloc c3 o⟩) (by intro w' hC G hG; obtain ⟨c0, c1, c2, c3⟩ := hC; simp only [List.mem_cons, List.not_mem_nil, or_false] at hG; rcases hG with rfl <;> first | exact ⟨c0, c1, c2, c3⟩) ?_
  have lt_b1 := x_b1.lt
  intro w_2 hn
  replace lt_b1 := Nat.lt_of_lt_of_le lt_b1 hn.size
  replace ha1 := ha1.bl hn; replace ha2 := ha2.bl hn; replace x_b1 := x_b1.bl hn; replace hb := hb.trans (hn.mono hb.size)
  clear hn
  have kb0 := hb.size
  refine ⟨⟨x_b1.cell 0 rfl, x_b1.cell 1 rfl, x_b1.cell 2 rfl, x_b1.cell 3 rfl⟩, ?_⟩
  apply wpFl_ld rfl rfl; (case h1 => intro w' hC K hK; go_big_op; exact hK); iterate 4 kernel_rfl
  apply wpFl_ld rfl rfl; (case h1 => intro w' hC K hK; obtain ⟨c0, c1, c2, c3⟩ := hC; go_big_op; exact hK); iterate 4 kernel_rfl
  apply wpFl_ld rfl rfl; (case h1 => intro w' hC K hK; go_big_op; exact hK); iterate 4 kernel_rfl
  apply wpFl_ld rfl rfl; (case h1 => intro w' hC K hK; obtain ⟨c0, c1, c2, c3⟩ := hC; go_big_op; exact hK); iterate 4 kernel_rfl
  refine wpFl_call rfl (by kernel_rfl) fun w_3 hn hC => ?_; clear hC
  replace ha1 := ha1.bl hn; replace ha2 := ha2.bl hn; replace x_b1 := x_b1.bl hn; replace hb := hb.trans (hn.mono hb.size)
  clear hn; intro K hK
  go_big_op
  go_fit (zbits_any ha1 (by omega) )
  rintro e w_4 ⟨rfl, hb_4⟩
  replace ha1 := ha1.bl hb_4; replace ha2 := ha2.bl hb_4; replace x_b1 := x_b1.bl hb_4; replace hb := hb.trans (hb_4.mono hb.size)
  rw [HA.out]
  refine hK _ _ rfl hb_4 ⟨x_b1.cell 0 rfl, x_b1.cell 1 rfl, x_b1.cell 2 rfl, x_b1.cell 3 rfl⟩ ?_
  clear hK K hb_4
  refine wpFl_call rfl (by kernel_rfl) fun w_5 hn hC => ?_; clear hC
  replace ha1 := ha1.bl hn; replace ha2 := ha2.bl hn; replace x_b1 := x_b1.bl hn; replace hb := hb.trans (hn.mono hb.size)
  clear hn; intro K hK
  go_big_op
  go_fit (zbits_any ha2 (by omega) )
  rintro e w_6 ⟨rfl, hb_6⟩
  replace ha1 := ha1.bl hb_6; replace ha2 := ha2.bl hb_6; replace x_b1 := x_b1.bl hb_6; replace hb := hb.trans (hb_6.mono hb.size)
  rw [HB.out]
  refine hK _ _ rfl hb_6 ⟨x_b1.cell 0 rfl, x_b1.cell 1 rfl, x_b1.cell 2 rfl, x_b1.cell 3 rfl⟩ ?_
  clear hK K hb_6
  apply wpFl_ld rfl rfl; (case h1 => intro w' hC K hK; go_big_op; exact hK); iterate 4 kernel_rfl
  apply wpFl_ld rfl rfl; (case h1 => intro w' hC K hK; go_big_op; exact hK); iterate 4 kernel_rfl
  apply wpFl_ld rfl rfl; (case h1 => intro w' hC K hK; go_big_move; exact hK); iterate 4 kernel_rfl
  apply wpFl_end
  case ha => intro pt; simp only [putF]; rfl
  case h =>
  intro w_7 pt hn hC hF hD
  clear hC
  replace ha1 := ha1.bl hn; replace ha2 := ha2.bl hn; replace x_b1 := x_b1.bl hn; replace hb := hb.trans (hn.mono hb.size)
  clear hn
  clear hF hD
  clear pt
  clear kb0 lt_b1
  apply wpTail_end
  refine hK2 _ _ ?_
  refine wp_ret ?_
  try dsimp only [Exit.then, Exit.inBlock]
  refine bodyPost_ret (v := (.bool true)) (by simp [results, Tryd.results30, go_sem]) rfl ?_
  exact ⟨rfl, hb⟩
set_option maxHeartbeats 4000000 in
set_option maxRecDepth 20000 in
theorem rgUnit_yes (ha : PN w va x l y m) (hl : l ≤ 10000000) (hm : m ≤ 10000000) (h : gN x y = 1) :
    Calls Tryd.prog 31 #[va] w fun e w' => e = .returned (.bool true) ∧ Below w.heap.size w w' := by
  have hz : (zcmp (gN x y) 1 == 0) = true := by rw [zcmp_eq h]; rfl
  obtain ⟨C, hC⟩ : ∃ C, zcmp (gN x y) 1 = C := ⟨_, rfl⟩
  rw [hC] at hz
  have HC := hide hC
  clear h hC
  obtain ⟨n_0a, o_0a, k_0a, c_0a, n_0b, o_0b, k_0b, c_0b, rfl, ha1, ha2⟩ := ha
  go_enter Tryd.func31, Tryd.ntmps31
  have hb := Below.refl w.heap.size w
  refine wp_seq_k ?_
  intro K1 hK1
  refine wp_region_sq [0, 1] (by kernel_rfl) ?_
  refine wpSq_call rfl (by kernel_rfl) fun K hK => ?_
  go_big_op
  obtain ⟨p_b1, w_1, eP, eW, x_b1, hn, kb_b1⟩ := newBox w #[.bool n_0a, .slice o_0a k_0a c_0a, .bool n_0b, .slice o_0b k_0b c_0b] 26 hb.size
  rw [eW, eP]
  clear eW eP
  replace ha1 := ha1.bl hn; replace ha2 := ha2.bl hn; replace hb := hb.trans (hn.mono hb.size)
  refine hK _ _ rfl ?_; clear hK K hn
  refine wpSq_call rfl (by kernel_rfl) fun K hK => ?_
  go_big_move; refine hK _ _ rfl ?_; clear hK K
  apply wpSq_end
  refine hK1 _ _ ?_
  refine wp_seq_k ?_
  intro K2 hK2
  refine wp_region_sq [0, 1, 2, 3, 4, 5] (by kernel_rfl) ?_
  refine wpSq_call rfl (by kernel_rfl) fun K hK => ?_
  obtain ⟨d0, d1, d2, d3⟩ := x_b1.f4
  go_big_op; refine hK _ _ rfl ?_; clear hK K d0 d1 d2 d3
  refine wpSq_call rfl (by kernel_rfl) fun K hK => ?_
  go_big_op
  go_fit (rgNorm_any (PN.mk' ha1 ha2) (by omega) (by omega) )
  rintro e w_2 ⟨v_g, rfl, g, hb_2⟩
  clear x_b1
  replace ha1 := ha1.bl hb_2; replace ha2 := ha2.bl hb_2; replace hb := hb.trans (hb_2.mono hb.size)
  obtain ⟨n_g, o_g, k_g, c_g, rfl⟩ := g.open2
  have Lg := hide (g.lenOf (zlen_add (zlen_mul (ha1.len) (ha1.len)) (zlen_mul (ha2.len) (ha2.len))))
  refine hK _ _ rfl ?_
  clear hK K hb_2
  refine wpSq_call rfl (by kernel_rfl) fun K hK => ?_
  go_big_op
  go_fit (ri_any 1 _ (by decide) (by decide))
  rintro e w_3 ⟨v_g3, rfl, g3, hb_3⟩
  clear ha1 ha2
  replace g := g.bl hb_3; replace hb := hb.trans (hb_3.mono hb.size)
  replace g3 := g3.rd
  obtain ⟨n_g3, o_g3, k_g3, c_g3, rfl⟩ := g3.open2
  have Lg3 := hide (g3.lenOf (zlen_i (1 : Int) (by decide) (by decide)))
  refine hK _ _ rfl ?_
  clear hK K hb_3
  refine wpSq_call rfl (by kernel_rfl) fun K hK => ?_
  go_big_op
  go_fit (rzcmp_any (g.zn Lg.out) (g3.zn Lg3.out) (by omega) (by omega) )
  rintro e w_4 ⟨rfl, hb_4⟩
  replace g := g.bl hb_4; replace g3 := g3.bl hb_4; replace hb := hb.trans (hb_4.mono hb.size)
  rw [HC.out]
  refine hK _ _ rfl ?_
  clear hK K hb_4
  refine wpSq_call rfl (by kernel_rfl) fun K hK => ?_
  go_big_op; refine hK _ _ rfl ?_; clear hK K
  refine wpSq_call rfl (by kernel_rfl) fun K hK => ?_
  go_big_move; refine hK _ _ rfl ?_; clear hK K
  apply wpSq_end
  refine hK2 _ _ ?_
  refine wp_ret ?_
  try dsimp only [Exit.then, Exit.inBlock]
  refine bodyPost_ret (v := (.bool true)) (by simp [results, Tryd.results31, go_sem]) rfl ?_
  exact ⟨rfl, hb⟩
set_option maxHeartbeats 4000000 in
set_option maxRecDepth 20000 in
theorem gUnit_no (ha : PN w va x l y m) (hl : l ≤ 10000000) (hm : m ≤ 10000000) (h : ¬ gN x y = 1) :
    Calls Tryd.prog 30 #[va] w fun e w' => e = .returned (.bool false) ∧ Below w.heap.size w w' := by
  have h1 := bits_bd (Nat.lt_of_lt_of_le (lt_pw_dig x.natAbs) (pw_mono ha.len1))
  have h2 := bits_bd (Nat.lt_of_lt_of_le (lt_pw_dig y.natAbs) (pw_mono ha.len2))
  rw [← unit_bits] at h
  obtain ⟨A, hA⟩ : ∃ A, bitsN x.natAbs = A := ⟨_, rfl⟩
  obtain ⟨B, hB⟩ : ∃ B, bitsN y.natAbs = B := ⟨_, rfl⟩
  rw [hA] at h h1
  rw [hB] at h h2
  have HA := hide hA
  have HB := hide hB
  have hw : wrap64 ((A : Int) + (B : Int)) = ((A + B : Nat) : Int) := by unfold wrap64; omega
  have hw2 : IntKind.i64.wrap ((A : Int) + (B : Int)) = ((A + B : Nat) : Int) := by rw [IntKind.wrap_i64]; omega
  have hz : (((A + B : Nat) : Int) == 1) = false := by rw [beq_eq_false_iff_ne]; omega
  generalize A + B = C at *
  clear hA hB h h1 h2
  obtain ⟨n_0a, o_0a, k_0a, c_0a, n_0b, o_0b, k_0b, c_0b, rfl, ha1, ha2⟩ := ha
  go_enter Tryd.func30, Tryd.ntmps30
  have hb := Below.refl w.heap.size w
  refine wp_seq_k ?_
  intro K1 hK1
  refine wp_region_sq [0, 1] (by kernel_rfl) ?_
  refine wpSq_call rfl (by kernel_rfl) fun K hK => ?_
  go_big_op
  obtain ⟨p_b1, w_1, eP, eW, x_b1, hn, kb_b1⟩ := newBox w #[.bool n_0a, .slice o_0a k_0a c_0a, .bool n_0b, .slice o_0b k_0b c_0b] 26 hb.size
  rw [eW, eP]
  clear eW eP
  replace ha1 := ha1.bl hn; replace ha2 := ha2.bl hn; replace hb := hb.trans (hn.mono hb.size)
  refine hK _ _ rfl ?_; clear hK K hn
  refine wpSq_call rfl (by kernel_rfl) fun K hK => ?_
  go_big_move; refine hK _ _ rfl ?_; clear hK K
  apply wpSq_end
  refine hK1 _ _ ?_
  refine wp_seq_k ?_
  intro K2 hK2
  refine wp_region_fl2 [(0, false), (1, false), (3, false), (4, false), (2, true), (5, true), (6, false), (7, false), (8, false)] [] [] (fun _ => default) [99, 0, 99, 99, 0, 99, 99, 99, 99] [] (fun w' => w'.cell? ⟨p_b1, 0, none⟩ = some (.bool n_0a) ∧ w'.cell? ⟨p_b1, 1, none⟩ = some (.slice o_0a k_0a c_0a) ∧ w'.cell? ⟨p_b1, 2, none⟩ = some (.bool n_0b) ∧ w'.cell? ⟨p_b1, 3, none⟩ = some (.slice o_0b k_0b c_0b)) [fun w' => w'.cell? ⟨p_b1, 0, none⟩ = some (.bool n_0a) ∧ w'.cell? ⟨p_b1, 1, none⟩ = some (.slice o_0a k_0a c_0a) ∧ w'.cell? ⟨p_b1, 2, none⟩ = some (.bool n_0b) ∧ w'.cell? ⟨p_b1, 3, none⟩ = some (.slice o_0b k_0b c_0b)] (by kernel_rfl) (by kernel_rfl) (by kernel_rfl) (by kernel_rfl) (by kernel_rfl) (by kernel_rfl) (by kernel_rfl) (by kernel_rfl) (by decide) (by intro j hj; cases hj) (by intro w' o hC; obtain ⟨c0, c1, c2, c3⟩ := hC; exact ⟨cell_alloc c0 o, cell_alloc c1 o, cell_alloc c2 o, cell_alloc c3 o⟩) (by intro w' hC G hG; obtain ⟨c0, c1, c2, c3⟩ := hC; simp only [List.mem_cons, List.not_mem_nil, or_false] at hG; rcases hG with rfl <;> first | exact ⟨c0, c1, c2, c3⟩) ?_
  have lt_b1 := x_b1.lt
  intro w_2 hn
  replace lt_b1 := Nat.lt_of_lt_of_le lt_b1 hn.size
  replace ha1 := ha1.bl hn; replace ha2 := ha2.bl hn; replace x_b1 := x_b1.bl hn; replace hb := hb.trans (hn.mono hb.size)
  clear hn
  have kb0 := hb.size
  refine ⟨⟨x_b1.cell 0 rfl, x_b1.cell 1 rfl, x_b1.cell 2 rfl, x_b1.cell 3 rfl⟩, ?_⟩
  apply wpFl_ld rfl rfl; (case h1 => intro w' hC K hK; go_big_op; exact hK); iterate 4 kernel_rfl
  apply wpFl_ld rfl rfl; (case h1 => intro w' hC K hK; obtain ⟨c0, c1, c2, c3⟩ := hC; go_big_op; exact hK); iterate 4 kernel_rfl
  apply wpFl_ld rfl rfl; (case h1 => intro w' hC K hK; go_big_op; exact hK); iterate 4 kernel_rfl
  apply wpFl_ld rfl rfl; (case h1 => intro w' hC K hK; obtain ⟨c0, c1, c2, c3⟩ := hC; go_big_op; exact hK); iterate 4 kernel_rfl
  refine wpFl_call rfl (by kernel_rfl) fun w_3 hn hC => ?_; clear hC
  replace ha1 := ha1.bl hn; replace ha2 := ha2.bl hn; replace x_b1 := x_b1.bl hn; replace hb := hb.trans (hn.mono hb.size)
  clear hn; intro K hK
  go_big_op
  go_fit (zbits_any ha1 (by omega) )
  rintro e w_4 ⟨rfl, hb_4⟩
  replace ha1 := ha1.bl hb_4; replace ha2 := ha2.bl hb_4; replace x_b1 := x_b1.bl hb_4; replace hb := hb.trans (hb_4.mono hb.size)
  rw [HA.out]
  refine hK _ _ rfl hb_4 ⟨x_b1.cell 0 rfl, x_b1.cell 1 rfl, x_b1.cell 2 rfl, x_b1.cell 3 rfl⟩ ?_
  clear hK K hb_4
  refine wpFl_call rfl (by kernel_rfl) fun w_5 hn hC => ?_; clear hC
  replace ha1 := ha1.bl hn; replace ha2 := ha2.bl hn; replace x_b1 := x_b1.bl hn; replace hb := hb.trans (hn.mono hb.size)
  clear hn; intro K hK
  go_big_op
  go_fit (zbits_any ha2 (by omega) )
  rintro e w_6 ⟨rfl, hb_6⟩
  replace ha1 := ha1.bl hb_6; replace ha2 := ha2.bl hb_6; replace x_b1 := x_b1.bl hb_6; replace hb := hb.trans (hb_6.mono hb.size)
  rw [HB.out]
  refine hK _ _ rfl hb_6 ⟨x_b1.cell 0 rfl, x_b1.cell 1 rfl, x_b1.cell 2 rfl, x_b1.cell 3 rfl⟩ ?_
  clear hK K hb_6
  apply wpFl_ld rfl rfl; (case h1 => intro w' hC K hK; go_big_op; exact hK); iterate 4 kernel_rfl
  apply wpFl_ld rfl rfl; (case h1 => intro w' hC K hK; go_big_op; exact hK); iterate 4 kernel_rfl
  apply wpFl_ld rfl rfl; (case h1 => intro w' hC K hK; go_big_move; exact hK); iterate 4 kernel_rfl
  apply wpFl_end
  case ha => intro pt; simp only [putF]; rfl
  case h =>
  intro w_7 pt hn hC hF hD
  clear hC
  replace ha1 := ha1.bl hn; replace ha2 := ha2.bl hn; replace x_b1 := x_b1.bl hn; replace hb := hb.trans (hn.mono hb.size)
  clear hn
  clear hF hD
  clear pt
  clear kb0 lt_b1
  apply wpTail_end
  refine hK2 _ _ ?_
  refine wp_ret ?_
  try dsimp only [Exit.then, Exit.inBlock]
  refine bodyPost_ret (v := (.bool false)) (by simp [results, Tryd.results30, go_sem]) rfl ?_
  exact ⟨rfl, hb⟩
set_option maxHeartbeats 4000000 in
set_option maxRecDepth 20000 in
theorem rgUnit_no (ha : PN w va x l y m) (hl : l ≤ 10000000) (hm : m ≤ 10000000) (h : ¬ gN x y = 1) :
    Calls Tryd.prog 31 #[va] w fun e w' => e = .returned (.bool false) ∧ Below w.heap.size w w' := by
  have hz : (zcmp (gN x y) 1 == 0) = false := by exact zcmp_ne h
  obtain ⟨C, hC⟩ : ∃ C, zcmp (gN x y) 1 = C := ⟨_, rfl⟩
  rw [hC] at hz
  have HC := hide hC
  clear h hC
  obtain ⟨n_0a, o_0a, k_0a, c_0a, n_0b, o_0b, k_0b, c_0b, rfl, ha1, ha2⟩ := ha
  go_enter Tryd.func31, Tryd.ntmps31
  have hb := Below.refl w.heap.size w
  refine wp_seq_k ?_
  intro K1 hK1
  refine wp_region_sq [0, 1] (by kernel_rfl) ?_
  refine wpSq_call rfl (by kernel_rfl) fun K hK => ?_
  go_big_op
  obtain ⟨p_b1, w_1, eP, eW, x_b1, hn, kb_b1⟩ := newBox w #[.bool n_0a, .slice o_0a k_0a c_0a, .bool n_0b, .slice o_0b k_0b c_0b] 26 hb.size
  rw [eW, eP]
  clear eW eP
  replace ha1 := ha1.bl hn; replace ha2 := ha2.bl hn; replace hb := hb.trans (hn.mono hb.size)
  refine hK _ _ rfl ?_; clear hK K hn
  refine wpSq_call rfl (by kernel_rfl) fun K hK => ?_
  go_big_move; refine hK _ _ rfl ?_; clear hK K
  apply wpSq_end
  refine hK1 _ _ ?_
  refine wp_seq_k ?_
  intro K2 hK2
  refine wp_region_sq [0, 1, 2, 3, 4, 5] (by kernel_rfl) ?_
  refine wpSq_call rfl (by kernel_rfl) fun K hK => ?_
  obtain ⟨d0, d1, d2, d3⟩ := x_b1.f4
  go_big_op; refine hK _ _ rfl ?_; clear hK K d0 d1 d2 d3
  refine wpSq_call rfl (by kernel_rfl) fun K hK => ?_
  go_big_op
  go_fit (rgNorm_any (PN.mk' ha1 ha2) (by omega) (by omega) )
  rintro e w_2 ⟨v_g, rfl, g, hb_2⟩
  clear x_b1
  replace ha1 := ha1.bl hb_2; replace ha2 := ha2.bl hb_2; replace hb := hb.trans (hb_2.mono hb.size)
  obtain ⟨n_g, o_g, k_g, c_g, rfl⟩ := g.open2
  have Lg := hide (g.lenOf (zlen_add (zlen_mul (ha1.len) (ha1.len)) (zlen_mul (ha2.len) (ha2.len))))
  refine hK _ _ rfl ?_
  clear hK K hb_2
  refine wpSq_call rfl (by kernel_rfl) fun K hK => ?_
  go_big_op
  go_fit (ri_any 1 _ (by decide) (by decide))
  rintro e w_3 ⟨v_g3, rfl, g3, hb_3⟩
  clear ha1 ha2
  replace g := g.bl hb_3; replace hb := hb.trans (hb_3.mono hb.size)
  replace g3 := g3.rd
  obtain ⟨n_g3, o_g3, k_g3, c_g3, rfl⟩ := g3.open2
  have Lg3 := hide (g3.lenOf (zlen_i (1 : Int) (by decide) (by decide)))
  refine hK _ _ rfl ?_
  clear hK K hb_3
  refine wpSq_call rfl (by kernel_rfl) fun K hK => ?_
  go_big_op
  go_fit (rzcmp_any (g.zn Lg.out) (g3.zn Lg3.out) (by omega) (by omega) )
  rintro e w_4 ⟨rfl, hb_4⟩
  replace g := g.bl hb_4; replace g3 := g3.bl hb_4; replace hb := hb.trans (hb_4.mono hb.size)
  rw [HC.out]
  refine hK _ _ rfl ?_
  clear hK K hb_4
  refine wpSq_call rfl (by kernel_rfl) fun K hK => ?_
  go_big_op; refine hK _ _ rfl ?_; clear hK K
  refine wpSq_call rfl (by kernel_rfl) fun K hK => ?_
  go_big_move; refine hK _ _ rfl ?_; clear hK K
  apply wpSq_end
  refine hK2 _ _ ?_
  refine wp_ret ?_
  try dsimp only [Exit.then, Exit.inBlock]
  refine bodyPost_ret (v := (.bool false)) (by simp [results, Tryd.results31, go_sem]) rfl ?_
  exact ⟨rfl, hb⟩
theorem gUnit_any (ha : PN w va x l y m) (hl : l ≤ 10000000) (hm : m ≤ 10000000) :
    Calls Tryd.prog 30 #[va] w fun e w' => e = .returned (.bool (decide (gN x y = 1))) ∧ Below w.heap.size w w' := by
  by_cases h : gN x y = 1
  · rw [decide_eq_true h]; exact gUnit_yes ha hl hm h
  · rw [decide_eq_false h]; exact gUnit_no ha hl hm h
theorem rgUnit_any (ha : PN w va x l y m) (hl : l ≤ 10000000) (hm : m ≤ 10000000) :
    Calls Tryd.prog 31 #[va] w fun e w' => e = .returned (.bool (decide (gN x y = 1))) ∧ Below w.heap.size w w' := by
  by_cases h : gN x y = 1
  · rw [decide_eq_true h]; exact rgUnit_yes ha hl hm h
  · rw [decide_eq_false h]; exact rgUnit_no ha hl hm h
set_option maxHeartbeats 4000000 in
set_option maxRecDepth 20000 in
theorem rgEqual_any (ha : PN w va x l y m) (hq : PN w vb u k v n) (hl : l ≤ 40000000) (hm : m ≤ 40000000) (hk : k ≤ 40000000) (hn : n ≤ 40000000) :
    Calls Tryd.prog 29 #[va, vb] w fun e w' => e = .returned (.bool (decide (x = u ∧ y = v))) ∧ Below w.heap.size w w' := by
  obtain ⟨D, hD⟩ : ∃ D, decide (x = u ∧ y = v) = D := ⟨_, rfl⟩
  have HD := hide (show decide (x - u = 0 ∧ y - v = 0) = D by rw [← hD]; congr 1; rw [eq_iff_iff]; omega)
  rw [hD]
  clear hD
  obtain ⟨n_0a, o_0a, k_0a, c_0a, n_0b, o_0b, k_0b, c_0b, rfl, ha1, ha2⟩ := ha
  obtain ⟨n_1a, o_1a, k_1a, c_1a, n_1b, o_1b, k_1b, c_1b, rfl, hq1, hq2⟩ := hq
  go_enter Tryd.func29, Tryd.ntmps29
  have hb := Below.refl w.heap.size w
  refine wp_seq_k ?_
  intro K1 hK1
  refine wp_region_sq [0, 1, 2] (by kernel_rfl) ?_
  refine wpSq_call rfl (by kernel_rfl) fun K hK => ?_
  go_big_op
  obtain ⟨p_b1, w_1, eP, eW, x_b1, hn, kb_b1⟩ := newBox w #[.bool n_0a, .slice o_0a k_0a c_0a, .bool n_0b, .slice o_0b k_0b c_0b] 26 hb.size
  rw [eW, eP]
  clear eW eP
  replace ha1 := ha1.bl hn; replace ha2 := ha2.bl hn; replace hq1 := hq1.bl hn; replace hq2 := hq2.bl hn; replace hb := hb.trans (hn.mono hb.size)
  refine hK _ _ rfl ?_; clear hK K hn
  refine wpSq_call rfl (by kernel_rfl) fun K hK => ?_
  go_big_op
  have lt_b1 := x_b1.lt
  obtain ⟨p_b2, w_2, eP, eW, x_b2, hn, kb_b2⟩ := newBox w_1 #[.bool n_1a, .slice o_1a k_1a c_1a, .bool n_1b, .slice o_1b k_1b c_1b] 26 hb.size
  have ne_b1_b2 : Hid (p_b1 ≠ p_b2) := Nat.ne_of_lt (eP ▸ lt_b1)
  rw [eW, eP]
  clear eW eP lt_b1
  replace ha1 := ha1.bl hn; replace ha2 := ha2.bl hn; replace hq1 := hq1.bl hn; replace hq2 := hq2.bl hn; replace x_b1 := x_b1.bl hn; replace hb := hb.trans (hn.mono hb.size)
  refine hK _ _ rfl ?_; clear hK K hn
  refine wpSq_call rfl (by kernel_rfl) fun K hK => ?_
  go_big_move; refine hK _ _ rfl ?_; clear hK K
  apply wpSq_end
  refine hK1 _ _ ?_
  refine wp_seq_k ?_
  intro K2 hK2
  refine wp_region_sq [0, 1, 2, 3, 4] (by kernel_rfl) ?_
  refine wpSq_call rfl (by kernel_rfl) fun K hK => ?_
  obtain ⟨d0, d1, d2, d3⟩ := x_b1.f4
  go_big_op; refine hK _ _ rfl ?_; clear hK K d0 d1 d2 d3
  refine wpSq_call rfl (by kernel_rfl) fun K hK => ?_
  obtain ⟨d0, d1, d2, d3⟩ := x_b2.f4
  go_big_op; refine hK _ _ rfl ?_; clear hK K d0 d1 d2 d3
  refine wpSq_call rfl (by kernel_rfl) fun K hK => ?_
  go_big_op
  go_fit (rgSub_any (PN.mk' ha1 ha2) (PN.mk' hq1 hq2) (by omega) (by omega) (by omega) (by omega) )
  rintro e w_3 ⟨_, rfl, ⟨n_ga, o_ga, k_ga, c_ga, n_gb, o_gb, k_gb, c_gb, rfl, g1, g2⟩, hb_3⟩
  clear x_b1 x_b2
  replace ha1 := ha1.bl hb_3; replace ha2 := ha2.bl hb_3; replace hq1 := hq1.bl hb_3; replace hq2 := hq2.bl hb_3; replace hb := hb.trans (hb_3.mono hb.size)
  have Lg1 := hide (g1.lenOf (zlen_sub (ha1.len) (hq1.len)))
  have Lg2 := hide (g2.lenOf (zlen_sub (ha2.len) (hq2.len)))
  refine hK _ _ rfl ?_
  clear hK K hb_3
  refine wpSq_call rfl (by kernel_rfl) fun K hK => ?_
  go_big_op
  go_fit (rgNull_any (.mk' (g1.zn Lg1.out) (g2.zn Lg2.out)) (by omega) (by omega))
  rintro e w_4 ⟨rfl, hb_4⟩
  clear ha1 ha2 hq1 hq2
  replace g1 := g1.bl hb_4; replace g2 := g2.bl hb_4; replace hb := hb.trans (hb_4.mono hb.size)
  rw [HD.out]
  refine hK _ _ rfl ?_
  clear hK K hb_4
  refine wpSq_call rfl (by kernel_rfl) fun K hK => ?_
  go_big_move; refine hK _ _ rfl ?_; clear hK K
  apply wpSq_end
  refine hK2 _ _ ?_
  refine wp_ret ?_
  try dsimp only [Exit.then, Exit.inBlock]
  refine bodyPost_ret (v := (.bool D)) (by simp [results, Tryd.results29, go_sem]) rfl ?_
  exact ⟨rfl, hb⟩
end
end Go.Proofs.YtgjainmfilkjmaaDoor

