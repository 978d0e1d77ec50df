/- gint: Canon; the reference's. -/
import Derived.Test.YtgjainmfilkjmaaGreatDoorG7ToG11
import Derived.Test.YtgjainmfilkjmaaGreatDoorG12ToG13

namespace Go.Proofs.YtgjainmfilkjmaaGreatDoor
open Go Go.RowKit Dig
set_option linter.unusedVariables false

section
variable {w : World} {va vb : Value} {x y u v : Int} {l m k n : Nat}
set_option maxHeartbeats 4000000 in
set_option maxRecDepth 20000 in
theorem quarters_mm (w : World) :
    Calls Tryz.prog 36 #[.int .i64 (-1), .int .i64 (-1)] w fun e w' => e = .returned (.int .i64 2) ∧ Below w.heap.size w w' := by
  go_enter Tryz.func36, Tryz.ntmps36
  have hb := Below.refl w.heap.size w
  refine wp_seq_k ?_
  intro K1 hK1
  refine wp_region_sq [0] (by kernel_rfl) ?_
  refine wpSq_call rfl (by kernel_rfl) fun K hK => ?_
  go_big_move; refine hK _ _ rfl ?_; clear hK K
  apply wpSq_end
  refine hK1 _ _ ?_
  refine wp_seq_k ?_
  intro K2 hK2
  refine wp_block ?_
  refine wp_seq_k ?_
  intro K3 hK3
  refine wp_region_sq [0, 1, 2, 3, 4, 5, 6] (by kernel_rfl) ?_
  refine wpSq_call rfl (by kernel_rfl) fun K hK => ?_
  go_big_move; refine hK _ _ rfl ?_; clear hK K
  refine wpSq_call rfl (by kernel_rfl) fun K hK => ?_
  go_big_op; refine hK _ _ rfl ?_; clear hK K
  refine wpSq_call rfl (by kernel_rfl) fun K hK => ?_
  go_big_move; refine hK _ _ rfl ?_; clear hK K
  refine wpSq_call rfl (by kernel_rfl) fun K hK => ?_
  go_big_move; refine hK _ _ rfl ?_; clear hK K
  refine wpSq_call rfl (by kernel_rfl) fun K hK => ?_
  go_big_op; refine hK _ _ rfl ?_; clear hK K
  refine wpSq_call rfl (by kernel_rfl) fun K hK => ?_
  go_big_op; refine hK _ _ rfl ?_; clear hK K
  refine wpSq_call rfl (by kernel_rfl) fun K hK => ?_
  go_big_move; refine hK _ _ rfl ?_; clear hK K
  apply wpSq_end
  refine hK3 _ _ ?_
  refine wp_cond_false (congrArg Value.bool (show _ = false from (by first | rfl | assumption | (simp; done) | exact decide_eq_false (by omega) | omega))) ?_
  refine wp_seq_k ?_
  intro K4 hK4
  refine wp_region_sq [0, 1, 2, 3, 4, 5, 6] (by kernel_rfl) ?_
  refine wpSq_call rfl (by kernel_rfl) fun K hK => ?_
  go_big_move; refine hK _ _ rfl ?_; clear hK K
  refine wpSq_call rfl (by kernel_rfl) fun K hK => ?_
  go_big_op; refine hK _ _ rfl ?_; clear hK K
  refine wpSq_call rfl (by kernel_rfl) fun K hK => ?_
  go_big_move; refine hK _ _ rfl ?_; clear hK K
  refine wpSq_call rfl (by kernel_rfl) fun K hK => ?_
  go_big_move; refine hK _ _ rfl ?_; clear hK K
  refine wpSq_call rfl (by kernel_rfl) fun K hK => ?_
  go_big_op; refine hK _ _ rfl ?_; clear hK K
  refine wpSq_call rfl (by kernel_rfl) fun K hK => ?_
  go_big_op; refine hK _ _ rfl ?_; clear hK K
  refine wpSq_call rfl (by kernel_rfl) fun K hK => ?_
  go_big_move; refine hK _ _ rfl ?_; clear hK K
  apply wpSq_end
  refine hK4 _ _ ?_
  refine wp_cond_true (congrArg Value.bool (show _ = true from (by first | rfl | assumption | (simp; done) | exact decide_eq_true (by omega) | omega))) ?_
  refine wp_seq_k ?_
  intro K5 hK5
  refine wp_region_sq [0] (by kernel_rfl) ?_
  refine wpSq_call rfl (by kernel_rfl) fun K hK => ?_
  go_big_move; refine hK _ _ rfl ?_; clear hK K
  apply wpSq_end
  refine hK5 _ _ ?_
  refine wp_ret ?_
  try dsimp only [Exit.then, Exit.inBlock]
  refine bodyPost_ret (v := (.int .i64 2)) (by simp [results, Tryz.results36, go_sem]) rfl ?_
  exact ⟨rfl, hb⟩
set_option maxHeartbeats 4000000 in
set_option maxRecDepth 20000 in
theorem quarters_mz (w : World) :
    Calls Tryz.prog 36 #[.int .i64 (-1), .int .i64 0] w fun e w' => e = .returned (.int .i64 2) ∧ Below w.heap.size w w' := by
  go_enter Tryz.func36, Tryz.ntmps36
  have hb := Below.refl w.heap.size w
  refine wp_seq_k ?_
  intro K1 hK1
  refine wp_region_sq [0] (by kernel_rfl) ?_
  refine wpSq_call rfl (by kernel_rfl) fun K hK => ?_
  go_big_move; refine hK _ _ rfl ?_; clear hK K
  apply wpSq_end
  refine hK1 _ _ ?_
  refine wp_seq_k ?_
  intro K2 hK2
  refine wp_block ?_
  refine wp_seq_k ?_
  intro K3 hK3
  refine wp_region_sq [0, 1, 2, 3, 4, 5, 6] (by kernel_rfl) ?_
  refine wpSq_call rfl (by kernel_rfl) fun K hK => ?_
  go_big_move; refine hK _ _ rfl ?_; clear hK K
  refine wpSq_call rfl (by kernel_rfl) fun K hK => ?_
  go_big_op; refine hK _ _ rfl ?_; clear hK K
  refine wpSq_call rfl (by kernel_rfl) fun K hK => ?_
  go_big_move; refine hK _ _ rfl ?_; clear hK K
  apply wpSq_skip
  case hi => rfl
  case hw => kernel_rfl
  case hp => unfold Act.put; simp only [List.setIfInBounds_toArray, List.set_cons_succ, List.set_cons_zero]; rfl
  apply wpSq_skip
  case hi => rfl
  case hw => kernel_rfl
  case hp => unfold Act.put; simp only [List.setIfInBounds_toArray, List.set_cons_succ, List.set_cons_zero]; rfl
  refine wpSq_call rfl (by kernel_rfl) fun K hK => ?_
  go_big_op; refine hK _ _ rfl ?_; clear hK K
  refine wpSq_call rfl (by kernel_rfl) fun K hK => ?_
  go_big_move; refine hK _ _ rfl ?_; clear hK K
  apply wpSq_end
  refine hK3 _ _ ?_
  refine wp_cond_false (congrArg Value.bool (show _ = false from (by first | rfl | assumption | (simp; done) | exact decide_eq_false (by omega) | omega))) ?_
  refine wp_seq_k ?_
  intro K4 hK4
  refine wp_region_sq [0, 1, 2, 3, 4, 5, 6] (by kernel_rfl) ?_
  refine wpSq_call rfl (by kernel_rfl) fun K hK => ?_
  go_big_move; refine hK _ _ rfl ?_; clear hK K
  refine wpSq_call rfl (by kernel_rfl) fun K hK => ?_
  go_big_op; refine hK _ _ rfl ?_; clear hK K
  refine wpSq_call rfl (by kernel_rfl) fun K hK => ?_
  go_big_move; refine hK _ _ rfl ?_; clear hK K
  refine wpSq_call rfl (by kernel_rfl) fun K hK => ?_
  go_big_move; refine hK _ _ rfl ?_; clear hK K
  refine wpSq_call rfl (by kernel_rfl) fun K hK => ?_
  go_big_op; refine hK _ _ rfl ?_; clear hK K
  refine wpSq_call rfl (by kernel_rfl) fun K hK => ?_
  go_big_op; refine hK _ _ rfl ?_; clear hK K
  refine wpSq_call rfl (by kernel_rfl) fun K hK => ?_
  go_big_move; refine hK _ _ rfl ?_; clear hK K
  apply wpSq_end
  refine hK4 _ _ ?_
  refine wp_cond_true (congrArg Value.bool (show _ = true from (by first | rfl | assumption | (simp; done) | exact decide_eq_true (by omega) | omega))) ?_
  refine wp_seq_k ?_
  intro K5 hK5
  refine wp_region_sq [0] (by kernel_rfl) ?_
  refine wpSq_call rfl (by kernel_rfl) fun K hK => ?_
  go_big_move; refine hK _ _ rfl ?_; clear hK K
  apply wpSq_end
  refine hK5 _ _ ?_
  refine wp_ret ?_
  try dsimp only [Exit.then, Exit.inBlock]
  refine bodyPost_ret (v := (.int .i64 2)) (by simp [results, Tryz.results36, go_sem]) rfl ?_
  exact ⟨rfl, hb⟩
set_option maxHeartbeats 4000000 in
set_option maxRecDepth 20000 in
theorem quarters_mp (w : World) :
    Calls Tryz.prog 36 #[.int .i64 (-1), .int .i64 1] w fun e w' => e = .returned (.int .i64 3) ∧ Below w.heap.size w w' := by
  go_enter Tryz.func36, Tryz.ntmps36
  have hb := Below.refl w.heap.size w
  refine wp_seq_k ?_
  intro K1 hK1
  refine wp_region_sq [0] (by kernel_rfl) ?_
  refine wpSq_call rfl (by kernel_rfl) fun K hK => ?_
  go_big_move; refine hK _ _ rfl ?_; clear hK K
  apply wpSq_end
  refine hK1 _ _ ?_
  refine wp_seq_k ?_
  intro K2 hK2
  refine wp_block ?_
  refine wp_seq_k ?_
  intro K3 hK3
  refine wp_region_sq [0, 1, 2, 3, 4, 5, 6] (by kernel_rfl) ?_
  refine wpSq_call rfl (by kernel_rfl) fun K hK => ?_
  go_big_move; refine hK _ _ rfl ?_; clear hK K
  refine wpSq_call rfl (by kernel_rfl) fun K hK => ?_
  go_big_op; refine hK _ _ rfl ?_; clear hK K
  refine wpSq_call rfl (by kernel_rfl) fun K hK => ?_
  go_big_move; refine hK _ _ rfl ?_; clear hK K
  apply wpSq_skip
  case hi => rfl
  case hw => kernel_rfl
  case hp => unfold Act.put; simp only [List.setIfInBounds_toArray, List.set_cons_succ, List.set_cons_zero]; rfl
  apply wpSq_skip
  case hi => rfl
  case hw => kernel_rfl
  case hp => unfold Act.put; simp only [List.setIfInBounds_toArray, List.set_cons_succ, List.set_cons_zero]; rfl
  refine wpSq_call rfl (by kernel_rfl) fun K hK => ?_
  go_big_op; refine hK _ _ rfl ?_; clear hK K
  refine wpSq_call rfl (by kernel_rfl) fun K hK => ?_
  go_big_move; refine hK _ _ rfl ?_; clear hK K
  apply wpSq_end
  refine hK3 _ _ ?_
  refine wp_cond_false (congrArg Value.bool (show _ = false from (by first | rfl | assumption | (simp; done) | exact decide_eq_false (by omega) | omega))) ?_
  refine wp_seq_k ?_
  intro K4 hK4
  refine wp_region_sq [0, 1, 2, 3, 4, 5, 6] (by kernel_rfl) ?_
  refine wpSq_call rfl (by kernel_rfl) fun K hK => ?_
  go_big_move; refine hK _ _ rfl ?_; clear hK K
  refine wpSq_call rfl (by kernel_rfl) fun K hK => ?_
  go_big_op; refine hK _ _ rfl ?_; clear hK K
  refine wpSq_call rfl (by kernel_rfl) fun K hK => ?_
  go_big_move; refine hK _ _ rfl ?_; clear hK K
  refine wpSq_call rfl (by kernel_rfl) fun K hK => ?_
  go_big_move; refine hK _ _ rfl ?_; clear hK K
  refine wpSq_call rfl (by kernel_rfl) fun K hK => ?_
  go_big_op; refine hK _ _ rfl ?_; clear hK K
  refine wpSq_call rfl (by kernel_rfl) fun K hK => ?_
  go_big_op; refine hK _ _ rfl ?_; clear hK K
  refine wpSq_call rfl (by kernel_rfl) fun K hK => ?_
  go_big_move; refine hK _ _ rfl ?_; clear hK K
  apply wpSq_end
  refine hK4 _ _ ?_
  refine wp_cond_false (congrArg Value.bool (show _ = false from (by first | rfl | assumption | (simp; done) | exact decide_eq_false (by omega) | omega))) ?_
  refine wp_seq_k ?_
  intro K5 hK5
  refine wp_region_sq [0, 1, 2, 3, 4, 5, 6] (by kernel_rfl) ?_
  refine wpSq_call rfl (by kernel_rfl) fun K hK => ?_
  go_big_move; refine hK _ _ rfl ?_; clear hK K
  refine wpSq_call rfl (by kernel_rfl) fun K hK => ?_
  go_big_op; refine hK _ _ rfl ?_; clear hK K
  refine wpSq_call rfl (by kernel_rfl) fun K hK => ?_
  go_big_move; refine hK _ _ rfl ?_; clear hK K
  refine wpSq_call rfl (by kernel_rfl) fun K hK => ?_
  go_big_move; refine hK _ _ rfl ?_; clear hK K
  refine wpSq_call rfl (by kernel_rfl) fun K hK => ?_
  go_big_op; refine hK _ _ rfl ?_; clear hK K
  refine wpSq_call rfl (by kernel_rfl) fun K hK => ?_
  go_big_op; refine hK _ _ rfl ?_; clear hK K
  refine wpSq_call rfl (by kernel_rfl) fun K hK => ?_
  go_big_move; refine hK _ _ rfl ?_; clear hK K
  apply wpSq_end
  refine hK5 _ _ ?_
  refine wp_cond_true (congrArg Value.bool (show _ = true from (by first | rfl | assumption | (simp; done) | exact decide_eq_true (by omega) | omega))) ?_
  refine wp_seq_k ?_
  intro K6 hK6
  refine wp_region_sq [0] (by kernel_rfl) ?_
  refine wpSq_call rfl (by kernel_rfl) fun K hK => ?_
  go_big_move; refine hK _ _ rfl ?_; clear hK K
  apply wpSq_end
  refine hK6 _ _ ?_
  refine wp_ret ?_
  try dsimp only [Exit.then, Exit.inBlock]
  refine bodyPost_ret (v := (.int .i64 3)) (by simp [results, Tryz.results36, go_sem]) rfl ?_
  exact ⟨rfl, hb⟩
set_option maxHeartbeats 4000000 in
set_option maxRecDepth 20000 in
theorem quarters_zm (w : World) :
    Calls Tryz.prog 36 #[.int .i64 0, .int .i64 (-1)] w fun e w' => e = .returned (.int .i64 1) ∧ Below w.heap.size w w' := by
  go_enter Tryz.func36, Tryz.ntmps36
  have hb := Below.refl w.heap.size w
  refine wp_seq_k ?_
  intro K1 hK1
  refine wp_region_sq [0] (by kernel_rfl) ?_
  refine wpSq_call rfl (by kernel_rfl) fun K hK => ?_
  go_big_move; refine hK _ _ rfl ?_; clear hK K
  apply wpSq_end
  refine hK1 _ _ ?_
  refine wp_seq_k ?_
  intro K2 hK2
  refine wp_block ?_
  refine wp_seq_k ?_
  intro K3 hK3
  refine wp_region_sq [0, 1, 2, 3, 4, 5, 6] (by kernel_rfl) ?_
  refine wpSq_call rfl (by kernel_rfl) fun K hK => ?_
  go_big_move; refine hK _ _ rfl ?_; clear hK K
  refine wpSq_call rfl (by kernel_rfl) fun K hK => ?_
  go_big_op; refine hK _ _ rfl ?_; clear hK K
  refine wpSq_call rfl (by kernel_rfl) fun K hK => ?_
  go_big_move; refine hK _ _ rfl ?_; clear hK K
  refine wpSq_call rfl (by kernel_rfl) fun K hK => ?_
  go_big_move; refine hK _ _ rfl ?_; clear hK K
  refine wpSq_call rfl (by kernel_rfl) fun K hK => ?_
  go_big_op; refine hK _ _ rfl ?_; clear hK K
  refine wpSq_call rfl (by kernel_rfl) fun K hK => ?_
  go_big_op; refine hK _ _ rfl ?_; clear hK K
  refine wpSq_call rfl (by kernel_rfl) fun K hK => ?_
  go_big_move; refine hK _ _ rfl ?_; clear hK K
  apply wpSq_end
  refine hK3 _ _ ?_
  refine wp_cond_true (congrArg Value.bool (show _ = true from (by first | rfl | assumption | (simp; done) | exact decide_eq_true (by omega) | omega))) ?_
  refine wp_seq_k ?_
  intro K4 hK4
  refine wp_region_sq [0] (by kernel_rfl) ?_
  refine wpSq_call rfl (by kernel_rfl) fun K hK => ?_
  go_big_move; refine hK _ _ rfl ?_; clear hK K
  apply wpSq_end
  refine hK4 _ _ ?_
  refine wp_ret ?_
  try dsimp only [Exit.then, Exit.inBlock]
  refine bodyPost_ret (v := (.int .i64 1)) (by simp [results, Tryz.results36, go_sem]) rfl ?_
  exact ⟨rfl, hb⟩
set_option maxHeartbeats 4000000 in
set_option maxRecDepth 20000 in
theorem quarters_zz (w : World) :
    Calls Tryz.prog 36 #[.int .i64 0, .int .i64 0] w fun e w' => e = .returned (.int .i64 0) ∧ Below w.heap.size w w' := by
  go_enter Tryz.func36, Tryz.ntmps36
  have hb := Below.refl w.heap.size w
  refine wp_seq_k ?_
  intro K1 hK1
  refine wp_region_sq [0] (by kernel_rfl) ?_
  refine wpSq_call rfl (by kernel_rfl) fun K hK => ?_
  go_big_move; refine hK _ _ rfl ?_; clear hK K
  apply wpSq_end
  refine hK1 _ _ ?_
  refine wp_seq_k ?_
  intro K2 hK2
  refine wp_block ?_
  refine wp_seq_k ?_
  intro K3 hK3
  refine wp_region_sq [0, 1, 2, 3, 4, 5, 6] (by kernel_rfl) ?_
  refine wpSq_call rfl (by kernel_rfl) fun K hK => ?_
  go_big_move; refine hK _ _ rfl ?_; clear hK K
  refine wpSq_call rfl (by kernel_rfl) fun K hK => ?_
  go_big_op; refine hK _ _ rfl ?_; clear hK K
  refine wpSq_call rfl (by kernel_rfl) fun K hK => ?_
  go_big_move; refine hK _ _ rfl ?_; clear hK K
  apply wpSq_skip
  case hi => rfl
  case hw => kernel_rfl
  case hp => unfold Act.put; simp only [List.setIfInBounds_toArray, List.set_cons_succ, List.set_cons_zero]; rfl
  apply wpSq_skip
  case hi => rfl
  case hw => kernel_rfl
  case hp => unfold Act.put; simp only [List.setIfInBounds_toArray, List.set_cons_succ, List.set_cons_zero]; rfl
  refine wpSq_call rfl (by kernel_rfl) fun K hK => ?_
  go_big_op; refine hK _ _ rfl ?_; clear hK K
  refine wpSq_call rfl (by kernel_rfl) fun K hK => ?_
  go_big_move; refine hK _ _ rfl ?_; clear hK K
  apply wpSq_end
  refine hK3 _ _ ?_
  refine wp_cond_false (congrArg Value.bool (show _ = false from (by first | rfl | assumption | (simp; done) | exact decide_eq_false (by omega) | omega))) ?_
  refine wp_seq_k ?_
  intro K4 hK4
  refine wp_region_sq [0, 1, 2, 3, 4, 5, 6] (by kernel_rfl) ?_
  refine wpSq_call rfl (by kernel_rfl) fun K hK => ?_
  go_big_move; refine hK _ _ rfl ?_; clear hK K
  refine wpSq_call rfl (by kernel_rfl) fun K hK => ?_
  go_big_op; refine hK _ _ rfl ?_; clear hK K
  refine wpSq_call rfl (by kernel_rfl) fun K hK => ?_
  go_big_move; refine hK _ _ rfl ?_; clear hK K
  apply wpSq_skip
  case hi => rfl
  case hw => kernel_rfl
  case hp => unfold Act.put; simp only [List.setIfInBounds_toArray, List.set_cons_succ, List.set_cons_zero]; rfl
  apply wpSq_skip
  case hi => rfl
  case hw => kernel_rfl
  case hp => unfold Act.put; simp only [List.setIfInBounds_toArray, List.set_cons_succ, List.set_cons_zero]; rfl
  refine wpSq_call rfl (by kernel_rfl) fun K hK => ?_
  go_big_op; refine hK _ _ rfl ?_; clear hK K
  refine wpSq_call rfl (by kernel_rfl) fun K hK => ?_
  go_big_move; refine hK _ _ rfl ?_; clear hK K
  apply wpSq_end
  refine hK4 _ _ ?_
  refine wp_cond_false (congrArg Value.bool (show _ = false from (by first | rfl | assumption | (simp; done) | exact decide_eq_false (by omega) | omega))) ?_
  refine wp_seq_k ?_
  intro K5 hK5
  refine wp_region_sq [0, 1, 2, 3, 4, 5, 6] (by kernel_rfl) ?_
  refine wpSq_call rfl (by kernel_rfl) fun K hK => ?_
  go_big_move; refine hK _ _ rfl ?_; clear hK K
  refine wpSq_call rfl (by kernel_rfl) fun K hK => ?_
  go_big_op; refine hK _ _ rfl ?_; clear hK K
  refine wpSq_call rfl (by kernel_rfl) fun K hK => ?_
  go_big_move; refine hK _ _ rfl ?_; clear hK K
  apply wpSq_skip
  case hi => rfl
  case hw => kernel_rfl
  case hp => unfold Act.put; simp only [List.setIfInBounds_toArray, List.set_cons_succ, List.set_cons_zero]; rfl
  apply wpSq_skip
  case hi => rfl
  case hw => kernel_rfl
  case hp => unfold Act.put; simp only [List.setIfInBounds_toArray, List.set_cons_succ, List.set_cons_zero]; rfl
  refine wpSq_call rfl (by kernel_rfl) fun K hK => ?_
  go_big_op; refine hK _ _ rfl ?_; clear hK K
  refine wpSq_call rfl (by kernel_rfl) fun K hK => ?_
  go_big_move; refine hK _ _ rfl ?_; clear hK K
  apply wpSq_end
  refine hK5 _ _ ?_
  refine wp_cond_false (congrArg Value.bool (show _ = false from (by first | rfl | assumption | (simp; done) | exact decide_eq_false (by omega) | omega))) ?_
  refine wp_skip ?_
  refine hK2 _ _ ?_
  refine wp_seq_k ?_
  intro K6 hK6
  refine wp_region_sq [0] (by kernel_rfl) ?_
  refine wpSq_call rfl (by kernel_rfl) fun K hK => ?_
  go_big_move; refine hK _ _ rfl ?_; clear hK K
  apply wpSq_end
  refine hK6 _ _ ?_
  refine wp_ret ?_
  try dsimp only [Exit.then, Exit.inBlock]
  refine bodyPost_ret (v := (.int .i64 0)) (by simp [results, Tryz.results36, go_sem]) rfl ?_
  exact ⟨rfl, hb⟩
set_option maxHeartbeats 4000000 in
set_option maxRecDepth 20000 in
theorem quarters_zp (w : World) :
    Calls Tryz.prog 36 #[.int .i64 0, .int .i64 1] w fun e w' => e = .returned (.int .i64 3) ∧ Below w.heap.size w w' := by
  go_enter Tryz.func36, Tryz.ntmps36
  have hb := Below.refl w.heap.size w
  refine wp_seq_k ?_
  intro K1 hK1
  refine wp_region_sq [0] (by kernel_rfl) ?_
  refine wpSq_call rfl (by kernel_rfl) fun K hK => ?_
  go_big_move; refine hK _ _ rfl ?_; clear hK K
  apply wpSq_end
  refine hK1 _ _ ?_
  refine wp_seq_k ?_
  intro K2 hK2
  refine wp_block ?_
  refine wp_seq_k ?_
  intro K3 hK3
  refine wp_region_sq [0, 1, 2, 3, 4, 5, 6] (by kernel_rfl) ?_
  refine wpSq_call rfl (by kernel_rfl) fun K hK => ?_
  go_big_move; refine hK _ _ rfl ?_; clear hK K
  refine wpSq_call rfl (by kernel_rfl) fun K hK => ?_
  go_big_op; refine hK _ _ rfl ?_; clear hK K
  refine wpSq_call rfl (by kernel_rfl) fun K hK => ?_
  go_big_move; refine hK _ _ rfl ?_; clear hK K
  apply wpSq_skip
  case hi => rfl
  case hw => kernel_rfl
  case hp => unfold Act.put; simp only [List.setIfInBounds_toArray, List.set_cons_succ, List.set_cons_zero]; rfl
  apply wpSq_skip
  case hi => rfl
  case hw => kernel_rfl
  case hp => unfold Act.put; simp only [List.setIfInBounds_toArray, List.set_cons_succ, List.set_cons_zero]; rfl
  refine wpSq_call rfl (by kernel_rfl) fun K hK => ?_
  go_big_op; refine hK _ _ rfl ?_; clear hK K
  refine wpSq_call rfl (by kernel_rfl) fun K hK => ?_
  go_big_move; refine hK _ _ rfl ?_; clear hK K
  apply wpSq_end
  refine hK3 _ _ ?_
  refine wp_cond_false (congrArg Value.bool (show _ = false from (by first | rfl | assumption | (simp; done) | exact decide_eq_false (by omega) | omega))) ?_
  refine wp_seq_k ?_
  intro K4 hK4
  refine wp_region_sq [0, 1, 2, 3, 4, 5, 6] (by kernel_rfl) ?_
  refine wpSq_call rfl (by kernel_rfl) fun K hK => ?_
  go_big_move; refine hK _ _ rfl ?_; clear hK K
  refine wpSq_call rfl (by kernel_rfl) fun K hK => ?_
  go_big_op; refine hK _ _ rfl ?_; clear hK K
  refine wpSq_call rfl (by kernel_rfl) fun K hK => ?_
  go_big_move; refine hK _ _ rfl ?_; clear hK K
  apply wpSq_skip
  case hi => rfl
  case hw => kernel_rfl
  case hp => unfold Act.put; simp only [List.setIfInBounds_toArray, List.set_cons_succ, List.set_cons_zero]; rfl
  apply wpSq_skip
  case hi => rfl
  case hw => kernel_rfl
  case hp => unfold Act.put; simp only [List.setIfInBounds_toArray, List.set_cons_succ, List.set_cons_zero]; rfl
  refine wpSq_call rfl (by kernel_rfl) fun K hK => ?_
  go_big_op; refine hK _ _ rfl ?_; clear hK K
  refine wpSq_call rfl (by kernel_rfl) fun K hK => ?_
  go_big_move; refine hK _ _ rfl ?_; clear hK K
  apply wpSq_end
  refine hK4 _ _ ?_
  refine wp_cond_false (congrArg Value.bool (show _ = false from (by first | rfl | assumption | (simp; done) | exact decide_eq_false (by omega) | omega))) ?_
  refine wp_seq_k ?_
  intro K5 hK5
  refine wp_region_sq [0, 1, 2, 3, 4, 5, 6] (by kernel_rfl) ?_
  refine wpSq_call rfl (by kernel_rfl) fun K hK => ?_
  go_big_move; refine hK _ _ rfl ?_; clear hK K
  refine wpSq_call rfl (by kernel_rfl) fun K hK => ?_
  go_big_op; refine hK _ _ rfl ?_; clear hK K
  refine wpSq_call rfl (by kernel_rfl) fun K hK => ?_
  go_big_move; refine hK _ _ rfl ?_; clear hK K
  refine wpSq_call rfl (by kernel_rfl) fun K hK => ?_
  go_big_move; refine hK _ _ rfl ?_; clear hK K
  refine wpSq_call rfl (by kernel_rfl) fun K hK => ?_
  go_big_op; refine hK _ _ rfl ?_; clear hK K
  refine wpSq_call rfl (by kernel_rfl) fun K hK => ?_
  go_big_op; refine hK _ _ rfl ?_; clear hK K
  refine wpSq_call rfl (by kernel_rfl) fun K hK => ?_
  go_big_move; refine hK _ _ rfl ?_; clear hK K
  apply wpSq_end
  refine hK5 _ _ ?_
  refine wp_cond_true (congrArg Value.bool (show _ = true from (by first | rfl | assumption | (simp; done) | exact decide_eq_true (by omega) | omega))) ?_
  refine wp_seq_k ?_
  intro K6 hK6
  refine wp_region_sq [0] (by kernel_rfl) ?_
  refine wpSq_call rfl (by kernel_rfl) fun K hK => ?_
  go_big_move; refine hK _ _ rfl ?_; clear hK K
  apply wpSq_end
  refine hK6 _ _ ?_
  refine wp_ret ?_
  try dsimp only [Exit.then, Exit.inBlock]
  refine bodyPost_ret (v := (.int .i64 3)) (by simp [results, Tryz.results36, go_sem]) rfl ?_
  exact ⟨rfl, hb⟩
set_option maxHeartbeats 4000000 in
set_option maxRecDepth 20000 in
theorem quarters_pm (w : World) :
    Calls Tryz.prog 36 #[.int .i64 1, .int .i64 (-1)] w fun e w' => e = .returned (.int .i64 1) ∧ Below w.heap.size w w' := by
  go_enter Tryz.func36, Tryz.ntmps36
  have hb := Below.refl w.heap.size w
  refine wp_seq_k ?_
  intro K1 hK1
  refine wp_region_sq [0] (by kernel_rfl) ?_
  refine wpSq_call rfl (by kernel_rfl) fun K hK => ?_
  go_big_move; refine hK _ _ rfl ?_; clear hK K
  apply wpSq_end
  refine hK1 _ _ ?_
  refine wp_seq_k ?_
  intro K2 hK2
  refine wp_block ?_
  refine wp_seq_k ?_
  intro K3 hK3
  refine wp_region_sq [0, 1, 2, 3, 4, 5, 6] (by kernel_rfl) ?_
  refine wpSq_call rfl (by kernel_rfl) fun K hK => ?_
  go_big_move; refine hK _ _ rfl ?_; clear hK K
  refine wpSq_call rfl (by kernel_rfl) fun K hK => ?_
  go_big_op; refine hK _ _ rfl ?_; clear hK K
  refine wpSq_call rfl (by kernel_rfl) fun K hK => ?_
  go_big_move; refine hK _ _ rfl ?_; clear hK K
  refine wpSq_call rfl (by kernel_rfl) fun K hK => ?_
  go_big_move; refine hK _ _ rfl ?_; clear hK K
  refine wpSq_call rfl (by kernel_rfl) fun K hK => ?_
  go_big_op; refine hK _ _ rfl ?_; clear hK K
  refine wpSq_call rfl (by kernel_rfl) fun K hK => ?_
  go_big_op; refine hK _ _ rfl ?_; clear hK K
  refine wpSq_call rfl (by kernel_rfl) fun K hK => ?_
  go_big_move; refine hK _ _ rfl ?_; clear hK K
  apply wpSq_end
  refine hK3 _ _ ?_
  refine wp_cond_true (congrArg Value.bool (show _ = true from (by first | rfl | assumption | (simp; done) | exact decide_eq_true (by omega) | omega))) ?_
  refine wp_seq_k ?_
  intro K4 hK4
  refine wp_region_sq [0] (by kernel_rfl) ?_
  refine wpSq_call rfl (by kernel_rfl) fun K hK => ?_
  go_big_move; refine hK _ _ rfl ?_; clear hK K
  apply wpSq_end
  refine hK4 _ _ ?_
  refine wp_ret ?_
  try dsimp only [Exit.then, Exit.inBlock]
  refine bodyPost_ret (v := (.int .i64 1)) (by simp [results, Tryz.results36, go_sem]) rfl ?_
  exact ⟨rfl, hb⟩
set_option maxHeartbeats 4000000 in
set_option maxRecDepth 20000 in
theorem quarters_pz (w : World) :
    Calls Tryz.prog 36 #[.int .i64 1, .int .i64 0] w fun e w' => e = .returned (.int .i64 0) ∧ Below w.heap.size w w' := by
  go_enter Tryz.func36, Tryz.ntmps36
  have hb := Below.refl w.heap.size w
  refine wp_seq_k ?_
  intro K1 hK1
  refine wp_region_sq [0] (by kernel_rfl) ?_
  refine wpSq_call rfl (by kernel_rfl) fun K hK => ?_
  go_big_move; refine hK _ _ rfl ?_; clear hK K
  apply wpSq_end
  refine hK1 _ _ ?_
  refine wp_seq_k ?_
  intro K2 hK2
  refine wp_block ?_
  refine wp_seq_k ?_
  intro K3 hK3
  refine wp_region_sq [0, 1, 2, 3, 4, 5, 6] (by kernel_rfl) ?_
  refine wpSq_call rfl (by kernel_rfl) fun K hK => ?_
  go_big_move; refine hK _ _ rfl ?_; clear hK K
  refine wpSq_call rfl (by kernel_rfl) fun K hK => ?_
  go_big_op; refine hK _ _ rfl ?_; clear hK K
  refine wpSq_call rfl (by kernel_rfl) fun K hK => ?_
  go_big_move; refine hK _ _ rfl ?_; clear hK K
  apply wpSq_skip
  case hi => rfl
  case hw => kernel_rfl
  case hp => unfold Act.put; simp only [List.setIfInBounds_toArray, List.set_cons_succ, List.set_cons_zero]; rfl
  apply wpSq_skip
  case hi => rfl
  case hw => kernel_rfl
  case hp => unfold Act.put; simp only [List.setIfInBounds_toArray, List.set_cons_succ, List.set_cons_zero]; rfl
  refine wpSq_call rfl (by kernel_rfl) fun K hK => ?_
  go_big_op; refine hK _ _ rfl ?_; clear hK K
  refine wpSq_call rfl (by kernel_rfl) fun K hK => ?_
  go_big_move; refine hK _ _ rfl ?_; clear hK K
  apply wpSq_end
  refine hK3 _ _ ?_
  refine wp_cond_false (congrArg Value.bool (show _ = false from (by first | rfl | assumption | (simp; done) | exact decide_eq_false (by omega) | omega))) ?_
  refine wp_seq_k ?_
  intro K4 hK4
  refine wp_region_sq [0, 1, 2, 3, 4, 5, 6] (by kernel_rfl) ?_
  refine wpSq_call rfl (by kernel_rfl) fun K hK => ?_
  go_big_move; refine hK _ _ rfl ?_; clear hK K
  refine wpSq_call rfl (by kernel_rfl) fun K hK => ?_
  go_big_op; refine hK _ _ rfl ?_; clear hK K
  refine wpSq_call rfl (by kernel_rfl) fun K hK => ?_
  go_big_move; refine hK _ _ rfl ?_; clear hK K
  apply wpSq_skip
  case hi => rfl
  case hw => kernel_rfl
  case hp => unfold Act.put; simp only [List.setIfInBounds_toArray, List.set_cons_succ, List.set_cons_zero]; rfl
  apply wpSq_skip
  case hi => rfl
  case hw => kernel_rfl
  case hp => unfold Act.put; simp only [List.setIfInBounds_toArray, List.set_cons_succ, List.set_cons_zero]; rfl
  refine wpSq_call rfl (by kernel_rfl) fun K hK => ?_
  go_big_op; refine hK _ _ rfl ?_; clear hK K
  refine wpSq_call rfl (by kernel_rfl) fun K hK => ?_
  go_big_move; refine hK _ _ rfl ?_; clear hK K
  apply wpSq_end
  refine hK4 _ _ ?_
  refine wp_cond_false (congrArg Value.bool (show _ = false from (by first | rfl | assumption | (simp; done) | exact decide_eq_false (by omega) | omega))) ?_
  refine wp_seq_k ?_
  intro K5 hK5
  refine wp_region_sq [0, 1, 2, 3, 4, 5, 6] (by kernel_rfl) ?_
  refine wpSq_call rfl (by kernel_rfl) fun K hK => ?_
  go_big_move; refine hK _ _ rfl ?_; clear hK K
  refine wpSq_call rfl (by kernel_rfl) fun K hK => ?_
  go_big_op; refine hK _ _ rfl ?_; clear hK K
  refine wpSq_call rfl (by kernel_rfl) fun K hK => ?_
  go_big_move; refine hK _ _ rfl ?_; clear hK K
  apply wpSq_skip
  case hi => rfl
  case hw => kernel_rfl
  case hp => unfold Act.put; simp only [List.setIfInBounds_toArray, List.set_cons_succ, List.set_cons_zero]; rfl
  apply wpSq_skip
  case hi => rfl
  case hw => kernel_rfl
  case hp => unfold Act.put; simp only [List.setIfInBounds_toArray, List.set_cons_succ, List.set_cons_zero]; rfl
  refine wpSq_call rfl (by kernel_rfl) fun K hK => ?_
  go_big_op; refine hK _ _ rfl ?_; clear hK K
  refine wpSq_call rfl (by kernel_rfl) fun K hK => ?_
  go_big_move; refine hK _ _ rfl ?_; clear hK K
  apply wpSq_end
  refine hK5 _ _ ?_
  refine wp_cond_false (congrArg Value.bool (show _ = false from (by first | rfl | assumption | (simp; done) | exact decide_eq_false (by omega) | omega))) ?_
  refine wp_skip ?_
  refine hK2 _ _ ?_
  refine wp_seq_k ?_
  intro K6 hK6
  refine wp_region_sq [0] (by kernel_rfl) ?_
  refine wpSq_call rfl (by kernel_rfl) fun K hK => ?_
  go_big_move; refine hK _ _ rfl ?_; clear hK K
  apply wpSq_end
  refine hK6 _ _ ?_
  refine wp_ret ?_
  try dsimp only [Exit.then, Exit.inBlock]
  refine bodyPost_ret (v := (.int .i64 0)) (by simp [results, Tryz.results36, go_sem]) rfl ?_
  exact ⟨rfl, hb⟩
set_option maxHeartbeats 4000000 in
set_option maxRecDepth 20000 in
theorem quarters_pp (w : World) :
    Calls Tryz.prog 36 #[.int .i64 1, .int .i64 1] w fun e w' => e = .returned (.int .i64 0) ∧ Below w.heap.size w w' := by
  go_enter Tryz.func36, Tryz.ntmps36
  have hb := Below.refl w.heap.size w
  refine wp_seq_k ?_
  intro K1 hK1
  refine wp_region_sq [0] (by kernel_rfl) ?_
  refine wpSq_call rfl (by kernel_rfl) fun K hK => ?_
  go_big_move; refine hK _ _ rfl ?_; clear hK K
  apply wpSq_end
  refine hK1 _ _ ?_
  refine wp_seq_k ?_
  intro K2 hK2
  refine wp_block ?_
  refine wp_seq_k ?_
  intro K3 hK3
  refine wp_region_sq [0, 1, 2, 3, 4, 5, 6] (by kernel_rfl) ?_
  refine wpSq_call rfl (by kernel_rfl) fun K hK => ?_
  go_big_move; refine hK _ _ rfl ?_; clear hK K
  refine wpSq_call rfl (by kernel_rfl) fun K hK => ?_
  go_big_op; refine hK _ _ rfl ?_; clear hK K
  refine wpSq_call rfl (by kernel_rfl) fun K hK => ?_
  go_big_move; refine hK _ _ rfl ?_; clear hK K
  apply wpSq_skip
  case hi => rfl
  case hw => kernel_rfl
  case hp => unfold Act.put; simp only [List.setIfInBounds_toArray, List.set_cons_succ, List.set_cons_zero]; rfl
  apply wpSq_skip
  case hi => rfl
  case hw => kernel_rfl
  case hp => unfold Act.put; simp only [List.setIfInBounds_toArray, List.set_cons_succ, List.set_cons_zero]; rfl
  refine wpSq_call rfl (by kernel_rfl) fun K hK => ?_
  go_big_op; refine hK _ _ rfl ?_; clear hK K
  refine wpSq_call rfl (by kernel_rfl) fun K hK => ?_
  go_big_move; refine hK _ _ rfl ?_; clear hK K
  apply wpSq_end
  refine hK3 _ _ ?_
  refine wp_cond_false (congrArg Value.bool (show _ = false from (by first | rfl | assumption | (simp; done) | exact decide_eq_false (by omega) | omega))) ?_
  refine wp_seq_k ?_
  intro K4 hK4
  refine wp_region_sq [0, 1, 2, 3, 4, 5, 6] (by kernel_rfl) ?_
  refine wpSq_call rfl (by kernel_rfl) fun K hK => ?_
  go_big_move; refine hK _ _ rfl ?_; clear hK K
  refine wpSq_call rfl (by kernel_rfl) fun K hK => ?_
  go_big_op; refine hK _ _ rfl ?_; clear hK K
  refine wpSq_call rfl (by kernel_rfl) fun K hK => ?_
  go_big_move; refine hK _ _ rfl ?_; clear hK K
  apply wpSq_skip
  case hi => rfl
  case hw => kernel_rfl
  case hp => unfold Act.put; simp only [List.setIfInBounds_toArray, List.set_cons_succ, List.set_cons_zero]; rfl
  apply wpSq_skip
  case hi => rfl
  case hw => kernel_rfl
  case hp => unfold Act.put; simp only [List.setIfInBounds_toArray, List.set_cons_succ, List.set_cons_zero]; rfl
  refine wpSq_call rfl (by kernel_rfl) fun K hK => ?_
  go_big_op; refine hK _ _ rfl ?_; clear hK K
  refine wpSq_call rfl (by kernel_rfl) fun K hK => ?_
  go_big_move; refine hK _ _ rfl ?_; clear hK K
  apply wpSq_end
  refine hK4 _ _ ?_
  refine wp_cond_false (congrArg Value.bool (show _ = false from (by first | rfl | assumption | (simp; done) | exact decide_eq_false (by omega) | omega))) ?_
  refine wp_seq_k ?_
  intro K5 hK5
  refine wp_region_sq [0, 1, 2, 3, 4, 5, 6] (by kernel_rfl) ?_
  refine wpSq_call rfl (by kernel_rfl) fun K hK => ?_
  go_big_move; refine hK _ _ rfl ?_; clear hK K
  refine wpSq_call rfl (by kernel_rfl) fun K hK => ?_
  go_big_op; refine hK _ _ rfl ?_; clear hK K
  refine wpSq_call rfl (by kernel_rfl) fun K hK => ?_
  go_big_move; refine hK _ _ rfl ?_; clear hK K
  refine wpSq_call rfl (by kernel_rfl) fun K hK => ?_
  go_big_move; refine hK _ _ rfl ?_; clear hK K
  refine wpSq_call rfl (by kernel_rfl) fun K hK => ?_
  go_big_op; refine hK _ _ rfl ?_; clear hK K
  refine wpSq_call rfl (by kernel_rfl) fun K hK => ?_
  go_big_op; refine hK _ _ rfl ?_; clear hK K
  refine wpSq_call rfl (by kernel_rfl) fun K hK => ?_
  go_big_move; refine hK _ _ rfl ?_; clear hK K
  apply wpSq_end
  refine hK5 _ _ ?_
  refine wp_cond_false (congrArg Value.bool (show _ = false from (by first | rfl | assumption | (simp; done) | exact decide_eq_false (by omega) | omega))) ?_
  refine wp_skip ?_
  refine hK2 _ _ ?_
  refine wp_seq_k ?_
  intro K6 hK6
  refine wp_region_sq [0] (by kernel_rfl) ?_
  refine wpSq_call rfl (by kernel_rfl) fun K hK => ?_
  go_big_move; refine hK _ _ rfl ?_; clear hK K
  apply wpSq_end
  refine hK6 _ _ ?_
  refine wp_ret ?_
  try dsimp only [Exit.then, Exit.inBlock]
  refine bodyPost_ret (v := (.int .i64 0)) (by simp [results, Tryz.results36, go_sem]) rfl ?_
  exact ⟨rfl, hb⟩
theorem sign3' (x : Int) : x.sign = -1 ∨ x.sign = 0 ∨ x.sign = 1 := by have := sign_bd x; omega
theorem quarters_any (x y : Int) (w : World) :
    Calls Tryz.prog 36 #[.int .i64 x.sign, .int .i64 y.sign] w fun e w' => e = .returned (.int .i64 ((kq x y : Nat) : Int)) ∧ Below w.heap.size w w' := by
  rw [← kq_sign]
  rcases sign3' x with h | h | h <;> rcases sign3' y with h2 | h2 | h2 <;> rw [h, h2]
  · exact quarters_mm w
  · exact quarters_mz w
  · exact quarters_mp w
  · exact quarters_zm w
  · exact quarters_zz w
  · exact quarters_zp w
  · exact quarters_pm w
  · exact quarters_pz w
  · exact quarters_pp w
set_option maxHeartbeats 4000000 in
set_option maxRecDepth 20000 in
theorem gCanon_any (ha : PN w va x l y m) (hl : l ≤ 40000000) (hm : m ≤ 40000000) :
    Calls Tryz.prog 13 #[va] w fun e w' => ∃ r, e = .returned (.tuple #[r, .int .i64 ((kq x y : Nat) : Int)]) ∧ PC w' r (turn (kq x y) (x, y)).1 (turn (kq x y) (x, y)).2 ∧ Below w.heap.size w w' := by
  have HM := hide (kq_mod x y)
  obtain ⟨S, hS⟩ : ∃ S, x.sign = S := ⟨_, rfl⟩
  obtain ⟨T, hT⟩ : ∃ T, y.sign = T := ⟨_, rfl⟩
  have HS := hide hS
  have HT := hide hT
  have HQ := hide (fun w => quarters_any x y w)
  rw [hS, hT] at HQ
  obtain ⟨J, hK⟩ : ∃ J, kq x y = J := ⟨_, rfl⟩
  rw [hK] at HM HQ ⊢
  clear hS hT hK
  obtain ⟨n_0a, o_0a, k_0a, c_0a, n_0b, o_0b, k_0b, c_0b, rfl, ha1, ha2⟩ := ha
  go_enter Tryz.func13, Tryz.ntmps13
  have hb := Below.refl w.heap.size w
  refine wp_seq_k ?_
  intro K1 hK1
  refine wp_region_sq [0, 1, 2] (by kernel_rfl) ?_
  refine wpSq_call rfl (by kernel_rfl) fun K hK => ?_
  go_big_op
  obtain ⟨p_b1, w_1, eP, eW, x_b1, hn, kb_b1⟩ := newBox w #[.bool n_0a, .slice o_0a k_0a c_0a, .bool n_0b, .slice o_0b k_0b c_0b] 29 hb.size
  rw [eW, eP]
  clear eW eP
  replace ha1 := ha1.bl hn; replace ha2 := ha2.bl hn; replace hb := hb.trans (hn.mono hb.size)
  refine hK _ _ rfl ?_; clear hK K hn
  refine wpSq_call rfl (by kernel_rfl) fun K hK => ?_
  go_big_op
  have lt_b1 := x_b1.lt
  obtain ⟨p_b2, w_2, eP, eW, x_b2, hn, kb_b2⟩ := newBox w_1 #[.bool false, .slice none 0 0, .bool false, .slice none 0 0] 29 hb.size
  have ne_b1_b2 : Hid (p_b1 ≠ p_b2) := Nat.ne_of_lt (eP ▸ lt_b1)
  rw [eW, eP]
  clear eW eP lt_b1
  replace ha1 := ha1.bl hn; replace ha2 := ha2.bl hn; replace x_b1 := x_b1.bl hn; replace hb := hb.trans (hn.mono hb.size)
  refine hK _ _ rfl ?_; clear hK K hn
  refine wpSq_call rfl (by kernel_rfl) fun K hK => ?_
  go_big_move; refine hK _ _ rfl ?_; clear hK K
  apply wpSq_end
  refine hK1 _ _ ?_
  refine wp_seq_k ?_
  intro K2 hK2
  refine wp_region_fl2 [(0, false), (1, false), (3, false), (4, false), (2, true), (5, true), (6, true), (7, false)] [] [] (fun _ => default) [99, 0, 99, 99, 0, 99, 99, 99] [] (fun w' => w'.cell? ⟨p_b1, 0, none⟩ = some (.bool n_0a) ∧ w'.cell? ⟨p_b1, 1, none⟩ = some (.slice o_0a k_0a c_0a) ∧ w'.cell? ⟨p_b1, 2, none⟩ = some (.bool n_0b) ∧ w'.cell? ⟨p_b1, 3, none⟩ = some (.slice o_0b k_0b c_0b)) [fun w' => w'.cell? ⟨p_b1, 0, none⟩ = some (.bool n_0a) ∧ w'.cell? ⟨p_b1, 1, none⟩ = some (.slice o_0a k_0a c_0a) ∧ w'.cell? ⟨p_b1, 2, none⟩ = some (.bool n_0b) ∧ w'.cell? ⟨p_b1, 3, none⟩ = some (.slice o_0b k_0b c_0b)] (by kernel_rfl) (by kernel_rfl) (by kernel_rfl) (by kernel_rfl) (by kernel_rfl) (by kernel_rfl) (by kernel_rfl) (by kernel_rfl) (by decide) (by intro j hj; cases hj) (by intro w' o hC; obtain ⟨c0, c1, c2, c3⟩ := hC; exact ⟨cell_alloc c0 o, cell_alloc c1 o, cell_alloc c2 o, cell_alloc c3 o⟩) (by intro w' hC G hG; obtain ⟨c0, c1, c2, c3⟩ := hC; simp only [List.mem_cons, List.not_mem_nil, or_false] at hG; rcases hG with rfl <;> first | exact ⟨c0, c1, c2, c3⟩) ?_
  have lt_b1 := x_b1.lt
  have lt_b2 := x_b2.lt
  intro w_3 hn
  replace lt_b1 := Nat.lt_of_lt_of_le lt_b1 hn.size
  replace lt_b2 := Nat.lt_of_lt_of_le lt_b2 hn.size
  replace ha1 := ha1.bl hn; replace ha2 := ha2.bl hn; replace x_b1 := x_b1.bl hn; replace x_b2 := x_b2.bl hn; replace hb := hb.trans (hn.mono hb.size)
  clear hn
  have kb0 := hb.size
  refine ⟨⟨x_b1.cell 0 rfl, x_b1.cell 1 rfl, x_b1.cell 2 rfl, x_b1.cell 3 rfl⟩, ?_⟩
  apply wpFl_ld rfl rfl; (case h1 => intro w' hC K hK; go_big_op; exact hK); iterate 4 kernel_rfl
  apply wpFl_ld rfl rfl; (case h1 => intro w' hC K hK; obtain ⟨c0, c1, c2, c3⟩ := hC; go_big_op; exact hK); iterate 4 kernel_rfl
  apply wpFl_ld rfl rfl; (case h1 => intro w' hC K hK; go_big_op; exact hK); iterate 4 kernel_rfl
  apply wpFl_ld rfl rfl; (case h1 => intro w' hC K hK; obtain ⟨c0, c1, c2, c3⟩ := hC; go_big_op; exact hK); iterate 4 kernel_rfl
  refine wpFl_call rfl (by kernel_rfl) fun w_4 hn hC => ?_; clear hC
  replace ha1 := ha1.bl hn; replace ha2 := ha2.bl hn; replace x_b1 := x_b1.bl hn; replace x_b2 := x_b2.bl hn; replace hb := hb.trans (hn.mono hb.size)
  clear hn; intro K hK
  go_big_op
  go_fit (zsign_any ha1 (by omega))
  rintro e w_5 ⟨rfl, hb_5⟩
  replace ha1 := ha1.bl hb_5; replace ha2 := ha2.bl hb_5; replace x_b1 := x_b1.bl hb_5; replace x_b2 := x_b2.bl hb_5; replace hb := hb.trans (hb_5.mono hb.size)
  rw [HS.out]
  refine hK _ _ rfl hb_5 ⟨x_b1.cell 0 rfl, x_b1.cell 1 rfl, x_b1.cell 2 rfl, x_b1.cell 3 rfl⟩ ?_
  clear hK K hb_5
  refine wpFl_call rfl (by kernel_rfl) fun w_6 hn hC => ?_; clear hC
  replace ha1 := ha1.bl hn; replace ha2 := ha2.bl hn; replace x_b1 := x_b1.bl hn; replace x_b2 := x_b2.bl hn; replace hb := hb.trans (hn.mono hb.size)
  clear hn; intro K hK
  go_big_op
  go_fit (zsign_any ha2 (by omega))
  rintro e w_7 ⟨rfl, hb_7⟩
  replace ha1 := ha1.bl hb_7; replace ha2 := ha2.bl hb_7; replace x_b1 := x_b1.bl hb_7; replace x_b2 := x_b2.bl hb_7; replace hb := hb.trans (hb_7.mono hb.size)
  rw [HT.out]
  refine hK _ _ rfl hb_7 ⟨x_b1.cell 0 rfl, x_b1.cell 1 rfl, x_b1.cell 2 rfl, x_b1.cell 3 rfl⟩ ?_
  clear hK K hb_7
  refine wpFl_call rfl (by kernel_rfl) fun w_8 hn hC => ?_; clear hC
  replace ha1 := ha1.bl hn; replace ha2 := ha2.bl hn; replace x_b1 := x_b1.bl hn; replace x_b2 := x_b2.bl hn; replace hb := hb.trans (hn.mono hb.size)
  clear hn; intro K hK
  go_big_op
  go_fit (HQ.out _)
  rintro e w_9 ⟨rfl, hb_9⟩
  replace ha1 := ha1.bl hb_9; replace ha2 := ha2.bl hb_9; replace x_b1 := x_b1.bl hb_9; replace x_b2 := x_b2.bl hb_9; replace hb := hb.trans (hb_9.mono hb.size)
  refine hK _ _ rfl hb_9 ⟨x_b1.cell 0 rfl, x_b1.cell 1 rfl, x_b1.cell 2 rfl, x_b1.cell 3 rfl⟩ ?_
  clear hK K hb_9
  apply wpFl_ld rfl rfl; (case h1 => intro w' hC K hK; go_big_move; exact hK); iterate 4 kernel_rfl
  apply wpFl_end
  case ha => intro pt; simp only [putF]; rfl
  case h =>
  intro w_10 pt hn hC hF hD
  clear hC
  replace ha1 := ha1.bl hn; replace ha2 := ha2.bl hn; replace x_b1 := x_b1.bl hn; replace x_b2 := x_b2.bl hn; replace hb := hb.trans (hn.mono hb.size)
  clear hn
  clear hF hD
  clear pt
  clear kb0 lt_b1 lt_b2
  apply wpTail_end
  refine hK2 _ _ ?_
  refine wp_seq_k ?_
  intro K3 hK3
  refine wp_region_sq [0, 1, 2, 3, 4, 5] (by kernel_rfl) ?_
  refine wpSq_call rfl (by kernel_rfl) fun K hK => ?_
  obtain ⟨d0, d1, d2, d3⟩ := x_b1.f4
  go_big_op; refine hK _ _ rfl ?_; clear hK K d0 d1 d2 d3
  refine wpSq_call rfl (by kernel_rfl) fun K hK => ?_
  go_big_move; refine hK _ _ rfl ?_; clear hK K
  refine wpSq_call rfl (by kernel_rfl) fun K hK => ?_
  go_big_op
  go_fit (gTurn_any (J : Int) (PN.mk' ha1 ha2) (by omega) (by omega))
  rintro e w_11 ⟨_, rfl, ⟨n_ga, o_ga, k_ga, c_ga, n_gb, o_gb, k_gb, c_gb, rfl, g1, g2⟩, hb_11⟩
  clear x_b1
  replace ha1 := ha1.bl hb_11; replace ha2 := ha2.bl hb_11; replace x_b2 := x_b2.bl hb_11; replace hb := hb.trans (hb_11.mono hb.size)
  rw [HM.out] at g1 g2
  refine hK _ _ rfl ?_
  clear hK K hb_11
  refine wpSq_call rfl (by kernel_rfl) fun K hK => ?_
  go_big_move; refine hK _ _ rfl ?_; clear hK K
  refine wpSq_call rfl (by kernel_rfl) fun K hK => ?_
  obtain ⟨d0, d1, d2, d3⟩ := x_b2.f4
  have f0 := x_b2.free 0; have f1 := x_b2.free 1; have f2 := x_b2.free 2; have f3 := x_b2.free 3
  go_big_op
  have hnd := x_b2.nod rfl rfl
  obtain ⟨w_12, eW, x_b2', ho⟩ : ∃ w', ((((w_11.setCell ⟨p_b2, 0, none⟩ (.bool n_ga)).setCell ⟨p_b2, 1, none⟩ (.slice o_ga k_ga c_ga)).setCell ⟨p_b2, 2, none⟩ (.bool n_gb)).setCell ⟨p_b2, 3, none⟩ (.slice o_gb k_gb c_gb)) = w' ∧ Bs w' p_b2 #[.bool n_ga, .slice o_ga k_ga c_ga, .bool n_gb, .slice o_gb k_gb c_gb] 29 ∧ Only p_b2 w_11 w' := x_b2.setN [(0, .bool n_ga), (1, .slice o_ga k_ga c_ga), (2, .bool n_gb), (3, .slice o_gb k_gb c_gb)]
  rw [eW]; clear eW d0 d1 d2 d3 f0 f1 f2 f3 x_b2
  have x_b2 := x_b2'; clear x_b2'
  clear ha1 ha2
  replace g1 := g1.fr hnd ho; replace g2 := g2.fr hnd ho; replace hb := belowOnly hb ho kb_b2
  refine hK _ _ rfl ?_; clear hK K ho hnd
  refine wpSq_call rfl (by kernel_rfl) fun K hK => ?_
  go_big_move; refine hK _ _ rfl ?_; clear hK K
  apply wpSq_end
  refine hK3 _ _ ?_
  refine wp_ret ?_
  try dsimp only [Exit.then, Exit.inBlock]
  obtain ⟨r0_0, r0_1, r0_2, r0_3⟩ := x_b2.f4
  refine bodyPost_ret (v := (.tuple #[(.agg #[.bool n_ga, .slice o_ga k_ga c_ga, .bool n_gb, .slice o_gb k_gb c_gb]), (.int .i64 (J : Int))])) (by simp [results, Tryz.results13, go_sem, r0_0, r0_1, r0_2, r0_3]) rfl ?_
  exact ⟨_, rfl, .mk' g1 g2, hb⟩
set_option maxHeartbeats 4000000 in
set_option maxRecDepth 20000 in
theorem rgFirst_yes (ha : PN w va x l y m) (hl : l ≤ 40000000) (hm : m ≤ 40000000) (h1 : 0 < x) (h2 : 0 ≤ y) :
    Calls Tryz.prog 94 #[va] w fun e w' => e = .returned (.bool true) ∧ Below w.heap.size w w' := by
  have hs := sign3' x
  have ht := sign3' y
  have hs1 : (0 < x.sign) = True := eq_true (Int.sign_pos_iff.2 h1)
  have ht1 : (0 ≤ y.sign) = True := eq_true (Int.sign_nonneg_iff.2 h2)
  obtain ⟨S, hS⟩ : ∃ S, x.sign = S := ⟨_, rfl⟩
  obtain ⟨T, hT⟩ : ∃ T, y.sign = T := ⟨_, rfl⟩
  rw [hS] at hs1
  rw [hT] at ht1
  have HS := hide hS
  have HT := hide hT
  clear hS hT hs ht h1 h2
  obtain ⟨n_0a, o_0a, k_0a, c_0a, n_0b, o_0b, k_0b, c_0b, rfl, ha1, ha2⟩ := ha
  go_enter Tryz.func94, Tryz.ntmps94
  have hb := Below.refl w.heap.size w
  refine wp_seq_k ?_
  intro K1 hK1
  refine wp_region_sq [0, 1] (by kernel_rfl) ?_
  refine wpSq_call rfl (by kernel_rfl) fun K hK => ?_
  go_big_op
  obtain ⟨p_b1, w_1, eP, eW, x_b1, hn, kb_b1⟩ := newBox w #[.bool n_0a, .slice o_0a k_0a c_0a, .bool n_0b, .slice o_0b k_0b c_0b] 29 hb.size
  rw [eW, eP]
  clear eW eP
  replace ha1 := ha1.bl hn; replace ha2 := ha2.bl hn; replace hb := hb.trans (hn.mono hb.size)
  refine hK _ _ rfl ?_; clear hK K hn
  refine wpSq_call rfl (by kernel_rfl) fun K hK => ?_
  go_big_move; refine hK _ _ rfl ?_; clear hK K
  apply wpSq_end
  refine hK1 _ _ ?_
  refine wp_seq_k ?_
  intro K2 hK2
  refine wp_region_sq [0, 1, 2, 3, 4, 5, 6, 7, 8, 9, 10] (by kernel_rfl) ?_
  refine wpSq_call rfl (by kernel_rfl) fun K hK => ?_
  go_big_op; refine hK _ _ rfl ?_; clear hK K
  refine wpSq_call rfl (by kernel_rfl) fun K hK => ?_
  obtain ⟨d0, d1, d2, d3⟩ := x_b1.f4
  go_big_op; refine hK _ _ rfl ?_; clear hK K d0 d1 d2 d3
  refine wpSq_call rfl (by kernel_rfl) fun K hK => ?_
  go_big_op
  go_fit (rzsign_any ha1 (by omega) )
  rintro e w_2 ⟨rfl, hb_2⟩
  replace ha1 := ha1.bl hb_2; replace ha2 := ha2.bl hb_2; replace x_b1 := x_b1.bl hb_2; replace hb := hb.trans (hb_2.mono hb.size)
  rw [HS.out]
  refine hK _ _ rfl ?_
  clear hK K hb_2
  refine wpSq_call rfl (by kernel_rfl) fun K hK => ?_
  go_big_op; refine hK _ _ rfl ?_; clear hK K
  refine wpSq_call rfl (by kernel_rfl) fun K hK => ?_
  go_big_move; refine hK _ _ rfl ?_; clear hK K
  refine wpSq_call rfl (by kernel_rfl) fun K hK => ?_
  go_big_op; refine hK _ _ rfl ?_; clear hK K
  refine wpSq_call rfl (by kernel_rfl) fun K hK => ?_
  obtain ⟨d0, d1, d2, d3⟩ := x_b1.f4
  go_big_op; refine hK _ _ rfl ?_; clear hK K d0 d1 d2 d3
  refine wpSq_call rfl (by kernel_rfl) fun K hK => ?_
  go_big_op
  go_fit (rzsign_any ha2 (by omega) )
  rintro e w_3 ⟨rfl, hb_3⟩
  clear ha1 x_b1
  replace ha2 := ha2.bl hb_3; replace hb := hb.trans (hb_3.mono hb.size)
  rw [HT.out]
  refine hK _ _ rfl ?_
  clear hK K hb_3
  refine wpSq_call rfl (by kernel_rfl) fun K hK => ?_
  go_big_op; refine hK _ _ rfl ?_; clear hK K
  refine wpSq_call rfl (by kernel_rfl) fun K hK => ?_
  go_big_op; refine hK _ _ rfl ?_; clear hK K
  refine wpSq_call rfl (by kernel_rfl) fun K hK => ?_
  go_big_move; refine hK _ _ rfl ?_; clear hK K
  apply wpSq_end
  refine hK2 _ _ ?_
  refine wp_ret ?_
  try dsimp only [Exit.then, Exit.inBlock]
  refine bodyPost_ret (v := (.bool true)) (by simp [results, Tryz.results94, go_sem]) rfl ?_
  exact ⟨rfl, hb⟩
set_option maxHeartbeats 4000000 in
set_option maxRecDepth 20000 in
theorem rgFirst_no1 (ha : PN w va x l y m) (hl : l ≤ 40000000) (hm : m ≤ 40000000) (h1 : ¬ 0 < x) :
    Calls Tryz.prog 94 #[va] w fun e w' => e = .returned (.bool false) ∧ Below w.heap.size w w' := by
  have hs := sign3' x
  have ht := sign3' y
  have hs1 : (0 < x.sign) = False := eq_false (by rw [Int.sign_pos_iff]; exact h1)
  obtain ⟨S, hS⟩ : ∃ S, x.sign = S := ⟨_, rfl⟩
  obtain ⟨T, hT⟩ : ∃ T, y.sign = T := ⟨_, rfl⟩
  rw [hS] at hs1
  have HS := hide hS
  have HT := hide hT
  clear hS hT hs ht h1
  obtain ⟨n_0a, o_0a, k_0a, c_0a, n_0b, o_0b, k_0b, c_0b, rfl, ha1, ha2⟩ := ha
  go_enter Tryz.func94, Tryz.ntmps94
  have hb := Below.refl w.heap.size w
  refine wp_seq_k ?_
  intro K1 hK1
  refine wp_region_sq [0, 1] (by kernel_rfl) ?_
  refine wpSq_call rfl (by kernel_rfl) fun K hK => ?_
  go_big_op
  obtain ⟨p_b1, w_1, eP, eW, x_b1, hn, kb_b1⟩ := newBox w #[.bool n_0a, .slice o_0a k_0a c_0a, .bool n_0b, .slice o_0b k_0b c_0b] 29 hb.size
  rw [eW, eP]
  clear eW eP
  replace ha1 := ha1.bl hn; replace ha2 := ha2.bl hn; replace hb := hb.trans (hn.mono hb.size)
  refine hK _ _ rfl ?_; clear hK K hn
  refine wpSq_call rfl (by kernel_rfl) fun K hK => ?_
  go_big_move; refine hK _ _ rfl ?_; clear hK K
  apply wpSq_end
  refine hK1 _ _ ?_
  refine wp_seq_k ?_
  intro K2 hK2
  refine wp_region_sq [0, 1, 2, 3, 4, 5, 6, 7, 8, 9, 10] (by kernel_rfl) ?_
  refine wpSq_call rfl (by kernel_rfl) fun K hK => ?_
  go_big_op; refine hK _ _ rfl ?_; clear hK K
  refine wpSq_call rfl (by kernel_rfl) fun K hK => ?_
  obtain ⟨d0, d1, d2, d3⟩ := x_b1.f4
  go_big_op; refine hK _ _ rfl ?_; clear hK K d0 d1 d2 d3
  refine wpSq_call rfl (by kernel_rfl) fun K hK => ?_
  go_big_op
  go_fit (rzsign_any ha1 (by omega) )
  rintro e w_2 ⟨rfl, hb_2⟩
  replace ha1 := ha1.bl hb_2; replace ha2 := ha2.bl hb_2; replace x_b1 := x_b1.bl hb_2; replace hb := hb.trans (hb_2.mono hb.size)
  rw [HS.out]
  refine hK _ _ rfl ?_
  clear hK K hb_2
  refine wpSq_call rfl (by kernel_rfl) fun K hK => ?_
  go_big_op; refine hK _ _ rfl ?_; clear hK K
  refine wpSq_call rfl (by kernel_rfl) fun K hK => ?_
  go_big_move; refine hK _ _ rfl ?_; clear hK K
  apply wpSq_skip
  case hi => rfl
  case hw => kernel_rfl
  case hp => unfold Act.put; simp only [List.setIfInBounds_toArray, List.set_cons_succ, List.set_cons_zero]; rfl
  apply wpSq_skip
  case hi => rfl
  case hw => kernel_rfl
  case hp => unfold Act.put; simp only [List.setIfInBounds_toArray, List.set_cons_succ, List.set_cons_zero]; rfl
  apply wpSq_skip
  case hi => rfl
  case hw => kernel_rfl
  case hp => unfold Act.put; simp only [List.setIfInBounds_toArray, List.set_cons_succ, List.set_cons_zero]; rfl
  apply wpSq_skip
  case hi => rfl
  case hw => kernel_rfl
  case hp => unfold Act.put; simp only [List.setIfInBounds_toArray, List.set_cons_succ, List.set_cons_zero]; rfl
  refine wpSq_call rfl (by kernel_rfl) fun K hK => ?_
  go_big_op; refine hK _ _ rfl ?_; clear hK K
  refine wpSq_call rfl (by kernel_rfl) fun K hK => ?_
  go_big_move; refine hK _ _ rfl ?_; clear hK K
  apply wpSq_end
  refine hK2 _ _ ?_
  refine wp_ret ?_
  try dsimp only [Exit.then, Exit.inBlock]
  refine bodyPost_ret (v := (.bool false)) (by simp [results, Tryz.results94, go_sem]) rfl ?_
  exact ⟨rfl, hb⟩
set_option maxHeartbeats 4000000 in
set_option maxRecDepth 20000 in
theorem rgFirst_no2 (ha : PN w va x l y m) (hl : l ≤ 40000000) (hm : m ≤ 40000000) (h1 : 0 < x) (h2 : ¬ 0 ≤ y) :
    Calls Tryz.prog 94 #[va] w fun e w' => e = .returned (.bool false) ∧ Below w.heap.size w w' := by
  have hs := sign3' x
  have ht := sign3' y
  have hs1 : (0 < x.sign) = True := eq_true (Int.sign_pos_iff.2 h1)
  have ht1 : (0 ≤ y.sign) = False := eq_false (by rw [Int.sign_nonneg_iff]; exact h2)
  obtain ⟨S, hS⟩ : ∃ S, x.sign = S := ⟨_, rfl⟩
  obtain ⟨T, hT⟩ : ∃ T, y.sign = T := ⟨_, rfl⟩
  rw [hS] at hs1
  rw [hT] at ht1
  have HS := hide hS
  have HT := hide hT
  clear hS hT hs ht h1 h2
  obtain ⟨n_0a, o_0a, k_0a, c_0a, n_0b, o_0b, k_0b, c_0b, rfl, ha1, ha2⟩ := ha
  go_enter Tryz.func94, Tryz.ntmps94
  have hb := Below.refl w.heap.size w
  refine wp_seq_k ?_
  intro K1 hK1
  refine wp_region_sq [0, 1] (by kernel_rfl) ?_
  refine wpSq_call rfl (by kernel_rfl) fun K hK => ?_
  go_big_op
  obtain ⟨p_b1, w_1, eP, eW, x_b1, hn, kb_b1⟩ := newBox w #[.bool n_0a, .slice o_0a k_0a c_0a, .bool n_0b, .slice o_0b k_0b c_0b] 29 hb.size
  rw [eW, eP]
  clear eW eP
  replace ha1 := ha1.bl hn; replace ha2 := ha2.bl hn; replace hb := hb.trans (hn.mono hb.size)
  refine hK _ _ rfl ?_; clear hK K hn
  refine wpSq_call rfl (by kernel_rfl) fun K hK => ?_
  go_big_move; refine hK _ _ rfl ?_; clear hK K
  apply wpSq_end
  refine hK1 _ _ ?_
  refine wp_seq_k ?_
  intro K2 hK2
  refine wp_region_sq [0, 1, 2, 3, 4, 5, 6, 7, 8, 9, 10] (by kernel_rfl) ?_
  refine wpSq_call rfl (by kernel_rfl) fun K hK => ?_
  go_big_op; refine hK _ _ rfl ?_; clear hK K
  refine wpSq_call rfl (by kernel_rfl) fun K hK => ?_
  obtain ⟨d0, d1, d2, d3⟩ := x_b1.f4
  go_big_op; refine hK _ _ rfl ?_; clear hK K d0 d1 d2 d3
  refine wpSq_call rfl (by kernel_rfl) fun K hK => ?_
  go_big_op
  go_fit (rzsign_any ha1 (by omega) )
  rintro e w_2 ⟨rfl, hb_2⟩
  replace ha1 := ha1.bl hb_2; replace ha2 := ha2.bl hb_2; replace x_b1 := x_b1.bl hb_2; replace hb := hb.trans (hb_2.mono hb.size)
  rw [HS.out]
  refine hK _ _ rfl ?_
  clear hK K hb_2
  refine wpSq_call rfl (by kernel_rfl) fun K hK => ?_
  go_big_op; refine hK _ _ rfl ?_; clear hK K
  refine wpSq_call rfl (by kernel_rfl) fun K hK => ?_
  go_big_move; refine hK _ _ rfl ?_; clear hK K
  refine wpSq_call rfl (by kernel_rfl) fun K hK => ?_
  go_big_op; refine hK _ _ rfl ?_; clear hK K
  refine wpSq_call rfl (by kernel_rfl) fun K hK => ?_
  obtain ⟨d0, d1, d2, d3⟩ := x_b1.f4
  go_big_op; refine hK _ _ rfl ?_; clear hK K d0 d1 d2 d3
  refine wpSq_call rfl (by kernel_rfl) fun K hK => ?_
  go_big_op
  go_fit (rzsign_any ha2 (by omega) )
  rintro e w_3 ⟨rfl, hb_3⟩
  clear ha1 x_b1
  replace ha2 := ha2.bl hb_3; replace hb := hb.trans (hb_3.mono hb.size)
  rw [HT.out]
  refine hK _ _ rfl ?_
  clear hK K hb_3
  refine wpSq_call rfl (by kernel_rfl) fun K hK => ?_
  go_big_op; refine hK _ _ rfl ?_; clear hK K
  refine wpSq_call rfl (by kernel_rfl) fun K hK => ?_
  go_big_op; refine hK _ _ rfl ?_; clear hK K
  refine wpSq_call rfl (by kernel_rfl) fun K hK => ?_
  go_big_move; refine hK _ _ rfl ?_; clear hK K
  apply wpSq_end
  refine hK2 _ _ ?_
  refine wp_ret ?_
  try dsimp only [Exit.then, Exit.inBlock]
  refine bodyPost_ret (v := (.bool false)) (by simp [results, Tryz.results94, go_sem]) rfl ?_
  exact ⟨rfl, hb⟩
theorem rgFirst_any (ha : PN w va x l y m) (hl : l ≤ 40000000) (hm : m ≤ 40000000) :
    Calls Tryz.prog 94 #[va] w fun e w' => e = .returned (.bool (decide (0 < x ∧ 0 ≤ y))) ∧ Below w.heap.size w w' := by
  by_cases h1 : 0 < x
  · by_cases h2 : 0 ≤ y
    · rw [decide_eq_true (And.intro h1 h2)]; exact rgFirst_yes ha hl hm h1 h2
    · rw [decide_eq_false (fun c => h2 c.2)]; exact rgFirst_no2 ha hl hm h1 h2
  · rw [decide_eq_false (fun c => h1 c.1)]; exact rgFirst_no1 ha hl hm h1
set_option maxHeartbeats 4000000 in
set_option maxRecDepth 20000 in
theorem rgCanon_0 (ha : PN w va x l y m) (hl : l ≤ 20000000) (hm : m ≤ 20000000) (hx : 0 < x ∧ 0 ≤ y) :
    Calls Tryz.prog 55 #[va] w fun e w' => ∃ r, e = .returned (.tuple #[r, .int .i64 0]) ∧ PC w' r (turn 0 (x, y)).1 (turn 0 (x, y)).2 ∧ Below w.heap.size w w' := by
  have L0 := hide (zlen_turn ha.len1 ha.len2 0)
  have F0 := hide (decide_eq_true (p := 0 < (turn 0 (x, y)).1 ∧ 0 ≤ (turn 0 (x, y)).2) (by simp only [turn_0]; omega))
  clear hx
  obtain ⟨n_0a, o_0a, k_0a, c_0a, n_0b, o_0b, k_0b, c_0b, rfl, ha1, ha2⟩ := ha
  go_enter Tryz.func55, Tryz.ntmps55
  have hb := Below.refl w.heap.size w
  refine wp_seq_k ?_
  intro K1 hK1
  refine wp_region_sq [0, 1, 2] (by kernel_rfl) ?_
  refine wpSq_call rfl (by kernel_rfl) fun K hK => ?_
  go_big_op
  obtain ⟨p_b1, w_1, eP, eW, x_b1, hn, kb_b1⟩ := newBox w #[.bool n_0a, .slice o_0a k_0a c_0a, .bool n_0b, .slice o_0b k_0b c_0b] 29 hb.size
  rw [eW, eP]
  clear eW eP
  replace ha1 := ha1.bl hn; replace ha2 := ha2.bl hn; replace hb := hb.trans (hn.mono hb.size)
  refine hK _ _ rfl ?_; clear hK K hn
  refine wpSq_call rfl (by kernel_rfl) fun K hK => ?_
  go_big_op
  have lt_b1 := x_b1.lt
  obtain ⟨p_b2, w_2, eP, eW, x_b2, hn, kb_b2⟩ := newBox w_1 #[.bool false, .slice none 0 0, .bool false, .slice none 0 0] 29 hb.size
  have ne_b1_b2 : Hid (p_b1 ≠ p_b2) := Nat.ne_of_lt (eP ▸ lt_b1)
  rw [eW, eP]
  clear eW eP lt_b1
  replace ha1 := ha1.bl hn; replace ha2 := ha2.bl hn; replace x_b1 := x_b1.bl hn; replace hb := hb.trans (hn.mono hb.size)
  refine hK _ _ rfl ?_; clear hK K hn
  refine wpSq_call rfl (by kernel_rfl) fun K hK => ?_
  go_big_move; refine hK _ _ rfl ?_; clear hK K
  apply wpSq_end
  refine hK1 _ _ ?_
  refine wp_seq_k ?_
  intro K2 hK2
  refine wp_seq_k ?_
  intro K3 hK3
  refine wp_region_sq [0] (by kernel_rfl) ?_
  refine wpSq_call rfl (by kernel_rfl) fun K hK => ?_
  go_big_move; refine hK _ _ rfl ?_; clear hK K
  apply wpSq_end
  refine hK3 _ _ ?_
  refine wp_block ?_
  refine wp_loop_rounds 5 ?_
  show Code.wp _ _ _ _ _
  refine wp_seq_k ?_
  intro K4 hK4
  refine wp_seq_k ?_
  intro K5 hK5
  refine wp_region_sq [0, 1] (by kernel_rfl) ?_
  refine wpSq_call rfl (by kernel_rfl) fun K hK => ?_
  go_big_move; refine hK _ _ rfl ?_; clear hK K
  refine wpSq_call rfl (by kernel_rfl) fun K hK => ?_
  go_big_op; refine hK _ _ rfl ?_; clear hK K
  apply wpSq_end
  refine hK5 _ _ ?_
  refine wp_cond_true (congrArg Value.bool (show _ = true from (by first | rfl | assumption | (simp; done) | exact decide_eq_true (by omega) | omega))) ?_
  refine wp_skip ?_
  refine hK4 _ _ ?_
  refine wp_seq_k ?_
  intro K6 hK6
  refine wp_block ?_
  refine wp_seq_k ?_
  intro K7 hK7
  refine wp_region_sq [0, 1, 2, 3, 4] (by kernel_rfl) ?_
  refine wpSq_call rfl (by kernel_rfl) fun K hK => ?_
  obtain ⟨d0, d1, d2, d3⟩ := x_b1.f4
  go_big_op; refine hK _ _ rfl ?_; clear hK K d0 d1 d2 d3
  refine wpSq_call rfl (by kernel_rfl) fun K hK => ?_
  go_big_move; refine hK _ _ rfl ?_; clear hK K
  refine wpSq_call rfl (by kernel_rfl) fun K hK => ?_
  go_big_op
  go_fit (rgTurn_p0 0 (by decide) (PN.mk' ha1 ha2) (by omega) (by omega))
  rintro e w_3 ⟨_, rfl, ⟨n_g0a, o_g0a, k_g0a, c_g0a, n_g0b, o_g0b, k_g0b, c_g0b, rfl, g01, g02⟩, hb_3⟩
  replace ha1 := ha1.bl hb_3; replace ha2 := ha2.bl hb_3; replace x_b1 := x_b1.bl hb_3; replace x_b2 := x_b2.bl hb_3; replace hb := hb.trans (hb_3.mono hb.size)
  have Lg01 := hide (g01.lenOf (L0.out.1))
  have Lg02 := hide (g02.lenOf (L0.out.2))
  refine hK _ _ rfl ?_
  clear hK K hb_3
  refine wpSq_call rfl (by kernel_rfl) fun K hK => ?_
  go_big_op
  have lt_b1 := x_b1.lt
  have lt_b2 := x_b2.lt
  obtain ⟨p_b3, w_4, eP, eW, x_b3, hn, kb_b3⟩ := newBox w_3 #[.bool false, .slice none 0 0, .bool false, .slice none 0 0] 29 hb.size
  have ne_b1_b3 : Hid (p_b1 ≠ p_b3) := Nat.ne_of_lt (eP ▸ lt_b1)
  have ne_b2_b3 : Hid (p_b2 ≠ p_b3) := Nat.ne_of_lt (eP ▸ lt_b2)
  rw [eW, eP]
  clear eW eP lt_b1 lt_b2
  replace ha1 := ha1.bl hn; replace ha2 := ha2.bl hn; replace x_b1 := x_b1.bl hn; replace x_b2 := x_b2.bl hn; replace g01 := g01.bl hn; replace g02 := g02.bl hn; replace hb := hb.trans (hn.mono hb.size)
  refine hK _ _ rfl ?_; clear hK K hn
  refine wpSq_call rfl (by kernel_rfl) fun K hK => ?_
  obtain ⟨d0, d1, d2, d3⟩ := x_b3.f4
  have f0 := x_b3.free 0; have f1 := x_b3.free 1; have f2 := x_b3.free 2; have f3 := x_b3.free 3
  go_big_op
  have hnd := x_b3.nod rfl rfl
  obtain ⟨w_5, eW, x_b3', ho⟩ : ∃ w', ((((w_4.setCell ⟨p_b3, 0, none⟩ (.bool n_g0a)).setCell ⟨p_b3, 1, none⟩ (.slice o_g0a k_g0a c_g0a)).setCell ⟨p_b3, 2, none⟩ (.bool n_g0b)).setCell ⟨p_b3, 3, none⟩ (.slice o_g0b k_g0b c_g0b)) = w' ∧ Bs w' p_b3 #[.bool n_g0a, .slice o_g0a k_g0a c_g0a, .bool n_g0b, .slice o_g0b k_g0b c_g0b] 29 ∧ Only p_b3 w_4 w' := x_b3.setN [(0, .bool n_g0a), (1, .slice o_g0a k_g0a c_g0a), (2, .bool n_g0b), (3, .slice o_g0b k_g0b c_g0b)]
  rw [eW]; clear eW d0 d1 d2 d3 f0 f1 f2 f3 x_b3
  have x_b3 := x_b3'; clear x_b3'
  replace ha1 := ha1.fr hnd ho; replace ha2 := ha2.fr hnd ho; replace x_b1 := x_b1.frame ho ne_b1_b3; replace x_b2 := x_b2.frame ho ne_b2_b3; replace g01 := g01.fr hnd ho; replace g02 := g02.fr hnd ho; replace hb := belowOnly hb ho kb_b3
  refine hK _ _ rfl ?_; clear hK K ho hnd
  apply wpSq_end
  refine hK7 _ _ ?_
  refine wp_seq_k ?_
  intro K8 hK8
  refine wp_region_sq [0, 1] (by kernel_rfl) ?_
  refine wpSq_call rfl (by kernel_rfl) fun K hK => ?_
  obtain ⟨d0, d1, d2, d3⟩ := x_b3.f4
  go_big_op; refine hK _ _ rfl ?_; clear hK K d0 d1 d2 d3
  refine wpSq_call rfl (by kernel_rfl) fun K hK => ?_
  go_big_op
  go_fit (rgFirst_any (.mk' (g01.zn L0.out.1) (g02.zn L0.out.2)) (by omega) (by omega))
  rintro e w_6 ⟨rfl, hb_6⟩
  replace ha1 := ha1.bl hb_6; replace ha2 := ha2.bl hb_6; replace x_b1 := x_b1.bl hb_6; replace x_b2 := x_b2.bl hb_6; replace g01 := g01.bl hb_6; replace g02 := g02.bl hb_6; replace x_b3 := x_b3.bl hb_6; replace hb := hb.trans (hb_6.mono hb.size)
  rw [F0.out]
  refine hK _ _ rfl ?_
  clear hK K hb_6
  apply wpSq_end
  refine hK8 _ _ ?_
  refine wp_cond_true (congrArg Value.bool (show _ = true from (by first | rfl | assumption | (simp; done) | exact decide_eq_true (by omega) | omega))) ?_
  refine wp_seq_k ?_
  intro K9 hK9
  refine wp_region_sq [0, 1, 2, 3] (by kernel_rfl) ?_
  refine wpSq_call rfl (by kernel_rfl) fun K hK => ?_
  obtain ⟨d0, d1, d2, d3⟩ := x_b3.f4
  go_big_op; refine hK _ _ rfl ?_; clear hK K d0 d1 d2 d3
  refine wpSq_call rfl (by kernel_rfl) fun K hK => ?_
  go_big_move; refine hK _ _ rfl ?_; clear hK K
  refine wpSq_call rfl (by kernel_rfl) fun K hK => ?_
  obtain ⟨d0, d1, d2, d3⟩ := x_b2.f4
  have f0 := x_b2.free 0; have f1 := x_b2.free 1; have f2 := x_b2.free 2; have f3 := x_b2.free 3
  go_big_op
  have hnd := x_b2.nod rfl rfl
  obtain ⟨w_7, eW, x_b2', ho⟩ : ∃ w', ((((w_6.setCell ⟨p_b2, 0, none⟩ (.bool n_g0a)).setCell ⟨p_b2, 1, none⟩ (.slice o_g0a k_g0a c_g0a)).setCell ⟨p_b2, 2, none⟩ (.bool n_g0b)).setCell ⟨p_b2, 3, none⟩ (.slice o_g0b k_g0b c_g0b)) = w' ∧ Bs w' p_b2 #[.bool n_g0a, .slice o_g0a k_g0a c_g0a, .bool n_g0b, .slice o_g0b k_g0b c_g0b] 29 ∧ Only p_b2 w_6 w' := x_b2.setN [(0, .bool n_g0a), (1, .slice o_g0a k_g0a c_g0a), (2, .bool n_g0b), (3, .slice o_g0b k_g0b c_g0b)]
  rw [eW]; clear eW d0 d1 d2 d3 f0 f1 f2 f3 x_b2
  have x_b2 := x_b2'; clear x_b2'
  replace ha1 := ha1.fr hnd ho; replace ha2 := ha2.fr hnd ho; replace x_b1 := x_b1.frame ho ne_b1_b2; replace g01 := g01.fr hnd ho; replace g02 := g02.fr hnd ho; replace x_b3 := x_b3.frame ho ne_b2_b3.symm; replace hb := belowOnly hb ho kb_b2
  refine hK _ _ rfl ?_; clear hK K ho hnd
  refine wpSq_call rfl (by kernel_rfl) fun K hK => ?_
  go_big_move; refine hK _ _ rfl ?_; clear hK K
  apply wpSq_end
  refine hK9 _ _ ?_
  refine wp_ret ?_
  try dsimp only [Exit.then, Exit.inBlock]
  obtain ⟨r0_0, r0_1, r0_2, r0_3⟩ := x_b2.f4
  refine bodyPost_ret (v := (.tuple #[(.agg #[.bool n_g0a, .slice o_g0a k_g0a c_g0a, .bool n_g0b, .slice o_g0b k_g0b c_g0b]), (.int .i64 0)])) (by simp [results, Tryz.results55, go_sem, r0_0, r0_1, r0_2, r0_3]) rfl ?_
  exact ⟨_, rfl, .mk' g01 g02, hb⟩
set_option maxHeartbeats 4000000 in
set_option maxRecDepth 20000 in
theorem rgCanon_1 (ha : PN w va x l y m) (hl : l ≤ 20000000) (hm : m ≤ 20000000) (hx : y < 0 ∧ 0 ≤ x) :
    Calls Tryz.prog 55 #[va] w fun e w' => ∃ r, e = .returned (.tuple #[r, .int .i64 1]) ∧ PC w' r (turn 1 (x, y)).1 (turn 1 (x, y)).2 ∧ Below w.heap.size w w' := by
  have L0 := hide (zlen_turn ha.len1 ha.len2 0)
  have F0 := hide (decide_eq_false (p := 0 < (turn 0 (x, y)).1 ∧ 0 ≤ (turn 0 (x, y)).2) (by simp only [turn_0]; omega))
  have L1 := hide (zlen_turn ha.len1 ha.len2 1)
  have F1 := hide (decide_eq_true (p := 0 < (turn 1 (x, y)).1 ∧ 0 ≤ (turn 1 (x, y)).2) (by simp only [turn_1]; omega))
  clear hx
  obtain ⟨n_0a, o_0a, k_0a, c_0a, n_0b, o_0b, k_0b, c_0b, rfl, ha1, ha2⟩ := ha
  go_enter Tryz.func55, Tryz.ntmps55
  have hb := Below.refl w.heap.size w
  refine wp_seq_k ?_
  intro K1 hK1
  refine wp_region_sq [0, 1, 2] (by kernel_rfl) ?_
  refine wpSq_call rfl (by kernel_rfl) fun K hK => ?_
  go_big_op
  obtain ⟨p_b1, w_1, eP, eW, x_b1, hn, kb_b1⟩ := newBox w #[.bool n_0a, .slice o_0a k_0a c_0a, .bool n_0b, .slice o_0b k_0b c_0b] 29 hb.size
  rw [eW, eP]
  clear eW eP
  replace ha1 := ha1.bl hn; replace ha2 := ha2.bl hn; replace hb := hb.trans (hn.mono hb.size)
  refine hK _ _ rfl ?_; clear hK K hn
  refine wpSq_call rfl (by kernel_rfl) fun K hK => ?_
  go_big_op
  have lt_b1 := x_b1.lt
  obtain ⟨p_b2, w_2, eP, eW, x_b2, hn, kb_b2⟩ := newBox w_1 #[.bool false, .slice none 0 0, .bool false, .slice none 0 0] 29 hb.size
  have ne_b1_b2 : Hid (p_b1 ≠ p_b2) := Nat.ne_of_lt (eP ▸ lt_b1)
  rw [eW, eP]
  clear eW eP lt_b1
  replace ha1 := ha1.bl hn; replace ha2 := ha2.bl hn; replace x_b1 := x_b1.bl hn; replace hb := hb.trans (hn.mono hb.size)
  refine hK _ _ rfl ?_; clear hK K hn
  refine wpSq_call rfl (by kernel_rfl) fun K hK => ?_
  go_big_move; refine hK _ _ rfl ?_; clear hK K
  apply wpSq_end
  refine hK1 _ _ ?_
  refine wp_seq_k ?_
  intro K2 hK2
  refine wp_seq_k ?_
  intro K3 hK3
  refine wp_region_sq [0] (by kernel_rfl) ?_
  refine wpSq_call rfl (by kernel_rfl) fun K hK => ?_
  go_big_move; refine hK _ _ rfl ?_; clear hK K
  apply wpSq_end
  refine hK3 _ _ ?_
  refine wp_block ?_
  refine wp_loop_rounds 5 ?_
  show Code.wp _ _ _ _ _
  refine wp_seq_k ?_
  intro K4 hK4
  refine wp_seq_k ?_
  intro K5 hK5
  refine wp_region_sq [0, 1] (by kernel_rfl) ?_
  refine wpSq_call rfl (by kernel_rfl) fun K hK => ?_
  go_big_move; refine hK _ _ rfl ?_; clear hK K
  refine wpSq_call rfl (by kernel_rfl) fun K hK => ?_
  go_big_op; refine hK _ _ rfl ?_; clear hK K
  apply wpSq_end
  refine hK5 _ _ ?_
  refine wp_cond_true (congrArg Value.bool (show _ = true from (by first | rfl | assumption | (simp; done) | exact decide_eq_true (by omega) | omega))) ?_
  refine wp_skip ?_
  refine hK4 _ _ ?_
  refine wp_seq_k ?_
  intro K6 hK6
  refine wp_block ?_
  refine wp_seq_k ?_
  intro K7 hK7
  refine wp_region_sq [0, 1, 2, 3, 4] (by kernel_rfl) ?_
  refine wpSq_call rfl (by kernel_rfl) fun K hK => ?_
  obtain ⟨d0, d1, d2, d3⟩ := x_b1.f4
  go_big_op; refine hK _ _ rfl ?_; clear hK K d0 d1 d2 d3
  refine wpSq_call rfl (by kernel_rfl) fun K hK => ?_
  go_big_move; refine hK _ _ rfl ?_; clear hK K
  refine wpSq_call rfl (by kernel_rfl) fun K hK => ?_
  go_big_op
  go_fit (rgTurn_p0 0 (by decide) (PN.mk' ha1 ha2) (by omega) (by omega))
  rintro e w_3 ⟨_, rfl, ⟨n_g0a, o_g0a, k_g0a, c_g0a, n_g0b, o_g0b, k_g0b, c_g0b, rfl, g01, g02⟩, hb_3⟩
  replace ha1 := ha1.bl hb_3; replace ha2 := ha2.bl hb_3; replace x_b1 := x_b1.bl hb_3; replace x_b2 := x_b2.bl hb_3; replace hb := hb.trans (hb_3.mono hb.size)
  have Lg01 := hide (g01.lenOf (L0.out.1))
  have Lg02 := hide (g02.lenOf (L0.out.2))
  refine hK _ _ rfl ?_
  clear hK K hb_3
  refine wpSq_call rfl (by kernel_rfl) fun K hK => ?_
  go_big_op
  have lt_b1 := x_b1.lt
  have lt_b2 := x_b2.lt
  obtain ⟨p_b3, w_4, eP, eW, x_b3, hn, kb_b3⟩ := newBox w_3 #[.bool false, .slice none 0 0, .bool false, .slice none 0 0] 29 hb.size
  have ne_b1_b3 : Hid (p_b1 ≠ p_b3) := Nat.ne_of_lt (eP ▸ lt_b1)
  have ne_b2_b3 : Hid (p_b2 ≠ p_b3) := Nat.ne_of_lt (eP ▸ lt_b2)
  rw [eW, eP]
  clear eW eP lt_b1 lt_b2
  replace ha1 := ha1.bl hn; replace ha2 := ha2.bl hn; replace x_b1 := x_b1.bl hn; replace x_b2 := x_b2.bl hn; replace g01 := g01.bl hn; replace g02 := g02.bl hn; replace hb := hb.trans (hn.mono hb.size)
  refine hK _ _ rfl ?_; clear hK K hn
  refine wpSq_call rfl (by kernel_rfl) fun K hK => ?_
  obtain ⟨d0, d1, d2, d3⟩ := x_b3.f4
  have f0 := x_b3.free 0; have f1 := x_b3.free 1; have f2 := x_b3.free 2; have f3 := x_b3.free 3
  go_big_op
  have hnd := x_b3.nod rfl rfl
  obtain ⟨w_5, eW, x_b3', ho⟩ : ∃ w', ((((w_4.setCell ⟨p_b3, 0, none⟩ (.bool n_g0a)).setCell ⟨p_b3, 1, none⟩ (.slice o_g0a k_g0a c_g0a)).setCell ⟨p_b3, 2, none⟩ (.bool n_g0b)).setCell ⟨p_b3, 3, none⟩ (.slice o_g0b k_g0b c_g0b)) = w' ∧ Bs w' p_b3 #[.bool n_g0a, .slice o_g0a k_g0a c_g0a, .bool n_g0b, .slice o_g0b k_g0b c_g0b] 29 ∧ Only p_b3 w_4 w' := x_b3.setN [(0, .bool n_g0a), (1, .slice o_g0a k_g0a c_g0a), (2, .bool n_g0b), (3, .slice o_g0b k_g0b c_g0b)]
  rw [eW]; clear eW d0 d1 d2 d3 f0 f1 f2 f3 x_b3
  have x_b3 := x_b3'; clear x_b3'
  replace ha1 := ha1.fr hnd ho; replace ha2 := ha2.fr hnd ho; replace x_b1 := x_b1.frame ho ne_b1_b3; replace x_b2 := x_b2.frame ho ne_b2_b3; replace g01 := g01.fr hnd ho; replace g02 := g02.fr hnd ho; replace hb := belowOnly hb ho kb_b3
  refine hK _ _ rfl ?_; clear hK K ho hnd
  apply wpSq_end
  refine hK7 _ _ ?_
  refine wp_seq_k ?_
  intro K8 hK8
  refine wp_region_sq [0, 1] (by kernel_rfl) ?_
  refine wpSq_call rfl (by kernel_rfl) fun K hK => ?_
  obtain ⟨d0, d1, d2, d3⟩ := x_b3.f4
  go_big_op; refine hK _ _ rfl ?_; clear hK K d0 d1 d2 d3
  refine wpSq_call rfl (by kernel_rfl) fun K hK => ?_
  go_big_op
  go_fit (rgFirst_any (.mk' (g01.zn L0.out.1) (g02.zn L0.out.2)) (by omega) (by omega))
  rintro e w_6 ⟨rfl, hb_6⟩
  replace ha1 := ha1.bl hb_6; replace ha2 := ha2.bl hb_6; replace x_b1 := x_b1.bl hb_6; replace x_b2 := x_b2.bl hb_6; replace g01 := g01.bl hb_6; replace g02 := g02.bl hb_6; replace x_b3 := x_b3.bl hb_6; replace hb := hb.trans (hb_6.mono hb.size)
  rw [F0.out]
  refine hK _ _ rfl ?_
  clear hK K hb_6
  apply wpSq_end
  refine hK8 _ _ ?_
  refine wp_cond_false (congrArg Value.bool (show _ = false from (by first | rfl | assumption | (simp; done) | exact decide_eq_false (by omega) | omega))) ?_
  refine wp_skip ?_
  refine hK6 _ _ ?_
  refine wp_region_sq [0, 1, 2] (by kernel_rfl) ?_
  refine wpSq_call rfl (by kernel_rfl) fun K hK => ?_
  go_big_move; refine hK _ _ rfl ?_; clear hK K
  refine wpSq_call rfl (by kernel_rfl) fun K hK => ?_
  go_big_op; refine hK _ _ rfl ?_; clear hK K
  refine wpSq_call rfl (by kernel_rfl) fun K hK => ?_
  go_big_move; refine hK _ _ rfl ?_; clear hK K
  apply wpSq_end
  show Code.wp _ _ _ _ _
  refine wp_seq_k ?_
  intro K9 hK9
  refine wp_seq_k ?_
  intro K10 hK10
  refine wp_region_sq [0, 1] (by kernel_rfl) ?_
  refine wpSq_call rfl (by kernel_rfl) fun K hK => ?_
  go_big_move; refine hK _ _ rfl ?_; clear hK K
  refine wpSq_call rfl (by kernel_rfl) fun K hK => ?_
  go_big_op; refine hK _ _ rfl ?_; clear hK K
  apply wpSq_end
  refine hK10 _ _ ?_
  refine wp_cond_true (congrArg Value.bool (show _ = true from (by first | rfl | assumption | (simp; done) | exact decide_eq_true (by omega) | omega))) ?_
  refine wp_skip ?_
  refine hK9 _ _ ?_
  refine wp_seq_k ?_
  intro K11 hK11
  refine wp_block ?_
  refine wp_seq_k ?_
  intro K12 hK12
  refine wp_region_sq [0, 1, 2, 3, 4] (by kernel_rfl) ?_
  refine wpSq_call rfl (by kernel_rfl) fun K hK => ?_
  obtain ⟨d0, d1, d2, d3⟩ := x_b1.f4
  go_big_op; refine hK _ _ rfl ?_; clear hK K d0 d1 d2 d3
  refine wpSq_call rfl (by kernel_rfl) fun K hK => ?_
  go_big_move; refine hK _ _ rfl ?_; clear hK K
  refine wpSq_call rfl (by kernel_rfl) fun K hK => ?_
  go_big_op
  go_fit (rgTurn_p1 1 (by decide) (PN.mk' ha1 ha2) (by omega) (by omega))
  rintro e w_7 ⟨_, rfl, ⟨n_g1a, o_g1a, k_g1a, c_g1a, n_g1b, o_g1b, k_g1b, c_g1b, rfl, g11, g12⟩, hb_7⟩
  replace ha1 := ha1.bl hb_7; replace ha2 := ha2.bl hb_7; replace x_b1 := x_b1.bl hb_7; replace x_b2 := x_b2.bl hb_7; replace g01 := g01.bl hb_7; replace g02 := g02.bl hb_7; replace x_b3 := x_b3.bl hb_7; replace hb := hb.trans (hb_7.mono hb.size)
  have Lg11 := hide (g11.lenOf (L1.out.1))
  have Lg12 := hide (g12.lenOf (L1.out.2))
  refine hK _ _ rfl ?_
  clear hK K hb_7
  refine wpSq_call rfl (by kernel_rfl) fun K hK => ?_
  go_big_op
  have lt_b1 := x_b1.lt
  have lt_b2 := x_b2.lt
  have lt_b3 := x_b3.lt
  obtain ⟨p_b4, w_8, eP, eW, x_b4, hn, kb_b4⟩ := newBox w_7 #[.bool false, .slice none 0 0, .bool false, .slice none 0 0] 29 hb.size
  have ne_b1_b4 : Hid (p_b1 ≠ p_b4) := Nat.ne_of_lt (eP ▸ lt_b1)
  have ne_b2_b4 : Hid (p_b2 ≠ p_b4) := Nat.ne_of_lt (eP ▸ lt_b2)
  have ne_b3_b4 : Hid (p_b3 ≠ p_b4) := Nat.ne_of_lt (eP ▸ lt_b3)
  rw [eW, eP]
  clear eW eP lt_b1 lt_b2 lt_b3
  replace ha1 := ha1.bl hn; replace ha2 := ha2.bl hn; replace x_b1 := x_b1.bl hn; replace x_b2 := x_b2.bl hn; replace g01 := g01.bl hn; replace g02 := g02.bl hn; replace x_b3 := x_b3.bl hn; replace g11 := g11.bl hn; replace g12 := g12.bl hn; replace hb := hb.trans (hn.mono hb.size)
  refine hK _ _ rfl ?_; clear hK K hn
  refine wpSq_call rfl (by kernel_rfl) fun K hK => ?_
  obtain ⟨d0, d1, d2, d3⟩ := x_b4.f4
  have f0 := x_b4.free 0; have f1 := x_b4.free 1; have f2 := x_b4.free 2; have f3 := x_b4.free 3
  go_big_op
  have hnd := x_b4.nod rfl rfl
  obtain ⟨w_9, eW, x_b4', ho⟩ : ∃ w', ((((w_8.setCell ⟨p_b4, 0, none⟩ (.bool n_g1a)).setCell ⟨p_b4, 1, none⟩ (.slice o_g1a k_g1a c_g1a)).setCell ⟨p_b4, 2, none⟩ (.bool n_g1b)).setCell ⟨p_b4, 3, none⟩ (.slice o_g1b k_g1b c_g1b)) = w' ∧ Bs w' p_b4 #[.bool n_g1a, .slice o_g1a k_g1a c_g1a, .bool n_g1b, .slice o_g1b k_g1b c_g1b] 29 ∧ Only p_b4 w_8 w' := x_b4.setN [(0, .bool n_g1a), (1, .slice o_g1a k_g1a c_g1a), (2, .bool n_g1b), (3, .slice o_g1b k_g1b c_g1b)]
  rw [eW]; clear eW d0 d1 d2 d3 f0 f1 f2 f3 x_b4
  have x_b4 := x_b4'; clear x_b4'
  clear x_b3
  replace ha1 := ha1.fr hnd ho; replace ha2 := ha2.fr hnd ho; replace x_b1 := x_b1.frame ho ne_b1_b4; replace x_b2 := x_b2.frame ho ne_b2_b4; replace g01 := g01.fr hnd ho; replace g02 := g02.fr hnd ho; replace g11 := g11.fr hnd ho; replace g12 := g12.fr hnd ho; replace hb := belowOnly hb ho kb_b4
  refine hK _ _ rfl ?_; clear hK K ho hnd
  apply wpSq_end
  refine hK12 _ _ ?_
  refine wp_seq_k ?_
  intro K13 hK13
  refine wp_region_sq [0, 1] (by kernel_rfl) ?_
  refine wpSq_call rfl (by kernel_rfl) fun K hK => ?_
  obtain ⟨d0, d1, d2, d3⟩ := x_b4.f4
  go_big_op; refine hK _ _ rfl ?_; clear hK K d0 d1 d2 d3
  refine wpSq_call rfl (by kernel_rfl) fun K hK => ?_
  go_big_op
  go_fit (rgFirst_any (.mk' (g11.zn L1.out.1) (g12.zn L1.out.2)) (by omega) (by omega))
  rintro e w_10 ⟨rfl, hb_10⟩
  clear g01 g02
  replace ha1 := ha1.bl hb_10; replace ha2 := ha2.bl hb_10; replace x_b1 := x_b1.bl hb_10; replace x_b2 := x_b2.bl hb_10; replace g11 := g11.bl hb_10; replace g12 := g12.bl hb_10; replace x_b4 := x_b4.bl hb_10; replace hb := hb.trans (hb_10.mono hb.size)
  rw [F1.out]
  refine hK _ _ rfl ?_
  clear hK K hb_10
  apply wpSq_end
  refine hK13 _ _ ?_
  refine wp_cond_true (congrArg Value.bool (show _ = true from (by first | rfl | assumption | (simp; done) | exact decide_eq_true (by omega) | omega))) ?_
  refine wp_seq_k ?_
  intro K14 hK14
  refine wp_region_sq [0, 1, 2, 3] (by kernel_rfl) ?_
  refine wpSq_call rfl (by kernel_rfl) fun K hK => ?_
  obtain ⟨d0, d1, d2, d3⟩ := x_b4.f4
  go_big_op; refine hK _ _ rfl ?_; clear hK K d0 d1 d2 d3
  refine wpSq_call rfl (by kernel_rfl) fun K hK => ?_
  go_big_move; refine hK _ _ rfl ?_; clear hK K
  refine wpSq_call rfl (by kernel_rfl) fun K hK => ?_
  obtain ⟨d0, d1, d2, d3⟩ := x_b2.f4
  have f0 := x_b2.free 0; have f1 := x_b2.free 1; have f2 := x_b2.free 2; have f3 := x_b2.free 3
  go_big_op
  have hnd := x_b2.nod rfl rfl
  obtain ⟨w_11, eW, x_b2', ho⟩ : ∃ w', ((((w_10.setCell ⟨p_b2, 0, none⟩ (.bool n_g1a)).setCell ⟨p_b2, 1, none⟩ (.slice o_g1a k_g1a c_g1a)).setCell ⟨p_b2, 2, none⟩ (.bool n_g1b)).setCell ⟨p_b2, 3, none⟩ (.slice o_g1b k_g1b c_g1b)) = w' ∧ Bs w' p_b2 #[.bool n_g1a, .slice o_g1a k_g1a c_g1a, .bool n_g1b, .slice o_g1b k_g1b c_g1b] 29 ∧ Only p_b2 w_10 w' := x_b2.setN [(0, .bool n_g1a), (1, .slice o_g1a k_g1a c_g1a), (2, .bool n_g1b), (3, .slice o_g1b k_g1b c_g1b)]
  rw [eW]; clear eW d0 d1 d2 d3 f0 f1 f2 f3 x_b2
  have x_b2 := x_b2'; clear x_b2'
  replace ha1 := ha1.fr hnd ho; replace ha2 := ha2.fr hnd ho; replace x_b1 := x_b1.frame ho ne_b1_b2; replace g11 := g11.fr hnd ho; replace g12 := g12.fr hnd ho; replace x_b4 := x_b4.frame ho ne_b2_b4.symm; replace hb := belowOnly hb ho kb_b2
  refine hK _ _ rfl ?_; clear hK K ho hnd
  refine wpSq_call rfl (by kernel_rfl) fun K hK => ?_
  go_big_move; refine hK _ _ rfl ?_; clear hK K
  apply wpSq_end
  refine hK14 _ _ ?_
  refine wp_ret ?_
  try dsimp only [Exit.then, Exit.inBlock]
  obtain ⟨r0_0, r0_1, r0_2, r0_3⟩ := x_b2.f4
  refine bodyPost_ret (v := (.tuple #[(.agg #[.bool n_g1a, .slice o_g1a k_g1a c_g1a, .bool n_g1b, .slice o_g1b k_g1b c_g1b]), (.int .i64 1)])) (by simp [results, Tryz.results55, go_sem, r0_0, r0_1, r0_2, r0_3]) rfl ?_
  exact ⟨_, rfl, .mk' g11 g12, hb⟩
set_option maxHeartbeats 4000000 in
set_option maxRecDepth 20000 in
theorem rgCanon_2 (ha : PN w va x l y m) (hl : l ≤ 20000000) (hm : m ≤ 20000000) (hx : x < 0 ∧ y ≤ 0) :
    Calls Tryz.prog 55 #[va] w fun e w' => ∃ r, e = .returned (.tuple #[r, .int .i64 2]) ∧ PC w' r (turn 2 (x, y)).1 (turn 2 (x, y)).2 ∧ Below w.heap.size w w' := by
  have L0 := hide (zlen_turn ha.len1 ha.len2 0)
  have F0 := hide (decide_eq_false (p := 0 < (turn 0 (x, y)).1 ∧ 0 ≤ (turn 0 (x, y)).2) (by simp only [turn_0]; omega))
  have L1 := hide (zlen_turn ha.len1 ha.len2 1)
  have F1 := hide (decide_eq_false (p := 0 < (turn 1 (x, y)).1 ∧ 0 ≤ (turn 1 (x, y)).2) (by simp only [turn_1]; omega))
  have L2 := hide (zlen_turn ha.len1 ha.len2 2)
  have F2 := hide (decide_eq_true (p := 0 < (turn 2 (x, y)).1 ∧ 0 ≤ (turn 2 (x, y)).2) (by simp only [turn_2]; omega))
  clear hx
  obtain ⟨n_0a, o_0a, k_0a, c_0a, n_0b, o_0b, k_0b, c_0b, rfl, ha1, ha2⟩ := ha
  go_enter Tryz.func55, Tryz.ntmps55
  have hb := Below.refl w.heap.size w
  refine wp_seq_k ?_
  intro K1 hK1
  refine wp_region_sq [0, 1, 2] (by kernel_rfl) ?_
  refine wpSq_call rfl (by kernel_rfl) fun K hK => ?_
  go_big_op
  obtain ⟨p_b1, w_1, eP, eW, x_b1, hn, kb_b1⟩ := newBox w #[.bool n_0a, .slice o_0a k_0a c_0a, .bool n_0b, .slice o_0b k_0b c_0b] 29 hb.size
  rw [eW, eP]
  clear eW eP
  replace ha1 := ha1.bl hn; replace ha2 := ha2.bl hn; replace hb := hb.trans (hn.mono hb.size)
  refine hK _ _ rfl ?_; clear hK K hn
  refine wpSq_call rfl (by kernel_rfl) fun K hK => ?_
  go_big_op
  have lt_b1 := x_b1.lt
  obtain ⟨p_b2, w_2, eP, eW, x_b2, hn, kb_b2⟩ := newBox w_1 #[.bool false, .slice none 0 0, .bool false, .slice none 0 0] 29 hb.size
  have ne_b1_b2 : Hid (p_b1 ≠ p_b2) := Nat.ne_of_lt (eP ▸ lt_b1)
  rw [eW, eP]
  clear eW eP lt_b1
  replace ha1 := ha1.bl hn; replace ha2 := ha2.bl hn; replace x_b1 := x_b1.bl hn; replace hb := hb.trans (hn.mono hb.size)
  refine hK _ _ rfl ?_; clear hK K hn
  refine wpSq_call rfl (by kernel_rfl) fun K hK => ?_
  go_big_move; refine hK _ _ rfl ?_; clear hK K
  apply wpSq_end
  refine hK1 _ _ ?_
  refine wp_seq_k ?_
  intro K2 hK2
  refine wp_seq_k ?_
  intro K3 hK3
  refine wp_region_sq [0] (by kernel_rfl) ?_
  refine wpSq_call rfl (by kernel_rfl) fun K hK => ?_
  go_big_move; refine hK _ _ rfl ?_; clear hK K
  apply wpSq_end
  refine hK3 _ _ ?_
  refine wp_block ?_
  refine wp_loop_rounds 5 ?_
  show Code.wp _ _ _ _ _
  refine wp_seq_k ?_
  intro K4 hK4
  refine wp_seq_k ?_
  intro K5 hK5
  refine wp_region_sq [0, 1] (by kernel_rfl) ?_
  refine wpSq_call rfl (by kernel_rfl) fun K hK => ?_
  go_big_move; refine hK _ _ rfl ?_; clear hK K
  refine wpSq_call rfl (by kernel_rfl) fun K hK => ?_
  go_big_op; refine hK _ _ rfl ?_; clear hK K
  apply wpSq_end
  refine hK5 _ _ ?_
  refine wp_cond_true (congrArg Value.bool (show _ = true from (by first | rfl | assumption | (simp; done) | exact decide_eq_true (by omega) | omega))) ?_
  refine wp_skip ?_
  refine hK4 _ _ ?_
  refine wp_seq_k ?_
  intro K6 hK6
  refine wp_block ?_
  refine wp_seq_k ?_
  intro K7 hK7
  refine wp_region_sq [0, 1, 2, 3, 4] (by kernel_rfl) ?_
  refine wpSq_call rfl (by kernel_rfl) fun K hK => ?_
  obtain ⟨d0, d1, d2, d3⟩ := x_b1.f4
  go_big_op; refine hK _ _ rfl ?_; clear hK K d0 d1 d2 d3
  refine wpSq_call rfl (by kernel_rfl) fun K hK => ?_
  go_big_move; refine hK _ _ rfl ?_; clear hK K
  refine wpSq_call rfl (by kernel_rfl) fun K hK => ?_
  go_big_op
  go_fit (rgTurn_p0 0 (by decide) (PN.mk' ha1 ha2) (by omega) (by omega))
  rintro e w_3 ⟨_, rfl, ⟨n_g0a, o_g0a, k_g0a, c_g0a, n_g0b, o_g0b, k_g0b, c_g0b, rfl, g01, g02⟩, hb_3⟩
  replace ha1 := ha1.bl hb_3; replace ha2 := ha2.bl hb_3; replace x_b1 := x_b1.bl hb_3; replace x_b2 := x_b2.bl hb_3; replace hb := hb.trans (hb_3.mono hb.size)
  have Lg01 := hide (g01.lenOf (L0.out.1))
  have Lg02 := hide (g02.lenOf (L0.out.2))
  refine hK _ _ rfl ?_
  clear hK K hb_3
  refine wpSq_call rfl (by kernel_rfl) fun K hK => ?_
  go_big_op
  have lt_b1 := x_b1.lt
  have lt_b2 := x_b2.lt
  obtain ⟨p_b3, w_4, eP, eW, x_b3, hn, kb_b3⟩ := newBox w_3 #[.bool false, .slice none 0 0, .bool false, .slice none 0 0] 29 hb.size
  have ne_b1_b3 : Hid (p_b1 ≠ p_b3) := Nat.ne_of_lt (eP ▸ lt_b1)
  have ne_b2_b3 : Hid (p_b2 ≠ p_b3) := Nat.ne_of_lt (eP ▸ lt_b2)
  rw [eW, eP]
  clear eW eP lt_b1 lt_b2
  replace ha1 := ha1.bl hn; replace ha2 := ha2.bl hn; replace x_b1 := x_b1.bl hn; replace x_b2 := x_b2.bl hn; replace g01 := g01.bl hn; replace g02 := g02.bl hn; replace hb := hb.trans (hn.mono hb.size)
  refine hK _ _ rfl ?_; clear hK K hn
  refine wpSq_call rfl (by kernel_rfl) fun K hK => ?_
  obtain ⟨d0, d1, d2, d3⟩ := x_b3.f4
  have f0 := x_b3.free 0; have f1 := x_b3.free 1; have f2 := x_b3.free 2; have f3 := x_b3.free 3
  go_big_op
  have hnd := x_b3.nod rfl rfl
  obtain ⟨w_5, eW, x_b3', ho⟩ : ∃ w', ((((w_4.setCell ⟨p_b3, 0, none⟩ (.bool n_g0a)).setCell ⟨p_b3, 1, none⟩ (.slice o_g0a k_g0a c_g0a)).setCell ⟨p_b3, 2, none⟩ (.bool n_g0b)).setCell ⟨p_b3, 3, none⟩ (.slice o_g0b k_g0b c_g0b)) = w' ∧ Bs w' p_b3 #[.bool n_g0a, .slice o_g0a k_g0a c_g0a, .bool n_g0b, .slice o_g0b k_g0b c_g0b] 29 ∧ Only p_b3 w_4 w' := x_b3.setN [(0, .bool n_g0a), (1, .slice o_g0a k_g0a c_g0a), (2, .bool n_g0b), (3, .slice o_g0b k_g0b c_g0b)]
  rw [eW]; clear eW d0 d1 d2 d3 f0 f1 f2 f3 x_b3
  have x_b3 := x_b3'; clear x_b3'
  replace ha1 := ha1.fr hnd ho; replace ha2 := ha2.fr hnd ho; replace x_b1 := x_b1.frame ho ne_b1_b3; replace x_b2 := x_b2.frame ho ne_b2_b3; replace g01 := g01.fr hnd ho; replace g02 := g02.fr hnd ho; replace hb := belowOnly hb ho kb_b3
  refine hK _ _ rfl ?_; clear hK K ho hnd
  apply wpSq_end
  refine hK7 _ _ ?_
  refine wp_seq_k ?_
  intro K8 hK8
  refine wp_region_sq [0, 1] (by kernel_rfl) ?_
  refine wpSq_call rfl (by kernel_rfl) fun K hK => ?_
  obtain ⟨d0, d1, d2, d3⟩ := x_b3.f4
  go_big_op; refine hK _ _ rfl ?_; clear hK K d0 d1 d2 d3
  refine wpSq_call rfl (by kernel_rfl) fun K hK => ?_
  go_big_op
  go_fit (rgFirst_any (.mk' (g01.zn L0.out.1) (g02.zn L0.out.2)) (by omega) (by omega))
  rintro e w_6 ⟨rfl, hb_6⟩
  replace ha1 := ha1.bl hb_6; replace ha2 := ha2.bl hb_6; replace x_b1 := x_b1.bl hb_6; replace x_b2 := x_b2.bl hb_6; replace g01 := g01.bl hb_6; replace g02 := g02.bl hb_6; replace x_b3 := x_b3.bl hb_6; replace hb := hb.trans (hb_6.mono hb.size)
  rw [F0.out]
  refine hK _ _ rfl ?_
  clear hK K hb_6
  apply wpSq_end
  refine hK8 _ _ ?_
  refine wp_cond_false (congrArg Value.bool (show _ = false from (by first | rfl | assumption | (simp; done) | exact decide_eq_false (by omega) | omega))) ?_
  refine wp_skip ?_
  refine hK6 _ _ ?_
  refine wp_region_sq [0, 1, 2] (by kernel_rfl) ?_
  refine wpSq_call rfl (by kernel_rfl) fun K hK => ?_
  go_big_move; refine hK _ _ rfl ?_; clear hK K
  refine wpSq_call rfl (by kernel_rfl) fun K hK => ?_
  go_big_op; refine hK _ _ rfl ?_; clear hK K
  refine wpSq_call rfl (by kernel_rfl) fun K hK => ?_
  go_big_move; refine hK _ _ rfl ?_; clear hK K
  apply wpSq_end
  show Code.wp _ _ _ _ _
  refine wp_seq_k ?_
  intro K9 hK9
  refine wp_seq_k ?_
  intro K10 hK10
  refine wp_region_sq [0, 1] (by kernel_rfl) ?_
  refine wpSq_call rfl (by kernel_rfl) fun K hK => ?_
  go_big_move; refine hK _ _ rfl ?_; clear hK K
  refine wpSq_call rfl (by kernel_rfl) fun K hK => ?_
  go_big_op; refine hK _ _ rfl ?_; clear hK K
  apply wpSq_end
  refine hK10 _ _ ?_
  refine wp_cond_true (congrArg Value.bool (show _ = true from (by first | rfl | assumption | (simp; done) | exact decide_eq_true (by omega) | omega))) ?_
  refine wp_skip ?_
  refine hK9 _ _ ?_
  refine wp_seq_k ?_
  intro K11 hK11
  refine wp_block ?_
  refine wp_seq_k ?_
  intro K12 hK12
  refine wp_region_sq [0, 1, 2, 3, 4] (by kernel_rfl) ?_
  refine wpSq_call rfl (by kernel_rfl) fun K hK => ?_
  obtain ⟨d0, d1, d2, d3⟩ := x_b1.f4
  go_big_op; refine hK _ _ rfl ?_; clear hK K d0 d1 d2 d3
  refine wpSq_call rfl (by kernel_rfl) fun K hK => ?_
  go_big_move; refine hK _ _ rfl ?_; clear hK K
  refine wpSq_call rfl (by kernel_rfl) fun K hK => ?_
  go_big_op
  go_fit (rgTurn_p1 1 (by decide) (PN.mk' ha1 ha2) (by omega) (by omega))
  rintro e w_7 ⟨_, rfl, ⟨n_g1a, o_g1a, k_g1a, c_g1a, n_g1b, o_g1b, k_g1b, c_g1b, rfl, g11, g12⟩, hb_7⟩
  replace ha1 := ha1.bl hb_7; replace ha2 := ha2.bl hb_7; replace x_b1 := x_b1.bl hb_7; replace x_b2 := x_b2.bl hb_7; replace g01 := g01.bl hb_7; replace g02 := g02.bl hb_7; replace x_b3 := x_b3.bl hb_7; replace hb := hb.trans (hb_7.mono hb.size)
  have Lg11 := hide (g11.lenOf (L1.out.1))
  have Lg12 := hide (g12.lenOf (L1.out.2))
  refine hK _ _ rfl ?_
  clear hK K hb_7
  refine wpSq_call rfl (by kernel_rfl) fun K hK => ?_
  go_big_op
  have lt_b1 := x_b1.lt
  have lt_b2 := x_b2.lt
  have lt_b3 := x_b3.lt
  obtain ⟨p_b4, w_8, eP, eW, x_b4, hn, kb_b4⟩ := newBox w_7 #[.bool false, .slice none 0 0, .bool false, .slice none 0 0] 29 hb.size
  have ne_b1_b4 : Hid (p_b1 ≠ p_b4) := Nat.ne_of_lt (eP ▸ lt_b1)
  have ne_b2_b4 : Hid (p_b2 ≠ p_b4) := Nat.ne_of_lt (eP ▸ lt_b2)
  have ne_b3_b4 : Hid (p_b3 ≠ p_b4) := Nat.ne_of_lt (eP ▸ lt_b3)
  rw [eW, eP]
  clear eW eP lt_b1 lt_b2 lt_b3
  replace ha1 := ha1.bl hn; replace ha2 := ha2.bl hn; replace x_b1 := x_b1.bl hn; replace x_b2 := x_b2.bl hn; replace g01 := g01.bl hn; replace g02 := g02.bl hn; replace x_b3 := x_b3.bl hn; replace g11 := g11.bl hn; replace g12 := g12.bl hn; replace hb := hb.trans (hn.mono hb.size)
  refine hK _ _ rfl ?_; clear hK K hn
  refine wpSq_call rfl (by kernel_rfl) fun K hK => ?_
  obtain ⟨d0, d1, d2, d3⟩ := x_b4.f4
  have f0 := x_b4.free 0; have f1 := x_b4.free 1; have f2 := x_b4.free 2; have f3 := x_b4.free 3
  go_big_op
  have hnd := x_b4.nod rfl rfl
  obtain ⟨w_9, eW, x_b4', ho⟩ : ∃ w', ((((w_8.setCell ⟨p_b4, 0, none⟩ (.bool n_g1a)).setCell ⟨p_b4, 1, none⟩ (.slice o_g1a k_g1a c_g1a)).setCell ⟨p_b4, 2, none⟩ (.bool n_g1b)).setCell ⟨p_b4, 3, none⟩ (.slice o_g1b k_g1b c_g1b)) = w' ∧ Bs w' p_b4 #[.bool n_g1a, .slice o_g1a k_g1a c_g1a, .bool n_g1b, .slice o_g1b k_g1b c_g1b] 29 ∧ Only p_b4 w_8 w' := x_b4.setN [(0, .bool n_g1a), (1, .slice o_g1a k_g1a c_g1a), (2, .bool n_g1b), (3, .slice o_g1b k_g1b c_g1b)]
  rw [eW]; clear eW d0 d1 d2 d3 f0 f1 f2 f3 x_b4
  have x_b4 := x_b4'; clear x_b4'
  clear x_b3
  replace ha1 := ha1.fr hnd ho; replace ha2 := ha2.fr hnd ho; replace x_b1 := x_b1.frame ho ne_b1_b4; replace x_b2 := x_b2.frame ho ne_b2_b4; replace g01 := g01.fr hnd ho; replace g02 := g02.fr hnd ho; replace g11 := g11.fr hnd ho; replace g12 := g12.fr hnd ho; replace hb := belowOnly hb ho kb_b4
  refine hK _ _ rfl ?_; clear hK K ho hnd
  apply wpSq_end
  refine hK12 _ _ ?_
  refine wp_seq_k ?_
  intro K13 hK13
  refine wp_region_sq [0, 1] (by kernel_rfl) ?_
  refine wpSq_call rfl (by kernel_rfl) fun K hK => ?_
  obtain ⟨d0, d1, d2, d3⟩ := x_b4.f4
  go_big_op; refine hK _ _ rfl ?_; clear hK K d0 d1 d2 d3
  refine wpSq_call rfl (by kernel_rfl) fun K hK => ?_
  go_big_op
  go_fit (rgFirst_any (.mk' (g11.zn L1.out.1) (g12.zn L1.out.2)) (by omega) (by omega))
  rintro e w_10 ⟨rfl, hb_10⟩
  clear g01 g02
  replace ha1 := ha1.bl hb_10; replace ha2 := ha2.bl hb_10; replace x_b1 := x_b1.bl hb_10; replace x_b2 := x_b2.bl hb_10; replace g11 := g11.bl hb_10; replace g12 := g12.bl hb_10; replace x_b4 := x_b4.bl hb_10; replace hb := hb.trans (hb_10.mono hb.size)
  rw [F1.out]
  refine hK _ _ rfl ?_
  clear hK K hb_10
  apply wpSq_end
  refine hK13 _ _ ?_
  refine wp_cond_false (congrArg Value.bool (show _ = false from (by first | rfl | assumption | (simp; done) | exact decide_eq_false (by omega) | omega))) ?_
  refine wp_skip ?_
  refine hK11 _ _ ?_
  refine wp_region_sq [0, 1, 2] (by kernel_rfl) ?_
  refine wpSq_call rfl (by kernel_rfl) fun K hK => ?_
  go_big_move; refine hK _ _ rfl ?_; clear hK K
  refine wpSq_call rfl (by kernel_rfl) fun K hK => ?_
  go_big_op; refine hK _ _ rfl ?_; clear hK K
  refine wpSq_call rfl (by kernel_rfl) fun K hK => ?_
  go_big_move; refine hK _ _ rfl ?_; clear hK K
  apply wpSq_end
  show Code.wp _ _ _ _ _
  refine wp_seq_k ?_
  intro K14 hK14
  refine wp_seq_k ?_
  intro K15 hK15
  refine wp_region_sq [0, 1] (by kernel_rfl) ?_
  refine wpSq_call rfl (by kernel_rfl) fun K hK => ?_
  go_big_move; refine hK _ _ rfl ?_; clear hK K
  refine wpSq_call rfl (by kernel_rfl) fun K hK => ?_
  go_big_op; refine hK _ _ rfl ?_; clear hK K
  apply wpSq_end
  refine hK15 _ _ ?_
  refine wp_cond_true (congrArg Value.bool (show _ = true from (by first | rfl | assumption | (simp; done) | exact decide_eq_true (by omega) | omega))) ?_
  refine wp_skip ?_
  refine hK14 _ _ ?_
  refine wp_seq_k ?_
  intro K16 hK16
  refine wp_block ?_
  refine wp_seq_k ?_
  intro K17 hK17
  refine wp_region_sq [0, 1, 2, 3, 4] (by kernel_rfl) ?_
  refine wpSq_call rfl (by kernel_rfl) fun K hK => ?_
  obtain ⟨d0, d1, d2, d3⟩ := x_b1.f4
  go_big_op; refine hK _ _ rfl ?_; clear hK K d0 d1 d2 d3
  refine wpSq_call rfl (by kernel_rfl) fun K hK => ?_
  go_big_move; refine hK _ _ rfl ?_; clear hK K
  refine wpSq_call rfl (by kernel_rfl) fun K hK => ?_
  go_big_op
  go_fit (rgTurn_p2 2 (by decide) (PN.mk' ha1 ha2) (by omega) (by omega))
  rintro e w_11 ⟨_, rfl, ⟨n_g2a, o_g2a, k_g2a, c_g2a, n_g2b, o_g2b, k_g2b, c_g2b, rfl, g21, g22⟩, hb_11⟩
  replace ha1 := ha1.bl hb_11; replace ha2 := ha2.bl hb_11; replace x_b1 := x_b1.bl hb_11; replace x_b2 := x_b2.bl hb_11; replace g11 := g11.bl hb_11; replace g12 := g12.bl hb_11; replace x_b4 := x_b4.bl hb_11; replace hb := hb.trans (hb_11.mono hb.size)
  have Lg21 := hide (g21.lenOf (L2.out.1))
  have Lg22 := hide (g22.lenOf (L2.out.2))
  refine hK _ _ rfl ?_
  clear hK K hb_11
  refine wpSq_call rfl (by kernel_rfl) fun K hK => ?_
  go_big_op
  have lt_b1 := x_b1.lt
  have lt_b2 := x_b2.lt
  have lt_b4 := x_b4.lt
  obtain ⟨p_b5, w_12, eP, eW, x_b5, hn, kb_b5⟩ := newBox w_11 #[.bool false, .slice none 0 0, .bool false, .slice none 0 0] 29 hb.size
  have ne_b1_b5 : Hid (p_b1 ≠ p_b5) := Nat.ne_of_lt (eP ▸ lt_b1)
  have ne_b2_b5 : Hid (p_b2 ≠ p_b5) := Nat.ne_of_lt (eP ▸ lt_b2)
  have ne_b4_b5 : Hid (p_b4 ≠ p_b5) := Nat.ne_of_lt (eP ▸ lt_b4)
  rw [eW, eP]
  clear eW eP lt_b1 lt_b2 lt_b4
  replace ha1 := ha1.bl hn; replace ha2 := ha2.bl hn; replace x_b1 := x_b1.bl hn; replace x_b2 := x_b2.bl hn; replace g11 := g11.bl hn; replace g12 := g12.bl hn; replace x_b4 := x_b4.bl hn; replace g21 := g21.bl hn; replace g22 := g22.bl hn; replace hb := hb.trans (hn.mono hb.size)
  refine hK _ _ rfl ?_; clear hK K hn
  refine wpSq_call rfl (by kernel_rfl) fun K hK => ?_
  obtain ⟨d0, d1, d2, d3⟩ := x_b5.f4
  have f0 := x_b5.free 0; have f1 := x_b5.free 1; have f2 := x_b5.free 2; have f3 := x_b5.free 3
  go_big_op
  have hnd := x_b5.nod rfl rfl
  obtain ⟨w_13, eW, x_b5', ho⟩ : ∃ w', ((((w_12.setCell ⟨p_b5, 0, none⟩ (.bool n_g2a)).setCell ⟨p_b5, 1, none⟩ (.slice o_g2a k_g2a c_g2a)).setCell ⟨p_b5, 2, none⟩ (.bool n_g2b)).setCell ⟨p_b5, 3, none⟩ (.slice o_g2b k_g2b c_g2b)) = w' ∧ Bs w' p_b5 #[.bool n_g2a, .slice o_g2a k_g2a c_g2a, .bool n_g2b, .slice o_g2b k_g2b c_g2b] 29 ∧ Only p_b5 w_12 w' := x_b5.setN [(0, .bool n_g2a), (1, .slice o_g2a k_g2a c_g2a), (2, .bool n_g2b), (3, .slice o_g2b k_g2b c_g2b)]
  rw [eW]; clear eW d0 d1 d2 d3 f0 f1 f2 f3 x_b5
  have x_b5 := x_b5'; clear x_b5'
  clear x_b4
  replace ha1 := ha1.fr hnd ho; replace ha2 := ha2.fr hnd ho; replace x_b1 := x_b1.frame ho ne_b1_b5; replace x_b2 := x_b2.frame ho ne_b2_b5; replace g11 := g11.fr hnd ho; replace g12 := g12.fr hnd ho; replace g21 := g21.fr hnd ho; replace g22 := g22.fr hnd ho; replace hb := belowOnly hb ho kb_b5
  refine hK _ _ rfl ?_; clear hK K ho hnd
  apply wpSq_end
  refine hK17 _ _ ?_
  refine wp_seq_k ?_
  intro K18 hK18
  refine wp_region_sq [0, 1] (by kernel_rfl) ?_
  refine wpSq_call rfl (by kernel_rfl) fun K hK => ?_
  obtain ⟨d0, d1, d2, d3⟩ := x_b5.f4
  go_big_op; refine hK _ _ rfl ?_; clear hK K d0 d1 d2 d3
  refine wpSq_call rfl (by kernel_rfl) fun K hK => ?_
  go_big_op
  go_fit (rgFirst_any (.mk' (g21.zn L2.out.1) (g22.zn L2.out.2)) (by omega) (by omega))
  rintro e w_14 ⟨rfl, hb_14⟩
  clear g11 g12
  replace ha1 := ha1.bl hb_14; replace ha2 := ha2.bl hb_14; replace x_b1 := x_b1.bl hb_14; replace x_b2 := x_b2.bl hb_14; replace g21 := g21.bl hb_14; replace g22 := g22.bl hb_14; replace x_b5 := x_b5.bl hb_14; replace hb := hb.trans (hb_14.mono hb.size)
  rw [F2.out]
  refine hK _ _ rfl ?_
  clear hK K hb_14
  apply wpSq_end
  refine hK18 _ _ ?_
  refine wp_cond_true (congrArg Value.bool (show _ = true from (by first | rfl | assumption | (simp; done) | exact decide_eq_true (by omega) | omega))) ?_
  refine wp_seq_k ?_
  intro K19 hK19
  refine wp_region_sq [0, 1, 2, 3] (by kernel_rfl) ?_
  refine wpSq_call rfl (by kernel_rfl) fun K hK => ?_
  obtain ⟨d0, d1, d2, d3⟩ := x_b5.f4
  go_big_op; refine hK _ _ rfl ?_; clear hK K d0 d1 d2 d3
  refine wpSq_call rfl (by kernel_rfl) fun K hK => ?_
  go_big_move; refine hK _ _ rfl ?_; clear hK K
  refine wpSq_call rfl (by kernel_rfl) fun K hK => ?_
  obtain ⟨d0, d1, d2, d3⟩ := x_b2.f4
  have f0 := x_b2.free 0; have f1 := x_b2.free 1; have f2 := x_b2.free 2; have f3 := x_b2.free 3
  go_big_op
  have hnd := x_b2.nod rfl rfl
  obtain ⟨w_15, eW, x_b2', ho⟩ : ∃ w', ((((w_14.setCell ⟨p_b2, 0, none⟩ (.bool n_g2a)).setCell ⟨p_b2, 1, none⟩ (.slice o_g2a k_g2a c_g2a)).setCell ⟨p_b2, 2, none⟩ (.bool n_g2b)).setCell ⟨p_b2, 3, none⟩ (.slice o_g2b k_g2b c_g2b)) = w' ∧ Bs w' p_b2 #[.bool n_g2a, .slice o_g2a k_g2a c_g2a, .bool n_g2b, .slice o_g2b k_g2b c_g2b] 29 ∧ Only p_b2 w_14 w' := x_b2.setN [(0, .bool n_g2a), (1, .slice o_g2a k_g2a c_g2a), (2, .bool n_g2b), (3, .slice o_g2b k_g2b c_g2b)]
  rw [eW]; clear eW d0 d1 d2 d3 f0 f1 f2 f3 x_b2
  have x_b2 := x_b2'; clear x_b2'
  replace ha1 := ha1.fr hnd ho; replace ha2 := ha2.fr hnd ho; replace x_b1 := x_b1.frame ho ne_b1_b2; replace g21 := g21.fr hnd ho; replace g22 := g22.fr hnd ho; replace x_b5 := x_b5.frame ho ne_b2_b5.symm; replace hb := belowOnly hb ho kb_b2
  refine hK _ _ rfl ?_; clear hK K ho hnd
  refine wpSq_call rfl (by kernel_rfl) fun K hK => ?_
  go_big_move; refine hK _ _ rfl ?_; clear hK K
  apply wpSq_end
  refine hK19 _ _ ?_
  refine wp_ret ?_
  try dsimp only [Exit.then, Exit.inBlock]
  obtain ⟨r0_0, r0_1, r0_2, r0_3⟩ := x_b2.f4
  refine bodyPost_ret (v := (.tuple #[(.agg #[.bool n_g2a, .slice o_g2a k_g2a c_g2a, .bool n_g2b, .slice o_g2b k_g2b c_g2b]), (.int .i64 2)])) (by simp [results, Tryz.results55, go_sem, r0_0, r0_1, r0_2, r0_3]) rfl ?_
  exact ⟨_, rfl, .mk' g21 g22, hb⟩
set_option maxHeartbeats 4000000 in
set_option maxRecDepth 20000 in
theorem rgCanon_3 (ha : PN w va x l y m) (hl : l ≤ 20000000) (hm : m ≤ 20000000) (hx : 0 < y ∧ x ≤ 0) :
    Calls Tryz.prog 55 #[va] w fun e w' => ∃ r, e = .returned (.tuple #[r, .int .i64 3]) ∧ PC w' r (turn 3 (x, y)).1 (turn 3 (x, y)).2 ∧ Below w.heap.size w w' := by
  have L0 := hide (zlen_turn ha.len1 ha.len2 0)
  have F0 := hide (decide_eq_false (p := 0 < (turn 0 (x, y)).1 ∧ 0 ≤ (turn 0 (x, y)).2) (by simp only [turn_0]; omega))
  have L1 := hide (zlen_turn ha.len1 ha.len2 1)
  have F1 := hide (decide_eq_false (p := 0 < (turn 1 (x, y)).1 ∧ 0 ≤ (turn 1 (x, y)).2) (by simp only [turn_1]; omega))
  have L2 := hide (zlen_turn ha.len1 ha.len2 2)
  have F2 := hide (decide_eq_false (p := 0 < (turn 2 (x, y)).1 ∧ 0 ≤ (turn 2 (x, y)).2) (by simp only [turn_2]; omega))
  have L3 := hide (zlen_turn ha.len1 ha.len2 3)
  have F3 := hide (decide_eq_true (p := 0 < (turn 3 (x, y)).1 ∧ 0 ≤ (turn 3 (x, y)).2) (by simp only [turn_3]; omega))
  clear hx
  obtain ⟨n_0a, o_0a, k_0a, c_0a, n_0b, o_0b, k_0b, c_0b, rfl, ha1, ha2⟩ := ha
  go_enter Tryz.func55, Tryz.ntmps55
  have hb := Below.refl w.heap.size w
  refine wp_seq_k ?_
  intro K1 hK1
  refine wp_region_sq [0, 1, 2] (by kernel_rfl) ?_
  refine wpSq_call rfl (by kernel_rfl) fun K hK => ?_
  go_big_op
  obtain ⟨p_b1, w_1, eP, eW, x_b1, hn, kb_b1⟩ := newBox w #[.bool n_0a, .slice o_0a k_0a c_0a, .bool n_0b, .slice o_0b k_0b c_0b] 29 hb.size
  rw [eW, eP]
  clear eW eP
  replace ha1 := ha1.bl hn; replace ha2 := ha2.bl hn; replace hb := hb.trans (hn.mono hb.size)
  refine hK _ _ rfl ?_; clear hK K hn
  refine wpSq_call rfl (by kernel_rfl) fun K hK => ?_
  go_big_op
  have lt_b1 := x_b1.lt
  obtain ⟨p_b2, w_2, eP, eW, x_b2, hn, kb_b2⟩ := newBox w_1 #[.bool false, .slice none 0 0, .bool false, .slice none 0 0] 29 hb.size
  have ne_b1_b2 : Hid (p_b1 ≠ p_b2) := Nat.ne_of_lt (eP ▸ lt_b1)
  rw [eW, eP]
  clear eW eP lt_b1
  replace ha1 := ha1.bl hn; replace ha2 := ha2.bl hn; replace x_b1 := x_b1.bl hn; replace hb := hb.trans (hn.mono hb.size)
  refine hK _ _ rfl ?_; clear hK K hn
  refine wpSq_call rfl (by kernel_rfl) fun K hK => ?_
  go_big_move; refine hK _ _ rfl ?_; clear hK K
  apply wpSq_end
  refine hK1 _ _ ?_
  refine wp_seq_k ?_
  intro K2 hK2
  refine wp_seq_k ?_
  intro K3 hK3
  refine wp_region_sq [0] (by kernel_rfl) ?_
  refine wpSq_call rfl (by kernel_rfl) fun K hK => ?_
  go_big_move; refine hK _ _ rfl ?_; clear hK K
  apply wpSq_end
  refine hK3 _ _ ?_
  refine wp_block ?_
  refine wp_loop_rounds 5 ?_
  show Code.wp _ _ _ _ _
  refine wp_seq_k ?_
  intro K4 hK4
  refine wp_seq_k ?_
  intro K5 hK5
  refine wp_region_sq [0, 1] (by kernel_rfl) ?_
  refine wpSq_call rfl (by kernel_rfl) fun K hK => ?_
  go_big_move; refine hK _ _ rfl ?_; clear hK K
  refine wpSq_call rfl (by kernel_rfl) fun K hK => ?_
  go_big_op; refine hK _ _ rfl ?_; clear hK K
  apply wpSq_end
  refine hK5 _ _ ?_
  refine wp_cond_true (congrArg Value.bool (show _ = true from (by first | rfl | assumption | (simp; done) | exact decide_eq_true (by omega) | omega))) ?_
  refine wp_skip ?_
  refine hK4 _ _ ?_
  refine wp_seq_k ?_
  intro K6 hK6
  refine wp_block ?_
  refine wp_seq_k ?_
  intro K7 hK7
  refine wp_region_sq [0, 1, 2, 3, 4] (by kernel_rfl) ?_
  refine wpSq_call rfl (by kernel_rfl) fun K hK => ?_
  obtain ⟨d0, d1, d2, d3⟩ := x_b1.f4
  go_big_op; refine hK _ _ rfl ?_; clear hK K d0 d1 d2 d3
  refine wpSq_call rfl (by kernel_rfl) fun K hK => ?_
  go_big_move; refine hK _ _ rfl ?_; clear hK K
  refine wpSq_call rfl (by kernel_rfl) fun K hK => ?_
  go_big_op
  go_fit (rgTurn_p0 0 (by decide) (PN.mk' ha1 ha2) (by omega) (by omega))
  rintro e w_3 ⟨_, rfl, ⟨n_g0a, o_g0a, k_g0a, c_g0a, n_g0b, o_g0b, k_g0b, c_g0b, rfl, g01, g02⟩, hb_3⟩
  replace ha1 := ha1.bl hb_3; replace ha2 := ha2.bl hb_3; replace x_b1 := x_b1.bl hb_3; replace x_b2 := x_b2.bl hb_3; replace hb := hb.trans (hb_3.mono hb.size)
  have Lg01 := hide (g01.lenOf (L0.out.1))
  have Lg02 := hide (g02.lenOf (L0.out.2))
  refine hK _ _ rfl ?_
  clear hK K hb_3
  refine wpSq_call rfl (by kernel_rfl) fun K hK => ?_
  go_big_op
  have lt_b1 := x_b1.lt
  have lt_b2 := x_b2.lt
  obtain ⟨p_b3, w_4, eP, eW, x_b3, hn, kb_b3⟩ := newBox w_3 #[.bool false, .slice none 0 0, .bool false, .slice none 0 0] 29 hb.size
  have ne_b1_b3 : Hid (p_b1 ≠ p_b3) := Nat.ne_of_lt (eP ▸ lt_b1)
  have ne_b2_b3 : Hid (p_b2 ≠ p_b3) := Nat.ne_of_lt (eP ▸ lt_b2)
  rw [eW, eP]
  clear eW eP lt_b1 lt_b2
  replace ha1 := ha1.bl hn; replace ha2 := ha2.bl hn; replace x_b1 := x_b1.bl hn; replace x_b2 := x_b2.bl hn; replace g01 := g01.bl hn; replace g02 := g02.bl hn; replace hb := hb.trans (hn.mono hb.size)
  refine hK _ _ rfl ?_; clear hK K hn
  refine wpSq_call rfl (by kernel_rfl) fun K hK => ?_
  obtain ⟨d0, d1, d2, d3⟩ := x_b3.f4
  have f0 := x_b3.free 0; have f1 := x_b3.free 1; have f2 := x_b3.free 2; have f3 := x_b3.free 3
  go_big_op
  have hnd := x_b3.nod rfl rfl
  obtain ⟨w_5, eW, x_b3', ho⟩ : ∃ w', ((((w_4.setCell ⟨p_b3, 0, none⟩ (.bool n_g0a)).setCell ⟨p_b3, 1, none⟩ (.slice o_g0a k_g0a c_g0a)).setCell ⟨p_b3, 2, none⟩ (.bool n_g0b)).setCell ⟨p_b3, 3, none⟩ (.slice o_g0b k_g0b c_g0b)) = w' ∧ Bs w' p_b3 #[.bool n_g0a, .slice o_g0a k_g0a c_g0a, .bool n_g0b, .slice o_g0b k_g0b c_g0b] 29 ∧ Only p_b3 w_4 w' := x_b3.setN [(0, .bool n_g0a), (1, .slice o_g0a k_g0a c_g0a), (2, .bool n_g0b), (3, .slice o_g0b k_g0b c_g0b)]
  rw [eW]; clear eW d0 d1 d2 d3 f0 f1 f2 f3 x_b3
  have x_b3 := x_b3'; clear x_b3'
  replace ha1 := ha1.fr hnd ho; replace ha2 := ha2.fr hnd ho; replace x_b1 := x_b1.frame ho ne_b1_b3; replace x_b2 := x_b2.frame ho ne_b2_b3; replace g01 := g01.fr hnd ho; replace g02 := g02.fr hnd ho; replace hb := belowOnly hb ho kb_b3
  refine hK _ _ rfl ?_; clear hK K ho hnd
  apply wpSq_end
  refine hK7 _ _ ?_
  refine wp_seq_k ?_
  intro K8 hK8
  refine wp_region_sq [0, 1] (by kernel_rfl) ?_
  refine wpSq_call rfl (by kernel_rfl) fun K hK => ?_
  obtain ⟨d0, d1, d2, d3⟩ := x_b3.f4
  go_big_op; refine hK _ _ rfl ?_; clear hK K d0 d1 d2 d3
  refine wpSq_call rfl (by kernel_rfl) fun K hK => ?_
  go_big_op
  go_fit (rgFirst_any (.mk' (g01.zn L0.out.1) (g02.zn L0.out.2)) (by omega) (by omega))
  rintro e w_6 ⟨rfl, hb_6⟩
  replace ha1 := ha1.bl hb_6; replace ha2 := ha2.bl hb_6; replace x_b1 := x_b1.bl hb_6; replace x_b2 := x_b2.bl hb_6; replace g01 := g01.bl hb_6; replace g02 := g02.bl hb_6; replace x_b3 := x_b3.bl hb_6; replace hb := hb.trans (hb_6.mono hb.size)
  rw [F0.out]
  refine hK _ _ rfl ?_
  clear hK K hb_6
  apply wpSq_end
  refine hK8 _ _ ?_
  refine wp_cond_false (congrArg Value.bool (show _ = false from (by first | rfl | assumption | (simp; done) | exact decide_eq_false (by omega) | omega))) ?_
  refine wp_skip ?_
  refine hK6 _ _ ?_
  refine wp_region_sq [0, 1, 2] (by kernel_rfl) ?_
  refine wpSq_call rfl (by kernel_rfl) fun K hK => ?_
  go_big_move; refine hK _ _ rfl ?_; clear hK K
  refine wpSq_call rfl (by kernel_rfl) fun K hK => ?_
  go_big_op; refine hK _ _ rfl ?_; clear hK K
  refine wpSq_call rfl (by kernel_rfl) fun K hK => ?_
  go_big_move; refine hK _ _ rfl ?_; clear hK K
  apply wpSq_end
  show Code.wp _ _ _ _ _
  refine wp_seq_k ?_
  intro K9 hK9
  refine wp_seq_k ?_
  intro K10 hK10
  refine wp_region_sq [0, 1] (by kernel_rfl) ?_
  refine wpSq_call rfl (by kernel_rfl) fun K hK => ?_
  go_big_move; refine hK _ _ rfl ?_; clear hK K
  refine wpSq_call rfl (by kernel_rfl) fun K hK => ?_
  go_big_op; refine hK _ _ rfl ?_; clear hK K
  apply wpSq_end
  refine hK10 _ _ ?_
  refine wp_cond_true (congrArg Value.bool (show _ = true from (by first | rfl | assumption | (simp; done) | exact decide_eq_true (by omega) | omega))) ?_
  refine wp_skip ?_
  refine hK9 _ _ ?_
  refine wp_seq_k ?_
  intro K11 hK11
  refine wp_block ?_
  refine wp_seq_k ?_
  intro K12 hK12
  refine wp_region_sq [0, 1, 2, 3, 4] (by kernel_rfl) ?_
  refine wpSq_call rfl (by kernel_rfl) fun K hK => ?_
  obtain ⟨d0, d1, d2, d3⟩ := x_b1.f4
  go_big_op; refine hK _ _ rfl ?_; clear hK K d0 d1 d2 d3
  refine wpSq_call rfl (by kernel_rfl) fun K hK => ?_
  go_big_move; refine hK _ _ rfl ?_; clear hK K
  refine wpSq_call rfl (by kernel_rfl) fun K hK => ?_
  go_big_op
  go_fit (rgTurn_p1 1 (by decide) (PN.mk' ha1 ha2) (by omega) (by omega))
  rintro e w_7 ⟨_, rfl, ⟨n_g1a, o_g1a, k_g1a, c_g1a, n_g1b, o_g1b, k_g1b, c_g1b, rfl, g11, g12⟩, hb_7⟩
  replace ha1 := ha1.bl hb_7; replace ha2 := ha2.bl hb_7; replace x_b1 := x_b1.bl hb_7; replace x_b2 := x_b2.bl hb_7; replace g01 := g01.bl hb_7; replace g02 := g02.bl hb_7; replace x_b3 := x_b3.bl hb_7; replace hb := hb.trans (hb_7.mono hb.size)
  have Lg11 := hide (g11.lenOf (L1.out.1))
  have Lg12 := hide (g12.lenOf (L1.out.2))
  refine hK _ _ rfl ?_
  clear hK K hb_7
  refine wpSq_call rfl (by kernel_rfl) fun K hK => ?_
  go_big_op
  have lt_b1 := x_b1.lt
  have lt_b2 := x_b2.lt
  have lt_b3 := x_b3.lt
  obtain ⟨p_b4, w_8, eP, eW, x_b4, hn, kb_b4⟩ := newBox w_7 #[.bool false, .slice none 0 0, .bool false, .slice none 0 0] 29 hb.size
  have ne_b1_b4 : Hid (p_b1 ≠ p_b4) := Nat.ne_of_lt (eP ▸ lt_b1)
  have ne_b2_b4 : Hid (p_b2 ≠ p_b4) := Nat.ne_of_lt (eP ▸ lt_b2)
  have ne_b3_b4 : Hid (p_b3 ≠ p_b4) := Nat.ne_of_lt (eP ▸ lt_b3)
  rw [eW, eP]
  clear eW eP lt_b1 lt_b2 lt_b3
  replace ha1 := ha1.bl hn; replace ha2 := ha2.bl hn; replace x_b1 := x_b1.bl hn; replace x_b2 := x_b2.bl hn; replace g01 := g01.bl hn; replace g02 := g02.bl hn; replace x_b3 := x_b3.bl hn; replace g11 := g11.bl hn; replace g12 := g12.bl hn; replace hb := hb.trans (hn.mono hb.size)
  refine hK _ _ rfl ?_; clear hK K hn
  refine wpSq_call rfl (by kernel_rfl) fun K hK => ?_
  obtain ⟨d0, d1, d2, d3⟩ := x_b4.f4
  have f0 := x_b4.free 0; have f1 := x_b4.free 1; have f2 := x_b4.free 2; have f3 := x_b4.free 3
  go_big_op
  have hnd := x_b4.nod rfl rfl
  obtain ⟨w_9, eW, x_b4', ho⟩ : ∃ w', ((((w_8.setCell ⟨p_b4, 0, none⟩ (.bool n_g1a)).setCell ⟨p_b4, 1, none⟩ (.slice o_g1a k_g1a c_g1a)).setCell ⟨p_b4, 2, none⟩ (.bool n_g1b)).setCell ⟨p_b4, 3, none⟩ (.slice o_g1b k_g1b c_g1b)) = w' ∧ Bs w' p_b4 #[.bool n_g1a, .slice o_g1a k_g1a c_g1a, .bool n_g1b, .slice o_g1b k_g1b c_g1b] 29 ∧ Only p_b4 w_8 w' := x_b4.setN [(0, .bool n_g1a), (1, .slice o_g1a k_g1a c_g1a), (2, .bool n_g1b), (3, .slice o_g1b k_g1b c_g1b)]
  rw [eW]; clear eW d0 d1 d2 d3 f0 f1 f2 f3 x_b4
  have x_b4 := x_b4'; clear x_b4'
  clear x_b3
  replace ha1 := ha1.fr hnd ho; replace ha2 := ha2.fr hnd ho; replace x_b1 := x_b1.frame ho ne_b1_b4; replace x_b2 := x_b2.frame ho ne_b2_b4; replace g01 := g01.fr hnd ho; replace g02 := g02.fr hnd ho; replace g11 := g11.fr hnd ho; replace g12 := g12.fr hnd ho; replace hb := belowOnly hb ho kb_b4
  refine hK _ _ rfl ?_; clear hK K ho hnd
  apply wpSq_end
  refine hK12 _ _ ?_
  refine wp_seq_k ?_
  intro K13 hK13
  refine wp_region_sq [0, 1] (by kernel_rfl) ?_
  refine wpSq_call rfl (by kernel_rfl) fun K hK => ?_
  obtain ⟨d0, d1, d2, d3⟩ := x_b4.f4
  go_big_op; refine hK _ _ rfl ?_; clear hK K d0 d1 d2 d3
  refine wpSq_call rfl (by kernel_rfl) fun K hK => ?_
  go_big_op
  go_fit (rgFirst_any (.mk' (g11.zn L1.out.1) (g12.zn L1.out.2)) (by omega) (by omega))
  rintro e w_10 ⟨rfl, hb_10⟩
  clear g01 g02
  replace ha1 := ha1.bl hb_10; replace ha2 := ha2.bl hb_10; replace x_b1 := x_b1.bl hb_10; replace x_b2 := x_b2.bl hb_10; replace g11 := g11.bl hb_10; replace g12 := g12.bl hb_10; replace x_b4 := x_b4.bl hb_10; replace hb := hb.trans (hb_10.mono hb.size)
  rw [F1.out]
  refine hK _ _ rfl ?_
  clear hK K hb_10
  apply wpSq_end
  refine hK13 _ _ ?_
  refine wp_cond_false (congrArg Value.bool (show _ = false from (by first | rfl | assumption | (simp; done) | exact decide_eq_false (by omega) | omega))) ?_
  refine wp_skip ?_
  refine hK11 _ _ ?_
  refine wp_region_sq [0, 1, 2] (by kernel_rfl) ?_
  refine wpSq_call rfl (by kernel_rfl) fun K hK => ?_
  go_big_move; refine hK _ _ rfl ?_; clear hK K
  refine wpSq_call rfl (by kernel_rfl) fun K hK => ?_
  go_big_op; refine hK _ _ rfl ?_; clear hK K
  refine wpSq_call rfl (by kernel_rfl) fun K hK => ?_
  go_big_move; refine hK _ _ rfl ?_; clear hK K
  apply wpSq_end
  show Code.wp _ _ _ _ _
  refine wp_seq_k ?_
  intro K14 hK14
  refine wp_seq_k ?_
  intro K15 hK15
  refine wp_region_sq [0, 1] (by kernel_rfl) ?_
  refine wpSq_call rfl (by kernel_rfl) fun K hK => ?_
  go_big_move; refine hK _ _ rfl ?_; clear hK K
  refine wpSq_call rfl (by kernel_rfl) fun K hK => ?_
  go_big_op; refine hK _ _ rfl ?_; clear hK K
  apply wpSq_end
  refine hK15 _ _ ?_
  refine wp_cond_true (congrArg Value.bool (show _ = true from (by first | rfl | assumption | (simp; done) | exact decide_eq_true (by omega) | omega))) ?_
  refine wp_skip ?_
  refine hK14 _ _ ?_
  refine wp_seq_k ?_
  intro K16 hK16
  refine wp_block ?_
  refine wp_seq_k ?_
  intro K17 hK17
  refine wp_region_sq [0, 1, 2, 3, 4] (by kernel_rfl) ?_
  refine wpSq_call rfl (by kernel_rfl) fun K hK => ?_
  obtain ⟨d0, d1, d2, d3⟩ := x_b1.f4
  go_big_op; refine hK _ _ rfl ?_; clear hK K d0 d1 d2 d3
  refine wpSq_call rfl (by kernel_rfl) fun K hK => ?_
  go_big_move; refine hK _ _ rfl ?_; clear hK K
  refine wpSq_call rfl (by kernel_rfl) fun K hK => ?_
  go_big_op
  go_fit (rgTurn_p2 2 (by decide) (PN.mk' ha1 ha2) (by omega) (by omega))
  rintro e w_11 ⟨_, rfl, ⟨n_g2a, o_g2a, k_g2a, c_g2a, n_g2b, o_g2b, k_g2b, c_g2b, rfl, g21, g22⟩, hb_11⟩
  replace ha1 := ha1.bl hb_11; replace ha2 := ha2.bl hb_11; replace x_b1 := x_b1.bl hb_11; replace x_b2 := x_b2.bl hb_11; replace g11 := g11.bl hb_11; replace g12 := g12.bl hb_11; replace x_b4 := x_b4.bl hb_11; replace hb := hb.trans (hb_11.mono hb.size)
  have Lg21 := hide (g21.lenOf (L2.out.1))
  have Lg22 := hide (g22.lenOf (L2.out.2))
  refine hK _ _ rfl ?_
  clear hK K hb_11
  refine wpSq_call rfl (by kernel_rfl) fun K hK => ?_
  go_big_op
  have lt_b1 := x_b1.lt
  have lt_b2 := x_b2.lt
  have lt_b4 := x_b4.lt
  obtain ⟨p_b5, w_12, eP, eW, x_b5, hn, kb_b5⟩ := newBox w_11 #[.bool false, .slice none 0 0, .bool false, .slice none 0 0] 29 hb.size
  have ne_b1_b5 : Hid (p_b1 ≠ p_b5) := Nat.ne_of_lt (eP ▸ lt_b1)
  have ne_b2_b5 : Hid (p_b2 ≠ p_b5) := Nat.ne_of_lt (eP ▸ lt_b2)
  have ne_b4_b5 : Hid (p_b4 ≠ p_b5) := Nat.ne_of_lt (eP ▸ lt_b4)
  rw [eW, eP]
  clear eW eP lt_b1 lt_b2 lt_b4
  replace ha1 := ha1.bl hn; replace ha2 := ha2.bl hn; replace x_b1 := x_b1.bl hn; replace x_b2 := x_b2.bl hn; replace g11 := g11.bl hn; replace g12 := g12.bl hn; replace x_b4 := x_b4.bl hn; replace g21 := g21.bl hn; replace g22 := g22.bl hn; replace hb := hb.trans (hn.mono hb.size)
  refine hK _ _ rfl ?_; clear hK K hn
  refine wpSq_call rfl (by kernel_rfl) fun K hK => ?_
  obtain ⟨d0, d1, d2, d3⟩ := x_b5.f4
  have f0 := x_b5.free 0; have f1 := x_b5.free 1; have f2 := x_b5.free 2; have f3 := x_b5.free 3
  go_big_op
  have hnd := x_b5.nod rfl rfl
  obtain ⟨w_13, eW, x_b5', ho⟩ : ∃ w', ((((w_12.setCell ⟨p_b5, 0, none⟩ (.bool n_g2a)).setCell ⟨p_b5, 1, none⟩ (.slice o_g2a k_g2a c_g2a)).setCell ⟨p_b5, 2, none⟩ (.bool n_g2b)).setCell ⟨p_b5, 3, none⟩ (.slice o_g2b k_g2b c_g2b)) = w' ∧ Bs w' p_b5 #[.bool n_g2a, .slice o_g2a k_g2a c_g2a, .bool n_g2b, .slice o_g2b k_g2b c_g2b] 29 ∧ Only p_b5 w_12 w' := x_b5.setN [(0, .bool n_g2a), (1, .slice o_g2a k_g2a c_g2a), (2, .bool n_g2b), (3, .slice o_g2b k_g2b c_g2b)]
  rw [eW]; clear eW d0 d1 d2 d3 f0 f1 f2 f3 x_b5
  have x_b5 := x_b5'; clear x_b5'
  clear x_b4
  replace ha1 := ha1.fr hnd ho; replace ha2 := ha2.fr hnd ho; replace x_b1 := x_b1.frame ho ne_b1_b5; replace x_b2 := x_b2.frame ho ne_b2_b5; replace g11 := g11.fr hnd ho; replace g12 := g12.fr hnd ho; replace g21 := g21.fr hnd ho; replace g22 := g22.fr hnd ho; replace hb := belowOnly hb ho kb_b5
  refine hK _ _ rfl ?_; clear hK K ho hnd
  apply wpSq_end
  refine hK17 _ _ ?_
  refine wp_seq_k ?_
  intro K18 hK18
  refine wp_region_sq [0, 1] (by kernel_rfl) ?_
  refine wpSq_call rfl (by kernel_rfl) fun K hK => ?_
  obtain ⟨d0, d1, d2, d3⟩ := x_b5.f4
  go_big_op; refine hK _ _ rfl ?_; clear hK K d0 d1 d2 d3
  refine wpSq_call rfl (by kernel_rfl) fun K hK => ?_
  go_big_op
  go_fit (rgFirst_any (.mk' (g21.zn L2.out.1) (g22.zn L2.out.2)) (by omega) (by omega))
  rintro e w_14 ⟨rfl, hb_14⟩
  clear g11 g12
  replace ha1 := ha1.bl hb_14; replace ha2 := ha2.bl hb_14; replace x_b1 := x_b1.bl hb_14; replace x_b2 := x_b2.bl hb_14; replace g21 := g21.bl hb_14; replace g22 := g22.bl hb_14; replace x_b5 := x_b5.bl hb_14; replace hb := hb.trans (hb_14.mono hb.size)
  rw [F2.out]
  refine hK _ _ rfl ?_
  clear hK K hb_14
  apply wpSq_end
  refine hK18 _ _ ?_
  refine wp_cond_false (congrArg Value.bool (show _ = false from (by first | rfl | assumption | (simp; done) | exact decide_eq_false (by omega) | omega))) ?_
  refine wp_skip ?_
  refine hK16 _ _ ?_
  refine wp_region_sq [0, 1, 2] (by kernel_rfl) ?_
  refine wpSq_call rfl (by kernel_rfl) fun K hK => ?_
  go_big_move; refine hK _ _ rfl ?_; clear hK K
  refine wpSq_call rfl (by kernel_rfl) fun K hK => ?_
  go_big_op; refine hK _ _ rfl ?_; clear hK K
  refine wpSq_call rfl (by kernel_rfl) fun K hK => ?_
  go_big_move; refine hK _ _ rfl ?_; clear hK K
  apply wpSq_end
  show Code.wp _ _ _ _ _
  refine wp_seq_k ?_
  intro K19 hK19
  refine wp_seq_k ?_
  intro K20 hK20
  refine wp_region_sq [0, 1] (by kernel_rfl) ?_
  refine wpSq_call rfl (by kernel_rfl) fun K hK => ?_
  go_big_move; refine hK _ _ rfl ?_; clear hK K
  refine wpSq_call rfl (by kernel_rfl) fun K hK => ?_
  go_big_op; refine hK _ _ rfl ?_; clear hK K
  apply wpSq_end
  refine hK20 _ _ ?_
  refine wp_cond_true (congrArg Value.bool (show _ = true from (by first | rfl | assumption | (simp; done) | exact decide_eq_true (by omega) | omega))) ?_
  refine wp_skip ?_
  refine hK19 _ _ ?_
  refine wp_seq_k ?_
  intro K21 hK21
  refine wp_block ?_
  refine wp_seq_k ?_
  intro K22 hK22
  refine wp_region_sq [0, 1, 2, 3, 4] (by kernel_rfl) ?_
  refine wpSq_call rfl (by kernel_rfl) fun K hK => ?_
  obtain ⟨d0, d1, d2, d3⟩ := x_b1.f4
  go_big_op; refine hK _ _ rfl ?_; clear hK K d0 d1 d2 d3
  refine wpSq_call rfl (by kernel_rfl) fun K hK => ?_
  go_big_move; refine hK _ _ rfl ?_; clear hK K
  refine wpSq_call rfl (by kernel_rfl) fun K hK => ?_
  go_big_op
  go_fit (rgTurn_p3 3 (by decide) (PN.mk' ha1 ha2) (by omega) (by omega))
  rintro e w_15 ⟨_, rfl, ⟨n_g3a, o_g3a, k_g3a, c_g3a, n_g3b, o_g3b, k_g3b, c_g3b, rfl, g31, g32⟩, hb_15⟩
  replace ha1 := ha1.bl hb_15; replace ha2 := ha2.bl hb_15; replace x_b1 := x_b1.bl hb_15; replace x_b2 := x_b2.bl hb_15; replace g21 := g21.bl hb_15; replace g22 := g22.bl hb_15; replace x_b5 := x_b5.bl hb_15; replace hb := hb.trans (hb_15.mono hb.size)
  have Lg31 := hide (g31.lenOf (L3.out.1))
  have Lg32 := hide (g32.lenOf (L3.out.2))
  refine hK _ _ rfl ?_
  clear hK K hb_15
  refine wpSq_call rfl (by kernel_rfl) fun K hK => ?_
  go_big_op
  have lt_b1 := x_b1.lt
  have lt_b2 := x_b2.lt
  have lt_b5 := x_b5.lt
  obtain ⟨p_b6, w_16, eP, eW, x_b6, hn, kb_b6⟩ := newBox w_15 #[.bool false, .slice none 0 0, .bool false, .slice none 0 0] 29 hb.size
  have ne_b1_b6 : Hid (p_b1 ≠ p_b6) := Nat.ne_of_lt (eP ▸ lt_b1)
  have ne_b2_b6 : Hid (p_b2 ≠ p_b6) := Nat.ne_of_lt (eP ▸ lt_b2)
  have ne_b5_b6 : Hid (p_b5 ≠ p_b6) := Nat.ne_of_lt (eP ▸ lt_b5)
  rw [eW, eP]
  clear eW eP lt_b1 lt_b2 lt_b5
  replace ha1 := ha1.bl hn; replace ha2 := ha2.bl hn; replace x_b1 := x_b1.bl hn; replace x_b2 := x_b2.bl hn; replace g21 := g21.bl hn; replace g22 := g22.bl hn; replace x_b5 := x_b5.bl hn; replace g31 := g31.bl hn; replace g32 := g32.bl hn; replace hb := hb.trans (hn.mono hb.size)
  refine hK _ _ rfl ?_; clear hK K hn
  refine wpSq_call rfl (by kernel_rfl) fun K hK => ?_
  obtain ⟨d0, d1, d2, d3⟩ := x_b6.f4
  have f0 := x_b6.free 0; have f1 := x_b6.free 1; have f2 := x_b6.free 2; have f3 := x_b6.free 3
  go_big_op
  have hnd := x_b6.nod rfl rfl
  obtain ⟨w_17, eW, x_b6', ho⟩ : ∃ w', ((((w_16.setCell ⟨p_b6, 0, none⟩ (.bool n_g3a)).setCell ⟨p_b6, 1, none⟩ (.slice o_g3a k_g3a c_g3a)).setCell ⟨p_b6, 2, none⟩ (.bool n_g3b)).setCell ⟨p_b6, 3, none⟩ (.slice o_g3b k_g3b c_g3b)) = w' ∧ Bs w' p_b6 #[.bool n_g3a, .slice o_g3a k_g3a c_g3a, .bool n_g3b, .slice o_g3b k_g3b c_g3b] 29 ∧ Only p_b6 w_16 w' := x_b6.setN [(0, .bool n_g3a), (1, .slice o_g3a k_g3a c_g3a), (2, .bool n_g3b), (3, .slice o_g3b k_g3b c_g3b)]
  rw [eW]; clear eW d0 d1 d2 d3 f0 f1 f2 f3 x_b6
  have x_b6 := x_b6'; clear x_b6'
  clear x_b5
  replace ha1 := ha1.fr hnd ho; replace ha2 := ha2.fr hnd ho; replace x_b1 := x_b1.frame ho ne_b1_b6; replace x_b2 := x_b2.frame ho ne_b2_b6; replace g21 := g21.fr hnd ho; replace g22 := g22.fr hnd ho; replace g31 := g31.fr hnd ho; replace g32 := g32.fr hnd ho; replace hb := belowOnly hb ho kb_b6
  refine hK _ _ rfl ?_; clear hK K ho hnd
  apply wpSq_end
  refine hK22 _ _ ?_
  refine wp_seq_k ?_
  intro K23 hK23
  refine wp_region_sq [0, 1] (by kernel_rfl) ?_
  refine wpSq_call rfl (by kernel_rfl) fun K hK => ?_
  obtain ⟨d0, d1, d2, d3⟩ := x_b6.f4
  go_big_op; refine hK _ _ rfl ?_; clear hK K d0 d1 d2 d3
  refine wpSq_call rfl (by kernel_rfl) fun K hK => ?_
  go_big_op
  go_fit (rgFirst_any (.mk' (g31.zn L3.out.1) (g32.zn L3.out.2)) (by omega) (by omega))
  rintro e w_18 ⟨rfl, hb_18⟩
  clear g21 g22
  replace ha1 := ha1.bl hb_18; replace ha2 := ha2.bl hb_18; replace x_b1 := x_b1.bl hb_18; replace x_b2 := x_b2.bl hb_18; replace g31 := g31.bl hb_18; replace g32 := g32.bl hb_18; replace x_b6 := x_b6.bl hb_18; replace hb := hb.trans (hb_18.mono hb.size)
  rw [F3.out]
  refine hK _ _ rfl ?_
  clear hK K hb_18
  apply wpSq_end
  refine hK23 _ _ ?_
  refine wp_cond_true (congrArg Value.bool (show _ = true from (by first | rfl | assumption | (simp; done) | exact decide_eq_true (by omega) | omega))) ?_
  refine wp_seq_k ?_
  intro K24 hK24
  refine wp_region_sq [0, 1, 2, 3] (by kernel_rfl) ?_
  refine wpSq_call rfl (by kernel_rfl) fun K hK => ?_
  obtain ⟨d0, d1, d2, d3⟩ := x_b6.f4
  go_big_op; refine hK _ _ rfl ?_; clear hK K d0 d1 d2 d3
  refine wpSq_call rfl (by kernel_rfl) fun K hK => ?_
  go_big_move; refine hK _ _ rfl ?_; clear hK K
  refine wpSq_call rfl (by kernel_rfl) fun K hK => ?_
  obtain ⟨d0, d1, d2, d3⟩ := x_b2.f4
  have f0 := x_b2.free 0; have f1 := x_b2.free 1; have f2 := x_b2.free 2; have f3 := x_b2.free 3
  go_big_op
  have hnd := x_b2.nod rfl rfl
  obtain ⟨w_19, eW, x_b2', ho⟩ : ∃ w', ((((w_18.setCell ⟨p_b2, 0, none⟩ (.bool n_g3a)).setCell ⟨p_b2, 1, none⟩ (.slice o_g3a k_g3a c_g3a)).setCell ⟨p_b2, 2, none⟩ (.bool n_g3b)).setCell ⟨p_b2, 3, none⟩ (.slice o_g3b k_g3b c_g3b)) = w' ∧ Bs w' p_b2 #[.bool n_g3a, .slice o_g3a k_g3a c_g3a, .bool n_g3b, .slice o_g3b k_g3b c_g3b] 29 ∧ Only p_b2 w_18 w' := x_b2.setN [(0, .bool n_g3a), (1, .slice o_g3a k_g3a c_g3a), (2, .bool n_g3b), (3, .slice o_g3b k_g3b c_g3b)]
  rw [eW]; clear eW d0 d1 d2 d3 f0 f1 f2 f3 x_b2
  have x_b2 := x_b2'; clear x_b2'
  replace ha1 := ha1.fr hnd ho; replace ha2 := ha2.fr hnd ho; replace x_b1 := x_b1.frame ho ne_b1_b2; replace g31 := g31.fr hnd ho; replace g32 := g32.fr hnd ho; replace x_b6 := x_b6.frame ho ne_b2_b6.symm; replace hb := belowOnly hb ho kb_b2
  refine hK _ _ rfl ?_; clear hK K ho hnd
  refine wpSq_call rfl (by kernel_rfl) fun K hK => ?_
  go_big_move; refine hK _ _ rfl ?_; clear hK K
  apply wpSq_end
  refine hK24 _ _ ?_
  refine wp_ret ?_
  try dsimp only [Exit.then, Exit.inBlock]
  obtain ⟨r0_0, r0_1, r0_2, r0_3⟩ := x_b2.f4
  refine bodyPost_ret (v := (.tuple #[(.agg #[.bool n_g3a, .slice o_g3a k_g3a c_g3a, .bool n_g3b, .slice o_g3b k_g3b c_g3b]), (.int .i64 3)])) (by simp [results, Tryz.results55, go_sem, r0_0, r0_1, r0_2, r0_3]) rfl ?_
  exact ⟨_, rfl, .mk' g31 g32, hb⟩
set_option maxHeartbeats 4000000 in
set_option maxRecDepth 20000 in
theorem rgCanon_4 (ha : PN w va x l y m) (hl : l ≤ 20000000) (hm : m ≤ 20000000) (hx : x = 0 ∧ y = 0) :
    Calls Tryz.prog 55 #[va] w fun e w' => ∃ r, e = .returned (.tuple #[r, .int .i64 0]) ∧ PC w' r 0 0 ∧ Below w.heap.size w w' := by
  have L0 := hide (zlen_turn ha.len1 ha.len2 0)
  have F0 := hide (decide_eq_false (p := 0 < (turn 0 (x, y)).1 ∧ 0 ≤ (turn 0 (x, y)).2) (by simp only [turn_0]; omega))
  have L1 := hide (zlen_turn ha.len1 ha.len2 1)
  have F1 := hide (decide_eq_false (p := 0 < (turn 1 (x, y)).1 ∧ 0 ≤ (turn 1 (x, y)).2) (by simp only [turn_1]; omega))
  have L2 := hide (zlen_turn ha.len1 ha.len2 2)
  have F2 := hide (decide_eq_false (p := 0 < (turn 2 (x, y)).1 ∧ 0 ≤ (turn 2 (x, y)).2) (by simp only [turn_2]; omega))
  have L3 := hide (zlen_turn ha.len1 ha.len2 3)
  have F3 := hide (decide_eq_false (p := 0 < (turn 3 (x, y)).1 ∧ 0 ≤ (turn 3 (x, y)).2) (by simp only [turn_3]; omega))
  clear hx
  obtain ⟨n_0a, o_0a, k_0a, c_0a, n_0b, o_0b, k_0b, c_0b, rfl, ha1, ha2⟩ := ha
  go_enter Tryz.func55, Tryz.ntmps55
  have hb := Below.refl w.heap.size w
  refine wp_seq_k ?_
  intro K1 hK1
  refine wp_region_sq [0, 1, 2] (by kernel_rfl) ?_
  refine wpSq_call rfl (by kernel_rfl) fun K hK => ?_
  go_big_op
  obtain ⟨p_b1, w_1, eP, eW, x_b1, hn, kb_b1⟩ := newBox w #[.bool n_0a, .slice o_0a k_0a c_0a, .bool n_0b, .slice o_0b k_0b c_0b] 29 hb.size
  rw [eW, eP]
  clear eW eP
  replace ha1 := ha1.bl hn; replace ha2 := ha2.bl hn; replace hb := hb.trans (hn.mono hb.size)
  refine hK _ _ rfl ?_; clear hK K hn
  refine wpSq_call rfl (by kernel_rfl) fun K hK => ?_
  go_big_op
  have lt_b1 := x_b1.lt
  obtain ⟨p_b2, w_2, eP, eW, x_b2, hn, kb_b2⟩ := newBox w_1 #[.bool false, .slice none 0 0, .bool false, .slice none 0 0] 29 hb.size
  have ne_b1_b2 : Hid (p_b1 ≠ p_b2) := Nat.ne_of_lt (eP ▸ lt_b1)
  rw [eW, eP]
  clear eW eP lt_b1
  replace ha1 := ha1.bl hn; replace ha2 := ha2.bl hn; replace x_b1 := x_b1.bl hn; replace hb := hb.trans (hn.mono hb.size)
  refine hK _ _ rfl ?_; clear hK K hn
  refine wpSq_call rfl (by kernel_rfl) fun K hK => ?_
  go_big_move; refine hK _ _ rfl ?_; clear hK K
  apply wpSq_end
  refine hK1 _ _ ?_
  refine wp_seq_k ?_
  intro K2 hK2
  refine wp_seq_k ?_
  intro K3 hK3
  refine wp_region_sq [0] (by kernel_rfl) ?_
  refine wpSq_call rfl (by kernel_rfl) fun K hK => ?_
  go_big_move; refine hK _ _ rfl ?_; clear hK K
  apply wpSq_end
  refine hK3 _ _ ?_
  refine wp_block ?_
  refine wp_loop_rounds 5 ?_
  show Code.wp _ _ _ _ _
  refine wp_seq_k ?_
  intro K4 hK4
  refine wp_seq_k ?_
  intro K5 hK5
  refine wp_region_sq [0, 1] (by kernel_rfl) ?_
  refine wpSq_call rfl (by kernel_rfl) fun K hK => ?_
  go_big_move; refine hK _ _ rfl ?_; clear hK K
  refine wpSq_call rfl (by kernel_rfl) fun K hK => ?_
  go_big_op; refine hK _ _ rfl ?_; clear hK K
  apply wpSq_end
  refine hK5 _ _ ?_
  refine wp_cond_true (congrArg Value.bool (show _ = true from (by first | rfl | assumption | (simp; done) | exact decide_eq_true (by omega) | omega))) ?_
  refine wp_skip ?_
  refine hK4 _ _ ?_
  refine wp_seq_k ?_
  intro K6 hK6
  refine wp_block ?_
  refine wp_seq_k ?_
  intro K7 hK7
  refine wp_region_sq [0, 1, 2, 3, 4] (by kernel_rfl) ?_
  refine wpSq_call rfl (by kernel_rfl) fun K hK => ?_
  obtain ⟨d0, d1, d2, d3⟩ := x_b1.f4
  go_big_op; refine hK _ _ rfl ?_; clear hK K d0 d1 d2 d3
  refine wpSq_call rfl (by kernel_rfl) fun K hK => ?_
  go_big_move; refine hK _ _ rfl ?_; clear hK K
  refine wpSq_call rfl (by kernel_rfl) fun K hK => ?_
  go_big_op
  go_fit (rgTurn_p0 0 (by decide) (PN.mk' ha1 ha2) (by omega) (by omega))
  rintro e w_3 ⟨_, rfl, ⟨n_g0a, o_g0a, k_g0a, c_g0a, n_g0b, o_g0b, k_g0b, c_g0b, rfl, g01, g02⟩, hb_3⟩
  replace ha1 := ha1.bl hb_3; replace ha2 := ha2.bl hb_3; replace x_b1 := x_b1.bl hb_3; replace x_b2 := x_b2.bl hb_3; replace hb := hb.trans (hb_3.mono hb.size)
  have Lg01 := hide (g01.lenOf (L0.out.1))
  have Lg02 := hide (g02.lenOf (L0.out.2))
  refine hK _ _ rfl ?_
  clear hK K hb_3
  refine wpSq_call rfl (by kernel_rfl) fun K hK => ?_
  go_big_op
  have lt_b1 := x_b1.lt
  have lt_b2 := x_b2.lt
  obtain ⟨p_b3, w_4, eP, eW, x_b3, hn, kb_b3⟩ := newBox w_3 #[.bool false, .slice none 0 0, .bool false, .slice none 0 0] 29 hb.size
  have ne_b1_b3 : Hid (p_b1 ≠ p_b3) := Nat.ne_of_lt (eP ▸ lt_b1)
  have ne_b2_b3 : Hid (p_b2 ≠ p_b3) := Nat.ne_of_lt (eP ▸ lt_b2)
  rw [eW, eP]
  clear eW eP lt_b1 lt_b2
  replace ha1 := ha1.bl hn; replace ha2 := ha2.bl hn; replace x_b1 := x_b1.bl hn; replace x_b2 := x_b2.bl hn; replace g01 := g01.bl hn; replace g02 := g02.bl hn; replace hb := hb.trans (hn.mono hb.size)
  refine hK _ _ rfl ?_; clear hK K hn
  refine wpSq_call rfl (by kernel_rfl) fun K hK => ?_
  obtain ⟨d0, d1, d2, d3⟩ := x_b3.f4
  have f0 := x_b3.free 0; have f1 := x_b3.free 1; have f2 := x_b3.free 2; have f3 := x_b3.free 3
  go_big_op
  have hnd := x_b3.nod rfl rfl
  obtain ⟨w_5, eW, x_b3', ho⟩ : ∃ w', ((((w_4.setCell ⟨p_b3, 0, none⟩ (.bool n_g0a)).setCell ⟨p_b3, 1, none⟩ (.slice o_g0a k_g0a c_g0a)).setCell ⟨p_b3, 2, none⟩ (.bool n_g0b)).setCell ⟨p_b3, 3, none⟩ (.slice o_g0b k_g0b c_g0b)) = w' ∧ Bs w' p_b3 #[.bool n_g0a, .slice o_g0a k_g0a c_g0a, .bool n_g0b, .slice o_g0b k_g0b c_g0b] 29 ∧ Only p_b3 w_4 w' := x_b3.setN [(0, .bool n_g0a), (1, .slice o_g0a k_g0a c_g0a), (2, .bool n_g0b), (3, .slice o_g0b k_g0b c_g0b)]
  rw [eW]; clear eW d0 d1 d2 d3 f0 f1 f2 f3 x_b3
  have x_b3 := x_b3'; clear x_b3'
  replace ha1 := ha1.fr hnd ho; replace ha2 := ha2.fr hnd ho; replace x_b1 := x_b1.frame ho ne_b1_b3; replace x_b2 := x_b2.frame ho ne_b2_b3; replace g01 := g01.fr hnd ho; replace g02 := g02.fr hnd ho; replace hb := belowOnly hb ho kb_b3
  refine hK _ _ rfl ?_; clear hK K ho hnd
  apply wpSq_end
  refine hK7 _ _ ?_
  refine wp_seq_k ?_
  intro K8 hK8
  refine wp_region_sq [0, 1] (by kernel_rfl) ?_
  refine wpSq_call rfl (by kernel_rfl) fun K hK => ?_
  obtain ⟨d0, d1, d2, d3⟩ := x_b3.f4
  go_big_op; refine hK _ _ rfl ?_; clear hK K d0 d1 d2 d3
  refine wpSq_call rfl (by kernel_rfl) fun K hK => ?_
  go_big_op
  go_fit (rgFirst_any (.mk' (g01.zn L0.out.1) (g02.zn L0.out.2)) (by omega) (by omega))
  rintro e w_6 ⟨rfl, hb_6⟩
  replace ha1 := ha1.bl hb_6; replace ha2 := ha2.bl hb_6; replace x_b1 := x_b1.bl hb_6; replace x_b2 := x_b2.bl hb_6; replace g01 := g01.bl hb_6; replace g02 := g02.bl hb_6; replace x_b3 := x_b3.bl hb_6; replace hb := hb.trans (hb_6.mono hb.size)
  rw [F0.out]
  refine hK _ _ rfl ?_
  clear hK K hb_6
  apply wpSq_end
  refine hK8 _ _ ?_
  refine wp_cond_false (congrArg Value.bool (show _ = false from (by first | rfl | assumption | (simp; done) | exact decide_eq_false (by omega) | omega))) ?_
  refine wp_skip ?_
  refine hK6 _ _ ?_
  refine wp_region_sq [0, 1, 2] (by kernel_rfl) ?_
  refine wpSq_call rfl (by kernel_rfl) fun K hK => ?_
  go_big_move; refine hK _ _ rfl ?_; clear hK K
  refine wpSq_call rfl (by kernel_rfl) fun K hK => ?_
  go_big_op; refine hK _ _ rfl ?_; clear hK K
  refine wpSq_call rfl (by kernel_rfl) fun K hK => ?_
  go_big_move; refine hK _ _ rfl ?_; clear hK K
  apply wpSq_end
  show Code.wp _ _ _ _ _
  refine wp_seq_k ?_
  intro K9 hK9
  refine wp_seq_k ?_
  intro K10 hK10
  refine wp_region_sq [0, 1] (by kernel_rfl) ?_
  refine wpSq_call rfl (by kernel_rfl) fun K hK => ?_
  go_big_move; refine hK _ _ rfl ?_; clear hK K
  refine wpSq_call rfl (by kernel_rfl) fun K hK => ?_
  go_big_op; refine hK _ _ rfl ?_; clear hK K
  apply wpSq_end
  refine hK10 _ _ ?_
  refine wp_cond_true (congrArg Value.bool (show _ = true from (by first | rfl | assumption | (simp; done) | exact decide_eq_true (by omega) | omega))) ?_
  refine wp_skip ?_
  refine hK9 _ _ ?_
  refine wp_seq_k ?_
  intro K11 hK11
  refine wp_block ?_
  refine wp_seq_k ?_
  intro K12 hK12
  refine wp_region_sq [0, 1, 2, 3, 4] (by kernel_rfl) ?_
  refine wpSq_call rfl (by kernel_rfl) fun K hK => ?_
  obtain ⟨d0, d1, d2, d3⟩ := x_b1.f4
  go_big_op; refine hK _ _ rfl ?_; clear hK K d0 d1 d2 d3
  refine wpSq_call rfl (by kernel_rfl) fun K hK => ?_
  go_big_move; refine hK _ _ rfl ?_; clear hK K
  refine wpSq_call rfl (by kernel_rfl) fun K hK => ?_
  go_big_op
  go_fit (rgTurn_p1 1 (by decide) (PN.mk' ha1 ha2) (by omega) (by omega))
  rintro e w_7 ⟨_, rfl, ⟨n_g1a, o_g1a, k_g1a, c_g1a, n_g1b, o_g1b, k_g1b, c_g1b, rfl, g11, g12⟩, hb_7⟩
  replace ha1 := ha1.bl hb_7; replace ha2 := ha2.bl hb_7; replace x_b1 := x_b1.bl hb_7; replace x_b2 := x_b2.bl hb_7; replace g01 := g01.bl hb_7; replace g02 := g02.bl hb_7; replace x_b3 := x_b3.bl hb_7; replace hb := hb.trans (hb_7.mono hb.size)
  have Lg11 := hide (g11.lenOf (L1.out.1))
  have Lg12 := hide (g12.lenOf (L1.out.2))
  refine hK _ _ rfl ?_
  clear hK K hb_7
  refine wpSq_call rfl (by kernel_rfl) fun K hK => ?_
  go_big_op
  have lt_b1 := x_b1.lt
  have lt_b2 := x_b2.lt
  have lt_b3 := x_b3.lt
  obtain ⟨p_b4, w_8, eP, eW, x_b4, hn, kb_b4⟩ := newBox w_7 #[.bool false, .slice none 0 0, .bool false, .slice none 0 0] 29 hb.size
  have ne_b1_b4 : Hid (p_b1 ≠ p_b4) := Nat.ne_of_lt (eP ▸ lt_b1)
  have ne_b2_b4 : Hid (p_b2 ≠ p_b4) := Nat.ne_of_lt (eP ▸ lt_b2)
  have ne_b3_b4 : Hid (p_b3 ≠ p_b4) := Nat.ne_of_lt (eP ▸ lt_b3)
  rw [eW, eP]
  clear eW eP lt_b1 lt_b2 lt_b3
  replace ha1 := ha1.bl hn; replace ha2 := ha2.bl hn; replace x_b1 := x_b1.bl hn; replace x_b2 := x_b2.bl hn; replace g01 := g01.bl hn; replace g02 := g02.bl hn; replace x_b3 := x_b3.bl hn; replace g11 := g11.bl hn; replace g12 := g12.bl hn; replace hb := hb.trans (hn.mono hb.size)
  refine hK _ _ rfl ?_; clear hK K hn
  refine wpSq_call rfl (by kernel_rfl) fun K hK => ?_
  obtain ⟨d0, d1, d2, d3⟩ := x_b4.f4
  have f0 := x_b4.free 0; have f1 := x_b4.free 1; have f2 := x_b4.free 2; have f3 := x_b4.free 3
  go_big_op
  have hnd := x_b4.nod rfl rfl
  obtain ⟨w_9, eW, x_b4', ho⟩ : ∃ w', ((((w_8.setCell ⟨p_b4, 0, none⟩ (.bool n_g1a)).setCell ⟨p_b4, 1, none⟩ (.slice o_g1a k_g1a c_g1a)).setCell ⟨p_b4, 2, none⟩ (.bool n_g1b)).setCell ⟨p_b4, 3, none⟩ (.slice o_g1b k_g1b c_g1b)) = w' ∧ Bs w' p_b4 #[.bool n_g1a, .slice o_g1a k_g1a c_g1a, .bool n_g1b, .slice o_g1b k_g1b c_g1b] 29 ∧ Only p_b4 w_8 w' := x_b4.setN [(0, .bool n_g1a), (1, .slice o_g1a k_g1a c_g1a), (2, .bool n_g1b), (3, .slice o_g1b k_g1b c_g1b)]
  rw [eW]; clear eW d0 d1 d2 d3 f0 f1 f2 f3 x_b4
  have x_b4 := x_b4'; clear x_b4'
  clear x_b3
  replace ha1 := ha1.fr hnd ho; replace ha2 := ha2.fr hnd ho; replace x_b1 := x_b1.frame ho ne_b1_b4; replace x_b2 := x_b2.frame ho ne_b2_b4; replace g01 := g01.fr hnd ho; replace g02 := g02.fr hnd ho; replace g11 := g11.fr hnd ho; replace g12 := g12.fr hnd ho; replace hb := belowOnly hb ho kb_b4
  refine hK _ _ rfl ?_; clear hK K ho hnd
  apply wpSq_end
  refine hK12 _ _ ?_
  refine wp_seq_k ?_
  intro K13 hK13
  refine wp_region_sq [0, 1] (by kernel_rfl) ?_
  refine wpSq_call rfl (by kernel_rfl) fun K hK => ?_
  obtain ⟨d0, d1, d2, d3⟩ := x_b4.f4
  go_big_op; refine hK _ _ rfl ?_; clear hK K d0 d1 d2 d3
  refine wpSq_call rfl (by kernel_rfl) fun K hK => ?_
  go_big_op
  go_fit (rgFirst_any (.mk' (g11.zn L1.out.1) (g12.zn L1.out.2)) (by omega) (by omega))
  rintro e w_10 ⟨rfl, hb_10⟩
  clear g01 g02
  replace ha1 := ha1.bl hb_10; replace ha2 := ha2.bl hb_10; replace x_b1 := x_b1.bl hb_10; replace x_b2 := x_b2.bl hb_10; replace g11 := g11.bl hb_10; replace g12 := g12.bl hb_10; replace x_b4 := x_b4.bl hb_10; replace hb := hb.trans (hb_10.mono hb.size)
  rw [F1.out]
  refine hK _ _ rfl ?_
  clear hK K hb_10
  apply wpSq_end
  refine hK13 _ _ ?_
  refine wp_cond_false (congrArg Value.bool (show _ = false from (by first | rfl | assumption | (simp; done) | exact decide_eq_false (by omega) | omega))) ?_
  refine wp_skip ?_
  refine hK11 _ _ ?_
  refine wp_region_sq [0, 1, 2] (by kernel_rfl) ?_
  refine wpSq_call rfl (by kernel_rfl) fun K hK => ?_
  go_big_move; refine hK _ _ rfl ?_; clear hK K
  refine wpSq_call rfl (by kernel_rfl) fun K hK => ?_
  go_big_op; refine hK _ _ rfl ?_; clear hK K
  refine wpSq_call rfl (by kernel_rfl) fun K hK => ?_
  go_big_move; refine hK _ _ rfl ?_; clear hK K
  apply wpSq_end
  show Code.wp _ _ _ _ _
  refine wp_seq_k ?_
  intro K14 hK14
  refine wp_seq_k ?_
  intro K15 hK15
  refine wp_region_sq [0, 1] (by kernel_rfl) ?_
  refine wpSq_call rfl (by kernel_rfl) fun K hK => ?_
  go_big_move; refine hK _ _ rfl ?_; clear hK K
  refine wpSq_call rfl (by kernel_rfl) fun K hK => ?_
  go_big_op; refine hK _ _ rfl ?_; clear hK K
  apply wpSq_end
  refine hK15 _ _ ?_
  refine wp_cond_true (congrArg Value.bool (show _ = true from (by first | rfl | assumption | (simp; done) | exact decide_eq_true (by omega) | omega))) ?_
  refine wp_skip ?_
  refine hK14 _ _ ?_
  refine wp_seq_k ?_
  intro K16 hK16
  refine wp_block ?_
  refine wp_seq_k ?_
  intro K17 hK17
  refine wp_region_sq [0, 1, 2, 3, 4] (by kernel_rfl) ?_
  refine wpSq_call rfl (by kernel_rfl) fun K hK => ?_
  obtain ⟨d0, d1, d2, d3⟩ := x_b1.f4
  go_big_op; refine hK _ _ rfl ?_; clear hK K d0 d1 d2 d3
  refine wpSq_call rfl (by kernel_rfl) fun K hK => ?_
  go_big_move; refine hK _ _ rfl ?_; clear hK K
  refine wpSq_call rfl (by kernel_rfl) fun K hK => ?_
  go_big_op
  go_fit (rgTurn_p2 2 (by decide) (PN.mk' ha1 ha2) (by omega) (by omega))
  rintro e w_11 ⟨_, rfl, ⟨n_g2a, o_g2a, k_g2a, c_g2a, n_g2b, o_g2b, k_g2b, c_g2b, rfl, g21, g22⟩, hb_11⟩
  replace ha1 := ha1.bl hb_11; replace ha2 := ha2.bl hb_11; replace x_b1 := x_b1.bl hb_11; replace x_b2 := x_b2.bl hb_11; replace g11 := g11.bl hb_11; replace g12 := g12.bl hb_11; replace x_b4 := x_b4.bl hb_11; replace hb := hb.trans (hb_11.mono hb.size)
  have Lg21 := hide (g21.lenOf (L2.out.1))
  have Lg22 := hide (g22.lenOf (L2.out.2))
  refine hK _ _ rfl ?_
  clear hK K hb_11
  refine wpSq_call rfl (by kernel_rfl) fun K hK => ?_
  go_big_op
  have lt_b1 := x_b1.lt
  have lt_b2 := x_b2.lt
  have lt_b4 := x_b4.lt
  obtain ⟨p_b5, w_12, eP, eW, x_b5, hn, kb_b5⟩ := newBox w_11 #[.bool false, .slice none 0 0, .bool false, .slice none 0 0] 29 hb.size
  have ne_b1_b5 : Hid (p_b1 ≠ p_b5) := Nat.ne_of_lt (eP ▸ lt_b1)
  have ne_b2_b5 : Hid (p_b2 ≠ p_b5) := Nat.ne_of_lt (eP ▸ lt_b2)
  have ne_b4_b5 : Hid (p_b4 ≠ p_b5) := Nat.ne_of_lt (eP ▸ lt_b4)
  rw [eW, eP]
  clear eW eP lt_b1 lt_b2 lt_b4
  replace ha1 := ha1.bl hn; replace ha2 := ha2.bl hn; replace x_b1 := x_b1.bl hn; replace x_b2 := x_b2.bl hn; replace g11 := g11.bl hn; replace g12 := g12.bl hn; replace x_b4 := x_b4.bl hn; replace g21 := g21.bl hn; replace g22 := g22.bl hn; replace hb := hb.trans (hn.mono hb.size)
  refine hK _ _ rfl ?_; clear hK K hn
  refine wpSq_call rfl (by kernel_rfl) fun K hK => ?_
  obtain ⟨d0, d1, d2, d3⟩ := x_b5.f4
  have f0 := x_b5.free 0; have f1 := x_b5.free 1; have f2 := x_b5.free 2; have f3 := x_b5.free 3
  go_big_op
  have hnd := x_b5.nod rfl rfl
  obtain ⟨w_13, eW, x_b5', ho⟩ : ∃ w', ((((w_12.setCell ⟨p_b5, 0, none⟩ (.bool n_g2a)).setCell ⟨p_b5, 1, none⟩ (.slice o_g2a k_g2a c_g2a)).setCell ⟨p_b5, 2, none⟩ (.bool n_g2b)).setCell ⟨p_b5, 3, none⟩ (.slice o_g2b k_g2b c_g2b)) = w' ∧ Bs w' p_b5 #[.bool n_g2a, .slice o_g2a k_g2a c_g2a, .bool n_g2b, .slice o_g2b k_g2b c_g2b] 29 ∧ Only p_b5 w_12 w' := x_b5.setN [(0, .bool n_g2a), (1, .slice o_g2a k_g2a c_g2a), (2, .bool n_g2b), (3, .slice o_g2b k_g2b c_g2b)]
  rw [eW]; clear eW d0 d1 d2 d3 f0 f1 f2 f3 x_b5
  have x_b5 := x_b5'; clear x_b5'
  clear x_b4
  replace ha1 := ha1.fr hnd ho; replace ha2 := ha2.fr hnd ho; replace x_b1 := x_b1.frame ho ne_b1_b5; replace x_b2 := x_b2.frame ho ne_b2_b5; replace g11 := g11.fr hnd ho; replace g12 := g12.fr hnd ho; replace g21 := g21.fr hnd ho; replace g22 := g22.fr hnd ho; replace hb := belowOnly hb ho kb_b5
  refine hK _ _ rfl ?_; clear hK K ho hnd
  apply wpSq_end
  refine hK17 _ _ ?_
  refine wp_seq_k ?_
  intro K18 hK18
  refine wp_region_sq [0, 1] (by kernel_rfl) ?_
  refine wpSq_call rfl (by kernel_rfl) fun K hK => ?_
  obtain ⟨d0, d1, d2, d3⟩ := x_b5.f4
  go_big_op; refine hK _ _ rfl ?_; clear hK K d0 d1 d2 d3
  refine wpSq_call rfl (by kernel_rfl) fun K hK => ?_
  go_big_op
  go_fit (rgFirst_any (.mk' (g21.zn L2.out.1) (g22.zn L2.out.2)) (by omega) (by omega))
  rintro e w_14 ⟨rfl, hb_14⟩
  clear g11 g12
  replace ha1 := ha1.bl hb_14; replace ha2 := ha2.bl hb_14; replace x_b1 := x_b1.bl hb_14; replace x_b2 := x_b2.bl hb_14; replace g21 := g21.bl hb_14; replace g22 := g22.bl hb_14; replace x_b5 := x_b5.bl hb_14; replace hb := hb.trans (hb_14.mono hb.size)
  rw [F2.out]
  refine hK _ _ rfl ?_
  clear hK K hb_14
  apply wpSq_end
  refine hK18 _ _ ?_
  refine wp_cond_false (congrArg Value.bool (show _ = false from (by first | rfl | assumption | (simp; done) | exact decide_eq_false (by omega) | omega))) ?_
  refine wp_skip ?_
  refine hK16 _ _ ?_
  refine wp_region_sq [0, 1, 2] (by kernel_rfl) ?_
  refine wpSq_call rfl (by kernel_rfl) fun K hK => ?_
  go_big_move; refine hK _ _ rfl ?_; clear hK K
  refine wpSq_call rfl (by kernel_rfl) fun K hK => ?_
  go_big_op; refine hK _ _ rfl ?_; clear hK K
  refine wpSq_call rfl (by kernel_rfl) fun K hK => ?_
  go_big_move; refine hK _ _ rfl ?_; clear hK K
  apply wpSq_end
  show Code.wp _ _ _ _ _
  refine wp_seq_k ?_
  intro K19 hK19
  refine wp_seq_k ?_
  intro K20 hK20
  refine wp_region_sq [0, 1] (by kernel_rfl) ?_
  refine wpSq_call rfl (by kernel_rfl) fun K hK => ?_
  go_big_move; refine hK _ _ rfl ?_; clear hK K
  refine wpSq_call rfl (by kernel_rfl) fun K hK => ?_
  go_big_op; refine hK _ _ rfl ?_; clear hK K
  apply wpSq_end
  refine hK20 _ _ ?_
  refine wp_cond_true (congrArg Value.bool (show _ = true from (by first | rfl | assumption | (simp; done) | exact decide_eq_true (by omega) | omega))) ?_
  refine wp_skip ?_
  refine hK19 _ _ ?_
  refine wp_seq_k ?_
  intro K21 hK21
  refine wp_block ?_
  refine wp_seq_k ?_
  intro K22 hK22
  refine wp_region_sq [0, 1, 2, 3, 4] (by kernel_rfl) ?_
  refine wpSq_call rfl (by kernel_rfl) fun K hK => ?_
  obtain ⟨d0, d1, d2, d3⟩ := x_b1.f4
  go_big_op; refine hK _ _ rfl ?_; clear hK K d0 d1 d2 d3
  refine wpSq_call rfl (by kernel_rfl) fun K hK => ?_
  go_big_move; refine hK _ _ rfl ?_; clear hK K
  refine wpSq_call rfl (by kernel_rfl) fun K hK => ?_
  go_big_op
  go_fit (rgTurn_p3 3 (by decide) (PN.mk' ha1 ha2) (by omega) (by omega))
  rintro e w_15 ⟨_, rfl, ⟨n_g3a, o_g3a, k_g3a, c_g3a, n_g3b, o_g3b, k_g3b, c_g3b, rfl, g31, g32⟩, hb_15⟩
  replace ha1 := ha1.bl hb_15; replace ha2 := ha2.bl hb_15; replace x_b1 := x_b1.bl hb_15; replace x_b2 := x_b2.bl hb_15; replace g21 := g21.bl hb_15; replace g22 := g22.bl hb_15; replace x_b5 := x_b5.bl hb_15; replace hb := hb.trans (hb_15.mono hb.size)
  have Lg31 := hide (g31.lenOf (L3.out.1))
  have Lg32 := hide (g32.lenOf (L3.out.2))
  refine hK _ _ rfl ?_
  clear hK K hb_15
  refine wpSq_call rfl (by kernel_rfl) fun K hK => ?_
  go_big_op
  have lt_b1 := x_b1.lt
  have lt_b2 := x_b2.lt
  have lt_b5 := x_b5.lt
  obtain ⟨p_b6, w_16, eP, eW, x_b6, hn, kb_b6⟩ := newBox w_15 #[.bool false, .slice none 0 0, .bool false, .slice none 0 0] 29 hb.size
  have ne_b1_b6 : Hid (p_b1 ≠ p_b6) := Nat.ne_of_lt (eP ▸ lt_b1)
  have ne_b2_b6 : Hid (p_b2 ≠ p_b6) := Nat.ne_of_lt (eP ▸ lt_b2)
  have ne_b5_b6 : Hid (p_b5 ≠ p_b6) := Nat.ne_of_lt (eP ▸ lt_b5)
  rw [eW, eP]
  clear eW eP lt_b1 lt_b2 lt_b5
  replace ha1 := ha1.bl hn; replace ha2 := ha2.bl hn; replace x_b1 := x_b1.bl hn; replace x_b2 := x_b2.bl hn; replace g21 := g21.bl hn; replace g22 := g22.bl hn; replace x_b5 := x_b5.bl hn; replace g31 := g31.bl hn; replace g32 := g32.bl hn; replace hb := hb.trans (hn.mono hb.size)
  refine hK _ _ rfl ?_; clear hK K hn
  refine wpSq_call rfl (by kernel_rfl) fun K hK => ?_
  obtain ⟨d0, d1, d2, d3⟩ := x_b6.f4
  have f0 := x_b6.free 0; have f1 := x_b6.free 1; have f2 := x_b6.free 2; have f3 := x_b6.free 3
  go_big_op
  have hnd := x_b6.nod rfl rfl
  obtain ⟨w_17, eW, x_b6', ho⟩ : ∃ w', ((((w_16.setCell ⟨p_b6, 0, none⟩ (.bool n_g3a)).setCell ⟨p_b6, 1, none⟩ (.slice o_g3a k_g3a c_g3a)).setCell ⟨p_b6, 2, none⟩ (.bool n_g3b)).setCell ⟨p_b6, 3, none⟩ (.slice o_g3b k_g3b c_g3b)) = w' ∧ Bs w' p_b6 #[.bool n_g3a, .slice o_g3a k_g3a c_g3a, .bool n_g3b, .slice o_g3b k_g3b c_g3b] 29 ∧ Only p_b6 w_16 w' := x_b6.setN [(0, .bool n_g3a), (1, .slice o_g3a k_g3a c_g3a), (2, .bool n_g3b), (3, .slice o_g3b k_g3b c_g3b)]
  rw [eW]; clear eW d0 d1 d2 d3 f0 f1 f2 f3 x_b6
  have x_b6 := x_b6'; clear x_b6'
  clear x_b5
  replace ha1 := ha1.fr hnd ho; replace ha2 := ha2.fr hnd ho; replace x_b1 := x_b1.frame ho ne_b1_b6; replace x_b2 := x_b2.frame ho ne_b2_b6; replace g21 := g21.fr hnd ho; replace g22 := g22.fr hnd ho; replace g31 := g31.fr hnd ho; replace g32 := g32.fr hnd ho; replace hb := belowOnly hb ho kb_b6
  refine hK _ _ rfl ?_; clear hK K ho hnd
  apply wpSq_end
  refine hK22 _ _ ?_
  refine wp_seq_k ?_
  intro K23 hK23
  refine wp_region_sq [0, 1] (by kernel_rfl) ?_
  refine wpSq_call rfl (by kernel_rfl) fun K hK => ?_
  obtain ⟨d0, d1, d2, d3⟩ := x_b6.f4
  go_big_op; refine hK _ _ rfl ?_; clear hK K d0 d1 d2 d3
  refine wpSq_call rfl (by kernel_rfl) fun K hK => ?_
  go_big_op
  go_fit (rgFirst_any (.mk' (g31.zn L3.out.1) (g32.zn L3.out.2)) (by omega) (by omega))
  rintro e w_18 ⟨rfl, hb_18⟩
  clear g21 g22
  replace ha1 := ha1.bl hb_18; replace ha2 := ha2.bl hb_18; replace x_b1 := x_b1.bl hb_18; replace x_b2 := x_b2.bl hb_18; replace g31 := g31.bl hb_18; replace g32 := g32.bl hb_18; replace x_b6 := x_b6.bl hb_18; replace hb := hb.trans (hb_18.mono hb.size)
  rw [F3.out]
  refine hK _ _ rfl ?_
  clear hK K hb_18
  apply wpSq_end
  refine hK23 _ _ ?_
  refine wp_cond_false (congrArg Value.bool (show _ = false from (by first | rfl | assumption | (simp; done) | exact decide_eq_false (by omega) | omega))) ?_
  refine wp_skip ?_
  refine hK21 _ _ ?_
  refine wp_region_sq [0, 1, 2] (by kernel_rfl) ?_
  refine wpSq_call rfl (by kernel_rfl) fun K hK => ?_
  go_big_move; refine hK _ _ rfl ?_; clear hK K
  refine wpSq_call rfl (by kernel_rfl) fun K hK => ?_
  go_big_op; refine hK _ _ rfl ?_; clear hK K
  refine wpSq_call rfl (by kernel_rfl) fun K hK => ?_
  go_big_move; refine hK _ _ rfl ?_; clear hK K
  apply wpSq_end
  show Code.wp _ _ _ _ _
  refine wp_seq_k ?_
  intro K24 hK24
  refine wp_seq_k ?_
  intro K25 hK25
  refine wp_region_sq [0, 1] (by kernel_rfl) ?_
  refine wpSq_call rfl (by kernel_rfl) fun K hK => ?_
  go_big_move; refine hK _ _ rfl ?_; clear hK K
  refine wpSq_call rfl (by kernel_rfl) fun K hK => ?_
  go_big_op; refine hK _ _ rfl ?_; clear hK K
  apply wpSq_end
  refine hK25 _ _ ?_
  refine wp_cond_false (congrArg Value.bool (show _ = false from (by first | rfl | assumption | (simp; done) | exact decide_eq_false (by omega) | omega))) ?_
  refine wp_exit ?_
  refine hK2 _ _ ?_
  refine wp_seq_k ?_
  intro K26 hK26
  refine wp_region_sq [0, 1, 2] (by kernel_rfl) ?_
  refine wpSq_call rfl (by kernel_rfl) fun K hK => ?_
  go_big_op
  go_fit (rgI_any 0 0 _ (by decide) (by decide) (by decide) (by decide))
  rintro e w_19 ⟨_, rfl, ⟨n_ha, o_ha, k_ha, c_ha, n_hb, o_hb, k_hb, c_hb, rfl, h1, h2⟩, hb_19⟩
  clear ha1 ha2 x_b1 g31 g32 x_b6
  replace x_b2 := x_b2.bl hb_19; replace hb := hb.trans (hb_19.mono hb.size)
  refine hK _ _ rfl ?_
  clear hK K hb_19
  refine wpSq_call rfl (by kernel_rfl) fun K hK => ?_
  obtain ⟨d0, d1, d2, d3⟩ := x_b2.f4
  have f0 := x_b2.free 0; have f1 := x_b2.free 1; have f2 := x_b2.free 2; have f3 := x_b2.free 3
  go_big_op
  have hnd := x_b2.nod rfl rfl
  obtain ⟨w_20, eW, x_b2', ho⟩ : ∃ w', ((((w_19.setCell ⟨p_b2, 0, none⟩ (.bool n_ha)).setCell ⟨p_b2, 1, none⟩ (.slice o_ha k_ha c_ha)).setCell ⟨p_b2, 2, none⟩ (.bool n_hb)).setCell ⟨p_b2, 3, none⟩ (.slice o_hb k_hb c_hb)) = w' ∧ Bs w' p_b2 #[.bool n_ha, .slice o_ha k_ha c_ha, .bool n_hb, .slice o_hb k_hb c_hb] 29 ∧ Only p_b2 w_19 w' := x_b2.setN [(0, .bool n_ha), (1, .slice o_ha k_ha c_ha), (2, .bool n_hb), (3, .slice o_hb k_hb c_hb)]
  rw [eW]; clear eW d0 d1 d2 d3 f0 f1 f2 f3 x_b2
  have x_b2 := x_b2'; clear x_b2'
  replace h1 := h1.fr hnd ho; replace h2 := h2.fr hnd ho; replace hb := belowOnly hb ho kb_b2
  refine hK _ _ rfl ?_; clear hK K ho hnd
  refine wpSq_call rfl (by kernel_rfl) fun K hK => ?_
  go_big_move; refine hK _ _ rfl ?_; clear hK K
  apply wpSq_end
  refine hK26 _ _ ?_
  refine wp_ret ?_
  try dsimp only [Exit.then, Exit.inBlock]
  obtain ⟨r0_0, r0_1, r0_2, r0_3⟩ := x_b2.f4
  refine bodyPost_ret (v := (.tuple #[(.agg #[.bool n_ha, .slice o_ha k_ha c_ha, .bool n_hb, .slice o_hb k_hb c_hb]), (.int .i64 0)])) (by simp [results, Tryz.results55, go_sem, r0_0, r0_1, r0_2, r0_3]) rfl ?_
  exact ⟨_, rfl, .mk' h1 h2, hb⟩
theorem rgCanon_any (ha : PN w va x l y m) (hl : l ≤ 20000000) (hm : m ≤ 20000000) :
    Calls Tryz.prog 55 #[va] w fun e w' => ∃ r, e = .returned (.tuple #[r, .int .i64 ((kq x y : Nat) : Int)]) ∧ PC w' r (turn (kq x y) (x, y)).1 (turn (kq x y) (x, y)).2 ∧ Below w.heap.size w w' := by
  rcases kq_cases x y with ⟨e, h⟩ | ⟨e, h⟩ | ⟨e, h⟩ | ⟨e, h | h⟩ <;> rw [e]
  · exact rgCanon_1 ha hl hm h
  · exact rgCanon_2 ha hl hm h
  · exact rgCanon_3 ha hl hm h
  · exact rgCanon_0 ha hl hm h
  · obtain ⟨rfl, rfl⟩ := h; exact rgCanon_4 ha hl hm ⟨rfl, rfl⟩
end
end Go.Proofs.YtgjainmfilkjmaaGreatDoor

/- gint.Xgcd. -/
namespace Go.Proofs.YtgjainmfilkjmaaGreatDoor
open Go Go.RowKit Dig
set_option linter.unusedVariables false

/-- Six whole numbers in one struct. -/
def SC (w : World) (v : Value) (z1 z2 z3 z4 z5 z6 : Int) : Prop :=
  ∃ n1 o1 k1 c1 n2 o2 k2 c2 n3 o3 k3 c3 n4 o4 k4 c4 n5 o5 k5 c5 n6 o6 k6 c6, v = .agg #[.bool n1, .slice o1 k1 c1, .bool n2, .slice o2 k2 c2, .bool n3, .slice o3 k3 c3, .bool n4, .slice o4 k4 c4, .bool n5, .slice o5 k5 c5, .bool n6, .slice o6 k6 c6] ∧ ZC w (.agg #[.bool n1, .slice o1 k1 c1]) z1 ∧ ZC w (.agg #[.bool n2, .slice o2 k2 c2]) z2 ∧ ZC w (.agg #[.bool n3, .slice o3 k3 c3]) z3 ∧ ZC w (.agg #[.bool n4, .slice o4 k4 c4]) z4 ∧ ZC w (.agg #[.bool n5, .slice o5 k5 c5]) z5 ∧ ZC w (.agg #[.bool n6, .slice o6 k6 c6]) z6
theorem SC.mk' {w : World} {n1 n2 n3 n4 n5 n6 : Bool} {o1 o2 o3 o4 o5 o6 : Option Addr} {k1 c1 k2 c2 k3 c3 k4 c4 k5 c5 k6 c6 : Nat} {z1 z2 z3 z4 z5 z6 : Int} (h1 : ZC w (.agg #[.bool n1, .slice o1 k1 c1]) z1) (h2 : ZC w (.agg #[.bool n2, .slice o2 k2 c2]) z2) (h3 : ZC w (.agg #[.bool n3, .slice o3 k3 c3]) z3) (h4 : ZC w (.agg #[.bool n4, .slice o4 k4 c4]) z4) (h5 : ZC w (.agg #[.bool n5, .slice o5 k5 c5]) z5) (h6 : ZC w (.agg #[.bool n6, .slice o6 k6 c6]) z6) : SC w (.agg #[.bool n1, .slice o1 k1 c1, .bool n2, .slice o2 k2 c2, .bool n3, .slice o3 k3 c3, .bool n4, .slice o4 k4 c4, .bool n5, .slice o5 k5 c5, .bool n6, .slice o6 k6 c6]) z1 z2 z3 z4 z5 z6 :=
  ⟨_, _, _, _, _, _, _, _, _, _, _, _, _, _, _, _, _, _, _, _, _, _, _, _, rfl, h1, h2, h3, h4, h5, h6⟩
/-- A block that holds six. -/
def BS (w : World) (p : Nat) (ty : TypeId) (z1 z2 z3 z4 z5 z6 : Int) : Prop :=
  ∃ n1 o1 k1 c1 n2 o2 k2 c2 n3 o3 k3 c3 n4 o4 k4 c4 n5 o5 k5 c5 n6 o6 k6 c6, Bs w p #[.bool n1, .slice o1 k1 c1, .bool n2, .slice o2 k2 c2, .bool n3, .slice o3 k3 c3, .bool n4, .slice o4 k4 c4, .bool n5, .slice o5 k5 c5, .bool n6, .slice o6 k6 c6] ty ∧ ZC w (.agg #[.bool n1, .slice o1 k1 c1]) z1 ∧ ZC w (.agg #[.bool n2, .slice o2 k2 c2]) z2 ∧ ZC w (.agg #[.bool n3, .slice o3 k3 c3]) z3 ∧ ZC w (.agg #[.bool n4, .slice o4 k4 c4]) z4 ∧ ZC w (.agg #[.bool n5, .slice o5 k5 c5]) z5 ∧ ZC w (.agg #[.bool n6, .slice o6 k6 c6]) z6

section
variable {w : World} {va vb : Value} {x y u v : Int} {l m k n : Nat}
set_option maxHeartbeats 8000000 in
set_option maxRecDepth 20000 in
theorem isZero_yes (ha : PN w va 0 l 0 m) (hl : l ≤ 100000000) (hm : m ≤ 100000000) :
    Calls Tryz.prog 41 #[va] w fun e w' => e = .returned (.bool true) ∧ Below w.heap.size w w' := by
  obtain ⟨n_0a, o_0a, k_0a, c_0a, n_0b, o_0b, k_0b, c_0b, rfl, ha1, ha2⟩ := ha
  go_enter Tryz.func41, Tryz.ntmps41
  have hb := Below.refl w.heap.size w
  refine wp_seq_k ?_
  intro K1 hK1
  refine wp_region_sq [0, 1] (by kernel_rfl) ?_
  refine wpSq_call rfl (by kernel_rfl) fun K hK => ?_
  go_big_op
  obtain ⟨p_b1, w_1, eP, eW, x_b1, hn, kb_b1⟩ := newBox w #[.bool n_0a, .slice o_0a k_0a c_0a, .bool n_0b, .slice o_0b k_0b c_0b] 29 hb.size
  rw [eW, eP]
  clear eW eP
  replace ha1 := ha1.bl hn; replace ha2 := ha2.bl hn; replace hb := hb.trans (hn.mono hb.size)
  refine hK _ _ rfl ?_; clear hK K hn
  refine wpSq_call rfl (by kernel_rfl) fun K hK => ?_
  go_big_move; refine hK _ _ rfl ?_; clear hK K
  apply wpSq_end
  refine hK1 _ _ ?_
  refine wp_seq_k ?_
  intro K2 hK2
  refine wp_region_sq [0, 1, 2, 3, 4, 5, 6, 7, 8, 9, 10] (by kernel_rfl) ?_
  refine wpSq_call rfl (by kernel_rfl) fun K hK => ?_
  go_big_op; refine hK _ _ rfl ?_; clear hK K
  refine wpSq_call rfl (by kernel_rfl) fun K hK => ?_
  obtain ⟨d0, d1, d2, d3⟩ := x_b1.f4
  go_big_op; refine hK _ _ rfl ?_; clear hK K d0 d1 d2 d3
  refine wpSq_call rfl (by kernel_rfl) fun K hK => ?_
  go_big_op
  go_fit (zsign_any ha1 (by omega) )
  rintro e w_2 ⟨rfl, hb_2⟩
  replace ha1 := ha1.bl hb_2; replace ha2 := ha2.bl hb_2; replace x_b1 := x_b1.bl hb_2; replace hb := hb.trans (hb_2.mono hb.size)
  refine hK _ _ rfl ?_
  clear hK K hb_2
  refine wpSq_call rfl (by kernel_rfl) fun K hK => ?_
  go_big_op; refine hK _ _ rfl ?_; clear hK K
  refine wpSq_call rfl (by kernel_rfl) fun K hK => ?_
  go_big_move; refine hK _ _ rfl ?_; clear hK K
  refine wpSq_call rfl (by kernel_rfl) fun K hK => ?_
  go_big_op; refine hK _ _ rfl ?_; clear hK K
  refine wpSq_call rfl (by kernel_rfl) fun K hK => ?_
  obtain ⟨d0, d1, d2, d3⟩ := x_b1.f4
  go_big_op; refine hK _ _ rfl ?_; clear hK K d0 d1 d2 d3
  refine wpSq_call rfl (by kernel_rfl) fun K hK => ?_
  go_big_op
  go_fit (zsign_any ha2 (by omega) )
  rintro e w_3 ⟨rfl, hb_3⟩
  clear ha1 x_b1
  replace ha2 := ha2.bl hb_3; replace hb := hb.trans (hb_3.mono hb.size)
  refine hK _ _ rfl ?_
  clear hK K hb_3
  refine wpSq_call rfl (by kernel_rfl) fun K hK => ?_
  go_big_op; refine hK _ _ rfl ?_; clear hK K
  refine wpSq_call rfl (by kernel_rfl) fun K hK => ?_
  go_big_op; refine hK _ _ rfl ?_; clear hK K
  refine wpSq_call rfl (by kernel_rfl) fun K hK => ?_
  go_big_move; refine hK _ _ rfl ?_; clear hK K
  apply wpSq_end
  refine hK2 _ _ ?_
  refine wp_ret ?_
  try dsimp only [Exit.then, Exit.inBlock]
  refine bodyPost_ret (v := (.bool true)) (by simp [results, Tryz.results41, go_sem]) rfl ?_
  exact ⟨rfl, hb⟩
set_option maxHeartbeats 8000000 in
set_option maxRecDepth 20000 in
theorem isZero_no1 (ha : PN w va x l y m) (hl : l ≤ 100000000) (hm : m ≤ 100000000) (h : x ≠ 0) :
    Calls Tryz.prog 41 #[va] w fun e w' => e = .returned (.bool false) ∧ Below w.heap.size w w' := by
  have H0 : (x.sign == 0) = false := by simpa using h
  obtain ⟨S, hS⟩ : ∃ S, x.sign = S := ⟨_, rfl⟩
  rw [hS] at H0
  have HS := hide hS
  clear h hS
  obtain ⟨n_0a, o_0a, k_0a, c_0a, n_0b, o_0b, k_0b, c_0b, rfl, ha1, ha2⟩ := ha
  go_enter Tryz.func41, Tryz.ntmps41
  have hb := Below.refl w.heap.size w
  refine wp_seq_k ?_
  intro K1 hK1
  refine wp_region_sq [0, 1] (by kernel_rfl) ?_
  refine wpSq_call rfl (by kernel_rfl) fun K hK => ?_
  go_big_op
  obtain ⟨p_b1, w_1, eP, eW, x_b1, hn, kb_b1⟩ := newBox w #[.bool n_0a, .slice o_0a k_0a c_0a, .bool n_0b, .slice o_0b k_0b c_0b] 29 hb.size
  rw [eW, eP]
  clear eW eP
  replace ha1 := ha1.bl hn; replace ha2 := ha2.bl hn; replace hb := hb.trans (hn.mono hb.size)
  refine hK _ _ rfl ?_; clear hK K hn
  refine wpSq_call rfl (by kernel_rfl) fun K hK => ?_
  go_big_move; refine hK _ _ rfl ?_; clear hK K
  apply wpSq_end
  refine hK1 _ _ ?_
  refine wp_seq_k ?_
  intro K2 hK2
  refine wp_region_sq [0, 1, 2, 3, 4, 5, 6, 7, 8, 9, 10] (by kernel_rfl) ?_
  refine wpSq_call rfl (by kernel_rfl) fun K hK => ?_
  go_big_op; refine hK _ _ rfl ?_; clear hK K
  refine wpSq_call rfl (by kernel_rfl) fun K hK => ?_
  obtain ⟨d0, d1, d2, d3⟩ := x_b1.f4
  go_big_op; refine hK _ _ rfl ?_; clear hK K d0 d1 d2 d3
  refine wpSq_call rfl (by kernel_rfl) fun K hK => ?_
  go_big_op
  go_fit (zsign_any ha1 (by omega) )
  rintro e w_2 ⟨rfl, hb_2⟩
  replace ha1 := ha1.bl hb_2; replace ha2 := ha2.bl hb_2; replace x_b1 := x_b1.bl hb_2; replace hb := hb.trans (hb_2.mono hb.size)
  rw [HS.out]
  refine hK _ _ rfl ?_
  clear hK K hb_2
  refine wpSq_call rfl (by kernel_rfl) fun K hK => ?_
  go_big_op; refine hK _ _ rfl ?_; clear hK K
  refine wpSq_call rfl (by kernel_rfl) fun K hK => ?_
  go_big_move; refine hK _ _ rfl ?_; clear hK K
  apply wpSq_skip
  case hi => rfl
  case hw => kernel_rfl
  case hp => unfold Act.put; simp only [List.setIfInBounds_toArray, List.set_cons_succ, List.set_cons_zero]; rfl
  apply wpSq_skip
  case hi => rfl
  case hw => kernel_rfl
  case hp => unfold Act.put; simp only [List.setIfInBounds_toArray, List.set_cons_succ, List.set_cons_zero]; rfl
  apply wpSq_skip
  case hi => rfl
  case hw => kernel_rfl
  case hp => unfold Act.put; simp only [List.setIfInBounds_toArray, List.set_cons_succ, List.set_cons_zero]; rfl
  apply wpSq_skip
  case hi => rfl
  case hw => kernel_rfl
  case hp => unfold Act.put; simp only [List.setIfInBounds_toArray, List.set_cons_succ, List.set_cons_zero]; rfl
  refine wpSq_call rfl (by kernel_rfl) fun K hK => ?_
  go_big_op; refine hK _ _ rfl ?_; clear hK K
  refine wpSq_call rfl (by kernel_rfl) fun K hK => ?_
  go_big_move; refine hK _ _ rfl ?_; clear hK K
  apply wpSq_end
  refine hK2 _ _ ?_
  refine wp_ret ?_
  try dsimp only [Exit.then, Exit.inBlock]
  refine bodyPost_ret (v := (.bool false)) (by simp [results, Tryz.results41, go_sem]) rfl ?_
  exact ⟨rfl, hb⟩
set_option maxHeartbeats 8000000 in
set_option maxRecDepth 20000 in
theorem isZero_no2 (ha : PN w va 0 l y m) (hl : l ≤ 100000000) (hm : m ≤ 100000000) (h : y ≠ 0) :
    Calls Tryz.prog 41 #[va] w fun e w' => e = .returned (.bool false) ∧ Below w.heap.size w w' := by
  have H0 : (y.sign == 0) = false := by simpa using h
  obtain ⟨S, hS⟩ : ∃ S, y.sign = S := ⟨_, rfl⟩
  rw [hS] at H0
  have HS := hide hS
  clear h hS
  obtain ⟨n_0a, o_0a, k_0a, c_0a, n_0b, o_0b, k_0b, c_0b, rfl, ha1, ha2⟩ := ha
  go_enter Tryz.func41, Tryz.ntmps41
  have hb := Below.refl w.heap.size w
  refine wp_seq_k ?_
  intro K1 hK1
  refine wp_region_sq [0, 1] (by kernel_rfl) ?_
  refine wpSq_call rfl (by kernel_rfl) fun K hK => ?_
  go_big_op
  obtain ⟨p_b1, w_1, eP, eW, x_b1, hn, kb_b1⟩ := newBox w #[.bool n_0a, .slice o_0a k_0a c_0a, .bool n_0b, .slice o_0b k_0b c_0b] 29 hb.size
  rw [eW, eP]
  clear eW eP
  replace ha1 := ha1.bl hn; replace ha2 := ha2.bl hn; replace hb := hb.trans (hn.mono hb.size)
  refine hK _ _ rfl ?_; clear hK K hn
  refine wpSq_call rfl (by kernel_rfl) fun K hK => ?_
  go_big_move; refine hK _ _ rfl ?_; clear hK K
  apply wpSq_end
  refine hK1 _ _ ?_
  refine wp_seq_k ?_
  intro K2 hK2
  refine wp_region_sq [0, 1, 2, 3, 4, 5, 6, 7, 8, 9, 10] (by kernel_rfl) ?_
  refine wpSq_call rfl (by kernel_rfl) fun K hK => ?_
  go_big_op; refine hK _ _ rfl ?_; clear hK K
  refine wpSq_call rfl (by kernel_rfl) fun K hK => ?_
  obtain ⟨d0, d1, d2, d3⟩ := x_b1.f4
  go_big_op; refine hK _ _ rfl ?_; clear hK K d0 d1 d2 d3
  refine wpSq_call rfl (by kernel_rfl) fun K hK => ?_
  go_big_op
  go_fit (zsign_any ha1 (by omega) )
  rintro e w_2 ⟨rfl, hb_2⟩
  replace ha1 := ha1.bl hb_2; replace ha2 := ha2.bl hb_2; replace x_b1 := x_b1.bl hb_2; replace hb := hb.trans (hb_2.mono hb.size)
  refine hK _ _ rfl ?_
  clear hK K hb_2
  refine wpSq_call rfl (by kernel_rfl) fun K hK => ?_
  go_big_op; refine hK _ _ rfl ?_; clear hK K
  refine wpSq_call rfl (by kernel_rfl) fun K hK => ?_
  go_big_move; refine hK _ _ rfl ?_; clear hK K
  refine wpSq_call rfl (by kernel_rfl) fun K hK => ?_
  go_big_op; refine hK _ _ rfl ?_; clear hK K
  refine wpSq_call rfl (by kernel_rfl) fun K hK => ?_
  obtain ⟨d0, d1, d2, d3⟩ := x_b1.f4
  go_big_op; refine hK _ _ rfl ?_; clear hK K d0 d1 d2 d3
  refine wpSq_call rfl (by kernel_rfl) fun K hK => ?_
  go_big_op
  go_fit (zsign_any ha2 (by omega) )
  rintro e w_3 ⟨rfl, hb_3⟩
  clear ha1 x_b1
  replace ha2 := ha2.bl hb_3; replace hb := hb.trans (hb_3.mono hb.size)
  rw [HS.out]
  refine hK _ _ rfl ?_
  clear hK K hb_3
  refine wpSq_call rfl (by kernel_rfl) fun K hK => ?_
  go_big_op; refine hK _ _ rfl ?_; clear hK K
  refine wpSq_call rfl (by kernel_rfl) fun K hK => ?_
  go_big_op; refine hK _ _ rfl ?_; clear hK K
  refine wpSq_call rfl (by kernel_rfl) fun K hK => ?_
  go_big_move; refine hK _ _ rfl ?_; clear hK K
  apply wpSq_end
  refine hK2 _ _ ?_
  refine wp_ret ?_
  try dsimp only [Exit.then, Exit.inBlock]
  refine bodyPost_ret (v := (.bool false)) (by simp [results, Tryz.results41, go_sem]) rfl ?_
  exact ⟨rfl, hb⟩
theorem isZero_no (ha : PN w va x l y m) (hl : l ≤ 100000000) (hm : m ≤ 100000000) (h : gN x y ≠ 0) :
    Calls Tryz.prog 41 #[va] w fun e w' => e = .returned (.bool false) ∧ Below w.heap.size w w' := by
  by_cases hx : x = 0
  · subst hx
    exact isZero_no2 ha hl hm (fun c => h (gN_zero.2 ⟨rfl, c⟩))
  · exact isZero_no1 ha hl hm hx
end
end Go.Proofs.YtgjainmfilkjmaaGreatDoor

/- gint: one sum of both less a multiple of another. -/
namespace Go.Proofs.YtgjainmfilkjmaaGreatDoor
open Go Go.RowKit Dig
set_option linter.unusedVariables false
section
variable {w : World} {va vb : Value} {x y u v : Int} {l m k n : Nat}
set_option maxHeartbeats 8000000 in
set_option maxRecDepth 20000 in
theorem less_any {q1 q2 : Int} {an1 bn1 an2 bn2 an3 bn3 an4 bn4 an5 bn5 an6 bn6 : Bool} {ao1 bo1 ao2 bo2 ao3 bo3 ao4 bo4 ao5 bo5 ao6 bo6 : Option Addr} {ak1 ac1 bk1 bc1 ak2 ac2 bk2 bc2 ak3 ac3 bk3 bc3 ak4 ac4 bk4 bc4 ak5 ac5 bk5 bc5 ak6 ac6 bk6 bc6 : Nat} {a1 a2 a3 a4 a5 a6 b1 b2 b3 b4 b5 b6 : Int} {L : Nat} (hL : L ≤ 9000000)
    (ha1 : ZN w (.agg #[.bool an1, .slice ao1 ak1 ac1]) a1 L) (ha2 : ZN w (.agg #[.bool an2, .slice ao2 ak2 ac2]) a2 L) (ha3 : ZN w (.agg #[.bool an3, .slice ao3 ak3 ac3]) a3 L) (ha4 : ZN w (.agg #[.bool an4, .slice ao4 ak4 ac4]) a4 L) (ha5 : ZN w (.agg #[.bool an5, .slice ao5 ak5 ac5]) a5 L) (ha6 : ZN w (.agg #[.bool an6, .slice ao6 ak6 ac6]) a6 L) (hc1 : ZN w (.agg #[.bool bn1, .slice bo1 bk1 bc1]) b1 L) (hc2 : ZN w (.agg #[.bool bn2, .slice bo2 bk2 bc2]) b2 L) (hc3 : ZN w (.agg #[.bool bn3, .slice bo3 bk3 bc3]) b3 L) (hc4 : ZN w (.agg #[.bool bn4, .slice bo4 bk4 bc4]) b4 L) (hc5 : ZN w (.agg #[.bool bn5, .slice bo5 bk5 bc5]) b5 L) (hc6 : ZN w (.agg #[.bool bn6, .slice bo6 bk6 bc6]) b6 L) (hq : PN w vb q1 l q2 m) (hl : l ≤ 9000000) (hm : m ≤ 9000000) :
    Calls Tryz.prog 44 #[.agg #[.bool an1, .slice ao1 ak1 ac1, .bool an2, .slice ao2 ak2 ac2, .bool an3, .slice ao3 ak3 ac3, .bool an4, .slice ao4 ak4 ac4, .bool an5, .slice ao5 ak5 ac5, .bool an6, .slice ao6 ak6 ac6], vb, .agg #[.bool bn1, .slice bo1 bk1 bc1, .bool bn2, .slice bo2 bk2 bc2, .bool bn3, .slice bo3 bk3 bc3, .bool bn4, .slice bo4 bk4 bc4, .bool bn5, .slice bo5 bk5 bc5, .bool bn6, .slice bo6 bk6 bc6]] w fun e w' => ∃ r, e = .returned r ∧ SC w' r (a1 - (q1 * b1 - q2 * b2)) (a2 - (q1 * b2 + q2 * b1)) (a3 - (q1 * b3 - q2 * b4)) (a4 - (q1 * b4 + q2 * b3)) (a5 - (q1 * b5 - q2 * b6)) (a6 - (q1 * b6 + q2 * b5)) ∧ Below w.heap.size w w' := by
  obtain ⟨n_1a, o_1a, k_1a, c_1a, n_1b, o_1b, k_1b, c_1b, rfl, hq1, hq2⟩ := hq
  go_enter Tryz.func44, Tryz.ntmps44
  have hb := Below.refl w.heap.size w
  refine wp_seq_k ?_
  intro K1 hK1
  refine wp_region_sq [0, 1, 2, 3] (by kernel_rfl) ?_
  refine wpSq_call rfl (by kernel_rfl) fun K hK => ?_
  go_big_op
  obtain ⟨p_b1, w_1, eP, eW, x_b1, hn, kb_b1⟩ := newBox w #[.bool an1, .slice ao1 ak1 ac1, .bool an2, .slice ao2 ak2 ac2, .bool an3, .slice ao3 ak3 ac3, .bool an4, .slice ao4 ak4 ac4, .bool an5, .slice ao5 ak5 ac5, .bool an6, .slice ao6 ak6 ac6] 68 hb.size
  rw [eW, eP]
  clear eW eP
  replace ha1 := ha1.bl hn; replace ha2 := ha2.bl hn; replace ha3 := ha3.bl hn; replace ha4 := ha4.bl hn; replace ha5 := ha5.bl hn; replace ha6 := ha6.bl hn; replace hq1 := hq1.bl hn; replace hq2 := hq2.bl hn; replace hc1 := hc1.bl hn; replace hc2 := hc2.bl hn; replace hc3 := hc3.bl hn; replace hc4 := hc4.bl hn; replace hc5 := hc5.bl hn; replace hc6 := hc6.bl hn; replace hb := hb.trans (hn.mono hb.size)
  refine hK _ _ rfl ?_; clear hK K hn
  refine wpSq_call rfl (by kernel_rfl) fun K hK => ?_
  go_big_op
  have lt_b1 := x_b1.lt
  obtain ⟨p_b2, w_2, eP, eW, x_b2, hn, kb_b2⟩ := newBox w_1 #[.bool n_1a, .slice o_1a k_1a c_1a, .bool n_1b, .slice o_1b k_1b c_1b] 29 hb.size
  have ne_b1_b2 : Hid (p_b1 ≠ p_b2) := Nat.ne_of_lt (eP ▸ lt_b1)
  rw [eW, eP]
  clear eW eP lt_b1
  replace ha1 := ha1.bl hn; replace ha2 := ha2.bl hn; replace ha3 := ha3.bl hn; replace ha4 := ha4.bl hn; replace ha5 := ha5.bl hn; replace ha6 := ha6.bl hn; replace hq1 := hq1.bl hn; replace hq2 := hq2.bl hn; replace hc1 := hc1.bl hn; replace hc2 := hc2.bl hn; replace hc3 := hc3.bl hn; replace hc4 := hc4.bl hn; replace hc5 := hc5.bl hn; replace hc6 := hc6.bl hn; replace x_b1 := x_b1.bl hn; replace hb := hb.trans (hn.mono hb.size)
  refine hK _ _ rfl ?_; clear hK K hn
  refine wpSq_call rfl (by kernel_rfl) fun K hK => ?_
  go_big_op
  have lt_b1 := x_b1.lt
  have lt_b2 := x_b2.lt
  obtain ⟨p_b3, w_3, eP, eW, x_b3, hn, kb_b3⟩ := newBox w_2 #[.bool bn1, .slice bo1 bk1 bc1, .bool bn2, .slice bo2 bk2 bc2, .bool bn3, .slice bo3 bk3 bc3, .bool bn4, .slice bo4 bk4 bc4, .bool bn5, .slice bo5 bk5 bc5, .bool bn6, .slice bo6 bk6 bc6] 68 hb.size
  have ne_b1_b3 : Hid (p_b1 ≠ p_b3) := Nat.ne_of_lt (eP ▸ lt_b1)
  have ne_b2_b3 : Hid (p_b2 ≠ p_b3) := Nat.ne_of_lt (eP ▸ lt_b2)
  rw [eW, eP]
  clear eW eP lt_b1 lt_b2
  replace ha1 := ha1.bl hn; replace ha2 := ha2.bl hn; replace ha3 := ha3.bl hn; replace ha4 := ha4.bl hn; replace ha5 := ha5.bl hn; replace ha6 := ha6.bl hn; replace hq1 := hq1.bl hn; replace hq2 := hq2.bl hn; replace hc1 := hc1.bl hn; replace hc2 := hc2.bl hn; replace hc3 := hc3.bl hn; replace hc4 := hc4.bl hn; replace hc5 := hc5.bl hn; replace hc6 := hc6.bl hn; replace x_b1 := x_b1.bl hn; replace x_b2 := x_b2.bl hn; replace hb := hb.trans (hn.mono hb.size)
  refine hK _ _ rfl ?_; clear hK K hn
  refine wpSq_call rfl (by kernel_rfl) fun K hK => ?_
  go_big_op
  have lt_b1 := x_b1.lt
  have lt_b2 := x_b2.lt
  have lt_b3 := x_b3.lt
  obtain ⟨p_b4, w_4, eP, eW, x_b4, hn, kb_b4⟩ := newBox w_3 #[.bool false, .slice none 0 0, .bool false, .slice none 0 0, .bool false, .slice none 0 0, .bool false, .slice none 0 0, .bool false, .slice none 0 0, .bool false, .slice none 0 0] 68 hb.size
  have ne_b1_b4 : Hid (p_b1 ≠ p_b4) := Nat.ne_of_lt (eP ▸ lt_b1)
  have ne_b2_b4 : Hid (p_b2 ≠ p_b4) := Nat.ne_of_lt (eP ▸ lt_b2)
  have ne_b3_b4 : Hid (p_b3 ≠ p_b4) := Nat.ne_of_lt (eP ▸ lt_b3)
  rw [eW, eP]
  clear eW eP lt_b1 lt_b2 lt_b3
  replace ha1 := ha1.bl hn; replace ha2 := ha2.bl hn; replace ha3 := ha3.bl hn; replace ha4 := ha4.bl hn; replace ha5 := ha5.bl hn; replace ha6 := ha6.bl hn; replace hq1 := hq1.bl hn; replace hq2 := hq2.bl hn; replace hc1 := hc1.bl hn; replace hc2 := hc2.bl hn; replace hc3 := hc3.bl hn; replace hc4 := hc4.bl hn; replace hc5 := hc5.bl hn; replace hc6 := hc6.bl hn; replace x_b1 := x_b1.bl hn; replace x_b2 := x_b2.bl hn; replace x_b3 := x_b3.bl hn; replace hb := hb.trans (hn.mono hb.size)
  refine hK _ _ rfl ?_; clear hK K hn
  apply wpSq_end
  refine hK1 _ _ ?_
  refine wp_seq_k ?_
  intro K2 hK2
  refine wp_region_fl2 [(0, false), (1, false), (2, false), (3, false), (4, false), (7, false), (8, false), (9, false), (10, false), (11, false), (14, false), (15, false), (16, false), (17, false), (18, false), (5, true), (6, true), (12, true), (13, true), (19, true), (20, true), (21, false)] [22] [] (fun _ => default) [99, 0, 1, 99, 2, 99, 99, 99, 0, 1, 99, 2, 99, 99, 99, 0, 1, 99, 2, 99, 99, 99, 99] [] (fun w' => w'.cell? ⟨p_b1, 0, none⟩ = some (.bool an1) ∧ w'.cell? ⟨p_b1, 1, none⟩ = some (.slice ao1 ak1 ac1) ∧ w'.cell? ⟨p_b1, 2, none⟩ = some (.bool an2) ∧ w'.cell? ⟨p_b1, 3, none⟩ = some (.slice ao2 ak2 ac2) ∧ w'.cell? ⟨p_b1, 4, none⟩ = some (.bool an3) ∧ w'.cell? ⟨p_b1, 5, none⟩ = some (.slice ao3 ak3 ac3) ∧ w'.cell? ⟨p_b1, 6, none⟩ = some (.bool an4) ∧ w'.cell? ⟨p_b1, 7, none⟩ = some (.slice ao4 ak4 ac4) ∧ w'.cell? ⟨p_b1, 8, none⟩ = some (.bool an5) ∧ w'.cell? ⟨p_b1, 9, none⟩ = some (.slice ao5 ak5 ac5) ∧ w'.cell? ⟨p_b1, 10, none⟩ = some (.bool an6) ∧ w'.cell? ⟨p_b1, 11, none⟩ = some (.slice ao6 ak6 ac6) ∧ w'.cell? ⟨p_b2, 0, none⟩ = some (.bool n_1a) ∧ w'.cell? ⟨p_b2, 1, none⟩ = some (.slice o_1a k_1a c_1a) ∧ w'.cell? ⟨p_b2, 2, none⟩ = some (.bool n_1b) ∧ w'.cell? ⟨p_b2, 3, none⟩ = some (.slice o_1b k_1b c_1b) ∧ w'.cell? ⟨p_b3, 0, none⟩ = some (.bool bn1) ∧ w'.cell? ⟨p_b3, 1, none⟩ = some (.slice bo1 bk1 bc1) ∧ w'.cell? ⟨p_b3, 2, none⟩ = some (.bool bn2) ∧ w'.cell? ⟨p_b3, 3, none⟩ = some (.slice bo2 bk2 bc2) ∧ w'.cell? ⟨p_b3, 4, none⟩ = some (.bool bn3) ∧ w'.cell? ⟨p_b3, 5, none⟩ = some (.slice bo3 bk3 bc3) ∧ w'.cell? ⟨p_b3, 6, none⟩ = some (.bool bn4) ∧ w'.cell? ⟨p_b3, 7, none⟩ = some (.slice bo4 bk4 bc4) ∧ w'.cell? ⟨p_b3, 8, none⟩ = some (.bool bn5) ∧ w'.cell? ⟨p_b3, 9, none⟩ = some (.slice bo5 bk5 bc5) ∧ w'.cell? ⟨p_b3, 10, none⟩ = some (.bool bn6) ∧ w'.cell? ⟨p_b3, 11, none⟩ = some (.slice bo6 bk6 bc6)) [fun w' => w'.cell? ⟨p_b1, 0, none⟩ = some (.bool an1) ∧ w'.cell? ⟨p_b1, 1, none⟩ = some (.slice ao1 ak1 ac1) ∧ w'.cell? ⟨p_b1, 2, none⟩ = some (.bool an2) ∧ w'.cell? ⟨p_b1, 3, none⟩ = some (.slice ao2 ak2 ac2) ∧ w'.cell? ⟨p_b1, 4, none⟩ = some (.bool an3) ∧ w'.cell? ⟨p_b1, 5, none⟩ = some (.slice ao3 ak3 ac3) ∧ w'.cell? ⟨p_b1, 6, none⟩ = some (.bool an4) ∧ w'.cell? ⟨p_b1, 7, none⟩ = some (.slice ao4 ak4 ac4) ∧ w'.cell? ⟨p_b1, 8, none⟩ = some (.bool an5) ∧ w'.cell? ⟨p_b1, 9, none⟩ = some (.slice ao5 ak5 ac5) ∧ w'.cell? ⟨p_b1, 10, none⟩ = some (.bool an6) ∧ w'.cell? ⟨p_b1, 11, none⟩ = some (.slice ao6 ak6 ac6), fun w' => w'.cell? ⟨p_b2, 0, none⟩ = some (.bool n_1a) ∧ w'.cell? ⟨p_b2, 1, none⟩ = some (.slice o_1a k_1a c_1a) ∧ w'.cell? ⟨p_b2, 2, none⟩ = some (.bool n_1b) ∧ w'.cell? ⟨p_b2, 3, none⟩ = some (.slice o_1b k_1b c_1b), fun w' => w'.cell? ⟨p_b3, 0, none⟩ = some (.bool bn1) ∧ w'.cell? ⟨p_b3, 1, none⟩ = some (.slice bo1 bk1 bc1) ∧ w'.cell? ⟨p_b3, 2, none⟩ = some (.bool bn2) ∧ w'.cell? ⟨p_b3, 3, none⟩ = some (.slice bo2 bk2 bc2) ∧ w'.cell? ⟨p_b3, 4, none⟩ = some (.bool bn3) ∧ w'.cell? ⟨p_b3, 5, none⟩ = some (.slice bo3 bk3 bc3) ∧ w'.cell? ⟨p_b3, 6, none⟩ = some (.bool bn4) ∧ w'.cell? ⟨p_b3, 7, none⟩ = some (.slice bo4 bk4 bc4) ∧ w'.cell? ⟨p_b3, 8, none⟩ = some (.bool bn5) ∧ w'.cell? ⟨p_b3, 9, none⟩ = some (.slice bo5 bk5 bc5) ∧ w'.cell? ⟨p_b3, 10, none⟩ = some (.bool bn6) ∧ w'.cell? ⟨p_b3, 11, none⟩ = some (.slice bo6 bk6 bc6)] (by kernel_rfl) (by kernel_rfl) (by kernel_rfl) (by kernel_rfl) (by kernel_rfl) (by kernel_rfl) (by kernel_rfl) (by kernel_rfl) (by decide) (by intro j hj; cases hj) (by intro w' o hC; obtain ⟨c0, c1, c2, c3, c4, c5, c6, c7, c8, c9, c10, c11, c12, c13, c14, c15, c16, c17, c18, c19, c20, c21, c22, c23, c24, c25, c26, c27⟩ := hC; exact ⟨cell_alloc c0 o, cell_alloc c1 o, cell_alloc c2 o, cell_alloc c3 o, cell_alloc c4 o, cell_alloc c5 o, cell_alloc c6 o, cell_alloc c7 o, cell_alloc c8 o, cell_alloc c9 o, cell_alloc c10 o, cell_alloc c11 o, cell_alloc c12 o, cell_alloc c13 o, cell_alloc c14 o, cell_alloc c15 o, cell_alloc c16 o, cell_alloc c17 o, cell_alloc c18 o, cell_alloc c19 o, cell_alloc c20 o, cell_alloc c21 o, cell_alloc c22 o, cell_alloc c23 o, cell_alloc c24 o, cell_alloc c25 o, cell_alloc c26 o, cell_alloc c27 o⟩) (by intro w' hC G hG; obtain ⟨c0, c1, c2, c3, c4, c5, c6, c7, c8, c9, c10, c11, c12, c13, c14, c15, c16, c17, c18, c19, c20, c21, c22, c23, c24, c25, c26, c27⟩ := hC; simp only [List.mem_cons, List.not_mem_nil, or_false] at hG; rcases hG with rfl | rfl | rfl <;> first | exact ⟨c0, c1, c2, c3, c4, c5, c6, c7, c8, c9, c10, c11⟩ | exact ⟨c12, c13, c14, c15⟩ | exact ⟨c16, c17, c18, c19, c20, c21, c22, c23, c24, c25, c26, c27⟩) ?_
  have lt_b1 := x_b1.lt
  have lt_b2 := x_b2.lt
  have lt_b3 := x_b3.lt
  have lt_b4 := x_b4.lt
  intro w_5 hn
  replace lt_b1 := Nat.lt_of_lt_of_le lt_b1 hn.size
  replace lt_b2 := Nat.lt_of_lt_of_le lt_b2 hn.size
  replace lt_b3 := Nat.lt_of_lt_of_le lt_b3 hn.size
  replace lt_b4 := Nat.lt_of_lt_of_le lt_b4 hn.size
  replace ha1 := ha1.bl hn; replace ha2 := ha2.bl hn; replace ha3 := ha3.bl hn; replace ha4 := ha4.bl hn; replace ha5 := ha5.bl hn; replace ha6 := ha6.bl hn; replace hq1 := hq1.bl hn; replace hq2 := hq2.bl hn; replace hc1 := hc1.bl hn; replace hc2 := hc2.bl hn; replace hc3 := hc3.bl hn; replace hc4 := hc4.bl hn; replace hc5 := hc5.bl hn; replace hc6 := hc6.bl hn; replace x_b1 := x_b1.bl hn; replace x_b2 := x_b2.bl hn; replace x_b3 := x_b3.bl hn; replace x_b4 := x_b4.bl hn; replace hb := hb.trans (hn.mono hb.size)
  clear hn
  have kb0 := hb.size
  refine ⟨⟨x_b1.cell 0 rfl, x_b1.cell 1 rfl, x_b1.cell 2 rfl, x_b1.cell 3 rfl, x_b1.cell 4 rfl, x_b1.cell 5 rfl, x_b1.cell 6 rfl, x_b1.cell 7 rfl, x_b1.cell 8 rfl, x_b1.cell 9 rfl, x_b1.cell 10 rfl, x_b1.cell 11 rfl, x_b2.cell 0 rfl, x_b2.cell 1 rfl, x_b2.cell 2 rfl, x_b2.cell 3 rfl, x_b3.cell 0 rfl, x_b3.cell 1 rfl, x_b3.cell 2 rfl, x_b3.cell 3 rfl, x_b3.cell 4 rfl, x_b3.cell 5 rfl, x_b3.cell 6 rfl, x_b3.cell 7 rfl, x_b3.cell 8 rfl, x_b3.cell 9 rfl, x_b3.cell 10 rfl, x_b3.cell 11 rfl⟩, ?_⟩
  apply wpFl_ld rfl rfl; (case h1 => intro w' hC K hK; go_big_op; exact hK); iterate 4 kernel_rfl
  apply wpFl_ld rfl rfl; (case h1 => intro w' hC K hK; obtain ⟨c0, c1, c2, c3, -, -, -, -, -, -, -, -⟩ := hC; go_big_op; exact hK); iterate 4 kernel_rfl
  apply wpFl_ld rfl rfl; (case h1 => intro w' hC K hK; obtain ⟨c0, c1, c2, c3⟩ := hC; go_big_op; exact hK); iterate 4 kernel_rfl
  apply wpFl_ld rfl rfl; (case h1 => intro w' hC K hK; go_big_op; exact hK); iterate 4 kernel_rfl
  apply wpFl_ld rfl rfl; (case h1 => intro w' hC K hK; obtain ⟨c0, c1, c2, c3, -, -, -, -, -, -, -, -⟩ := hC; go_big_op; exact hK); iterate 4 kernel_rfl
  apply wpFl_ld rfl rfl; (case h1 => intro w' hC K hK; go_big_op; exact hK); iterate 4 kernel_rfl
  apply wpFl_ld rfl rfl; (case h1 => intro w' hC K hK; obtain ⟨-, -, -, -, c4, c5, c6, c7, -, -, -, -⟩ := hC; go_big_op; exact hK); iterate 4 kernel_rfl
  apply wpFl_ld rfl rfl; (case h1 => intro w' hC K hK; obtain ⟨c0, c1, c2, c3⟩ := hC; go_big_op; exact hK); iterate 4 kernel_rfl
  apply wpFl_ld rfl rfl; (case h1 => intro w' hC K hK; go_big_op; exact hK); iterate 4 kernel_rfl
  apply wpFl_ld rfl rfl; (case h1 => intro w' hC K hK; obtain ⟨-, -, -, -, c4, c5, c6, c7, -, -, -, -⟩ := hC; go_big_op; exact hK); iterate 4 kernel_rfl
  apply wpFl_ld rfl rfl; (case h1 => intro w' hC K hK; go_big_op; exact hK); iterate 4 kernel_rfl
  apply wpFl_ld rfl rfl; (case h1 => intro w' hC K hK; obtain ⟨-, -, -, -, -, -, -, -, c8, c9, c10, c11⟩ := hC; go_big_op; exact hK); iterate 4 kernel_rfl
  apply wpFl_ld rfl rfl; (case h1 => intro w' hC K hK; obtain ⟨c0, c1, c2, c3⟩ := hC; go_big_op; exact hK); iterate 4 kernel_rfl
  apply wpFl_ld rfl rfl; (case h1 => intro w' hC K hK; go_big_op; exact hK); iterate 4 kernel_rfl
  apply wpFl_ld rfl rfl; (case h1 => intro w' hC K hK; obtain ⟨-, -, -, -, -, -, -, -, c8, c9, c10, c11⟩ := hC; go_big_op; exact hK); iterate 4 kernel_rfl
  refine wpFl_call rfl (by kernel_rfl) fun w_6 hn hC => ?_; clear hC
  replace ha1 := ha1.bl hn; replace ha2 := ha2.bl hn; replace ha3 := ha3.bl hn; replace ha4 := ha4.bl hn; replace ha5 := ha5.bl hn; replace ha6 := ha6.bl hn; replace hq1 := hq1.bl hn; replace hq2 := hq2.bl hn; replace hc1 := hc1.bl hn; replace hc2 := hc2.bl hn; replace hc3 := hc3.bl hn; replace hc4 := hc4.bl hn; replace hc5 := hc5.bl hn; replace hc6 := hc6.bl hn; replace x_b1 := x_b1.bl hn; replace x_b2 := x_b2.bl hn; replace x_b3 := x_b3.bl hn; replace x_b4 := x_b4.bl hn; replace hb := hb.trans (hn.mono hb.size)
  clear hn; intro K hK
  go_big_op
  go_fit (gMul_any (PN.mk' hq1 hq2) (PN.mk' hc1 hc2) (by omega) (by omega) (by omega) (by omega) )
  rintro e w_7 ⟨_, rfl, ⟨n_ga, o_ga, k_ga, c_ga, n_gb, o_gb, k_gb, c_gb, rfl, g1, g2⟩, hb_7⟩
  replace ha1 := ha1.bl hb_7; replace ha2 := ha2.bl hb_7; replace ha3 := ha3.bl hb_7; replace ha4 := ha4.bl hb_7; replace ha5 := ha5.bl hb_7; replace ha6 := ha6.bl hb_7; replace hq1 := hq1.bl hb_7; replace hq2 := hq2.bl hb_7; replace hc1 := hc1.bl hb_7; replace hc2 := hc2.bl hb_7; replace hc3 := hc3.bl hb_7; replace hc4 := hc4.bl hb_7; replace hc5 := hc5.bl hb_7; replace hc6 := hc6.bl hb_7; replace x_b1 := x_b1.bl hb_7; replace x_b2 := x_b2.bl hb_7; replace x_b3 := x_b3.bl hb_7; replace x_b4 := x_b4.bl hb_7; replace hb := hb.trans (hb_7.mono hb.size)
  have Lg1 := hide (g1.lenOf (zlen_sub (zlen_mul (hq1.len) (hc1.len)) (zlen_mul (hq2.len) (hc2.len))))
  have Lg2 := hide (g2.lenOf (zlen_add (zlen_mul (hq1.len) (hc2.len)) (zlen_mul (hq2.len) (hc1.len))))
  refine hK _ _ rfl hb_7 ⟨x_b1.cell 0 rfl, x_b1.cell 1 rfl, x_b1.cell 2 rfl, x_b1.cell 3 rfl, x_b1.cell 4 rfl, x_b1.cell 5 rfl, x_b1.cell 6 rfl, x_b1.cell 7 rfl, x_b1.cell 8 rfl, x_b1.cell 9 rfl, x_b1.cell 10 rfl, x_b1.cell 11 rfl, x_b2.cell 0 rfl, x_b2.cell 1 rfl, x_b2.cell 2 rfl, x_b2.cell 3 rfl, x_b3.cell 0 rfl, x_b3.cell 1 rfl, x_b3.cell 2 rfl, x_b3.cell 3 rfl, x_b3.cell 4 rfl, x_b3.cell 5 rfl, x_b3.cell 6 rfl, x_b3.cell 7 rfl, x_b3.cell 8 rfl, x_b3.cell 9 rfl, x_b3.cell 10 rfl, x_b3.cell 11 rfl⟩ ?_
  clear hK K hb_7
  refine wpFl_call rfl (by kernel_rfl) fun w_8 hn hC => ?_; clear hC
  replace ha1 := ha1.bl hn; replace ha2 := ha2.bl hn; replace ha3 := ha3.bl hn; replace ha4 := ha4.bl hn; replace ha5 := ha5.bl hn; replace ha6 := ha6.bl hn; replace hq1 := hq1.bl hn; replace hq2 := hq2.bl hn; replace hc1 := hc1.bl hn; replace hc2 := hc2.bl hn; replace hc3 := hc3.bl hn; replace hc4 := hc4.bl hn; replace hc5 := hc5.bl hn; replace hc6 := hc6.bl hn; replace x_b1 := x_b1.bl hn; replace x_b2 := x_b2.bl hn; replace x_b3 := x_b3.bl hn; replace x_b4 := x_b4.bl hn; replace g1 := g1.bl hn; replace g2 := g2.bl hn; replace hb := hb.trans (hn.mono hb.size)
  clear hn; intro K hK
  go_big_op
  go_fit (gSub_any (PN.mk' ha1 ha2) (PN.mk' (g1.zn Lg1.out) (g2.zn Lg2.out)) (by omega) (by omega) (by omega) (by omega) )
  rintro e w_9 ⟨_, rfl, ⟨n_ha, o_ha, k_ha, c_ha, n_hb, o_hb, k_hb, c_hb, rfl, h1, h2⟩, hb_9⟩
  replace ha1 := ha1.bl hb_9; replace ha2 := ha2.bl hb_9; replace ha3 := ha3.bl hb_9; replace ha4 := ha4.bl hb_9; replace ha5 := ha5.bl hb_9; replace ha6 := ha6.bl hb_9; replace hq1 := hq1.bl hb_9; replace hq2 := hq2.bl hb_9; replace hc1 := hc1.bl hb_9; replace hc2 := hc2.bl hb_9; replace hc3 := hc3.bl hb_9; replace hc4 := hc4.bl hb_9; replace hc5 := hc5.bl hb_9; replace hc6 := hc6.bl hb_9; replace x_b1 := x_b1.bl hb_9; replace x_b2 := x_b2.bl hb_9; replace x_b3 := x_b3.bl hb_9; replace x_b4 := x_b4.bl hb_9; replace g1 := g1.bl hb_9; replace g2 := g2.bl hb_9; replace hb := hb.trans (hb_9.mono hb.size)
  have Lh1 := hide (h1.lenOf (zlen_sub (ha1.len) (Lg1.out)))
  have Lh2 := hide (h2.lenOf (zlen_sub (ha2.len) (Lg2.out)))
  refine hK _ _ rfl hb_9 ⟨x_b1.cell 0 rfl, x_b1.cell 1 rfl, x_b1.cell 2 rfl, x_b1.cell 3 rfl, x_b1.cell 4 rfl, x_b1.cell 5 rfl, x_b1.cell 6 rfl, x_b1.cell 7 rfl, x_b1.cell 8 rfl, x_b1.cell 9 rfl, x_b1.cell 10 rfl, x_b1.cell 11 rfl, x_b2.cell 0 rfl, x_b2.cell 1 rfl, x_b2.cell 2 rfl, x_b2.cell 3 rfl, x_b3.cell 0 rfl, x_b3.cell 1 rfl, x_b3.cell 2 rfl, x_b3.cell 3 rfl, x_b3.cell 4 rfl, x_b3.cell 5 rfl, x_b3.cell 6 rfl, x_b3.cell 7 rfl, x_b3.cell 8 rfl, x_b3.cell 9 rfl, x_b3.cell 10 rfl, x_b3.cell 11 rfl⟩ ?_
  clear hK K hb_9
  refine wpFl_call rfl (by kernel_rfl) fun w_10 hn hC => ?_; clear hC
  clear g1 g2
  replace ha1 := ha1.bl hn; replace ha2 := ha2.bl hn; replace ha3 := ha3.bl hn; replace ha4 := ha4.bl hn; replace ha5 := ha5.bl hn; replace ha6 := ha6.bl hn; replace hq1 := hq1.bl hn; replace hq2 := hq2.bl hn; replace hc1 := hc1.bl hn; replace hc2 := hc2.bl hn; replace hc3 := hc3.bl hn; replace hc4 := hc4.bl hn; replace hc5 := hc5.bl hn; replace hc6 := hc6.bl hn; replace x_b1 := x_b1.bl hn; replace x_b2 := x_b2.bl hn; replace x_b3 := x_b3.bl hn; replace x_b4 := x_b4.bl hn; replace h1 := h1.bl hn; replace h2 := h2.bl hn; replace hb := hb.trans (hn.mono hb.size)
  clear hn; intro K hK
  go_big_op
  go_fit (gMul_any (PN.mk' hq1 hq2) (PN.mk' hc3 hc4) (by omega) (by omega) (by omega) (by omega) )
  rintro e w_11 ⟨_, rfl, ⟨n_ia, o_ia, k_ia, c_ia, n_ib, o_ib, k_ib, c_ib, rfl, i1, i2⟩, hb_11⟩
  replace ha1 := ha1.bl hb_11; replace ha2 := ha2.bl hb_11; replace ha3 := ha3.bl hb_11; replace ha4 := ha4.bl hb_11; replace ha5 := ha5.bl hb_11; replace ha6 := ha6.bl hb_11; replace hq1 := hq1.bl hb_11; replace hq2 := hq2.bl hb_11; replace hc1 := hc1.bl hb_11; replace hc2 := hc2.bl hb_11; replace hc3 := hc3.bl hb_11; replace hc4 := hc4.bl hb_11; replace hc5 := hc5.bl hb_11; replace hc6 := hc6.bl hb_11; replace x_b1 := x_b1.bl hb_11; replace x_b2 := x_b2.bl hb_11; replace x_b3 := x_b3.bl hb_11; replace x_b4 := x_b4.bl hb_11; replace h1 := h1.bl hb_11; replace h2 := h2.bl hb_11; replace hb := hb.trans (hb_11.mono hb.size)
  have Li1 := hide (i1.lenOf (zlen_sub (zlen_mul (hq1.len) (hc3.len)) (zlen_mul (hq2.len) (hc4.len))))
  have Li2 := hide (i2.lenOf (zlen_add (zlen_mul (hq1.len) (hc4.len)) (zlen_mul (hq2.len) (hc3.len))))
  refine hK _ _ rfl hb_11 ⟨x_b1.cell 0 rfl, x_b1.cell 1 rfl, x_b1.cell 2 rfl, x_b1.cell 3 rfl, x_b1.cell 4 rfl, x_b1.cell 5 rfl, x_b1.cell 6 rfl, x_b1.cell 7 rfl, x_b1.cell 8 rfl, x_b1.cell 9 rfl, x_b1.cell 10 rfl, x_b1.cell 11 rfl, x_b2.cell 0 rfl, x_b2.cell 1 rfl, x_b2.cell 2 rfl, x_b2.cell 3 rfl, x_b3.cell 0 rfl, x_b3.cell 1 rfl, x_b3.cell 2 rfl, x_b3.cell 3 rfl, x_b3.cell 4 rfl, x_b3.cell 5 rfl, x_b3.cell 6 rfl, x_b3.cell 7 rfl, x_b3.cell 8 rfl, x_b3.cell 9 rfl, x_b3.cell 10 rfl, x_b3.cell 11 rfl⟩ ?_
  clear hK K hb_11
  refine wpFl_call rfl (by kernel_rfl) fun w_12 hn hC => ?_; clear hC
  replace ha1 := ha1.bl hn; replace ha2 := ha2.bl hn; replace ha3 := ha3.bl hn; replace ha4 := ha4.bl hn; replace ha5 := ha5.bl hn; replace ha6 := ha6.bl hn; replace hq1 := hq1.bl hn; replace hq2 := hq2.bl hn; replace hc1 := hc1.bl hn; replace hc2 := hc2.bl hn; replace hc3 := hc3.bl hn; replace hc4 := hc4.bl hn; replace hc5 := hc5.bl hn; replace hc6 := hc6.bl hn; replace x_b1 := x_b1.bl hn; replace x_b2 := x_b2.bl hn; replace x_b3 := x_b3.bl hn; replace x_b4 := x_b4.bl hn; replace h1 := h1.bl hn; replace h2 := h2.bl hn; replace i1 := i1.bl hn; replace i2 := i2.bl hn; replace hb := hb.trans (hn.mono hb.size)
  clear hn; intro K hK
  go_big_op
  go_fit (gSub_any (PN.mk' ha3 ha4) (PN.mk' (i1.zn Li1.out) (i2.zn Li2.out)) (by omega) (by omega) (by omega) (by omega) )
  rintro e w_13 ⟨_, rfl, ⟨n_ja, o_ja, k_ja, c_ja, n_jb, o_jb, k_jb, c_jb, rfl, j1, j2⟩, hb_13⟩
  replace ha1 := ha1.bl hb_13; replace ha2 := ha2.bl hb_13; replace ha3 := ha3.bl hb_13; replace ha4 := ha4.bl hb_13; replace ha5 := ha5.bl hb_13; replace ha6 := ha6.bl hb_13; replace hq1 := hq1.bl hb_13; replace hq2 := hq2.bl hb_13; replace hc1 := hc1.bl hb_13; replace hc2 := hc2.bl hb_13; replace hc3 := hc3.bl hb_13; replace hc4 := hc4.bl hb_13; replace hc5 := hc5.bl hb_13; replace hc6 := hc6.bl hb_13; replace x_b1 := x_b1.bl hb_13; replace x_b2 := x_b2.bl hb_13; replace x_b3 := x_b3.bl hb_13; replace x_b4 := x_b4.bl hb_13; replace h1 := h1.bl hb_13; replace h2 := h2.bl hb_13; replace i1 := i1.bl hb_13; replace i2 := i2.bl hb_13; replace hb := hb.trans (hb_13.mono hb.size)
  have Lj1 := hide (j1.lenOf (zlen_sub (ha3.len) (Li1.out)))
  have Lj2 := hide (j2.lenOf (zlen_sub (ha4.len) (Li2.out)))
  refine hK _ _ rfl hb_13 ⟨x_b1.cell 0 rfl, x_b1.cell 1 rfl, x_b1.cell 2 rfl, x_b1.cell 3 rfl, x_b1.cell 4 rfl, x_b1.cell 5 rfl, x_b1.cell 6 rfl, x_b1.cell 7 rfl, x_b1.cell 8 rfl, x_b1.cell 9 rfl, x_b1.cell 10 rfl, x_b1.cell 11 rfl, x_b2.cell 0 rfl, x_b2.cell 1 rfl, x_b2.cell 2 rfl, x_b2.cell 3 rfl, x_b3.cell 0 rfl, x_b3.cell 1 rfl, x_b3.cell 2 rfl, x_b3.cell 3 rfl, x_b3.cell 4 rfl, x_b3.cell 5 rfl, x_b3.cell 6 rfl, x_b3.cell 7 rfl, x_b3.cell 8 rfl, x_b3.cell 9 rfl, x_b3.cell 10 rfl, x_b3.cell 11 rfl⟩ ?_
  clear hK K hb_13
  refine wpFl_call rfl (by kernel_rfl) fun w_14 hn hC => ?_; clear hC
  clear i1 i2
  replace ha1 := ha1.bl hn; replace ha2 := ha2.bl hn; replace ha3 := ha3.bl hn; replace ha4 := ha4.bl hn; replace ha5 := ha5.bl hn; replace ha6 := ha6.bl hn; replace hq1 := hq1.bl hn; replace hq2 := hq2.bl hn; replace hc1 := hc1.bl hn; replace hc2 := hc2.bl hn; replace hc3 := hc3.bl hn; replace hc4 := hc4.bl hn; replace hc5 := hc5.bl hn; replace hc6 := hc6.bl hn; replace x_b1 := x_b1.bl hn; replace x_b2 := x_b2.bl hn; replace x_b3 := x_b3.bl hn; replace x_b4 := x_b4.bl hn; replace h1 := h1.bl hn; replace h2 := h2.bl hn; replace j1 := j1.bl hn; replace j2 := j2.bl hn; replace hb := hb.trans (hn.mono hb.size)
  clear hn; intro K hK
  go_big_op
  go_fit (gMul_any (PN.mk' hq1 hq2) (PN.mk' hc5 hc6) (by omega) (by omega) (by omega) (by omega) )
  rintro e w_15 ⟨_, rfl, ⟨n_oa, o_oa, k_oa, c_oa, n_ob, o_ob, k_ob, c_ob, rfl, o1, o2⟩, hb_15⟩
  replace ha1 := ha1.bl hb_15; replace ha2 := ha2.bl hb_15; replace ha3 := ha3.bl hb_15; replace ha4 := ha4.bl hb_15; replace ha5 := ha5.bl hb_15; replace ha6 := ha6.bl hb_15; replace hq1 := hq1.bl hb_15; replace hq2 := hq2.bl hb_15; replace hc1 := hc1.bl hb_15; replace hc2 := hc2.bl hb_15; replace hc3 := hc3.bl hb_15; replace hc4 := hc4.bl hb_15; replace hc5 := hc5.bl hb_15; replace hc6 := hc6.bl hb_15; replace x_b1 := x_b1.bl hb_15; replace x_b2 := x_b2.bl hb_15; replace x_b3 := x_b3.bl hb_15; replace x_b4 := x_b4.bl hb_15; replace h1 := h1.bl hb_15; replace h2 := h2.bl hb_15; replace j1 := j1.bl hb_15; replace j2 := j2.bl hb_15; replace hb := hb.trans (hb_15.mono hb.size)
  have Lo1 := hide (o1.lenOf (zlen_sub (zlen_mul (hq1.len) (hc5.len)) (zlen_mul (hq2.len) (hc6.len))))
  have Lo2 := hide (o2.lenOf (zlen_add (zlen_mul (hq1.len) (hc6.len)) (zlen_mul (hq2.len) (hc5.len))))
  refine hK _ _ rfl hb_15 ⟨x_b1.cell 0 rfl, x_b1.cell 1 rfl, x_b1.cell 2 rfl, x_b1.cell 3 rfl, x_b1.cell 4 rfl, x_b1.cell 5 rfl, x_b1.cell 6 rfl, x_b1.cell 7 rfl, x_b1.cell 8 rfl, x_b1.cell 9 rfl, x_b1.cell 10 rfl, x_b1.cell 11 rfl, x_b2.cell 0 rfl, x_b2.cell 1 rfl, x_b2.cell 2 rfl, x_b2.cell 3 rfl, x_b3.cell 0 rfl, x_b3.cell 1 rfl, x_b3.cell 2 rfl, x_b3.cell 3 rfl, x_b3.cell 4 rfl, x_b3.cell 5 rfl, x_b3.cell 6 rfl, x_b3.cell 7 rfl, x_b3.cell 8 rfl, x_b3.cell 9 rfl, x_b3.cell 10 rfl, x_b3.cell 11 rfl⟩ ?_
  clear hK K hb_15
  refine wpFl_call rfl (by kernel_rfl) fun w_16 hn hC => ?_; clear hC
  replace ha1 := ha1.bl hn; replace ha2 := ha2.bl hn; replace ha3 := ha3.bl hn; replace ha4 := ha4.bl hn; replace ha5 := ha5.bl hn; replace ha6 := ha6.bl hn; replace hq1 := hq1.bl hn; replace hq2 := hq2.bl hn; replace hc1 := hc1.bl hn; replace hc2 := hc2.bl hn; replace hc3 := hc3.bl hn; replace hc4 := hc4.bl hn; replace hc5 := hc5.bl hn; replace hc6 := hc6.bl hn; replace x_b1 := x_b1.bl hn; replace x_b2 := x_b2.bl hn; replace x_b3 := x_b3.bl hn; replace x_b4 := x_b4.bl hn; replace h1 := h1.bl hn; replace h2 := h2.bl hn; replace j1 := j1.bl hn; replace j2 := j2.bl hn; replace o1 := o1.bl hn; replace o2 := o2.bl hn; replace hb := hb.trans (hn.mono hb.size)
  clear hn; intro K hK
  go_big_op
  go_fit (gSub_any (PN.mk' ha5 ha6) (PN.mk' (o1.zn Lo1.out) (o2.zn Lo2.out)) (by omega) (by omega) (by omega) (by omega) )
  rintro e w_17 ⟨_, rfl, ⟨n_pa, o_pa, k_pa, c_pa, n_pb, o_pb, k_pb, c_pb, rfl, p1, p2⟩, hb_17⟩
  replace ha1 := ha1.bl hb_17; replace ha2 := ha2.bl hb_17; replace ha3 := ha3.bl hb_17; replace ha4 := ha4.bl hb_17; replace ha5 := ha5.bl hb_17; replace ha6 := ha6.bl hb_17; replace hq1 := hq1.bl hb_17; replace hq2 := hq2.bl hb_17; replace hc1 := hc1.bl hb_17; replace hc2 := hc2.bl hb_17; replace hc3 := hc3.bl hb_17; replace hc4 := hc4.bl hb_17; replace hc5 := hc5.bl hb_17; replace hc6 := hc6.bl hb_17; replace x_b1 := x_b1.bl hb_17; replace x_b2 := x_b2.bl hb_17; replace x_b3 := x_b3.bl hb_17; replace x_b4 := x_b4.bl hb_17; replace h1 := h1.bl hb_17; replace h2 := h2.bl hb_17; replace j1 := j1.bl hb_17; replace j2 := j2.bl hb_17; replace o1 := o1.bl hb_17; replace o2 := o2.bl hb_17; replace hb := hb.trans (hb_17.mono hb.size)
  have Lp1 := hide (p1.lenOf (zlen_sub (ha5.len) (Lo1.out)))
  have Lp2 := hide (p2.lenOf (zlen_sub (ha6.len) (Lo2.out)))
  refine hK _ _ rfl hb_17 ⟨x_b1.cell 0 rfl, x_b1.cell 1 rfl, x_b1.cell 2 rfl, x_b1.cell 3 rfl, x_b1.cell 4 rfl, x_b1.cell 5 rfl, x_b1.cell 6 rfl, x_b1.cell 7 rfl, x_b1.cell 8 rfl, x_b1.cell 9 rfl, x_b1.cell 10 rfl, x_b1.cell 11 rfl, x_b2.cell 0 rfl, x_b2.cell 1 rfl, x_b2.cell 2 rfl, x_b2.cell 3 rfl, x_b3.cell 0 rfl, x_b3.cell 1 rfl, x_b3.cell 2 rfl, x_b3.cell 3 rfl, x_b3.cell 4 rfl, x_b3.cell 5 rfl, x_b3.cell 6 rfl, x_b3.cell 7 rfl, x_b3.cell 8 rfl, x_b3.cell 9 rfl, x_b3.cell 10 rfl, x_b3.cell 11 rfl⟩ ?_
  clear hK K hb_17
  apply wpFl_ld rfl rfl; (case h1 => intro w' hC K hK; go_big_op; exact hK); iterate 4 kernel_rfl
  apply wpFl_end
  case ha => intro pt; simp only [putF]; rfl
  case h =>
  intro w_18 pt hn hC hF hD
  clear hC
  clear o1 o2
  replace ha1 := ha1.bl hn; replace ha2 := ha2.bl hn; replace ha3 := ha3.bl hn; replace ha4 := ha4.bl hn; replace ha5 := ha5.bl hn; replace ha6 := ha6.bl hn; replace hq1 := hq1.bl hn; replace hq2 := hq2.bl hn; replace hc1 := hc1.bl hn; replace hc2 := hc2.bl hn; replace hc3 := hc3.bl hn; replace hc4 := hc4.bl hn; replace hc5 := hc5.bl hn; replace hc6 := hc6.bl hn; replace x_b1 := x_b1.bl hn; replace x_b2 := x_b2.bl hn; replace x_b3 := x_b3.bl hn; replace x_b4 := x_b4.bl hn; replace h1 := h1.bl hn; replace h2 := h2.bl hn; replace j1 := j1.bl hn; replace j2 := j2.bl hn; replace p1 := p1.bl hn; replace p2 := p2.bl hn; replace hb := hb.trans (hn.mono hb.size)
  clear hn
  clear hF hD
  clear pt
  clear kb0 lt_b1 lt_b2 lt_b3 lt_b4
  refine wpTail_call rfl (by kernel_rfl) fun K hK => ?_
  have d0 : w_18.cell? ⟨p_b4, 0, none⟩ = some (.bool false) := x_b4.cell 0 rfl
  have d1 : w_18.cell? ⟨p_b4, 1, none⟩ = some (.slice none 0 0) := x_b4.cell 1 rfl
  have d2 : w_18.cell? ⟨p_b4, 2, none⟩ = some (.bool false) := x_b4.cell 2 rfl
  have d3 : w_18.cell? ⟨p_b4, 3, none⟩ = some (.slice none 0 0) := x_b4.cell 3 rfl
  have d4 : w_18.cell? ⟨p_b4, 4, none⟩ = some (.bool false) := x_b4.cell 4 rfl
  have d5 : w_18.cell? ⟨p_b4, 5, none⟩ = some (.slice none 0 0) := x_b4.cell 5 rfl
  have d6 : w_18.cell? ⟨p_b4, 6, none⟩ = some (.bool false) := x_b4.cell 6 rfl
  have d7 : w_18.cell? ⟨p_b4, 7, none⟩ = some (.slice none 0 0) := x_b4.cell 7 rfl
  have d8 : w_18.cell? ⟨p_b4, 8, none⟩ = some (.bool false) := x_b4.cell 8 rfl
  have d9 : w_18.cell? ⟨p_b4, 9, none⟩ = some (.slice none 0 0) := x_b4.cell 9 rfl
  have d10 : w_18.cell? ⟨p_b4, 10, none⟩ = some (.bool false) := x_b4.cell 10 rfl
  have d11 : w_18.cell? ⟨p_b4, 11, none⟩ = some (.slice none 0 0) := x_b4.cell 11 rfl
  have f0 := x_b4.free 0; have f1 := x_b4.free 1; have f2 := x_b4.free 2; have f3 := x_b4.free 3; have f4 := x_b4.free 4; have f5 := x_b4.free 5; have f6 := x_b4.free 6; have f7 := x_b4.free 7; have f8 := x_b4.free 8; have f9 := x_b4.free 9; have f10 := x_b4.free 10; have f11 := x_b4.free 11
  go_big_op
  have hnd := x_b4.nod rfl rfl
  obtain ⟨w_19_0, eW, x_b4_0, ho_0⟩ : ∃ w', ((((w_18.setCell ⟨p_b4, 0, none⟩ (.bool n_ha)).setCell ⟨p_b4, 1, none⟩ (.slice o_ha k_ha c_ha)).setCell ⟨p_b4, 2, none⟩ (.bool n_hb)).setCell ⟨p_b4, 3, none⟩ (.slice o_hb k_hb c_hb)) = w' ∧ Bs w' p_b4 #[.bool n_ha, .slice o_ha k_ha c_ha, .bool n_hb, .slice o_hb k_hb c_hb, .bool false, .slice none 0 0, .bool false, .slice none 0 0, .bool false, .slice none 0 0, .bool false, .slice none 0 0] 68 ∧ Only p_b4 w_18 w' := x_b4.setN [(0, .bool n_ha), (1, .slice o_ha k_ha c_ha), (2, .bool n_hb), (3, .slice o_hb k_hb c_hb)]
  rw [eW]; clear eW
  obtain ⟨w_19_4, eW, x_b4_4, ho_4⟩ : ∃ w', ((((w_19_0.setCell ⟨p_b4, 4, none⟩ (.bool n_ja)).setCell ⟨p_b4, 5, none⟩ (.slice o_ja k_ja c_ja)).setCell ⟨p_b4, 6, none⟩ (.bool n_jb)).setCell ⟨p_b4, 7, none⟩ (.slice o_jb k_jb c_jb)) = w' ∧ Bs w' p_b4 #[.bool n_ha, .slice o_ha k_ha c_ha, .bool n_hb, .slice o_hb k_hb c_hb, .bool n_ja, .slice o_ja k_ja c_ja, .bool n_jb, .slice o_jb k_jb c_jb, .bool false, .slice none 0 0, .bool false, .slice none 0 0] 68 ∧ Only p_b4 w_19_0 w' := x_b4_0.setN [(4, .bool n_ja), (5, .slice o_ja k_ja c_ja), (6, .bool n_jb), (7, .slice o_jb k_jb c_jb)]
  rw [eW]; clear eW x_b4_0
  obtain ⟨w_19, eW, x_b4', ho_8⟩ : ∃ w', ((((w_19_4.setCell ⟨p_b4, 8, none⟩ (.bool n_pa)).setCell ⟨p_b4, 9, none⟩ (.slice o_pa k_pa c_pa)).setCell ⟨p_b4, 10, none⟩ (.bool n_pb)).setCell ⟨p_b4, 11, none⟩ (.slice o_pb k_pb c_pb)) = w' ∧ Bs w' p_b4 #[.bool n_ha, .slice o_ha k_ha c_ha, .bool n_hb, .slice o_hb k_hb c_hb, .bool n_ja, .slice o_ja k_ja c_ja, .bool n_jb, .slice o_jb k_jb c_jb, .bool n_pa, .slice o_pa k_pa c_pa, .bool n_pb, .slice o_pb k_pb c_pb] 68 ∧ Only p_b4 w_19_4 w' := x_b4_4.setN [(8, .bool n_pa), (9, .slice o_pa k_pa c_pa), (10, .bool n_pb), (11, .slice o_pb k_pb c_pb)]
  rw [eW]; clear eW x_b4_4
  have ho := ((ho_0.trans ho_4).trans ho_8)
  clear ho_0 ho_4 ho_8 d0 d1 d2 d3 d4 d5 d6 d7 d8 d9 d10 d11 f0 f1 f2 f3 f4 f5 f6 f7 f8 f9 f10 f11 x_b4
  have x_b4 := x_b4'; clear x_b4'
  replace ha1 := ha1.fr hnd ho; replace ha2 := ha2.fr hnd ho; replace ha3 := ha3.fr hnd ho; replace ha4 := ha4.fr hnd ho; replace ha5 := ha5.fr hnd ho; replace ha6 := ha6.fr hnd ho; replace hq1 := hq1.fr hnd ho; replace hq2 := hq2.fr hnd ho; replace hc1 := hc1.fr hnd ho; replace hc2 := hc2.fr hnd ho; replace hc3 := hc3.fr hnd ho; replace hc4 := hc4.fr hnd ho; replace hc5 := hc5.fr hnd ho; replace hc6 := hc6.fr hnd ho; replace x_b1 := x_b1.frame ho ne_b1_b4; replace x_b2 := x_b2.frame ho ne_b2_b4; replace x_b3 := x_b3.frame ho ne_b3_b4; replace h1 := h1.fr hnd ho; replace h2 := h2.fr hnd ho; replace j1 := j1.fr hnd ho; replace j2 := j2.fr hnd ho; replace p1 := p1.fr hnd ho; replace p2 := p2.fr hnd ho; replace hb := belowOnly hb ho kb_b4
  refine hK _ _ rfl (And.intro ⟨x_b1.cell 0 rfl, x_b1.cell 1 rfl, x_b1.cell 2 rfl, x_b1.cell 3 rfl, x_b1.cell 4 rfl, x_b1.cell 5 rfl, x_b1.cell 6 rfl, x_b1.cell 7 rfl, x_b1.cell 8 rfl, x_b1.cell 9 rfl, x_b1.cell 10 rfl, x_b1.cell 11 rfl⟩ (And.intro ⟨x_b2.cell 0 rfl, x_b2.cell 1 rfl, x_b2.cell 2 rfl, x_b2.cell 3 rfl⟩ (And.intro ⟨x_b3.cell 0 rfl, x_b3.cell 1 rfl, x_b3.cell 2 rfl, x_b3.cell 3 rfl, x_b3.cell 4 rfl, x_b3.cell 5 rfl, x_b3.cell 6 rfl, x_b3.cell 7 rfl, x_b3.cell 8 rfl, x_b3.cell 9 rfl, x_b3.cell 10 rfl, x_b3.cell 11 rfl⟩ True.intro))) ?_; clear hK K ho hnd
  apply wpTail_end
  refine hK2 _ _ ?_
  refine wp_ret ?_
  try dsimp only [Exit.then, Exit.inBlock]
  have r0_0 : w_19.cell? ⟨p_b4, 0, none⟩ = some (.bool n_ha) := x_b4.cell 0 rfl
  have r0_1 : w_19.cell? ⟨p_b4, 1, none⟩ = some (.slice o_ha k_ha c_ha) := x_b4.cell 1 rfl
  have r0_2 : w_19.cell? ⟨p_b4, 2, none⟩ = some (.bool n_hb) := x_b4.cell 2 rfl
  have r0_3 : w_19.cell? ⟨p_b4, 3, none⟩ = some (.slice o_hb k_hb c_hb) := x_b4.cell 3 rfl
  have r0_4 : w_19.cell? ⟨p_b4, 4, none⟩ = some (.bool n_ja) := x_b4.cell 4 rfl
  have r0_5 : w_19.cell? ⟨p_b4, 5, none⟩ = some (.slice o_ja k_ja c_ja) := x_b4.cell 5 rfl
  have r0_6 : w_19.cell? ⟨p_b4, 6, none⟩ = some (.bool n_jb) := x_b4.cell 6 rfl
  have r0_7 : w_19.cell? ⟨p_b4, 7, none⟩ = some (.slice o_jb k_jb c_jb) := x_b4.cell 7 rfl
  have r0_8 : w_19.cell? ⟨p_b4, 8, none⟩ = some (.bool n_pa) := x_b4.cell 8 rfl
  have r0_9 : w_19.cell? ⟨p_b4, 9, none⟩ = some (.slice o_pa k_pa c_pa) := x_b4.cell 9 rfl
  have r0_10 : w_19.cell? ⟨p_b4, 10, none⟩ = some (.bool n_pb) := x_b4.cell 10 rfl
  have r0_11 : w_19.cell? ⟨p_b4, 11, none⟩ = some (.slice o_pb k_pb c_pb) := x_b4.cell 11 rfl
  refine bodyPost_ret (v := (.agg #[.bool n_ha, .slice o_ha k_ha c_ha, .bool n_hb, .slice o_hb k_hb c_hb, .bool n_ja, .slice o_ja k_ja c_ja, .bool n_jb, .slice o_jb k_jb c_jb, .bool n_pa, .slice o_pa k_pa c_pa, .bool n_pb, .slice o_pb k_pb c_pb])) (by simp [results, Tryz.results44, go_sem, r0_0, r0_1, r0_2, r0_3, r0_4, r0_5, r0_6, r0_7, r0_8, r0_9, r0_10, r0_11]) rfl ?_
  exact ⟨_, rfl, .mk' h1 h2 j1 j2 p1 p2, hb⟩
end
end Go.Proofs.YtgjainmfilkjmaaGreatDoor
