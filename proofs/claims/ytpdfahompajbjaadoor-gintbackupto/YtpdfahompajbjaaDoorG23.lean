/- gint.cutPart: the sign, the digits, the rest. -/
import Derived.Test.YtpdfahompajbjaaDoorWkToShelfT
import Derived.Test.YtpdfahompajbjaaDoorG3ToG22
namespace Go.Proofs.YtpdfahompajbjaaDoor
open Go Go.RowKit Dig
set_option linter.unusedVariables false

/-- What is left behind the digits; the digits. -/
def unR (T : ByteArray) : ByteArray := ⟨(undig T.data.toList).toArray⟩
def unD (T : ByteArray) : ByteArray := T.extract 0 (T.size - (unR T).size)
theorem trimR_any (s : ByteArray) (w : World) :
    Calls Tryd.prog 91 #[.string s, .string ⟨#[48, 49, 50, 51, 52, 53, 54, 55, 56, 57]⟩] w fun e w' => e = .returned (.string (unR s)) ∧ Below w.heap.size w w' := trimS_any s w
theorem undig_len (l : List UInt8) : (undig l).length ≤ l.length := (List.dropWhile_sublist _).length_le
theorem unR_size (T : ByteArray) : (unR T).size ≤ T.size := by
  have := undig_len T.data.toList
  rw [Lib.size_eq, Lib.size_eq]
  unfold unR
  simpa using this
theorem plus_size {s : ByteArray} (h : plusB s = true) : 1 ≤ s.size := by
  unfold plusB at h; rw [Bool.and_eq_true] at h; exact of_decide_eq_true h.1
section
set_option maxHeartbeats 8000000 in
set_option maxRecDepth 20000 in
theorem cut_none (s : ByteArray) (w : World) (hs : s.size ≤ 65536) (hp : plusB s = false) (hm : minusB s = false) :
    Calls Tryd.prog 65 #[.string s] w fun e w' => e = .returned (.tuple #[.string ⟨#[]⟩, .string (unD s), .string (unR s)]) ∧ Below w.heap.size w w' := by
  have HP := hide hp
  have HM := hide hm
  have hr := unR_size s
  have hw : wrap64 ((s.size : Int) - ((unR s).size : Int)) = ((s.size - (unR s).size : Nat) : Int) := by unfold wrap64; omega
  unfold unD
  clear hp hm
  go_enter Tryd.func65, Tryd.ntmps65
  have hb := Below.refl w.heap.size w
  refine wp_seq_k ?_
  intro K1 hK1
  refine wp_region_sq [0, 1, 2] (by kernel_rfl) ?_
  refine wpSq_call rfl (by kernel_rfl) fun K hK => ?_
  go_big_move; refine hK _ _ rfl ?_; clear hK K
  refine wpSq_call rfl (by kernel_rfl) fun K hK => ?_
  go_big_move; refine hK _ _ rfl ?_; clear hK K
  refine wpSq_call rfl (by kernel_rfl) fun K hK => ?_
  go_big_move; refine hK _ _ rfl ?_; clear hK K
  apply wpSq_end
  refine hK1 _ _ ?_
  refine wp_seq_k ?_
  intro K2 hK2
  refine wp_seq_k ?_
  intro K3 hK3
  refine wp_region_sq [0, 1, 2, 3, 4, 5] (by kernel_rfl) ?_
  refine wpSq_call rfl (by kernel_rfl) fun K hK => ?_
  go_big_move; refine hK _ _ rfl ?_; clear hK K
  refine wpSq_call rfl (by kernel_rfl) fun K hK => ?_
  go_big_op
  go_fit (hasPlusS s _)
  rintro e w_1 ⟨rfl, hb_1⟩
  replace hb := hb.trans (hb_1.mono hb.size)
  rw [HP.out]
  refine hK _ _ rfl ?_
  clear hK K hb_1
  refine wpSq_call rfl (by kernel_rfl) fun K hK => ?_
  go_big_move; refine hK _ _ rfl ?_; clear hK K
  refine wpSq_call rfl (by kernel_rfl) fun K hK => ?_
  go_big_move; refine hK _ _ rfl ?_; clear hK K
  refine wpSq_call rfl (by kernel_rfl) fun K hK => ?_
  go_big_op
  go_fit (hasMinusS s _)
  rintro e w_2 ⟨rfl, hb_2⟩
  replace hb := hb.trans (hb_2.mono hb.size)
  rw [HM.out]
  refine hK _ _ rfl ?_
  clear hK K hb_2
  refine wpSq_call rfl (by kernel_rfl) fun K hK => ?_
  go_big_op; refine hK _ _ rfl ?_; clear hK K
  apply wpSq_end
  refine hK3 _ _ ?_
  refine wp_cond_false (congrArg Value.bool (show _ = false from (by first | rfl | assumption | (simp; done) | exact decide_eq_false (by omega) | omega))) ?_
  refine wp_skip ?_
  refine hK2 _ _ ?_
  refine wp_seq_k ?_
  intro K4 hK4
  refine wp_region_sq [0, 1, 2] (by kernel_rfl) ?_
  refine wpSq_call rfl (by kernel_rfl) fun K hK => ?_
  go_big_move; refine hK _ _ rfl ?_; clear hK K
  refine wpSq_call rfl (by kernel_rfl) fun K hK => ?_
  go_big_op
  go_fit (trimR_any s _)
  rintro e w_3 ⟨rfl, hb_3⟩
  replace hb := hb.trans (hb_3.mono hb.size)
  refine hK _ _ rfl ?_
  clear hK K hb_3
  refine wpSq_call rfl (by kernel_rfl) fun K hK => ?_
  go_big_move; refine hK _ _ rfl ?_; clear hK K
  apply wpSq_end
  refine hK4 _ _ ?_
  refine wp_seq_k ?_
  intro K5 hK5
  refine wp_region_fl2 [(0, false), (1, false), (2, false), (3, false), (4, false), (5, false), (6, false), (7, false), (8, false), (9, false), (10, false), (11, false)] [] [] (fun _ => default) [99, 99, 99, 99, 99, 99, 99, 99, 99, 99, 99, 99] [] (fun w' => True) [] (by kernel_rfl) (by kernel_rfl) (by kernel_rfl) (by kernel_rfl) (by kernel_rfl) (by kernel_rfl) (by kernel_rfl) (by kernel_rfl) (by decide) (by intro j hj; cases hj) (fun _ _ _ => trivial) (by intro w' hC G hG; cases hG) ?_
  intro w_4 hn
  replace hb := hb.trans (hn.mono hb.size)
  clear hn
  have kb0 := hb.size
  refine ⟨trivial, ?_⟩
  apply wpFl_ld rfl rfl; (case h1 => intro w' hC K hK; go_big_move; exact hK); iterate 4 kernel_rfl
  apply wpFl_ld rfl rfl; (case h1 => intro w' hC K hK; go_big_move; exact hK); iterate 4 kernel_rfl
  apply wpFl_ld rfl rfl; (case h1 => intro w' hC K hK; go_big_move; exact hK); iterate 4 kernel_rfl
  apply wpFl_ldb rfl rfl; (case h1 => intro w' hC K hK; go_big_op; exact hK); iterate 4 kernel_rfl
  apply wpFl_ld rfl rfl; (case h1 => intro w' hC K hK; go_big_move; exact hK); iterate 4 kernel_rfl
  apply wpFl_ldb rfl rfl; (case h1 => intro w' hC K hK; go_big_op; exact hK); iterate 4 kernel_rfl
  apply wpFl_ld rfl rfl; (case h1 => intro w' hC K hK; go_big_op; exact hK); iterate 4 kernel_rfl
  apply wpFl_ld rfl rfl; (case h1 => intro w' hC K hK; go_big_op; exact hK); iterate 4 kernel_rfl
  apply wpFl_ld rfl rfl; (case h1 => intro w' hC K hK; go_big_move; exact hK); iterate 4 kernel_rfl
  apply wpFl_ld rfl rfl; (case h1 => intro w' hC K hK; go_big_move; exact hK); iterate 4 kernel_rfl
  apply wpFl_ld rfl rfl; (case h1 => intro w' hC K hK; go_big_move; exact hK); iterate 4 kernel_rfl
  apply wpFl_ld rfl rfl; (case h1 => intro w' hC K hK; go_big_move; exact hK); iterate 4 kernel_rfl
  apply wpFl_end
  case ha => intro pt; simp only [putF]; rfl
  case h =>
  intro w_5 pt hn hC hF hD
  clear hC
  replace hb := hb.trans (hn.mono hb.size)
  clear hn
  clear hF hD
  clear pt
  clear kb0
  apply wpTail_end
  refine hK5 _ _ ?_
  refine wp_ret ?_
  try dsimp only [Exit.then, Exit.inBlock]
  refine bodyPost_ret (v := (.tuple #[.string ⟨#[]⟩, .string (s.extract 0 (s.size - (unR s).size)), .string (unR s)])) (by simp [results, Tryd.results65, go_sem]) rfl ?_
  exact ⟨rfl, hb⟩
set_option maxHeartbeats 8000000 in
set_option maxRecDepth 20000 in
theorem cut_plus (s : ByteArray) (w : World) (hs : s.size ≤ 65536) (hp : plusB s = true) :
    Calls Tryd.prog 65 #[.string s] w fun e w' => e = .returned (.tuple #[.string (s.extract 0 1), .string (unD (s.extract 1 s.size)), .string (unR (s.extract 1 s.size))]) ∧ Below w.heap.size w w' := by
  have HP := hide hp
  have h1 := plus_size hp
  clear hp
  have hr := unR_size (s.extract 1 s.size)
  have hz : (s.extract 1 s.size).size = s.size - 1 := rest_size
  unfold unD
  rw [hz] at hr
  rw [hz]
  have hw : wrap64 (((s.size - 1 : Nat) : Int) - ((unR (s.extract 1 s.size)).size : Int)) = ((s.size - 1 - (unR (s.extract 1 s.size)).size : Nat) : Int) := by unfold wrap64; omega
  clear hz
  go_enter Tryd.func65, Tryd.ntmps65
  have hb := Below.refl w.heap.size w
  refine wp_seq_k ?_
  intro K1 hK1
  refine wp_region_sq [0, 1, 2] (by kernel_rfl) ?_
  refine wpSq_call rfl (by kernel_rfl) fun K hK => ?_
  go_big_move; refine hK _ _ rfl ?_; clear hK K
  refine wpSq_call rfl (by kernel_rfl) fun K hK => ?_
  go_big_move; refine hK _ _ rfl ?_; clear hK K
  refine wpSq_call rfl (by kernel_rfl) fun K hK => ?_
  go_big_move; refine hK _ _ rfl ?_; clear hK K
  apply wpSq_end
  refine hK1 _ _ ?_
  refine wp_seq_k ?_
  intro K2 hK2
  refine wp_seq_k ?_
  intro K3 hK3
  refine wp_region_sq [0, 1, 2, 3, 4, 5] (by kernel_rfl) ?_
  refine wpSq_call rfl (by kernel_rfl) fun K hK => ?_
  go_big_move; refine hK _ _ rfl ?_; clear hK K
  refine wpSq_call rfl (by kernel_rfl) fun K hK => ?_
  go_big_op
  go_fit (hasPlusS s _)
  rintro e w_1 ⟨rfl, hb_1⟩
  replace hb := hb.trans (hb_1.mono hb.size)
  rw [HP.out]
  refine hK _ _ rfl ?_
  clear hK K hb_1
  refine wpSq_call rfl (by kernel_rfl) fun K hK => ?_
  go_big_move; refine hK _ _ rfl ?_; clear hK K
  apply wpSq_skip
  case hi => rfl
  case hw => kernel_rfl
  case hp => unfold Act.put; simp only [List.setIfInBounds_toArray, List.set_cons_succ, List.set_cons_zero]; rfl
  apply wpSq_skip
  case hi => rfl
  case hw => kernel_rfl
  case hp => unfold Act.put; simp only [List.setIfInBounds_toArray, List.set_cons_succ, List.set_cons_zero]; rfl
  refine wpSq_call rfl (by kernel_rfl) fun K hK => ?_
  go_big_op; refine hK _ _ rfl ?_; clear hK K
  apply wpSq_end
  refine hK3 _ _ ?_
  refine wp_cond_true (congrArg Value.bool (show _ = true from (by first | rfl | assumption | (simp; done) | exact decide_eq_true (by omega) | omega))) ?_
  refine wp_region_fl2 [(0, false), (1, false), (2, false), (3, false), (4, false), (5, false)] [] [] (fun _ => default) [99, 99, 99, 99, 99, 99] [] (fun w' => True) [] (by kernel_rfl) (by kernel_rfl) (by kernel_rfl) (by kernel_rfl) (by kernel_rfl) (by kernel_rfl) (by kernel_rfl) (by kernel_rfl) (by decide) (by intro j hj; cases hj) (fun _ _ _ => trivial) (by intro w' hC G hG; cases hG) ?_
  intro w_2 hn
  replace hb := hb.trans (hn.mono hb.size)
  clear hn
  have kb0 := hb.size
  refine ⟨trivial, ?_⟩
  apply wpFl_ld rfl rfl; (case h1 => intro w' hC K hK; go_big_move; exact hK); iterate 4 kernel_rfl
  apply wpFl_ld rfl rfl; (case h1 => intro w' hC K hK; go_big_op; exact hK); iterate 4 kernel_rfl
  apply wpFl_ld rfl rfl; (case h1 => intro w' hC K hK; go_big_move; exact hK); iterate 4 kernel_rfl
  apply wpFl_ld rfl rfl; (case h1 => intro w' hC K hK; go_big_op; exact hK); iterate 4 kernel_rfl
  apply wpFl_ld rfl rfl; (case h1 => intro w' hC K hK; go_big_move; exact hK); iterate 4 kernel_rfl
  apply wpFl_ld rfl rfl; (case h1 => intro w' hC K hK; go_big_move; exact hK); iterate 4 kernel_rfl
  apply wpFl_end
  case ha => intro pt; simp only [putF]; rfl
  case h =>
  intro w_3 pt hn hC hF hD
  clear hC
  replace hb := hb.trans (hn.mono hb.size)
  clear hn
  clear hF hD
  clear pt
  clear kb0
  apply wpTail_end
  refine hK2 _ _ ?_
  refine wp_seq_k ?_
  intro K4 hK4
  refine wp_region_sq [0, 1, 2] (by kernel_rfl) ?_
  refine wpSq_call rfl (by kernel_rfl) fun K hK => ?_
  go_big_move; refine hK _ _ rfl ?_; clear hK K
  refine wpSq_call rfl (by kernel_rfl) fun K hK => ?_
  go_big_op
  go_fit (trimR_any (s.extract 1 s.size) _)
  rintro e w_4 ⟨rfl, hb_4⟩
  replace hb := hb.trans (hb_4.mono hb.size)
  refine hK _ _ rfl ?_
  clear hK K hb_4
  refine wpSq_call rfl (by kernel_rfl) fun K hK => ?_
  go_big_move; refine hK _ _ rfl ?_; clear hK K
  apply wpSq_end
  refine hK4 _ _ ?_
  refine wp_seq_k ?_
  intro K5 hK5
  refine wp_region_fl2 [(0, false), (1, false), (2, false), (3, false), (4, false), (5, false), (6, false), (7, false), (8, false), (9, false), (10, false), (11, false)] [] [] (fun _ => default) [99, 99, 99, 99, 99, 99, 99, 99, 99, 99, 99, 99] [] (fun w' => True) [] (by kernel_rfl) (by kernel_rfl) (by kernel_rfl) (by kernel_rfl) (by kernel_rfl) (by kernel_rfl) (by kernel_rfl) (by kernel_rfl) (by decide) (by intro j hj; cases hj) (fun _ _ _ => trivial) (by intro w' hC G hG; cases hG) ?_
  intro w_5 hn
  replace hb := hb.trans (hn.mono hb.size)
  clear hn
  have kb0 := hb.size
  refine ⟨trivial, ?_⟩
  apply wpFl_ld rfl rfl; (case h1 => intro w' hC K hK; go_big_move; exact hK); iterate 4 kernel_rfl
  apply wpFl_ld rfl rfl; (case h1 => intro w' hC K hK; go_big_move; exact hK); iterate 4 kernel_rfl
  apply wpFl_ld rfl rfl; (case h1 => intro w' hC K hK; go_big_move; exact hK); iterate 4 kernel_rfl
  apply wpFl_ldb rfl rfl; (case h1 => intro w' hC K hK; go_big_op; exact hK); iterate 4 kernel_rfl
  apply wpFl_ld rfl rfl; (case h1 => intro w' hC K hK; go_big_move; exact hK); iterate 4 kernel_rfl
  apply wpFl_ldb rfl rfl; (case h1 => intro w' hC K hK; go_big_op; exact hK); iterate 4 kernel_rfl
  apply wpFl_ld rfl rfl; (case h1 => intro w' hC K hK; go_big_op; exact hK); iterate 4 kernel_rfl
  apply wpFl_ld rfl rfl; (case h1 => intro w' hC K hK; go_big_op; exact hK); iterate 4 kernel_rfl
  apply wpFl_ld rfl rfl; (case h1 => intro w' hC K hK; go_big_move; exact hK); iterate 4 kernel_rfl
  apply wpFl_ld rfl rfl; (case h1 => intro w' hC K hK; go_big_move; exact hK); iterate 4 kernel_rfl
  apply wpFl_ld rfl rfl; (case h1 => intro w' hC K hK; go_big_move; exact hK); iterate 4 kernel_rfl
  apply wpFl_ld rfl rfl; (case h1 => intro w' hC K hK; go_big_move; exact hK); iterate 4 kernel_rfl
  apply wpFl_end
  case ha => intro pt; simp only [putF]; rfl
  case h =>
  intro w_6 pt hn hC hF hD
  clear hC
  replace hb := hb.trans (hn.mono hb.size)
  clear hn
  clear hF hD
  clear pt
  clear kb0
  apply wpTail_end
  refine hK5 _ _ ?_
  refine wp_ret ?_
  try dsimp only [Exit.then, Exit.inBlock]
  refine bodyPost_ret (v := (.tuple #[.string (s.extract 0 1), .string ((s.extract 1 s.size).extract 0 (s.size - 1 - (unR (s.extract 1 s.size)).size)), .string (unR (s.extract 1 s.size))])) (by simp [results, Tryd.results65, go_sem]) rfl ?_
  exact ⟨rfl, hb⟩
set_option maxHeartbeats 8000000 in
set_option maxRecDepth 20000 in
theorem cut_minus (s : ByteArray) (w : World) (hs : s.size ≤ 65536) (hp : plusB s = false) (hm : minusB s = true) :
    Calls Tryd.prog 65 #[.string s] w fun e w' => e = .returned (.tuple #[.string (s.extract 0 1), .string (unD (s.extract 1 s.size)), .string (unR (s.extract 1 s.size))]) ∧ Below w.heap.size w w' := by
  have HP := hide hp
  have HM := hide hm
  have h1 := minus_size hm
  clear hp hm
  have hr := unR_size (s.extract 1 s.size)
  have hz : (s.extract 1 s.size).size = s.size - 1 := rest_size
  unfold unD
  rw [hz] at hr
  rw [hz]
  have hw : wrap64 (((s.size - 1 : Nat) : Int) - ((unR (s.extract 1 s.size)).size : Int)) = ((s.size - 1 - (unR (s.extract 1 s.size)).size : Nat) : Int) := by unfold wrap64; omega
  clear hz
  go_enter Tryd.func65, Tryd.ntmps65
  have hb := Below.refl w.heap.size w
  refine wp_seq_k ?_
  intro K1 hK1
  refine wp_region_sq [0, 1, 2] (by kernel_rfl) ?_
  refine wpSq_call rfl (by kernel_rfl) fun K hK => ?_
  go_big_move; refine hK _ _ rfl ?_; clear hK K
  refine wpSq_call rfl (by kernel_rfl) fun K hK => ?_
  go_big_move; refine hK _ _ rfl ?_; clear hK K
  refine wpSq_call rfl (by kernel_rfl) fun K hK => ?_
  go_big_move; refine hK _ _ rfl ?_; clear hK K
  apply wpSq_end
  refine hK1 _ _ ?_
  refine wp_seq_k ?_
  intro K2 hK2
  refine wp_seq_k ?_
  intro K3 hK3
  refine wp_region_sq [0, 1, 2, 3, 4, 5] (by kernel_rfl) ?_
  refine wpSq_call rfl (by kernel_rfl) fun K hK => ?_
  go_big_move; refine hK _ _ rfl ?_; clear hK K
  refine wpSq_call rfl (by kernel_rfl) fun K hK => ?_
  go_big_op
  go_fit (hasPlusS s _)
  rintro e w_1 ⟨rfl, hb_1⟩
  replace hb := hb.trans (hb_1.mono hb.size)
  rw [HP.out]
  refine hK _ _ rfl ?_
  clear hK K hb_1
  refine wpSq_call rfl (by kernel_rfl) fun K hK => ?_
  go_big_move; refine hK _ _ rfl ?_; clear hK K
  refine wpSq_call rfl (by kernel_rfl) fun K hK => ?_
  go_big_move; refine hK _ _ rfl ?_; clear hK K
  refine wpSq_call rfl (by kernel_rfl) fun K hK => ?_
  go_big_op
  go_fit (hasMinusS s _)
  rintro e w_2 ⟨rfl, hb_2⟩
  replace hb := hb.trans (hb_2.mono hb.size)
  rw [HM.out]
  refine hK _ _ rfl ?_
  clear hK K hb_2
  refine wpSq_call rfl (by kernel_rfl) fun K hK => ?_
  go_big_op; refine hK _ _ rfl ?_; clear hK K
  apply wpSq_end
  refine hK3 _ _ ?_
  refine wp_cond_true (congrArg Value.bool (show _ = true from (by first | rfl | assumption | (simp; done) | exact decide_eq_true (by omega) | omega))) ?_
  refine wp_region_fl2 [(0, false), (1, false), (2, false), (3, false), (4, false), (5, false)] [] [] (fun _ => default) [99, 99, 99, 99, 99, 99] [] (fun w' => True) [] (by kernel_rfl) (by kernel_rfl) (by kernel_rfl) (by kernel_rfl) (by kernel_rfl) (by kernel_rfl) (by kernel_rfl) (by kernel_rfl) (by decide) (by intro j hj; cases hj) (fun _ _ _ => trivial) (by intro w' hC G hG; cases hG) ?_
  intro w_3 hn
  replace hb := hb.trans (hn.mono hb.size)
  clear hn
  have kb0 := hb.size
  refine ⟨trivial, ?_⟩
  apply wpFl_ld rfl rfl; (case h1 => intro w' hC K hK; go_big_move; exact hK); iterate 4 kernel_rfl
  apply wpFl_ld rfl rfl; (case h1 => intro w' hC K hK; go_big_op; exact hK); iterate 4 kernel_rfl
  apply wpFl_ld rfl rfl; (case h1 => intro w' hC K hK; go_big_move; exact hK); iterate 4 kernel_rfl
  apply wpFl_ld rfl rfl; (case h1 => intro w' hC K hK; go_big_op; exact hK); iterate 4 kernel_rfl
  apply wpFl_ld rfl rfl; (case h1 => intro w' hC K hK; go_big_move; exact hK); iterate 4 kernel_rfl
  apply wpFl_ld rfl rfl; (case h1 => intro w' hC K hK; go_big_move; exact hK); iterate 4 kernel_rfl
  apply wpFl_end
  case ha => intro pt; simp only [putF]; rfl
  case h =>
  intro w_4 pt hn hC hF hD
  clear hC
  replace hb := hb.trans (hn.mono hb.size)
  clear hn
  clear hF hD
  clear pt
  clear kb0
  apply wpTail_end
  refine hK2 _ _ ?_
  refine wp_seq_k ?_
  intro K4 hK4
  refine wp_region_sq [0, 1, 2] (by kernel_rfl) ?_
  refine wpSq_call rfl (by kernel_rfl) fun K hK => ?_
  go_big_move; refine hK _ _ rfl ?_; clear hK K
  refine wpSq_call rfl (by kernel_rfl) fun K hK => ?_
  go_big_op
  go_fit (trimR_any (s.extract 1 s.size) _)
  rintro e w_5 ⟨rfl, hb_5⟩
  replace hb := hb.trans (hb_5.mono hb.size)
  refine hK _ _ rfl ?_
  clear hK K hb_5
  refine wpSq_call rfl (by kernel_rfl) fun K hK => ?_
  go_big_move; refine hK _ _ rfl ?_; clear hK K
  apply wpSq_end
  refine hK4 _ _ ?_
  refine wp_seq_k ?_
  intro K5 hK5
  refine wp_region_fl2 [(0, false), (1, false), (2, false), (3, false), (4, false), (5, false), (6, false), (7, false), (8, false), (9, false), (10, false), (11, false)] [] [] (fun _ => default) [99, 99, 99, 99, 99, 99, 99, 99, 99, 99, 99, 99] [] (fun w' => True) [] (by kernel_rfl) (by kernel_rfl) (by kernel_rfl) (by kernel_rfl) (by kernel_rfl) (by kernel_rfl) (by kernel_rfl) (by kernel_rfl) (by decide) (by intro j hj; cases hj) (fun _ _ _ => trivial) (by intro w' hC G hG; cases hG) ?_
  intro w_6 hn
  replace hb := hb.trans (hn.mono hb.size)
  clear hn
  have kb0 := hb.size
  refine ⟨trivial, ?_⟩
  apply wpFl_ld rfl rfl; (case h1 => intro w' hC K hK; go_big_move; exact hK); iterate 4 kernel_rfl
  apply wpFl_ld rfl rfl; (case h1 => intro w' hC K hK; go_big_move; exact hK); iterate 4 kernel_rfl
  apply wpFl_ld rfl rfl; (case h1 => intro w' hC K hK; go_big_move; exact hK); iterate 4 kernel_rfl
  apply wpFl_ldb rfl rfl; (case h1 => intro w' hC K hK; go_big_op; exact hK); iterate 4 kernel_rfl
  apply wpFl_ld rfl rfl; (case h1 => intro w' hC K hK; go_big_move; exact hK); iterate 4 kernel_rfl
  apply wpFl_ldb rfl rfl; (case h1 => intro w' hC K hK; go_big_op; exact hK); iterate 4 kernel_rfl
  apply wpFl_ld rfl rfl; (case h1 => intro w' hC K hK; go_big_op; exact hK); iterate 4 kernel_rfl
  apply wpFl_ld rfl rfl; (case h1 => intro w' hC K hK; go_big_op; exact hK); iterate 4 kernel_rfl
  apply wpFl_ld rfl rfl; (case h1 => intro w' hC K hK; go_big_move; exact hK); iterate 4 kernel_rfl
  apply wpFl_ld rfl rfl; (case h1 => intro w' hC K hK; go_big_move; exact hK); iterate 4 kernel_rfl
  apply wpFl_ld rfl rfl; (case h1 => intro w' hC K hK; go_big_move; exact hK); iterate 4 kernel_rfl
  apply wpFl_ld rfl rfl; (case h1 => intro w' hC K hK; go_big_move; exact hK); iterate 4 kernel_rfl
  apply wpFl_end
  case ha => intro pt; simp only [putF]; rfl
  case h =>
  intro w_7 pt hn hC hF hD
  clear hC
  replace hb := hb.trans (hn.mono hb.size)
  clear hn
  clear hF hD
  clear pt
  clear kb0
  apply wpTail_end
  refine hK5 _ _ ?_
  refine wp_ret ?_
  try dsimp only [Exit.then, Exit.inBlock]
  refine bodyPost_ret (v := (.tuple #[.string (s.extract 0 1), .string ((s.extract 1 s.size).extract 0 (s.size - 1 - (unR (s.extract 1 s.size)).size)), .string (unR (s.extract 1 s.size))])) (by simp [results, Tryd.results65, go_sem]) rfl ?_
  exact ⟨rfl, hb⟩
end
end Go.Proofs.YtpdfahompajbjaaDoor

