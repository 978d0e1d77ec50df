/- frac.Parse of two parts; the reference's Parse. -/
import Derived.Test.YtkgbfnmlpajblaaGreatDoorT1ToQ10
import Derived.Test.YtkgbfnmlpajblaaGreatDoorQ5
import Derived.Test.YtkgbfnmlpajblaaGreatDoorShelf
import Derived.Lib.BitFns
import Derived.Lib.ItoaNum
import Derived.Test.YtkgbfnmlpajblaaGreatDoorZ1
import Derived.Test.YtkgbfnmlpajblaaGreatDoorR8
import Derived.Test.YtkgbfnmlpajblaaGreatDoorR17
import Derived.Deep.LoopGhost

namespace Go.Proofs.YtkgbfnmlpajblaaGreatDoor
open Go Go.RowKit Dig
set_option linter.unusedVariables false

section
variable {s : ByteArray} {k : Nat}
set_option maxHeartbeats 4000000 in
set_option maxRecDepth 20000 in
theorem fParse_b0 (w : World) (hs : s.size ≤ 65536) (hk : k < s.size) (hi : Lib.indexByte s.data.toList 47 = (k : Int)) (T B : ByteArray) (hT : s.extract 0 k = T) (hB : s.extract (k + 1) s.size = B) (hTs : T.size ≤ 65536) (h : zok T = true)
    (h2 : ∀ w, Calls Tryz.prog 95 #[.string B] w fun e w' => e = .returned (.tuple #[.agg #[.bool false, .slice none 0 0], .int .i64 7]) ∧ Below w.heap.size w w') :
    Calls Tryz.prog 48 #[.string s] w fun e w' => e = .returned (.tuple #[.agg #[.bool false, .slice none 0 0, .bool false, .slice none 0 0], .int .i64 7]) ∧ Below w.heap.size w w' := by
  have HI := hide hi
  have H := hide h
  have H2 := hide h2
  have HT := hide hT
  have HB := hide hB
  clear hi h hT hB h2
  go_enter Tryz.func48, Tryz.ntmps48
  have hb := Below.refl w.heap.size w
  refine wp_seq_k ?_
  intro K1 hK1
  refine wp_region_sq [0, 1] (by kernel_rfl) ?_
  refine wpSq_call rfl (by kernel_rfl) fun K hK => ?_
  go_big_op
  obtain ⟨p_b1, w_1, eP, eW, x_b1, hn, kb_b1⟩ := newBox w #[.bool false, .slice none 0 0, .bool false, .slice none 0 0] 26 hb.size
  rw [eW, eP]
  clear eW eP
  replace hb := hb.trans (hn.mono hb.size)
  refine hK _ _ rfl ?_; clear hK K hn
  refine wpSq_call rfl (by kernel_rfl) fun K hK => ?_
  go_big_move; refine hK _ _ rfl ?_; clear hK K
  apply wpSq_end
  refine hK1 _ _ ?_
  refine wp_seq_k ?_
  intro K2 hK2
  refine wp_seq_k ?_
  intro K3 hK3
  refine wp_region_sq [0, 1, 2] (by kernel_rfl) ?_
  refine wpSq_call rfl (by kernel_rfl) fun K hK => ?_
  go_big_move; refine hK _ _ rfl ?_; clear hK K
  refine wpSq_call rfl (by kernel_rfl) fun K hK => ?_
  go_big_op; refine hK _ _ rfl ?_; clear hK K
  refine wpSq_call rfl (by kernel_rfl) fun K hK => ?_
  go_big_op; refine hK _ _ rfl ?_; clear hK K
  apply wpSq_end
  refine hK3 _ _ ?_
  refine wp_cond_false (congrArg Value.bool (show _ = false from (by first | rfl | assumption | (simp; done) | exact decide_eq_false (by omega) | omega))) ?_
  refine wp_skip ?_
  refine hK2 _ _ ?_
  refine wp_seq_k ?_
  intro K4 hK4
  refine wp_region_sq [0, 1, 2, 3, 4, 5, 6, 7, 8] (by kernel_rfl) ?_
  refine wpSq_call rfl (by kernel_rfl) fun K hK => ?_
  go_big_move; refine hK _ _ rfl ?_; clear hK K
  refine wpSq_call rfl (by kernel_rfl) fun K hK => ?_
  go_big_op
  go_fit (scutS_some s _ k hk hs HI.out)
  rintro e w_2 ⟨rfl, hb_2⟩
  replace x_b1 := x_b1.bl hb_2; replace hb := hb.trans (hb_2.mono hb.size)
  rw [HT.out, HB.out]
  refine hK _ _ rfl ?_
  clear hK K hb_2
  refine wpSq_call rfl (by kernel_rfl) fun K hK => ?_
  go_big_move; refine hK _ _ rfl ?_; clear hK K
  refine wpSq_call rfl (by kernel_rfl) fun K hK => ?_
  go_big_op; refine hK _ _ rfl ?_; clear hK K
  refine wpSq_call rfl (by kernel_rfl) fun K hK => ?_
  go_big_op; refine hK _ _ rfl ?_; clear hK K
  refine wpSq_call rfl (by kernel_rfl) fun K hK => ?_
  go_big_op; refine hK _ _ rfl ?_; clear hK K
  refine wpSq_call rfl (by kernel_rfl) fun K hK => ?_
  go_big_move; refine hK _ _ rfl ?_; clear hK K
  refine wpSq_call rfl (by kernel_rfl) fun K hK => ?_
  go_big_move; refine hK _ _ rfl ?_; clear hK K
  refine wpSq_call rfl (by kernel_rfl) fun K hK => ?_
  go_big_move; refine hK _ _ rfl ?_; clear hK K
  apply wpSq_end
  refine hK4 _ _ ?_
  refine wp_seq_k ?_
  intro K5 hK5
  refine wp_seq_k ?_
  intro K6 hK6
  refine wp_region_sq [0, 1] (by kernel_rfl) ?_
  refine wpSq_call rfl (by kernel_rfl) fun K hK => ?_
  go_big_move; refine hK _ _ rfl ?_; clear hK K
  refine wpSq_call rfl (by kernel_rfl) fun K hK => ?_
  go_big_op; refine hK _ _ rfl ?_; clear hK K
  apply wpSq_end
  refine hK6 _ _ ?_
  refine wp_cond_false (congrArg Value.bool (show _ = false from (by first | rfl | assumption | (simp; done) | exact decide_eq_false (by omega) | omega))) ?_
  refine wp_skip ?_
  refine hK5 _ _ ?_
  refine wp_seq_k ?_
  intro K7 hK7
  refine wp_region_sq [0, 1, 2, 3, 4, 5, 6, 7] (by kernel_rfl) ?_
  refine wpSq_call rfl (by kernel_rfl) fun K hK => ?_
  go_big_move; refine hK _ _ rfl ?_; clear hK K
  refine wpSq_call rfl (by kernel_rfl) fun K hK => ?_
  go_big_op
  go_fit (zparse_ok T _ hTs H.out)
  rintro e w_3 ⟨v_g, rfl, g, hb_3⟩
  replace x_b1 := x_b1.bl hb_3; replace hb := hb.trans (hb_3.mono hb.size)
  obtain ⟨n_g, o_g, k_g, c_g, rfl⟩ := g.open2
  refine hK _ _ rfl ?_
  clear hK K hb_3
  refine wpSq_call rfl (by kernel_rfl) fun K hK => ?_
  go_big_move; refine hK _ _ rfl ?_; clear hK K
  refine wpSq_call rfl (by kernel_rfl) fun K hK => ?_
  go_big_op; refine hK _ _ rfl ?_; clear hK K
  refine wpSq_call rfl (by kernel_rfl) fun K hK => ?_
  go_big_op; refine hK _ _ rfl ?_; clear hK K
  refine wpSq_call rfl (by kernel_rfl) fun K hK => ?_
  go_big_op
  have lt_b1 := x_b1.lt
  obtain ⟨p_b2, w_4, eP, eW, x_b2, hn, kb_b2⟩ := newBox w_3 #[.bool false, .slice none 0 0] 24 hb.size
  have ne_b1_b2 : Hid (p_b1 ≠ p_b2) := Nat.ne_of_lt (eP ▸ lt_b1)
  rw [eW, eP]
  clear eW eP lt_b1
  replace x_b1 := x_b1.bl hn; replace g := g.bl hn; replace hb := hb.trans (hn.mono hb.size)
  refine hK _ _ rfl ?_; clear hK K hn
  refine wpSq_call rfl (by kernel_rfl) fun K hK => ?_
  obtain ⟨d0, d1⟩ := x_b2.f2
  have f0 := x_b2.free 0; have f1 := x_b2.free 1
  go_big_op
  have hnd := x_b2.nod rfl rfl
  obtain ⟨w_5, eW, x_b2', ho⟩ : ∃ w', ((w_4.setCell ⟨p_b2, 0, none⟩ (.bool n_g)).setCell ⟨p_b2, 1, none⟩ (.slice o_g k_g c_g)) = w' ∧ Bs w' p_b2 #[.bool n_g, .slice o_g k_g c_g] 24 ∧ Only p_b2 w_4 w' := x_b2.setN [(0, .bool n_g), (1, .slice o_g k_g c_g)]
  rw [eW]; clear eW d0 d1 f0 f1 x_b2
  have x_b2 := x_b2'; clear x_b2'
  replace x_b1 := x_b1.frame ho ne_b1_b2; replace g := g.fr hnd ho; replace hb := belowOnly hb ho kb_b2
  refine hK _ _ rfl ?_; clear hK K ho hnd
  refine wpSq_call rfl (by kernel_rfl) fun K hK => ?_
  go_big_move; refine hK _ _ rfl ?_; clear hK K
  apply wpSq_end
  refine hK7 _ _ ?_
  refine wp_seq_k ?_
  intro K8 hK8
  refine wp_seq_k ?_
  intro K9 hK9
  refine wp_region_sq [0, 1] (by kernel_rfl) ?_
  refine wpSq_call rfl (by kernel_rfl) fun K hK => ?_
  go_big_move; refine hK _ _ rfl ?_; clear hK K
  refine wpSq_call rfl (by kernel_rfl) fun K hK => ?_
  go_big_op; refine hK _ _ rfl ?_; clear hK K
  apply wpSq_end
  refine hK9 _ _ ?_
  refine wp_cond_false (congrArg Value.bool (show _ = false from (by first | rfl | assumption | (simp; done) | exact decide_eq_false (by omega) | omega))) ?_
  refine wp_skip ?_
  refine hK8 _ _ ?_
  refine wp_seq_k ?_
  intro K10 hK10
  refine wp_region_sq [0, 1, 2, 3, 4, 5, 6, 7] (by kernel_rfl) ?_
  refine wpSq_call rfl (by kernel_rfl) fun K hK => ?_
  go_big_move; refine hK _ _ rfl ?_; clear hK K
  refine wpSq_call rfl (by kernel_rfl) fun K hK => ?_
  go_big_op
  go_fit (H2.out _)
  rintro e w_6 ⟨rfl, hb_6⟩
  replace x_b1 := x_b1.bl hb_6; replace g := g.bl hb_6; replace x_b2 := x_b2.bl hb_6; replace hb := hb.trans (hb_6.mono hb.size)
  refine hK _ _ rfl ?_
  clear hK K hb_6
  refine wpSq_call rfl (by kernel_rfl) fun K hK => ?_
  go_big_move; refine hK _ _ rfl ?_; clear hK K
  refine wpSq_call rfl (by kernel_rfl) fun K hK => ?_
  go_big_op; refine hK _ _ rfl ?_; clear hK K
  refine wpSq_call rfl (by kernel_rfl) fun K hK => ?_
  go_big_op; refine hK _ _ rfl ?_; clear hK K
  refine wpSq_call rfl (by kernel_rfl) fun K hK => ?_
  go_big_op
  have lt_b1 := x_b1.lt
  have lt_b2 := x_b2.lt
  obtain ⟨p_b3, w_7, eP, eW, x_b3, hn, kb_b3⟩ := newBox w_6 #[.bool false, .slice none 0 0] 24 hb.size
  have ne_b1_b3 : Hid (p_b1 ≠ p_b3) := Nat.ne_of_lt (eP ▸ lt_b1)
  have ne_b2_b3 : Hid (p_b2 ≠ p_b3) := Nat.ne_of_lt (eP ▸ lt_b2)
  rw [eW, eP]
  clear eW eP lt_b1 lt_b2
  replace x_b1 := x_b1.bl hn; replace g := g.bl hn; replace x_b2 := x_b2.bl hn; replace hb := hb.trans (hn.mono hb.size)
  refine hK _ _ rfl ?_; clear hK K hn
  refine wpSq_call rfl (by kernel_rfl) fun K hK => ?_
  obtain ⟨d0, d1⟩ := x_b3.f2
  have f0 := x_b3.free 0; have f1 := x_b3.free 1
  go_big_op
  have hnd := x_b3.nod rfl rfl
  obtain ⟨w_8, eW, x_b3', ho⟩ : ∃ w', ((w_7.setCell ⟨p_b3, 0, none⟩ (.bool false)).setCell ⟨p_b3, 1, none⟩ (.slice none 0 0)) = w' ∧ Bs w' p_b3 #[.bool false, .slice none 0 0] 24 ∧ Only p_b3 w_7 w' := x_b3.setN [(0, .bool false), (1, .slice none 0 0)]
  rw [eW]; clear eW d0 d1 f0 f1 x_b3
  have x_b3 := x_b3'; clear x_b3'
  replace x_b1 := x_b1.frame ho ne_b1_b3; replace g := g.fr hnd ho; replace x_b2 := x_b2.frame ho ne_b2_b3; replace hb := belowOnly hb ho kb_b3
  refine hK _ _ rfl ?_; clear hK K ho hnd
  refine wpSq_call rfl (by kernel_rfl) fun K hK => ?_
  go_big_move; refine hK _ _ rfl ?_; clear hK K
  apply wpSq_end
  refine hK10 _ _ ?_
  refine wp_seq_k ?_
  intro K11 hK11
  refine wp_seq_k ?_
  intro K12 hK12
  refine wp_region_sq [0, 1] (by kernel_rfl) ?_
  refine wpSq_call rfl (by kernel_rfl) fun K hK => ?_
  go_big_move; refine hK _ _ rfl ?_; clear hK K
  refine wpSq_call rfl (by kernel_rfl) fun K hK => ?_
  go_big_op; refine hK _ _ rfl ?_; clear hK K
  apply wpSq_end
  refine hK12 _ _ ?_
  refine wp_cond_true (congrArg Value.bool (show _ = true from (by first | rfl | assumption | (simp; done) | exact decide_eq_true (by omega) | omega))) ?_
  refine wp_seq_k ?_
  intro K13 hK13
  refine wp_region_sq [0, 1, 2, 3] (by kernel_rfl) ?_
  refine wpSq_call rfl (by kernel_rfl) fun K hK => ?_
  go_big_op; refine hK _ _ rfl ?_; clear hK K
  refine wpSq_call rfl (by kernel_rfl) fun K hK => ?_
  go_big_move; refine hK _ _ rfl ?_; clear hK K
  refine wpSq_call rfl (by kernel_rfl) fun K hK => ?_
  obtain ⟨d0, d1, d2, d3⟩ := x_b1.f4
  have f0 := x_b1.free 0; have f1 := x_b1.free 1; have f2 := x_b1.free 2; have f3 := x_b1.free 3
  go_big_op
  have hnd := x_b1.nod rfl rfl
  obtain ⟨w_9, eW, x_b1', ho⟩ : ∃ w', ((((w_8.setCell ⟨p_b1, 0, none⟩ (.bool false)).setCell ⟨p_b1, 1, none⟩ (.slice none 0 0)).setCell ⟨p_b1, 2, none⟩ (.bool false)).setCell ⟨p_b1, 3, none⟩ (.slice none 0 0)) = w' ∧ Bs w' p_b1 #[.bool false, .slice none 0 0, .bool false, .slice none 0 0] 26 ∧ Only p_b1 w_8 w' := x_b1.setN [(0, .bool false), (1, .slice none 0 0), (2, .bool false), (3, .slice none 0 0)]
  rw [eW]; clear eW d0 d1 d2 d3 f0 f1 f2 f3 x_b1
  have x_b1 := x_b1'; clear x_b1'
  replace g := g.fr hnd ho; replace x_b2 := x_b2.frame ho ne_b1_b2.symm; replace x_b3 := x_b3.frame ho ne_b1_b3.symm; replace hb := belowOnly hb ho kb_b1
  refine hK _ _ rfl ?_; clear hK K ho hnd
  refine wpSq_call rfl (by kernel_rfl) fun K hK => ?_
  go_big_move; refine hK _ _ rfl ?_; clear hK K
  apply wpSq_end
  refine hK13 _ _ ?_
  refine wp_ret ?_
  try dsimp only [Exit.then, Exit.inBlock]
  obtain ⟨r0_0, r0_1, r0_2, r0_3⟩ := x_b1.f4
  refine bodyPost_ret (v := (.tuple #[(.agg #[.bool false, .slice none 0 0, .bool false, .slice none 0 0]), (.int .i64 7)])) (by simp [results, Tryz.results48, go_sem, r0_0, r0_1, r0_2, r0_3]) rfl ?_
  exact ⟨rfl, hb⟩
set_option maxHeartbeats 4000000 in
set_option maxRecDepth 20000 in
theorem fParse_z (w : World) (hs : s.size ≤ 65536) (hk : k < s.size) (hi : Lib.indexByte s.data.toList 47 = (k : Int)) (T B : ByteArray) (hT : s.extract 0 k = T) (hB : s.extract (k + 1) s.size = B) (hTs : T.size ≤ 65536) (h : zok T = true) (hBs : B.size ≤ 65536) (hm : minusB B = false) (h2 : zok B = true) (h0 : zvl B = 0) :
    Calls Tryz.prog 48 #[.string s] w fun e w' => e = .returned (.tuple #[.agg #[.bool false, .slice none 0 0, .bool false, .slice none 0 0], .int .i64 5]) ∧ Below w.heap.size w w' := by
  have HI := hide hi
  have H := hide h
  have HM := hide hm
  have H2 := hide h2
  have H0 := hide h0
  have LT := hide (zvl_len hTs h)
  have HT := hide hT
  have HB := hide hB
  clear hi h hT hB hm h2 h0
  go_enter Tryz.func48, Tryz.ntmps48
  have hb := Below.refl w.heap.size w
  refine wp_seq_k ?_
  intro K1 hK1
  refine wp_region_sq [0, 1] (by kernel_rfl) ?_
  refine wpSq_call rfl (by kernel_rfl) fun K hK => ?_
  go_big_op
  obtain ⟨p_b1, w_1, eP, eW, x_b1, hn, kb_b1⟩ := newBox w #[.bool false, .slice none 0 0, .bool false, .slice none 0 0] 26 hb.size
  rw [eW, eP]
  clear eW eP
  replace hb := hb.trans (hn.mono hb.size)
  refine hK _ _ rfl ?_; clear hK K hn
  refine wpSq_call rfl (by kernel_rfl) fun K hK => ?_
  go_big_move; refine hK _ _ rfl ?_; clear hK K
  apply wpSq_end
  refine hK1 _ _ ?_
  refine wp_seq_k ?_
  intro K2 hK2
  refine wp_seq_k ?_
  intro K3 hK3
  refine wp_region_sq [0, 1, 2] (by kernel_rfl) ?_
  refine wpSq_call rfl (by kernel_rfl) fun K hK => ?_
  go_big_move; refine hK _ _ rfl ?_; clear hK K
  refine wpSq_call rfl (by kernel_rfl) fun K hK => ?_
  go_big_op; refine hK _ _ rfl ?_; clear hK K
  refine wpSq_call rfl (by kernel_rfl) fun K hK => ?_
  go_big_op; refine hK _ _ rfl ?_; clear hK K
  apply wpSq_end
  refine hK3 _ _ ?_
  refine wp_cond_false (congrArg Value.bool (show _ = false from (by first | rfl | assumption | (simp; done) | exact decide_eq_false (by omega) | omega))) ?_
  refine wp_skip ?_
  refine hK2 _ _ ?_
  refine wp_seq_k ?_
  intro K4 hK4
  refine wp_region_sq [0, 1, 2, 3, 4, 5, 6, 7, 8] (by kernel_rfl) ?_
  refine wpSq_call rfl (by kernel_rfl) fun K hK => ?_
  go_big_move; refine hK _ _ rfl ?_; clear hK K
  refine wpSq_call rfl (by kernel_rfl) fun K hK => ?_
  go_big_op
  go_fit (scutS_some s _ k hk hs HI.out)
  rintro e w_2 ⟨rfl, hb_2⟩
  replace x_b1 := x_b1.bl hb_2; replace hb := hb.trans (hb_2.mono hb.size)
  rw [HT.out, HB.out]
  refine hK _ _ rfl ?_
  clear hK K hb_2
  refine wpSq_call rfl (by kernel_rfl) fun K hK => ?_
  go_big_move; refine hK _ _ rfl ?_; clear hK K
  refine wpSq_call rfl (by kernel_rfl) fun K hK => ?_
  go_big_op; refine hK _ _ rfl ?_; clear hK K
  refine wpSq_call rfl (by kernel_rfl) fun K hK => ?_
  go_big_op; refine hK _ _ rfl ?_; clear hK K
  refine wpSq_call rfl (by kernel_rfl) fun K hK => ?_
  go_big_op; refine hK _ _ rfl ?_; clear hK K
  refine wpSq_call rfl (by kernel_rfl) fun K hK => ?_
  go_big_move; refine hK _ _ rfl ?_; clear hK K
  refine wpSq_call rfl (by kernel_rfl) fun K hK => ?_
  go_big_move; refine hK _ _ rfl ?_; clear hK K
  refine wpSq_call rfl (by kernel_rfl) fun K hK => ?_
  go_big_move; refine hK _ _ rfl ?_; clear hK K
  apply wpSq_end
  refine hK4 _ _ ?_
  refine wp_seq_k ?_
  intro K5 hK5
  refine wp_seq_k ?_
  intro K6 hK6
  refine wp_region_sq [0, 1] (by kernel_rfl) ?_
  refine wpSq_call rfl (by kernel_rfl) fun K hK => ?_
  go_big_move; refine hK _ _ rfl ?_; clear hK K
  refine wpSq_call rfl (by kernel_rfl) fun K hK => ?_
  go_big_op; refine hK _ _ rfl ?_; clear hK K
  apply wpSq_end
  refine hK6 _ _ ?_
  refine wp_cond_false (congrArg Value.bool (show _ = false from (by first | rfl | assumption | (simp; done) | exact decide_eq_false (by omega) | omega))) ?_
  refine wp_skip ?_
  refine hK5 _ _ ?_
  refine wp_seq_k ?_
  intro K7 hK7
  refine wp_region_sq [0, 1, 2, 3, 4, 5, 6, 7] (by kernel_rfl) ?_
  refine wpSq_call rfl (by kernel_rfl) fun K hK => ?_
  go_big_move; refine hK _ _ rfl ?_; clear hK K
  refine wpSq_call rfl (by kernel_rfl) fun K hK => ?_
  go_big_op
  go_fit (zparse_ok T _ hTs H.out)
  rintro e w_3 ⟨v_g, rfl, g, hb_3⟩
  replace x_b1 := x_b1.bl hb_3; replace hb := hb.trans (hb_3.mono hb.size)
  obtain ⟨n_g, o_g, k_g, c_g, rfl⟩ := g.open2
  have Lg := hide (g.lenOf (LT.out))
  refine hK _ _ rfl ?_
  clear hK K hb_3
  refine wpSq_call rfl (by kernel_rfl) fun K hK => ?_
  go_big_move; refine hK _ _ rfl ?_; clear hK K
  refine wpSq_call rfl (by kernel_rfl) fun K hK => ?_
  go_big_op; refine hK _ _ rfl ?_; clear hK K
  refine wpSq_call rfl (by kernel_rfl) fun K hK => ?_
  go_big_op; refine hK _ _ rfl ?_; clear hK K
  refine wpSq_call rfl (by kernel_rfl) fun K hK => ?_
  go_big_op
  have lt_b1 := x_b1.lt
  obtain ⟨p_b2, w_4, eP, eW, x_b2, hn, kb_b2⟩ := newBox w_3 #[.bool false, .slice none 0 0] 24 hb.size
  have ne_b1_b2 : Hid (p_b1 ≠ p_b2) := Nat.ne_of_lt (eP ▸ lt_b1)
  rw [eW, eP]
  clear eW eP lt_b1
  replace x_b1 := x_b1.bl hn; replace g := g.bl hn; replace hb := hb.trans (hn.mono hb.size)
  refine hK _ _ rfl ?_; clear hK K hn
  refine wpSq_call rfl (by kernel_rfl) fun K hK => ?_
  obtain ⟨d0, d1⟩ := x_b2.f2
  have f0 := x_b2.free 0; have f1 := x_b2.free 1
  go_big_op
  have hnd := x_b2.nod rfl rfl
  obtain ⟨w_5, eW, x_b2', ho⟩ : ∃ w', ((w_4.setCell ⟨p_b2, 0, none⟩ (.bool n_g)).setCell ⟨p_b2, 1, none⟩ (.slice o_g k_g c_g)) = w' ∧ Bs w' p_b2 #[.bool n_g, .slice o_g k_g c_g] 24 ∧ Only p_b2 w_4 w' := x_b2.setN [(0, .bool n_g), (1, .slice o_g k_g c_g)]
  rw [eW]; clear eW d0 d1 f0 f1 x_b2
  have x_b2 := x_b2'; clear x_b2'
  replace x_b1 := x_b1.frame ho ne_b1_b2; replace g := g.fr hnd ho; replace hb := belowOnly hb ho kb_b2
  refine hK _ _ rfl ?_; clear hK K ho hnd
  refine wpSq_call rfl (by kernel_rfl) fun K hK => ?_
  go_big_move; refine hK _ _ rfl ?_; clear hK K
  apply wpSq_end
  refine hK7 _ _ ?_
  refine wp_seq_k ?_
  intro K8 hK8
  refine wp_seq_k ?_
  intro K9 hK9
  refine wp_region_sq [0, 1] (by kernel_rfl) ?_
  refine wpSq_call rfl (by kernel_rfl) fun K hK => ?_
  go_big_move; refine hK _ _ rfl ?_; clear hK K
  refine wpSq_call rfl (by kernel_rfl) fun K hK => ?_
  go_big_op; refine hK _ _ rfl ?_; clear hK K
  apply wpSq_end
  refine hK9 _ _ ?_
  refine wp_cond_false (congrArg Value.bool (show _ = false from (by first | rfl | assumption | (simp; done) | exact decide_eq_false (by omega) | omega))) ?_
  refine wp_skip ?_
  refine hK8 _ _ ?_
  refine wp_seq_k ?_
  intro K10 hK10
  refine wp_region_sq [0, 1, 2, 3, 4, 5, 6, 7] (by kernel_rfl) ?_
  refine wpSq_call rfl (by kernel_rfl) fun K hK => ?_
  go_big_move; refine hK _ _ rfl ?_; clear hK K
  refine wpSq_call rfl (by kernel_rfl) fun K hK => ?_
  go_big_op
  go_fit (parseDen_ok B _ hBs HM.out H2.out)
  rintro e w_6 ⟨v_k, rfl, k, hb_6⟩
  replace x_b1 := x_b1.bl hb_6; replace g := g.bl hb_6; replace x_b2 := x_b2.bl hb_6; replace hb := hb.trans (hb_6.mono hb.size)
  obtain ⟨n_k, o_k, k_k, c_k, rfl⟩ := k.open2
  rw [H0.out] at k
  refine hK _ _ rfl ?_
  clear hK K hb_6
  refine wpSq_call rfl (by kernel_rfl) fun K hK => ?_
  go_big_move; refine hK _ _ rfl ?_; clear hK K
  refine wpSq_call rfl (by kernel_rfl) fun K hK => ?_
  go_big_op; refine hK _ _ rfl ?_; clear hK K
  refine wpSq_call rfl (by kernel_rfl) fun K hK => ?_
  go_big_op; refine hK _ _ rfl ?_; clear hK K
  refine wpSq_call rfl (by kernel_rfl) fun K hK => ?_
  go_big_op
  have lt_b1 := x_b1.lt
  have lt_b2 := x_b2.lt
  obtain ⟨p_b3, w_7, eP, eW, x_b3, hn, kb_b3⟩ := newBox w_6 #[.bool false, .slice none 0 0] 24 hb.size
  have ne_b1_b3 : Hid (p_b1 ≠ p_b3) := Nat.ne_of_lt (eP ▸ lt_b1)
  have ne_b2_b3 : Hid (p_b2 ≠ p_b3) := Nat.ne_of_lt (eP ▸ lt_b2)
  rw [eW, eP]
  clear eW eP lt_b1 lt_b2
  replace x_b1 := x_b1.bl hn; replace g := g.bl hn; replace x_b2 := x_b2.bl hn; replace k := k.bl hn; replace hb := hb.trans (hn.mono hb.size)
  refine hK _ _ rfl ?_; clear hK K hn
  refine wpSq_call rfl (by kernel_rfl) fun K hK => ?_
  obtain ⟨d0, d1⟩ := x_b3.f2
  have f0 := x_b3.free 0; have f1 := x_b3.free 1
  go_big_op
  have hnd := x_b3.nod rfl rfl
  obtain ⟨w_8, eW, x_b3', ho⟩ : ∃ w', ((w_7.setCell ⟨p_b3, 0, none⟩ (.bool n_k)).setCell ⟨p_b3, 1, none⟩ (.slice o_k k_k c_k)) = w' ∧ Bs w' p_b3 #[.bool n_k, .slice o_k k_k c_k] 24 ∧ Only p_b3 w_7 w' := x_b3.setN [(0, .bool n_k), (1, .slice o_k k_k c_k)]
  rw [eW]; clear eW d0 d1 f0 f1 x_b3
  have x_b3 := x_b3'; clear x_b3'
  replace x_b1 := x_b1.frame ho ne_b1_b3; replace g := g.fr hnd ho; replace x_b2 := x_b2.frame ho ne_b2_b3; replace k := k.fr hnd ho; replace hb := belowOnly hb ho kb_b3
  refine hK _ _ rfl ?_; clear hK K ho hnd
  refine wpSq_call rfl (by kernel_rfl) fun K hK => ?_
  go_big_move; refine hK _ _ rfl ?_; clear hK K
  apply wpSq_end
  refine hK10 _ _ ?_
  refine wp_seq_k ?_
  intro K11 hK11
  refine wp_seq_k ?_
  intro K12 hK12
  refine wp_region_sq [0, 1] (by kernel_rfl) ?_
  refine wpSq_call rfl (by kernel_rfl) fun K hK => ?_
  go_big_move; refine hK _ _ rfl ?_; clear hK K
  refine wpSq_call rfl (by kernel_rfl) fun K hK => ?_
  go_big_op; refine hK _ _ rfl ?_; clear hK K
  apply wpSq_end
  refine hK12 _ _ ?_
  have Lk := hide (k.lenOf (zlen_0))
  refine wp_cond_false (congrArg Value.bool (show _ = false from (by first | rfl | assumption | (simp; done) | exact decide_eq_false (by omega) | omega))) ?_
  refine wp_skip ?_
  refine hK11 _ _ ?_
  refine wp_seq_k ?_
  intro K13 hK13
  refine wp_region_sq [0, 1, 2, 3, 4, 5, 6] (by kernel_rfl) ?_
  refine wpSq_call rfl (by kernel_rfl) fun K hK => ?_
  obtain ⟨d0, d1⟩ := x_b2.f2
  go_big_op; refine hK _ _ rfl ?_; clear hK K d0 d1
  refine wpSq_call rfl (by kernel_rfl) fun K hK => ?_
  obtain ⟨d0, d1⟩ := x_b3.f2
  go_big_op; refine hK _ _ rfl ?_; clear hK K d0 d1
  refine wpSq_call rfl (by kernel_rfl) fun K hK => ?_
  go_big_op
  go_fit (fmake_zero (g.zn Lg.out) (k.zn Lk.out) (by omega) (by omega) )
  rintro e w_9 ⟨rfl, hb_9⟩
  clear x_b2 x_b3
  replace x_b1 := x_b1.bl hb_9; replace g := g.bl hb_9; replace k := k.bl hb_9; replace hb := hb.trans (hb_9.mono hb.size)
  refine hK _ _ rfl ?_
  clear hK K hb_9
  refine wpSq_call rfl (by kernel_rfl) fun K hK => ?_
  go_big_op; refine hK _ _ rfl ?_; clear hK K
  refine wpSq_call rfl (by kernel_rfl) fun K hK => ?_
  go_big_op; refine hK _ _ rfl ?_; clear hK K
  refine wpSq_call rfl (by kernel_rfl) fun K hK => ?_
  obtain ⟨d0, d1, d2, d3⟩ := x_b1.f4
  have f0 := x_b1.free 0; have f1 := x_b1.free 1; have f2 := x_b1.free 2; have f3 := x_b1.free 3
  go_big_op
  have hnd := x_b1.nod rfl rfl
  obtain ⟨w_10, eW, x_b1', ho⟩ : ∃ w', ((((w_9.setCell ⟨p_b1, 0, none⟩ (.bool false)).setCell ⟨p_b1, 1, none⟩ (.slice none 0 0)).setCell ⟨p_b1, 2, none⟩ (.bool false)).setCell ⟨p_b1, 3, none⟩ (.slice none 0 0)) = w' ∧ Bs w' p_b1 #[.bool false, .slice none 0 0, .bool false, .slice none 0 0] 26 ∧ Only p_b1 w_9 w' := x_b1.setN [(0, .bool false), (1, .slice none 0 0), (2, .bool false), (3, .slice none 0 0)]
  rw [eW]; clear eW d0 d1 d2 d3 f0 f1 f2 f3 x_b1
  have x_b1 := x_b1'; clear x_b1'
  clear g k
  replace hb := belowOnly hb ho kb_b1
  refine hK _ _ rfl ?_; clear hK K ho hnd
  refine wpSq_call rfl (by kernel_rfl) fun K hK => ?_
  go_big_move; refine hK _ _ rfl ?_; clear hK K
  apply wpSq_end
  refine hK13 _ _ ?_
  refine wp_ret ?_
  try dsimp only [Exit.then, Exit.inBlock]
  obtain ⟨r0_0, r0_1, r0_2, r0_3⟩ := x_b1.f4
  refine bodyPost_ret (v := (.tuple #[(.agg #[.bool false, .slice none 0 0, .bool false, .slice none 0 0]), (.int .i64 5)])) (by simp [results, Tryz.results48, go_sem, r0_0, r0_1, r0_2, r0_3]) rfl ?_
  exact ⟨rfl, hb⟩
set_option maxHeartbeats 4000000 in
set_option maxRecDepth 20000 in
theorem fParse_ok (w : World) (hs : s.size ≤ 65536) (hk : k < s.size) (hi : Lib.indexByte s.data.toList 47 = (k : Int)) (T B : ByteArray) (hT : s.extract 0 k = T) (hB : s.extract (k + 1) s.size = B) (hTs : T.size ≤ 65536) (h : zok T = true) (hBs : B.size ≤ 65536) (hm : minusB B = false) (h2 : zok B = true) (h0 : zvl B ≠ 0) :
    Calls Tryz.prog 48 #[.string s] w fun e w' => ∃ r, e = .returned (.tuple #[r, .int .i64 0]) ∧ PC w' r (qN (zvl T) (zvl B)) (qD (zvl T) (zvl B)) ∧ Below w.heap.size w w' := by
  have HI := hide hi
  have H := hide h
  have HM := hide hm
  have H2 := hide h2
  have H0 := hide h0
  have LT := hide (zvl_len hTs h)
  have LB := hide (zvl_len hBs h2)
  have HT := hide hT
  have HB := hide hB
  clear hi h hT hB hm h2 h0
  go_enter Tryz.func48, Tryz.ntmps48
  have hb := Below.refl w.heap.size w
  refine wp_seq_k ?_
  intro K1 hK1
  refine wp_region_sq [0, 1] (by kernel_rfl) ?_
  refine wpSq_call rfl (by kernel_rfl) fun K hK => ?_
  go_big_op
  obtain ⟨p_b1, w_1, eP, eW, x_b1, hn, kb_b1⟩ := newBox w #[.bool false, .slice none 0 0, .bool false, .slice none 0 0] 26 hb.size
  rw [eW, eP]
  clear eW eP
  replace hb := hb.trans (hn.mono hb.size)
  refine hK _ _ rfl ?_; clear hK K hn
  refine wpSq_call rfl (by kernel_rfl) fun K hK => ?_
  go_big_move; refine hK _ _ rfl ?_; clear hK K
  apply wpSq_end
  refine hK1 _ _ ?_
  refine wp_seq_k ?_
  intro K2 hK2
  refine wp_seq_k ?_
  intro K3 hK3
  refine wp_region_sq [0, 1, 2] (by kernel_rfl) ?_
  refine wpSq_call rfl (by kernel_rfl) fun K hK => ?_
  go_big_move; refine hK _ _ rfl ?_; clear hK K
  refine wpSq_call rfl (by kernel_rfl) fun K hK => ?_
  go_big_op; refine hK _ _ rfl ?_; clear hK K
  refine wpSq_call rfl (by kernel_rfl) fun K hK => ?_
  go_big_op; refine hK _ _ rfl ?_; clear hK K
  apply wpSq_end
  refine hK3 _ _ ?_
  refine wp_cond_false (congrArg Value.bool (show _ = false from (by first | rfl | assumption | (simp; done) | exact decide_eq_false (by omega) | omega))) ?_
  refine wp_skip ?_
  refine hK2 _ _ ?_
  refine wp_seq_k ?_
  intro K4 hK4
  refine wp_region_sq [0, 1, 2, 3, 4, 5, 6, 7, 8] (by kernel_rfl) ?_
  refine wpSq_call rfl (by kernel_rfl) fun K hK => ?_
  go_big_move; refine hK _ _ rfl ?_; clear hK K
  refine wpSq_call rfl (by kernel_rfl) fun K hK => ?_
  go_big_op
  go_fit (scutS_some s _ k hk hs HI.out)
  rintro e w_2 ⟨rfl, hb_2⟩
  replace x_b1 := x_b1.bl hb_2; replace hb := hb.trans (hb_2.mono hb.size)
  rw [HT.out, HB.out]
  refine hK _ _ rfl ?_
  clear hK K hb_2
  refine wpSq_call rfl (by kernel_rfl) fun K hK => ?_
  go_big_move; refine hK _ _ rfl ?_; clear hK K
  refine wpSq_call rfl (by kernel_rfl) fun K hK => ?_
  go_big_op; refine hK _ _ rfl ?_; clear hK K
  refine wpSq_call rfl (by kernel_rfl) fun K hK => ?_
  go_big_op; refine hK _ _ rfl ?_; clear hK K
  refine wpSq_call rfl (by kernel_rfl) fun K hK => ?_
  go_big_op; refine hK _ _ rfl ?_; clear hK K
  refine wpSq_call rfl (by kernel_rfl) fun K hK => ?_
  go_big_move; refine hK _ _ rfl ?_; clear hK K
  refine wpSq_call rfl (by kernel_rfl) fun K hK => ?_
  go_big_move; refine hK _ _ rfl ?_; clear hK K
  refine wpSq_call rfl (by kernel_rfl) fun K hK => ?_
  go_big_move; refine hK _ _ rfl ?_; clear hK K
  apply wpSq_end
  refine hK4 _ _ ?_
  refine wp_seq_k ?_
  intro K5 hK5
  refine wp_seq_k ?_
  intro K6 hK6
  refine wp_region_sq [0, 1] (by kernel_rfl) ?_
  refine wpSq_call rfl (by kernel_rfl) fun K hK => ?_
  go_big_move; refine hK _ _ rfl ?_; clear hK K
  refine wpSq_call rfl (by kernel_rfl) fun K hK => ?_
  go_big_op; refine hK _ _ rfl ?_; clear hK K
  apply wpSq_end
  refine hK6 _ _ ?_
  refine wp_cond_false (congrArg Value.bool (show _ = false from (by first | rfl | assumption | (simp; done) | exact decide_eq_false (by omega) | omega))) ?_
  refine wp_skip ?_
  refine hK5 _ _ ?_
  refine wp_seq_k ?_
  intro K7 hK7
  refine wp_region_sq [0, 1, 2, 3, 4, 5, 6, 7] (by kernel_rfl) ?_
  refine wpSq_call rfl (by kernel_rfl) fun K hK => ?_
  go_big_move; refine hK _ _ rfl ?_; clear hK K
  refine wpSq_call rfl (by kernel_rfl) fun K hK => ?_
  go_big_op
  go_fit (zparse_ok T _ hTs H.out)
  rintro e w_3 ⟨v_g, rfl, g, hb_3⟩
  replace x_b1 := x_b1.bl hb_3; replace hb := hb.trans (hb_3.mono hb.size)
  obtain ⟨n_g, o_g, k_g, c_g, rfl⟩ := g.open2
  have Lg := hide (g.lenOf (LT.out))
  refine hK _ _ rfl ?_
  clear hK K hb_3
  refine wpSq_call rfl (by kernel_rfl) fun K hK => ?_
  go_big_move; refine hK _ _ rfl ?_; clear hK K
  refine wpSq_call rfl (by kernel_rfl) fun K hK => ?_
  go_big_op; refine hK _ _ rfl ?_; clear hK K
  refine wpSq_call rfl (by kernel_rfl) fun K hK => ?_
  go_big_op; refine hK _ _ rfl ?_; clear hK K
  refine wpSq_call rfl (by kernel_rfl) fun K hK => ?_
  go_big_op
  have lt_b1 := x_b1.lt
  obtain ⟨p_b2, w_4, eP, eW, x_b2, hn, kb_b2⟩ := newBox w_3 #[.bool false, .slice none 0 0] 24 hb.size
  have ne_b1_b2 : Hid (p_b1 ≠ p_b2) := Nat.ne_of_lt (eP ▸ lt_b1)
  rw [eW, eP]
  clear eW eP lt_b1
  replace x_b1 := x_b1.bl hn; replace g := g.bl hn; replace hb := hb.trans (hn.mono hb.size)
  refine hK _ _ rfl ?_; clear hK K hn
  refine wpSq_call rfl (by kernel_rfl) fun K hK => ?_
  obtain ⟨d0, d1⟩ := x_b2.f2
  have f0 := x_b2.free 0; have f1 := x_b2.free 1
  go_big_op
  have hnd := x_b2.nod rfl rfl
  obtain ⟨w_5, eW, x_b2', ho⟩ : ∃ w', ((w_4.setCell ⟨p_b2, 0, none⟩ (.bool n_g)).setCell ⟨p_b2, 1, none⟩ (.slice o_g k_g c_g)) = w' ∧ Bs w' p_b2 #[.bool n_g, .slice o_g k_g c_g] 24 ∧ Only p_b2 w_4 w' := x_b2.setN [(0, .bool n_g), (1, .slice o_g k_g c_g)]
  rw [eW]; clear eW d0 d1 f0 f1 x_b2
  have x_b2 := x_b2'; clear x_b2'
  replace x_b1 := x_b1.frame ho ne_b1_b2; replace g := g.fr hnd ho; replace hb := belowOnly hb ho kb_b2
  refine hK _ _ rfl ?_; clear hK K ho hnd
  refine wpSq_call rfl (by kernel_rfl) fun K hK => ?_
  go_big_move; refine hK _ _ rfl ?_; clear hK K
  apply wpSq_end
  refine hK7 _ _ ?_
  refine wp_seq_k ?_
  intro K8 hK8
  refine wp_seq_k ?_
  intro K9 hK9
  refine wp_region_sq [0, 1] (by kernel_rfl) ?_
  refine wpSq_call rfl (by kernel_rfl) fun K hK => ?_
  go_big_move; refine hK _ _ rfl ?_; clear hK K
  refine wpSq_call rfl (by kernel_rfl) fun K hK => ?_
  go_big_op; refine hK _ _ rfl ?_; clear hK K
  apply wpSq_end
  refine hK9 _ _ ?_
  refine wp_cond_false (congrArg Value.bool (show _ = false from (by first | rfl | assumption | (simp; done) | exact decide_eq_false (by omega) | omega))) ?_
  refine wp_skip ?_
  refine hK8 _ _ ?_
  refine wp_seq_k ?_
  intro K10 hK10
  refine wp_region_sq [0, 1, 2, 3, 4, 5, 6, 7] (by kernel_rfl) ?_
  refine wpSq_call rfl (by kernel_rfl) fun K hK => ?_
  go_big_move; refine hK _ _ rfl ?_; clear hK K
  refine wpSq_call rfl (by kernel_rfl) fun K hK => ?_
  go_big_op
  go_fit (parseDen_ok B _ hBs HM.out H2.out)
  rintro e w_6 ⟨v_k, rfl, k, hb_6⟩
  replace x_b1 := x_b1.bl hb_6; replace g := g.bl hb_6; replace x_b2 := x_b2.bl hb_6; replace hb := hb.trans (hb_6.mono hb.size)
  obtain ⟨n_k, o_k, k_k, c_k, rfl⟩ := k.open2
  have Lk := hide (k.lenOf (LB.out))
  refine hK _ _ rfl ?_
  clear hK K hb_6
  refine wpSq_call rfl (by kernel_rfl) fun K hK => ?_
  go_big_move; refine hK _ _ rfl ?_; clear hK K
  refine wpSq_call rfl (by kernel_rfl) fun K hK => ?_
  go_big_op; refine hK _ _ rfl ?_; clear hK K
  refine wpSq_call rfl (by kernel_rfl) fun K hK => ?_
  go_big_op; refine hK _ _ rfl ?_; clear hK K
  refine wpSq_call rfl (by kernel_rfl) fun K hK => ?_
  go_big_op
  have lt_b1 := x_b1.lt
  have lt_b2 := x_b2.lt
  obtain ⟨p_b3, w_7, eP, eW, x_b3, hn, kb_b3⟩ := newBox w_6 #[.bool false, .slice none 0 0] 24 hb.size
  have ne_b1_b3 : Hid (p_b1 ≠ p_b3) := Nat.ne_of_lt (eP ▸ lt_b1)
  have ne_b2_b3 : Hid (p_b2 ≠ p_b3) := Nat.ne_of_lt (eP ▸ lt_b2)
  rw [eW, eP]
  clear eW eP lt_b1 lt_b2
  replace x_b1 := x_b1.bl hn; replace g := g.bl hn; replace x_b2 := x_b2.bl hn; replace k := k.bl hn; replace hb := hb.trans (hn.mono hb.size)
  refine hK _ _ rfl ?_; clear hK K hn
  refine wpSq_call rfl (by kernel_rfl) fun K hK => ?_
  obtain ⟨d0, d1⟩ := x_b3.f2
  have f0 := x_b3.free 0; have f1 := x_b3.free 1
  go_big_op
  have hnd := x_b3.nod rfl rfl
  obtain ⟨w_8, eW, x_b3', ho⟩ : ∃ w', ((w_7.setCell ⟨p_b3, 0, none⟩ (.bool n_k)).setCell ⟨p_b3, 1, none⟩ (.slice o_k k_k c_k)) = w' ∧ Bs w' p_b3 #[.bool n_k, .slice o_k k_k c_k] 24 ∧ Only p_b3 w_7 w' := x_b3.setN [(0, .bool n_k), (1, .slice o_k k_k c_k)]
  rw [eW]; clear eW d0 d1 f0 f1 x_b3
  have x_b3 := x_b3'; clear x_b3'
  replace x_b1 := x_b1.frame ho ne_b1_b3; replace g := g.fr hnd ho; replace x_b2 := x_b2.frame ho ne_b2_b3; replace k := k.fr hnd ho; replace hb := belowOnly hb ho kb_b3
  refine hK _ _ rfl ?_; clear hK K ho hnd
  refine wpSq_call rfl (by kernel_rfl) fun K hK => ?_
  go_big_move; refine hK _ _ rfl ?_; clear hK K
  apply wpSq_end
  refine hK10 _ _ ?_
  refine wp_seq_k ?_
  intro K11 hK11
  refine wp_seq_k ?_
  intro K12 hK12
  refine wp_region_sq [0, 1] (by kernel_rfl) ?_
  refine wpSq_call rfl (by kernel_rfl) fun K hK => ?_
  go_big_move; refine hK _ _ rfl ?_; clear hK K
  refine wpSq_call rfl (by kernel_rfl) fun K hK => ?_
  go_big_op; refine hK _ _ rfl ?_; clear hK K
  apply wpSq_end
  refine hK12 _ _ ?_
  refine wp_cond_false (congrArg Value.bool (show _ = false from (by first | rfl | assumption | (simp; done) | exact decide_eq_false (by omega) | omega))) ?_
  refine wp_skip ?_
  refine hK11 _ _ ?_
  refine wp_seq_k ?_
  intro K13 hK13
  refine wp_region_sq [0, 1, 2, 3, 4, 5, 6] (by kernel_rfl) ?_
  refine wpSq_call rfl (by kernel_rfl) fun K hK => ?_
  obtain ⟨d0, d1⟩ := x_b2.f2
  go_big_op; refine hK _ _ rfl ?_; clear hK K d0 d1
  refine wpSq_call rfl (by kernel_rfl) fun K hK => ?_
  obtain ⟨d0, d1⟩ := x_b3.f2
  go_big_op; refine hK _ _ rfl ?_; clear hK K d0 d1
  refine wpSq_call rfl (by kernel_rfl) fun K hK => ?_
  go_big_op
  go_fit (fmake_any (g.zn Lg.out) (k.zn Lk.out) (by omega) (by omega) H0.out)
  rintro e w_9 ⟨_, rfl, ⟨n_ra, o_ra, k_ra, c_ra, n_rb, o_rb, k_rb, c_rb, rfl, r1, r2⟩, hb_9⟩
  clear x_b2 x_b3
  replace x_b1 := x_b1.bl hb_9; replace g := g.bl hb_9; replace k := k.bl hb_9; replace hb := hb.trans (hb_9.mono hb.size)
  have Lr1 := hide (r1.lenOf (qN_len (H0.out) (Lg.out)))
  have Lr2 := hide (r2.lenOf (qD_len (H0.out) (Lk.out)))
  refine hK _ _ rfl ?_
  clear hK K hb_9
  refine wpSq_call rfl (by kernel_rfl) fun K hK => ?_
  go_big_op; refine hK _ _ rfl ?_; clear hK K
  refine wpSq_call rfl (by kernel_rfl) fun K hK => ?_
  go_big_op; refine hK _ _ rfl ?_; clear hK K
  refine wpSq_call rfl (by kernel_rfl) fun K hK => ?_
  obtain ⟨d0, d1, d2, d3⟩ := x_b1.f4
  have f0 := x_b1.free 0; have f1 := x_b1.free 1; have f2 := x_b1.free 2; have f3 := x_b1.free 3
  go_big_op
  have hnd := x_b1.nod rfl rfl
  obtain ⟨w_10, eW, x_b1', ho⟩ : ∃ w', ((((w_9.setCell ⟨p_b1, 0, none⟩ (.bool n_ra)).setCell ⟨p_b1, 1, none⟩ (.slice o_ra k_ra c_ra)).setCell ⟨p_b1, 2, none⟩ (.bool n_rb)).setCell ⟨p_b1, 3, none⟩ (.slice o_rb k_rb c_rb)) = w' ∧ Bs w' p_b1 #[.bool n_ra, .slice o_ra k_ra c_ra, .bool n_rb, .slice o_rb k_rb c_rb] 26 ∧ Only p_b1 w_9 w' := x_b1.setN [(0, .bool n_ra), (1, .slice o_ra k_ra c_ra), (2, .bool n_rb), (3, .slice o_rb k_rb c_rb)]
  rw [eW]; clear eW d0 d1 d2 d3 f0 f1 f2 f3 x_b1
  have x_b1 := x_b1'; clear x_b1'
  clear g k
  replace r1 := r1.fr hnd ho; replace r2 := r2.fr hnd ho; replace hb := belowOnly hb ho kb_b1
  refine hK _ _ rfl ?_; clear hK K ho hnd
  refine wpSq_call rfl (by kernel_rfl) fun K hK => ?_
  go_big_move; refine hK _ _ rfl ?_; clear hK K
  apply wpSq_end
  refine hK13 _ _ ?_
  refine wp_ret ?_
  try dsimp only [Exit.then, Exit.inBlock]
  obtain ⟨r0_0, r0_1, r0_2, r0_3⟩ := x_b1.f4
  refine bodyPost_ret (v := (.tuple #[(.agg #[.bool n_ra, .slice o_ra k_ra c_ra, .bool n_rb, .slice o_rb k_rb c_rb]), (.int .i64 0)])) (by simp [results, Tryz.results48, go_sem, r0_0, r0_1, r0_2, r0_3]) rfl ?_
  exact ⟨_, rfl, .mk' r1 r2, hb⟩
end
/-! the reference -/
section
variable {s : ByteArray} {k : Nat}
end
end Go.Proofs.YtkgbfnmlpajblaaGreatDoor

/- Texts of rationals by the reference; what both Parses answer. -/
namespace Go.Proofs.YtkgbfnmlpajblaaGreatDoor
open Go Go.RowKit Dig
set_option linter.unusedVariables false

section
variable {w : World} {va vb : Value} {x y u v : Int} {l m k n : Nat}
end

end Go.Proofs.YtkgbfnmlpajblaaGreatDoor

/- frac: powers by squares. -/
namespace Go.Proofs.YtkgbfnmlpajblaaGreatDoor
open Go Go.RowKit Dig
set_option linter.unusedVariables false

theorem i64_and_one (n : Int) : bits .and .i64 n 1 = n % 2 := by
  have h1 : (BitVec.ofInt 64 1).toNat = 2 ^ 1 - 1 := by decide
  have key : (BitVec.ofInt 64 n &&& BitVec.ofInt 64 1).toNat = (n % ((2 ^ 64 : Nat) : Int)).toNat % 2 ^ 1 := by
    rw [BitVec.toNat_and, BitVec.toNat_ofInt, h1, Nat.and_two_pow_sub_one_eq_mod]
  show IntKind.i64.wrap ((BitVec.ofInt 64 n &&& BitVec.ofInt 64 1).toNat : Nat) = n % 2
  rw [key, IntKind.wrap_i64]
  omega
theorem bitLen_div (N : Nat) (h : N < 18446744073709551616) : N / 2 ^ Lib.bitLen N = 0 ∧ Lib.bitLen N ≤ 64 := by
  by_cases h0 : N = 0
  · subst h0; decide
  · have hb := Lib.bitLenAux_bounds 64 N (by omega) h0
    have hL : Lib.bitLen N = Lib.bitLenAux 64 N := rfl
    rw [← hL] at hb
    refine ⟨Nat.div_eq_of_lt hb.2.2, ?_⟩
    have : 2 ^ (Lib.bitLen N - 1) < 2 ^ 64 := by omega
    have := (Nat.pow_lt_pow_iff_right (by decide : 1 < 2)).1 this
    omega
/-- One bit more of the exponent. -/
theorem ipow_bit (x : Int) (n i : Nat) : (x ^ (n / 2 ^ (i + 1)) * x ^ (n / 2 ^ (i + 1)) * if n / 2 ^ i % 2 = 1 then x else 1) = x ^ (n / 2 ^ i) ∧ 2 * (n / 2 ^ (i + 1)) ≤ n / 2 ^ i := by
  have e : n / 2 ^ (i + 1) = n / 2 ^ i / 2 := by rw [Nat.pow_succ, Nat.div_div_eq_div_mul]
  rw [e, ← Int.pow_add]
  generalize n / 2 ^ i = z
  refine ⟨?_, by omega⟩
  by_cases h : z % 2 = 1
  · rw [if_pos h, ← Int.pow_succ]; congr 1; omega
  · rw [if_neg h, Int.mul_one]; congr 1; omega
theorem ipow_twice (x : Int) (k : Nat) : x ^ k * x ^ k = x ^ (2 * k) := by rw [← Int.pow_add]; congr 1; omega
set_option maxHeartbeats 4000000 in
set_option maxRecDepth 20000 in
theorem qpow_any {w : World} {va : Value} {x : Int} {l M : Nat} (N : Nat) (ha : ZN w va x l) (hl : l ≤ 10000000) (hN : N ≤ 9223372036854775807) (hM : M ≤ 10000000) (hlen : ∀ m, m ≤ N → (dig (x ^ m).natAbs).length ≤ M) :
    Calls Tryz.prog 73 #[va, .int .i64 N] w fun e w' => ∃ r, e = .returned r ∧ ZC w' r (x ^ N) ∧ Below w.heap.size w w' := by
  have HL := hide hlen
  obtain ⟨hd, hLe⟩ := bitLen_div N (by omega)
  have HD := hide hd
  clear hlen hd
  obtain ⟨n_0, o_0, k_0, c_0, rfl⟩ := ha.open2
  go_enter Tryz.func73, Tryz.ntmps73
  have hb := Below.refl w.heap.size w
  refine wp_seq_k ?_
  intro K1 hK1
  refine wp_region_sq [0, 1] (by kernel_rfl) ?_
  refine wpSq_call rfl (by kernel_rfl) fun K hK => ?_
  go_big_op
  obtain ⟨p_b1, w_1, eP, eW, x_b1, hn, kb_b1⟩ := newBox w #[.bool n_0, .slice o_0 k_0 c_0] 24 hb.size
  rw [eW, eP]
  clear eW eP
  replace ha := ha.bl hn; replace hb := hb.trans (hn.mono hb.size)
  refine hK _ _ rfl ?_; clear hK K hn
  refine wpSq_call rfl (by kernel_rfl) fun K hK => ?_
  go_big_op
  have lt_b1 := x_b1.lt
  obtain ⟨p_b2, w_2, eP, eW, x_b2, hn, kb_b2⟩ := newBox w_1 #[.bool false, .slice none 0 0] 24 hb.size
  have ne_b1_b2 : Hid (p_b1 ≠ p_b2) := Nat.ne_of_lt (eP ▸ lt_b1)
  rw [eW, eP]
  clear eW eP lt_b1
  replace ha := ha.bl hn; replace x_b1 := x_b1.bl hn; replace hb := hb.trans (hn.mono hb.size)
  refine hK _ _ rfl ?_; clear hK K hn
  apply wpSq_end
  refine hK1 _ _ ?_
  refine wp_seq_k ?_
  intro K2 hK2
  refine wp_region_sq [0, 1, 2] (by kernel_rfl) ?_
  refine wpSq_call rfl (by kernel_rfl) fun K hK => ?_
  go_big_op
  go_fit (from_any (1 : Int) _ (by decide) (by decide))
  rintro e w_3 ⟨v_g1, rfl, g1, hb_3⟩
  replace ha := ha.bl hb_3; replace x_b1 := x_b1.bl hb_3; replace x_b2 := x_b2.bl hb_3; replace hb := hb.trans (hb_3.mono hb.size)
  replace g1 := g1.rd
  obtain ⟨n_g1, o_g1, k_g1, c_g1, rfl⟩ := g1.open2
  have Lg1 := hide (g1.lenOf (zlen_i (1 : Int) (by decide) (by decide)))
  refine hK _ _ rfl ?_
  clear hK K hb_3
  refine wpSq_call rfl (by kernel_rfl) fun K hK => ?_
  go_big_op
  have lt_b1 := x_b1.lt
  have lt_b2 := x_b2.lt
  obtain ⟨p_b3, w_4, eP, eW, x_b3, hn, kb_b3⟩ := newBox w_3 #[.bool false, .slice none 0 0] 24 hb.size
  have ne_b1_b3 : Hid (p_b1 ≠ p_b3) := Nat.ne_of_lt (eP ▸ lt_b1)
  have ne_b2_b3 : Hid (p_b2 ≠ p_b3) := Nat.ne_of_lt (eP ▸ lt_b2)
  rw [eW, eP]
  clear eW eP lt_b1 lt_b2
  replace ha := ha.bl hn; replace x_b1 := x_b1.bl hn; replace x_b2 := x_b2.bl hn; replace g1 := g1.bl hn; replace hb := hb.trans (hn.mono hb.size)
  refine hK _ _ rfl ?_; clear hK K hn
  refine wpSq_call rfl (by kernel_rfl) fun K hK => ?_
  obtain ⟨d0, d1⟩ := x_b3.f2
  have f0 := x_b3.free 0; have f1 := x_b3.free 1
  go_big_op
  have hnd := x_b3.nod rfl rfl
  obtain ⟨w_5, eW, x_b3', ho⟩ : ∃ w', ((w_4.setCell ⟨p_b3, 0, none⟩ (.bool n_g1)).setCell ⟨p_b3, 1, none⟩ (.slice o_g1 k_g1 c_g1)) = w' ∧ Bs w' p_b3 #[.bool n_g1, .slice o_g1 k_g1 c_g1] 24 ∧ Only p_b3 w_4 w' := x_b3.setN [(0, .bool n_g1), (1, .slice o_g1 k_g1 c_g1)]
  rw [eW]; clear eW d0 d1 f0 f1 x_b3
  have x_b3 := x_b3'; clear x_b3'
  replace ha := ha.fr hnd ho; replace x_b1 := x_b1.frame ho ne_b1_b3; replace x_b2 := x_b2.frame ho ne_b2_b3; replace g1 := g1.fr hnd ho; replace hb := belowOnly hb ho kb_b3
  refine hK _ _ rfl ?_; clear hK K ho hnd
  apply wpSq_end
  refine hK2 _ _ ?_
  refine wp_seq_k ?_
  intro K3 hK3
  refine wp_seq_k ?_
  intro K4 hK4
  refine wp_region_sq [0, 1, 2, 3, 4] (by kernel_rfl) ?_
  refine wpSq_call rfl (by kernel_rfl) fun K hK => ?_
  go_big_move; refine hK _ _ rfl ?_; clear hK K
  refine wpSq_call rfl (by kernel_rfl) fun K hK => ?_
  go_big_op; refine hK _ _ rfl ?_; clear hK K
  refine wpSq_call rfl (by kernel_rfl) fun K hK => ?_
  go_big_op
  go_fit (Tryz.bits_Len (N : Int) _ (by omega) (by omega))
  rintro e w_6 ⟨rfl, e_6⟩
  (first | rw [e_6] | rw [← e_6]); clear e_6 w_6
  rw [Int.toNat_natCast]
  refine hK _ _ rfl ?_
  clear hK K
  refine wpSq_call rfl (by kernel_rfl) fun K hK => ?_
  go_big_op; refine hK _ _ rfl ?_; clear hK K
  refine wpSq_call rfl (by kernel_rfl) fun K hK => ?_
  go_big_move; refine hK _ _ rfl ?_; clear hK K
  apply wpSq_end
  refine hK4 _ _ ?_
  refine wp_block ?_
  generalize Lib.bitLen N = L at *
  go_loopg [6] L (fun k s6 wr => s6 = .int .i64 ((k : Int) - 1) ∧ k ≤ L ∧ ∃ sb so sk sc, Bs wr p_b1 #[.bool n_0, .slice o_0 k_0 c_0] 24 ∧ Bs wr p_b2 #[.bool false, .slice none 0 0] 24 ∧ Bs wr p_b3 #[.bool sb, .slice so sk sc] 24 ∧ ZN wr (.agg #[.bool n_0, .slice o_0 k_0 c_0]) x l ∧ ZC wr (.agg #[.bool sb, .slice so sk sc]) (x ^ (N / 2 ^ k)) ∧ Below w.heap.size w wr)
  case atStart => exact ⟨rfl, Nat.le_refl _, _, _, _, _, x_b1, x_b2, x_b3, ha, by rw [HD.out, Int.pow_zero]; exact g1, hb⟩
  case round =>
  clear ha x_b1 x_b2 g1 x_b3
  obtain ⟨rfl, hk, sb, so, sk, sc, x_b1, x_b2, x_b3, ha, g, hb⟩ := hrel
  cases gk with
  | zero =>
    have Lg := hide (g.lenOf (HL.out _ (Nat.div_le_self _ _)))
    have e0 : N / 2 ^ 0 = N := by rw [Nat.pow_zero, Nat.div_one]
    rw [e0] at g
    refine wp_seq_k ?_
    intro K5 hK5
    refine wp_seq_k ?_
    intro K6 hK6
    refine wp_region_sq [0, 1] (by kernel_rfl) ?_
    refine wpSq_call rfl (by kernel_rfl) fun K hK => ?_
    go_big_move; refine hK _ _ rfl ?_; clear hK K
    refine wpSq_call rfl (by kernel_rfl) fun K hK => ?_
    go_big_op; refine hK _ _ rfl ?_; clear hK K
    apply wpSq_end
    refine hK6 _ _ ?_
    refine wp_cond_false (congrArg Value.bool (show _ = false from (by first | rfl | assumption | (simp; done) | exact decide_eq_false (by omega) | omega))) ?_
    refine wp_exit ?_
    refine hK3 _ _ ?_
    refine wp_seq_k ?_
    intro K7 hK7
    refine wp_region_sq [0, 1] (by kernel_rfl) ?_
    refine wpSq_call rfl (by kernel_rfl) fun K hK => ?_
    obtain ⟨d0, d1⟩ := x_b3.f2
    go_big_op; refine hK _ _ rfl ?_; clear hK K d0 d1
    refine wpSq_call rfl (by kernel_rfl) fun K hK => ?_
    obtain ⟨d0, d1⟩ := x_b2.f2
    have f0 := x_b2.free 0; have f1 := x_b2.free 1
    go_big_op
    have hnd := x_b2.nod rfl rfl
    obtain ⟨w_7, eW, x_b2', ho⟩ : ∃ w', ((wr.setCell ⟨p_b2, 0, none⟩ (.bool sb)).setCell ⟨p_b2, 1, none⟩ (.slice so sk sc)) = w' ∧ Bs w' p_b2 #[.bool sb, .slice so sk sc] 24 ∧ Only p_b2 wr w' := x_b2.setN [(0, .bool sb), (1, .slice so sk sc)]
    rw [eW]; clear eW d0 d1 f0 f1 x_b2
    have x_b2 := x_b2'; clear x_b2'
    replace x_b1 := x_b1.frame ho ne_b1_b2; replace ha := ha.fr hnd ho; replace x_b3 := x_b3.frame ho ne_b2_b3.symm; replace g := g.fr hnd ho; replace hb := belowOnly hb ho kb_b2
    refine hK _ _ rfl ?_; clear hK K ho hnd
    apply wpSq_end
    refine hK7 _ _ ?_
    refine wp_ret ?_
    try dsimp only [Exit.then, Exit.inBlock]
    obtain ⟨r0_0, r0_1⟩ := x_b2.f2
    refine bodyPost_ret (v := (.agg #[.bool sb, .slice so sk sc])) (by simp [results, Tryz.results73, go_sem, r0_0, r0_1]) rfl ?_
    exact ⟨_, rfl, g, hb⟩
  | succ k =>
    have hpb := (ipow_bit x N k).1
    have hle := (ipow_bit x N k).2
    have Lg := hide (g.lenOf (HL.out _ (Nat.div_le_self _ _)))
    have hd2 := Nat.div_le_self N (2 ^ k)
    have HL2 := hide (show (dig (x ^ (N / 2 ^ (k + 1)) * x ^ (N / 2 ^ (k + 1))).natAbs).length ≤ M by rw [ipow_twice]; exact HL.out _ (Nat.le_trans hle hd2))
    have HP := hide hpb
    rw [show (((k + 1 : Nat) : Int) - 1) = (k : Int) from by omega]
    have hk64 : k < 64 := by omega
    clear hpb hle hd2
    refine wp_seq_k ?_
    intro K5 hK5
    refine wp_seq_k ?_
    intro K6 hK6
    refine wp_region_sq [0, 1] (by kernel_rfl) ?_
    refine wpSq_call rfl (by kernel_rfl) fun K hK => ?_
    go_big_move; refine hK _ _ rfl ?_; clear hK K
    refine wpSq_call rfl (by kernel_rfl) fun K hK => ?_
    go_big_op; refine hK _ _ rfl ?_; clear hK K
    apply wpSq_end
    refine hK6 _ _ ?_
    refine wp_cond_true (congrArg Value.bool (show _ = true from (by first | rfl | assumption | (simp; done) | exact decide_eq_true (by omega) | omega))) ?_
    refine wp_skip ?_
    refine hK5 _ _ ?_
    refine wp_seq_k ?_
    intro K7 hK7
    refine wp_block ?_
    refine wp_seq_k ?_
    intro K8 hK8
    refine wp_region_sq [0, 1, 2, 3] (by kernel_rfl) ?_
    refine wpSq_call rfl (by kernel_rfl) fun K hK => ?_
    obtain ⟨d0, d1⟩ := x_b3.f2
    go_big_op; refine hK _ _ rfl ?_; clear hK K d0 d1
    refine wpSq_call rfl (by kernel_rfl) fun K hK => ?_
    obtain ⟨d0, d1⟩ := x_b3.f2
    go_big_op; refine hK _ _ rfl ?_; clear hK K d0 d1
    refine wpSq_call rfl (by kernel_rfl) fun K hK => ?_
    go_big_op
    go_fit (zmul_any (g.zn Lg.out) (g.zn Lg.out) (by omega) (by omega) )
    rintro e w_7 ⟨v_g2, rfl, g2, hb_7⟩
    replace x_b1 := x_b1.bl hb_7; replace ha := ha.bl hb_7; replace x_b2 := x_b2.bl hb_7; replace x_b3 := x_b3.bl hb_7; replace g := g.bl hb_7; replace hb := hb.trans (hb_7.mono hb.size)
    replace g2 := g2.rd
    obtain ⟨n_g2, o_g2, k_g2, c_g2, rfl⟩ := g2.open2
    have Lg2 := hide (g2.lenOf (zlen_mul (Lg.out) (Lg.out)))
    refine hK _ _ rfl ?_
    clear hK K hb_7
    refine wpSq_call rfl (by kernel_rfl) fun K hK => ?_
    obtain ⟨d0, d1⟩ := x_b3.f2
    have f0 := x_b3.free 0; have f1 := x_b3.free 1
    go_big_op
    have hnd := x_b3.nod rfl rfl
    obtain ⟨w_8, eW, x_b3', ho⟩ : ∃ w', ((w_7.setCell ⟨p_b3, 0, none⟩ (.bool n_g2)).setCell ⟨p_b3, 1, none⟩ (.slice o_g2 k_g2 c_g2)) = w' ∧ Bs w' p_b3 #[.bool n_g2, .slice o_g2 k_g2 c_g2] 24 ∧ Only p_b3 w_7 w' := x_b3.setN [(0, .bool n_g2), (1, .slice o_g2 k_g2 c_g2)]
    rw [eW]; clear eW d0 d1 f0 f1 x_b3
    have x_b3 := x_b3'; clear x_b3'
    clear g
    replace x_b1 := x_b1.frame ho ne_b1_b3; replace ha := ha.fr hnd ho; replace x_b2 := x_b2.frame ho ne_b2_b3; replace g2 := g2.fr hnd ho; replace hb := belowOnly hb ho kb_b3
    refine hK _ _ rfl ?_; clear hK K ho hnd
    apply wpSq_end
    refine hK8 _ _ ?_
    refine wp_seq_k ?_
    intro K9 hK9
    refine wp_region_sq [0, 1, 2, 3, 4] (by kernel_rfl) ?_
    refine wpSq_call rfl (by kernel_rfl) fun K hK => ?_
    go_big_move; refine hK _ _ rfl ?_; clear hK K
    refine wpSq_call rfl (by kernel_rfl) fun K hK => ?_
    go_big_move; refine hK _ _ rfl ?_; clear hK K
    refine wpSq_call rfl (by kernel_rfl) fun K hK => ?_
    go_big_op; refine hK _ _ rfl ?_; clear hK K
    refine wpSq_call rfl (by kernel_rfl) fun K hK => ?_
    go_big_op; refine hK _ _ rfl ?_; clear hK K
    refine wpSq_call rfl (by kernel_rfl) fun K hK => ?_
    go_big_op; refine hK _ _ rfl ?_; clear hK K
    apply wpSq_end
    refine hK9 _ _ ?_
    have Lg2 := hide (g2.lenOf (HL2.out))
    by_cases hbit : N / 2 ^ k % 2 = 1
    · have HB := hide (show ((N : Int) / 2 ^ k % 2 == 1) = true by
        have : (N : Int) / 2 ^ k % 2 = 1 := by exact_mod_cast hbit
        rw [this]; rfl)
      rw [if_pos hbit] at HP
      clear hbit
      refine wp_cond_true (congrArg Value.bool (show _ = true from (by rw [i64_and_one]; exact HB.out))) ?_
      refine wp_region_sq [0, 1, 2, 3] (by kernel_rfl) ?_
      refine wpSq_call rfl (by kernel_rfl) fun K hK => ?_
      obtain ⟨d0, d1⟩ := x_b3.f2
      go_big_op; refine hK _ _ rfl ?_; clear hK K d0 d1
      refine wpSq_call rfl (by kernel_rfl) fun K hK => ?_
      obtain ⟨d0, d1⟩ := x_b1.f2
      go_big_op; refine hK _ _ rfl ?_; clear hK K d0 d1
      refine wpSq_call rfl (by kernel_rfl) fun K hK => ?_
      go_big_op
      go_fit (zmul_any (g2.zn Lg2.out) ha (by omega) (by omega) )
      rintro e w_9 ⟨v_g3, rfl, g3, hb_9⟩
      replace x_b1 := x_b1.bl hb_9; replace ha := ha.bl hb_9; replace x_b2 := x_b2.bl hb_9; replace x_b3 := x_b3.bl hb_9; replace g2 := g2.bl hb_9; replace hb := hb.trans (hb_9.mono hb.size)
      replace g3 := g3.rd
      obtain ⟨n_g3, o_g3, k_g3, c_g3, rfl⟩ := g3.open2
      have Lg3 := hide (g3.lenOf (zlen_mul (Lg2.out) (ha.len)))
      rw [HP.out] at g3
      refine hK _ _ rfl ?_
      clear hK K hb_9
      refine wpSq_call rfl (by kernel_rfl) fun K hK => ?_
      obtain ⟨d0, d1⟩ := x_b3.f2
      have f0 := x_b3.free 0; have f1 := x_b3.free 1
      go_big_op
      have hnd := x_b3.nod rfl rfl
      obtain ⟨w_10, eW, x_b3', ho⟩ : ∃ w', ((w_9.setCell ⟨p_b3, 0, none⟩ (.bool n_g3)).setCell ⟨p_b3, 1, none⟩ (.slice o_g3 k_g3 c_g3)) = w' ∧ Bs w' p_b3 #[.bool n_g3, .slice o_g3 k_g3 c_g3] 24 ∧ Only p_b3 w_9 w' := x_b3.setN [(0, .bool n_g3), (1, .slice o_g3 k_g3 c_g3)]
      rw [eW]; clear eW d0 d1 f0 f1 x_b3
      have x_b3 := x_b3'; clear x_b3'
      clear g2
      replace x_b1 := x_b1.frame ho ne_b1_b3; replace ha := ha.fr hnd ho; replace x_b2 := x_b2.frame ho ne_b2_b3; replace g3 := g3.fr hnd ho; replace hb := belowOnly hb ho kb_b3
      refine hK _ _ rfl ?_; clear hK K ho hnd
      apply wpSq_end
      refine hK7 _ _ ?_
      refine wp_region_sq [0, 1, 2] (by kernel_rfl) ?_
      refine wpSq_call rfl (by kernel_rfl) fun K hK => ?_
      go_big_move; refine hK _ _ rfl ?_; clear hK K
      refine wpSq_call rfl (by kernel_rfl) fun K hK => ?_
      go_big_op; refine hK _ _ rfl ?_; clear hK K
      refine wpSq_call rfl (by kernel_rfl) fun K hK => ?_
      go_big_move; refine hK _ _ rfl ?_; clear hK K
      apply wpSq_end
      refine ‹∀ (a' : Act) (w' : World), Handed _ _ a' w' → _› _ _ ?_
      go_roundg k
      case rel => exact ⟨rfl, by omega, _, _, _, _, x_b1, x_b2, x_b3, ha, g3, hb⟩
      case measure => omega
    · have HB := hide (show ((N : Int) / 2 ^ k % 2 == 1) = false by
        have : (N : Int) / 2 ^ k % 2 = 0 := by have h2 : N / 2 ^ k % 2 = 0 := by omega
                                               exact_mod_cast h2
        rw [this]; rfl)
      rw [if_neg hbit, Int.mul_one] at HP
      rw [HP.out] at g2
      clear hbit
      refine wp_cond_false (congrArg Value.bool (show _ = false from (by rw [i64_and_one]; exact HB.out))) ?_
      refine wp_skip ?_
      refine hK7 _ _ ?_
      refine wp_region_sq [0, 1, 2] (by kernel_rfl) ?_
      refine wpSq_call rfl (by kernel_rfl) fun K hK => ?_
      go_big_move; refine hK _ _ rfl ?_; clear hK K
      refine wpSq_call rfl (by kernel_rfl) fun K hK => ?_
      go_big_op; refine hK _ _ rfl ?_; clear hK K
      refine wpSq_call rfl (by kernel_rfl) fun K hK => ?_
      go_big_move; refine hK _ _ rfl ?_; clear hK K
      apply wpSq_end
      refine ‹∀ (a' : Act) (w' : World), Handed _ _ a' w' → _› _ _ ?_
      go_roundg k
      case rel => exact ⟨rfl, by omega, _, _, _, _, x_b1, x_b2, x_b3, ha, g2, hb⟩
      case measure => omega
end Go.Proofs.YtkgbfnmlpajblaaGreatDoor

/- The reference's Bits, Shl and Pow, where the seat has no Root. -/
namespace Go.Proofs.YtkgbfnmlpajblaaGreatDoor
open Go.RowKit Dig

theorem Rd.bl {w w' : World} {v : Value} {ds : List Nat} (h : Rd w v ds) (hb : Below w.heap.size w w') : Rd w' v ds := h.below hb (Nat.le_refl _)
theorem bitsN_le_one {A : Nat} : bitsN A ≤ 1 ↔ A ≤ 1 := by
  constructor
  · intro h
    have := bitsN_lt A
    have h2 : 2 ^ bitsN A ≤ 2 ^ 1 := Nat.pow_le_pow_right (by decide) h
    omega
  · intro h
    rcases (show A = 0 ∨ A = 1 by omega) with rfl | rfl <;> decide
end Go.Proofs.YtkgbfnmlpajblaaGreatDoor

