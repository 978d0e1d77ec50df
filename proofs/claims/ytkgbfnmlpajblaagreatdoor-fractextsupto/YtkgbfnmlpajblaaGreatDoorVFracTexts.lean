/- FracTexts: the law's walk. -/
import Derived.Test.YtkgbfnmlpajblaaGreatDoorQ14ToR20
namespace Go.Proofs.YtkgbfnmlpajblaaGreatDoor
open Go Go.RowKit Dig
set_option linter.unusedVariables false

section
variable {w : World} {va vb : Value} {x y u v : Int} {l m k n : Nat}
set_option maxHeartbeats 8000000 in
set_option maxRecDepth 20000 in
theorem texts_bad_no {s : ByteArray} (ha : PN w va x l 0 m) (hl : l ≤ 1048576) (hm : m ≤ 1048576) (f : Int) (hf : f ≠ 0)
    (h1 : ∀ w, Calls Tryz.prog 48 #[.string s] w fun e w' => e = .returned (.tuple #[.agg #[.bool false, .slice none 0 0, .bool false, .slice none 0 0], .int .i64 f]) ∧ Below w.heap.size w w')
    (h2 : ∀ w, Calls Tryz.prog 49 #[.string s] w fun e w' => e = .returned (.tuple #[.agg #[.bool false, .slice none 0 0, .bool false, .slice none 0 0], .int .i64 f]) ∧ Below w.heap.size w w')
    (htab : Lib.TabIs Tryz.prog w p10 .u64 Lib.pow10Tab) :
    Calls Tryz.prog 8 #[va, .string s] w fun e w' => e = .returned (.bool true) ∧ Below w.heap.size w w' := by
  have htabs := Lib.tabBelow_of_tabIs htab
  have H1 := hide h1
  have H2 := hide h2
  have HF := hide hf
  clear h1 h2 hf
  obtain ⟨n_0a, o_0a, k_0a, c_0a, n_0b, o_0b, k_0b, c_0b, rfl, ha1, ha2⟩ := ha
  go_enter Tryz.func8, Tryz.ntmps8
  have hb := Below.refl w.heap.size w
  refine wp_seq_k ?_
  intro K1 hK1
  refine wp_region_sq [0, 1] (by kernel_rfl) ?_
  refine wpSq_call rfl (by kernel_rfl) fun K hK => ?_
  go_big_op
  obtain ⟨p_b1, w_1, eP, eW, x_b1, hn, kb_b1⟩ := newBox w #[.bool n_0a, .slice o_0a k_0a c_0a, .bool n_0b, .slice o_0b k_0b c_0b] 26 hb.size
  rw [eW, eP]
  clear eW eP
  replace ha1 := ha1.bl hn; replace ha2 := ha2.bl hn; replace hb := hb.trans (hn.mono hb.size)
  refine hK _ _ rfl ?_; clear hK K hn
  refine wpSq_call rfl (by kernel_rfl) fun K hK => ?_
  go_big_move; refine hK _ _ rfl ?_; clear hK K
  apply wpSq_end
  refine hK1 _ _ ?_
  refine wp_seq_k ?_
  intro K2 hK2
  refine wp_region_sq [0, 1, 2, 3, 4, 5, 6] (by kernel_rfl) ?_
  refine wpSq_call rfl (by kernel_rfl) fun K hK => ?_
  obtain ⟨d0, d1, d2, d3⟩ := x_b1.f4
  go_big_op; refine hK _ _ rfl ?_; clear hK K d0 d1 d2 d3
  refine wpSq_call rfl (by kernel_rfl) fun K hK => ?_
  go_big_op
  go_fit (fText_zero (PN.mk' ha1 ha2) (by omega) (by omega) )
  rintro e w_2 ⟨rfl, hb_2⟩
  replace ha1 := ha1.bl hb_2; replace ha2 := ha2.bl hb_2; replace x_b1 := x_b1.bl hb_2; replace hb := hb.trans (hb_2.mono hb.size)
  refine hK _ _ rfl ?_
  clear hK K hb_2
  refine wpSq_call rfl (by kernel_rfl) fun K hK => ?_
  go_big_move; refine hK _ _ rfl ?_; clear hK K
  refine wpSq_call rfl (by kernel_rfl) fun K hK => ?_
  go_big_op; refine hK _ _ rfl ?_; clear hK K
  refine wpSq_call rfl (by kernel_rfl) fun K hK => ?_
  go_big_op; refine hK _ _ rfl ?_; clear hK K
  refine wpSq_call rfl (by kernel_rfl) fun K hK => ?_
  go_big_move; refine hK _ _ rfl ?_; clear hK K
  refine wpSq_call rfl (by kernel_rfl) fun K hK => ?_
  go_big_move; refine hK _ _ rfl ?_; clear hK K
  apply wpSq_end
  refine hK2 _ _ ?_
  refine wp_seq_k ?_
  intro K3 hK3
  refine wp_region_sq [0, 1, 2, 3, 4, 5, 6, 7] (by kernel_rfl) ?_
  refine wpSq_call rfl (by kernel_rfl) fun K hK => ?_
  go_big_move; refine hK _ _ rfl ?_; clear hK K
  refine wpSq_call rfl (by kernel_rfl) fun K hK => ?_
  go_big_op
  go_fit (H1.out _)
  rintro e w_3 ⟨rfl, hb_3⟩
  replace ha1 := ha1.bl hb_3; replace ha2 := ha2.bl hb_3; replace x_b1 := x_b1.bl hb_3; replace hb := hb.trans (hb_3.mono hb.size)
  refine hK _ _ rfl ?_
  clear hK K hb_3
  refine wpSq_call rfl (by kernel_rfl) fun K hK => ?_
  go_big_move; refine hK _ _ rfl ?_; clear hK K
  refine wpSq_call rfl (by kernel_rfl) fun K hK => ?_
  go_big_op; refine hK _ _ rfl ?_; clear hK K
  refine wpSq_call rfl (by kernel_rfl) fun K hK => ?_
  go_big_op; refine hK _ _ rfl ?_; clear hK K
  refine wpSq_call rfl (by kernel_rfl) fun K hK => ?_
  go_big_op
  have lt_b1 := x_b1.lt
  obtain ⟨p_b2, w_4, eP, eW, x_b2, hn, kb_b2⟩ := newBox w_3 #[.bool false, .slice none 0 0, .bool false, .slice none 0 0] 26 hb.size
  have ne_b1_b2 : Hid (p_b1 ≠ p_b2) := Nat.ne_of_lt (eP ▸ lt_b1)
  rw [eW, eP]
  clear eW eP lt_b1
  replace ha1 := ha1.bl hn; replace ha2 := ha2.bl hn; replace x_b1 := x_b1.bl hn; replace hb := hb.trans (hn.mono hb.size)
  refine hK _ _ rfl ?_; clear hK K hn
  refine wpSq_call rfl (by kernel_rfl) fun K hK => ?_
  obtain ⟨d0, d1, d2, d3⟩ := x_b2.f4
  have f0 := x_b2.free 0; have f1 := x_b2.free 1; have f2 := x_b2.free 2; have f3 := x_b2.free 3
  go_big_op
  have hnd := x_b2.nod rfl rfl
  obtain ⟨w_5, eW, x_b2', ho⟩ : ∃ w', ((((w_4.setCell ⟨p_b2, 0, none⟩ (.bool false)).setCell ⟨p_b2, 1, none⟩ (.slice none 0 0)).setCell ⟨p_b2, 2, none⟩ (.bool false)).setCell ⟨p_b2, 3, none⟩ (.slice none 0 0)) = w' ∧ Bs w' p_b2 #[.bool false, .slice none 0 0, .bool false, .slice none 0 0] 26 ∧ Only p_b2 w_4 w' := x_b2.setN [(0, .bool false), (1, .slice none 0 0), (2, .bool false), (3, .slice none 0 0)]
  rw [eW]; clear eW d0 d1 d2 d3 f0 f1 f2 f3 x_b2
  have x_b2 := x_b2'; clear x_b2'
  replace ha1 := ha1.fr hnd ho; replace ha2 := ha2.fr hnd ho; replace x_b1 := x_b1.frame ho ne_b1_b2; replace hb := belowOnly hb ho kb_b2
  refine hK _ _ rfl ?_; clear hK K ho hnd
  refine wpSq_call rfl (by kernel_rfl) fun K hK => ?_
  go_big_move; refine hK _ _ rfl ?_; clear hK K
  apply wpSq_end
  refine hK3 _ _ ?_
  refine wp_seq_k ?_
  intro K4 hK4
  refine wp_region_sq [0, 1, 2, 3, 4, 5, 6, 7] (by kernel_rfl) ?_
  refine wpSq_call rfl (by kernel_rfl) fun K hK => ?_
  go_big_move; refine hK _ _ rfl ?_; clear hK K
  refine wpSq_call rfl (by kernel_rfl) fun K hK => ?_
  go_big_op
  go_fit (H2.out _)
  rintro e w_6 ⟨rfl, hb_6⟩
  replace ha1 := ha1.bl hb_6; replace ha2 := ha2.bl hb_6; replace x_b1 := x_b1.bl hb_6; replace x_b2 := x_b2.bl hb_6; replace hb := hb.trans (hb_6.mono hb.size)
  refine hK _ _ rfl ?_
  clear hK K hb_6
  refine wpSq_call rfl (by kernel_rfl) fun K hK => ?_
  go_big_move; refine hK _ _ rfl ?_; clear hK K
  refine wpSq_call rfl (by kernel_rfl) fun K hK => ?_
  go_big_op; refine hK _ _ rfl ?_; clear hK K
  refine wpSq_call rfl (by kernel_rfl) fun K hK => ?_
  go_big_op; refine hK _ _ rfl ?_; clear hK K
  refine wpSq_call rfl (by kernel_rfl) fun K hK => ?_
  go_big_op
  have lt_b1 := x_b1.lt
  have lt_b2 := x_b2.lt
  obtain ⟨p_b3, w_7, eP, eW, x_b3, hn, kb_b3⟩ := newBox w_6 #[.bool false, .slice none 0 0, .bool false, .slice none 0 0] 26 hb.size
  have ne_b1_b3 : Hid (p_b1 ≠ p_b3) := Nat.ne_of_lt (eP ▸ lt_b1)
  have ne_b2_b3 : Hid (p_b2 ≠ p_b3) := Nat.ne_of_lt (eP ▸ lt_b2)
  rw [eW, eP]
  clear eW eP lt_b1 lt_b2
  replace ha1 := ha1.bl hn; replace ha2 := ha2.bl hn; replace x_b1 := x_b1.bl hn; replace x_b2 := x_b2.bl hn; replace hb := hb.trans (hn.mono hb.size)
  refine hK _ _ rfl ?_; clear hK K hn
  refine wpSq_call rfl (by kernel_rfl) fun K hK => ?_
  obtain ⟨d0, d1, d2, d3⟩ := x_b3.f4
  have f0 := x_b3.free 0; have f1 := x_b3.free 1; have f2 := x_b3.free 2; have f3 := x_b3.free 3
  go_big_op
  have hnd := x_b3.nod rfl rfl
  obtain ⟨w_8, eW, x_b3', ho⟩ : ∃ w', ((((w_7.setCell ⟨p_b3, 0, none⟩ (.bool false)).setCell ⟨p_b3, 1, none⟩ (.slice none 0 0)).setCell ⟨p_b3, 2, none⟩ (.bool false)).setCell ⟨p_b3, 3, none⟩ (.slice none 0 0)) = w' ∧ Bs w' p_b3 #[.bool false, .slice none 0 0, .bool false, .slice none 0 0] 26 ∧ Only p_b3 w_7 w' := x_b3.setN [(0, .bool false), (1, .slice none 0 0), (2, .bool false), (3, .slice none 0 0)]
  rw [eW]; clear eW d0 d1 d2 d3 f0 f1 f2 f3 x_b3
  have x_b3 := x_b3'; clear x_b3'
  replace ha1 := ha1.fr hnd ho; replace ha2 := ha2.fr hnd ho; replace x_b1 := x_b1.frame ho ne_b1_b3; replace x_b2 := x_b2.frame ho ne_b2_b3; replace hb := belowOnly hb ho kb_b3
  refine hK _ _ rfl ?_; clear hK K ho hnd
  refine wpSq_call rfl (by kernel_rfl) fun K hK => ?_
  go_big_move; refine hK _ _ rfl ?_; clear hK K
  apply wpSq_end
  refine hK4 _ _ ?_
  refine wp_seq_k ?_
  intro K5 hK5
  refine wp_seq_k ?_
  intro K6 hK6
  refine wp_region_sq [0, 1, 2, 3, 4, 5, 6, 7, 8, 9] (by kernel_rfl) ?_
  refine wpSq_call rfl (by kernel_rfl) fun K hK => ?_
  go_big_op
  go_fit (fawake_any _ (htabs _ hb))
  rintro e w_9 ⟨rfl, hb_9⟩
  replace ha1 := ha1.bl hb_9; replace ha2 := ha2.bl hb_9; replace x_b1 := x_b1.bl hb_9; replace x_b2 := x_b2.bl hb_9; replace x_b3 := x_b3.bl hb_9; replace hb := hb.trans (hb_9.mono hb.size)
  refine hK _ _ rfl ?_
  clear hK K hb_9
  refine wpSq_call rfl (by kernel_rfl) fun K hK => ?_
  go_big_op; refine hK _ _ rfl ?_; clear hK K
  refine wpSq_call rfl (by kernel_rfl) fun K hK => ?_
  go_big_move; refine hK _ _ rfl ?_; clear hK K
  refine wpSq_call rfl (by kernel_rfl) fun K hK => ?_
  obtain ⟨d0, d1, d2, d3⟩ := x_b2.f4
  go_big_op; refine hK _ _ rfl ?_; clear hK K d0 d1 d2 d3
  refine wpSq_call rfl (by kernel_rfl) fun K hK => ?_
  go_big_move; refine hK _ _ rfl ?_; clear hK K
  refine wpSq_call rfl (by kernel_rfl) fun K hK => ?_
  obtain ⟨d0, d1, d2, d3⟩ := x_b3.f4
  go_big_op; refine hK _ _ rfl ?_; clear hK K d0 d1 d2 d3
  refine wpSq_call rfl (by kernel_rfl) fun K hK => ?_
  go_big_move; refine hK _ _ rfl ?_; clear hK K
  refine wpSq_call rfl (by kernel_rfl) fun K hK => ?_
  go_big_op
  go_fit (ftold_err f (.mk' (zc_zero w_9) (zc_zero w_9)) HF.out)
  rintro e w_10 ⟨rfl, hb_10⟩
  clear x_b2 x_b3
  replace ha1 := ha1.bl hb_10; replace ha2 := ha2.bl hb_10; replace x_b1 := x_b1.bl hb_10; replace hb := hb.trans (hb_10.mono hb.size)
  refine hK _ _ rfl ?_
  clear hK K hb_10
  refine wpSq_call rfl (by kernel_rfl) fun K hK => ?_
  go_big_op; refine hK _ _ rfl ?_; clear hK K
  refine wpSq_call rfl (by kernel_rfl) fun K hK => ?_
  go_big_op; refine hK _ _ rfl ?_; clear hK K
  apply wpSq_end
  refine hK6 _ _ ?_
  refine wp_cond_false (congrArg Value.bool (show _ = false from (by first | rfl | assumption | (simp; done) | exact decide_eq_false (by omega) | omega))) ?_
  refine wp_skip ?_
  refine hK5 _ _ ?_
  refine wp_seq_k ?_
  intro K7 hK7
  refine wp_seq_k ?_
  intro K8 hK8
  refine wp_region_sq [0, 1] (by kernel_rfl) ?_
  refine wpSq_call rfl (by kernel_rfl) fun K hK => ?_
  obtain ⟨d0, d1, d2, d3⟩ := x_b1.f4
  go_big_op; refine hK _ _ rfl ?_; clear hK K d0 d1 d2 d3
  refine wpSq_call rfl (by kernel_rfl) fun K hK => ?_
  go_big_op
  go_fit (rbad_yes (PN.mk' ha1 ha2) (by omega) (by omega) )
  rintro e w_11 ⟨rfl, hb_11⟩
  replace ha1 := ha1.bl hb_11; replace ha2 := ha2.bl hb_11; replace x_b1 := x_b1.bl hb_11; replace hb := hb.trans (hb_11.mono hb.size)
  refine hK _ _ rfl ?_
  clear hK K hb_11
  apply wpSq_end
  refine hK8 _ _ ?_
  refine wp_cond_true (congrArg Value.bool (show _ = true from (by first | rfl | assumption | (simp; done) | exact decide_eq_true (by omega) | omega))) ?_
  refine wp_seq_k ?_
  intro K9 hK9
  refine wp_region_sq [0, 1, 2, 3, 4, 5, 6] (by kernel_rfl) ?_
  refine wpSq_call rfl (by kernel_rfl) fun K hK => ?_
  go_big_move; refine hK _ _ rfl ?_; clear hK K
  refine wpSq_call rfl (by kernel_rfl) fun K hK => ?_
  go_big_op; refine hK _ _ rfl ?_; clear hK K
  refine wpSq_call rfl (by kernel_rfl) fun K hK => ?_
  go_big_move; refine hK _ _ rfl ?_; clear hK K
  refine wpSq_call rfl (by kernel_rfl) fun K hK => ?_
  go_big_move; refine hK _ _ rfl ?_; clear hK K
  refine wpSq_call rfl (by kernel_rfl) fun K hK => ?_
  go_big_op; refine hK _ _ rfl ?_; clear hK K
  refine wpSq_call rfl (by kernel_rfl) fun K hK => ?_
  go_big_op; refine hK _ _ rfl ?_; clear hK K
  refine wpSq_call rfl (by kernel_rfl) fun K hK => ?_
  go_big_move; refine hK _ _ rfl ?_; clear hK K
  apply wpSq_end
  refine hK9 _ _ ?_
  refine wp_ret ?_
  try dsimp only [Exit.then, Exit.inBlock]
  refine bodyPost_ret (v := (.bool true)) (by simp [results, Tryz.results8, go_sem]) rfl ?_
  exact ⟨rfl, hb⟩
set_option maxHeartbeats 8000000 in
set_option maxRecDepth 20000 in
theorem texts_bad_ok {s : ByteArray} (ha : PN w va x l 0 m) (hl : l ≤ 1048576) (hm : m ≤ 1048576) (p q : Int) (hlow : low p q) (lp : (dig p.natAbs).length ≤ 8192) (lq : (dig q.natAbs).length ≤ 8192)
    (h1 : ∀ w, Calls Tryz.prog 48 #[.string s] w fun e w' => ∃ r, e = .returned (.tuple #[r, .int .i64 0]) ∧ PC w' r p q ∧ Below w.heap.size w w')
    (h2 : ∀ w, Calls Tryz.prog 49 #[.string s] w fun e w' => ∃ r, e = .returned (.tuple #[r, .int .i64 0]) ∧ PC w' r p q ∧ Below w.heap.size w w')
    (htab : Lib.TabIs Tryz.prog w p10 .u64 Lib.pow10Tab) :
    Calls Tryz.prog 8 #[va, .string s] w fun e w' => e = .returned (.bool true) ∧ Below w.heap.size w w' := by
  have htabs := Lib.tabBelow_of_tabIs htab
  have H1 := hide h1
  have H2 := hide h2
  have HL := hide hlow
  have LP := hide lp
  have LQ := hide lq
  clear h1 h2 hlow lp lq
  obtain ⟨n_0a, o_0a, k_0a, c_0a, n_0b, o_0b, k_0b, c_0b, rfl, ha1, ha2⟩ := ha
  go_enter Tryz.func8, Tryz.ntmps8
  have hb := Below.refl w.heap.size w
  refine wp_seq_k ?_
  intro K1 hK1
  refine wp_region_sq [0, 1] (by kernel_rfl) ?_
  refine wpSq_call rfl (by kernel_rfl) fun K hK => ?_
  go_big_op
  obtain ⟨p_b1, w_1, eP, eW, x_b1, hn, kb_b1⟩ := newBox w #[.bool n_0a, .slice o_0a k_0a c_0a, .bool n_0b, .slice o_0b k_0b c_0b] 26 hb.size
  rw [eW, eP]
  clear eW eP
  replace ha1 := ha1.bl hn; replace ha2 := ha2.bl hn; replace hb := hb.trans (hn.mono hb.size)
  refine hK _ _ rfl ?_; clear hK K hn
  refine wpSq_call rfl (by kernel_rfl) fun K hK => ?_
  go_big_move; refine hK _ _ rfl ?_; clear hK K
  apply wpSq_end
  refine hK1 _ _ ?_
  refine wp_seq_k ?_
  intro K2 hK2
  refine wp_region_sq [0, 1, 2, 3, 4, 5, 6] (by kernel_rfl) ?_
  refine wpSq_call rfl (by kernel_rfl) fun K hK => ?_
  obtain ⟨d0, d1, d2, d3⟩ := x_b1.f4
  go_big_op; refine hK _ _ rfl ?_; clear hK K d0 d1 d2 d3
  refine wpSq_call rfl (by kernel_rfl) fun K hK => ?_
  go_big_op
  go_fit (fText_zero (PN.mk' ha1 ha2) (by omega) (by omega) )
  rintro e w_2 ⟨rfl, hb_2⟩
  replace ha1 := ha1.bl hb_2; replace ha2 := ha2.bl hb_2; replace x_b1 := x_b1.bl hb_2; replace hb := hb.trans (hb_2.mono hb.size)
  refine hK _ _ rfl ?_
  clear hK K hb_2
  refine wpSq_call rfl (by kernel_rfl) fun K hK => ?_
  go_big_move; refine hK _ _ rfl ?_; clear hK K
  refine wpSq_call rfl (by kernel_rfl) fun K hK => ?_
  go_big_op; refine hK _ _ rfl ?_; clear hK K
  refine wpSq_call rfl (by kernel_rfl) fun K hK => ?_
  go_big_op; refine hK _ _ rfl ?_; clear hK K
  refine wpSq_call rfl (by kernel_rfl) fun K hK => ?_
  go_big_move; refine hK _ _ rfl ?_; clear hK K
  refine wpSq_call rfl (by kernel_rfl) fun K hK => ?_
  go_big_move; refine hK _ _ rfl ?_; clear hK K
  apply wpSq_end
  refine hK2 _ _ ?_
  refine wp_seq_k ?_
  intro K3 hK3
  refine wp_region_sq [0, 1, 2, 3, 4, 5, 6, 7] (by kernel_rfl) ?_
  refine wpSq_call rfl (by kernel_rfl) fun K hK => ?_
  go_big_move; refine hK _ _ rfl ?_; clear hK K
  refine wpSq_call rfl (by kernel_rfl) fun K hK => ?_
  go_big_op
  go_fit (H1.out _)
  rintro e w_3 ⟨_, rfl, ⟨n_ga, o_ga, k_ga, c_ga, n_gb, o_gb, k_gb, c_gb, rfl, g1, g2⟩, hb_3⟩
  replace ha1 := ha1.bl hb_3; replace ha2 := ha2.bl hb_3; replace x_b1 := x_b1.bl hb_3; replace hb := hb.trans (hb_3.mono hb.size)
  have Lg1 := hide (g1.lenOf (LP.out))
  have Lg2 := hide (g2.lenOf (LQ.out))
  refine hK _ _ rfl ?_
  clear hK K hb_3
  refine wpSq_call rfl (by kernel_rfl) fun K hK => ?_
  go_big_move; refine hK _ _ rfl ?_; clear hK K
  refine wpSq_call rfl (by kernel_rfl) fun K hK => ?_
  go_big_op; refine hK _ _ rfl ?_; clear hK K
  refine wpSq_call rfl (by kernel_rfl) fun K hK => ?_
  go_big_op; refine hK _ _ rfl ?_; clear hK K
  refine wpSq_call rfl (by kernel_rfl) fun K hK => ?_
  go_big_op
  have lt_b1 := x_b1.lt
  obtain ⟨p_b2, w_4, eP, eW, x_b2, hn, kb_b2⟩ := newBox w_3 #[.bool false, .slice none 0 0, .bool false, .slice none 0 0] 26 hb.size
  have ne_b1_b2 : Hid (p_b1 ≠ p_b2) := Nat.ne_of_lt (eP ▸ lt_b1)
  rw [eW, eP]
  clear eW eP lt_b1
  replace ha1 := ha1.bl hn; replace ha2 := ha2.bl hn; replace x_b1 := x_b1.bl hn; replace g1 := g1.bl hn; replace g2 := g2.bl hn; replace hb := hb.trans (hn.mono hb.size)
  refine hK _ _ rfl ?_; clear hK K hn
  refine wpSq_call rfl (by kernel_rfl) fun K hK => ?_
  obtain ⟨d0, d1, d2, d3⟩ := x_b2.f4
  have f0 := x_b2.free 0; have f1 := x_b2.free 1; have f2 := x_b2.free 2; have f3 := x_b2.free 3
  go_big_op
  have hnd := x_b2.nod rfl rfl
  obtain ⟨w_5, eW, x_b2', ho⟩ : ∃ w', ((((w_4.setCell ⟨p_b2, 0, none⟩ (.bool n_ga)).setCell ⟨p_b2, 1, none⟩ (.slice o_ga k_ga c_ga)).setCell ⟨p_b2, 2, none⟩ (.bool n_gb)).setCell ⟨p_b2, 3, none⟩ (.slice o_gb k_gb c_gb)) = w' ∧ Bs w' p_b2 #[.bool n_ga, .slice o_ga k_ga c_ga, .bool n_gb, .slice o_gb k_gb c_gb] 26 ∧ Only p_b2 w_4 w' := x_b2.setN [(0, .bool n_ga), (1, .slice o_ga k_ga c_ga), (2, .bool n_gb), (3, .slice o_gb k_gb c_gb)]
  rw [eW]; clear eW d0 d1 d2 d3 f0 f1 f2 f3 x_b2
  have x_b2 := x_b2'; clear x_b2'
  replace ha1 := ha1.fr hnd ho; replace ha2 := ha2.fr hnd ho; replace x_b1 := x_b1.frame ho ne_b1_b2; replace g1 := g1.fr hnd ho; replace g2 := g2.fr hnd ho; replace hb := belowOnly hb ho kb_b2
  refine hK _ _ rfl ?_; clear hK K ho hnd
  refine wpSq_call rfl (by kernel_rfl) fun K hK => ?_
  go_big_move; refine hK _ _ rfl ?_; clear hK K
  apply wpSq_end
  refine hK3 _ _ ?_
  refine wp_seq_k ?_
  intro K4 hK4
  refine wp_region_sq [0, 1, 2, 3, 4, 5, 6, 7] (by kernel_rfl) ?_
  refine wpSq_call rfl (by kernel_rfl) fun K hK => ?_
  go_big_move; refine hK _ _ rfl ?_; clear hK K
  refine wpSq_call rfl (by kernel_rfl) fun K hK => ?_
  go_big_op
  go_fit (H2.out _)
  rintro e w_6 ⟨_, rfl, ⟨n_ka, o_ka, k_ka, c_ka, n_kb, o_kb, k_kb, c_kb, rfl, k1, k2⟩, hb_6⟩
  replace ha1 := ha1.bl hb_6; replace ha2 := ha2.bl hb_6; replace x_b1 := x_b1.bl hb_6; replace g1 := g1.bl hb_6; replace g2 := g2.bl hb_6; replace x_b2 := x_b2.bl hb_6; replace hb := hb.trans (hb_6.mono hb.size)
  have Lk1 := hide (k1.lenOf (LP.out))
  have Lk2 := hide (k2.lenOf (LQ.out))
  refine hK _ _ rfl ?_
  clear hK K hb_6
  refine wpSq_call rfl (by kernel_rfl) fun K hK => ?_
  go_big_move; refine hK _ _ rfl ?_; clear hK K
  refine wpSq_call rfl (by kernel_rfl) fun K hK => ?_
  go_big_op; refine hK _ _ rfl ?_; clear hK K
  refine wpSq_call rfl (by kernel_rfl) fun K hK => ?_
  go_big_op; refine hK _ _ rfl ?_; clear hK K
  refine wpSq_call rfl (by kernel_rfl) fun K hK => ?_
  go_big_op
  have lt_b1 := x_b1.lt
  have lt_b2 := x_b2.lt
  obtain ⟨p_b3, w_7, eP, eW, x_b3, hn, kb_b3⟩ := newBox w_6 #[.bool false, .slice none 0 0, .bool false, .slice none 0 0] 26 hb.size
  have ne_b1_b3 : Hid (p_b1 ≠ p_b3) := Nat.ne_of_lt (eP ▸ lt_b1)
  have ne_b2_b3 : Hid (p_b2 ≠ p_b3) := Nat.ne_of_lt (eP ▸ lt_b2)
  rw [eW, eP]
  clear eW eP lt_b1 lt_b2
  replace ha1 := ha1.bl hn; replace ha2 := ha2.bl hn; replace x_b1 := x_b1.bl hn; replace g1 := g1.bl hn; replace g2 := g2.bl hn; replace x_b2 := x_b2.bl hn; replace k1 := k1.bl hn; replace k2 := k2.bl hn; replace hb := hb.trans (hn.mono hb.size)
  refine hK _ _ rfl ?_; clear hK K hn
  refine wpSq_call rfl (by kernel_rfl) fun K hK => ?_
  obtain ⟨d0, d1, d2, d3⟩ := x_b3.f4
  have f0 := x_b3.free 0; have f1 := x_b3.free 1; have f2 := x_b3.free 2; have f3 := x_b3.free 3
  go_big_op
  have hnd := x_b3.nod rfl rfl
  obtain ⟨w_8, eW, x_b3', ho⟩ : ∃ w', ((((w_7.setCell ⟨p_b3, 0, none⟩ (.bool n_ka)).setCell ⟨p_b3, 1, none⟩ (.slice o_ka k_ka c_ka)).setCell ⟨p_b3, 2, none⟩ (.bool n_kb)).setCell ⟨p_b3, 3, none⟩ (.slice o_kb k_kb c_kb)) = w' ∧ Bs w' p_b3 #[.bool n_ka, .slice o_ka k_ka c_ka, .bool n_kb, .slice o_kb k_kb c_kb] 26 ∧ Only p_b3 w_7 w' := x_b3.setN [(0, .bool n_ka), (1, .slice o_ka k_ka c_ka), (2, .bool n_kb), (3, .slice o_kb k_kb c_kb)]
  rw [eW]; clear eW d0 d1 d2 d3 f0 f1 f2 f3 x_b3
  have x_b3 := x_b3'; clear x_b3'
  replace ha1 := ha1.fr hnd ho; replace ha2 := ha2.fr hnd ho; replace x_b1 := x_b1.frame ho ne_b1_b3; replace g1 := g1.fr hnd ho; replace g2 := g2.fr hnd ho; replace x_b2 := x_b2.frame ho ne_b2_b3; replace k1 := k1.fr hnd ho; replace k2 := k2.fr hnd ho; replace hb := belowOnly hb ho kb_b3
  refine hK _ _ rfl ?_; clear hK K ho hnd
  refine wpSq_call rfl (by kernel_rfl) fun K hK => ?_
  go_big_move; refine hK _ _ rfl ?_; clear hK K
  apply wpSq_end
  refine hK4 _ _ ?_
  refine wp_seq_k ?_
  intro K5 hK5
  refine wp_seq_k ?_
  intro K6 hK6
  refine wp_region_sq [0, 1, 2, 3, 4, 5, 6, 7, 8, 9] (by kernel_rfl) ?_
  refine wpSq_call rfl (by kernel_rfl) fun K hK => ?_
  go_big_op
  go_fit (fawake_any _ (htabs _ hb))
  rintro e w_9 ⟨rfl, hb_9⟩
  replace ha1 := ha1.bl hb_9; replace ha2 := ha2.bl hb_9; replace x_b1 := x_b1.bl hb_9; replace g1 := g1.bl hb_9; replace g2 := g2.bl hb_9; replace x_b2 := x_b2.bl hb_9; replace k1 := k1.bl hb_9; replace k2 := k2.bl hb_9; replace x_b3 := x_b3.bl hb_9; replace hb := hb.trans (hb_9.mono hb.size)
  refine hK _ _ rfl ?_
  clear hK K hb_9
  refine wpSq_call rfl (by kernel_rfl) fun K hK => ?_
  go_big_op; refine hK _ _ rfl ?_; clear hK K
  refine wpSq_call rfl (by kernel_rfl) fun K hK => ?_
  go_big_move; refine hK _ _ rfl ?_; clear hK K
  refine wpSq_call rfl (by kernel_rfl) fun K hK => ?_
  obtain ⟨d0, d1, d2, d3⟩ := x_b2.f4
  go_big_op; refine hK _ _ rfl ?_; clear hK K d0 d1 d2 d3
  refine wpSq_call rfl (by kernel_rfl) fun K hK => ?_
  go_big_move; refine hK _ _ rfl ?_; clear hK K
  refine wpSq_call rfl (by kernel_rfl) fun K hK => ?_
  obtain ⟨d0, d1, d2, d3⟩ := x_b3.f4
  go_big_op; refine hK _ _ rfl ?_; clear hK K d0 d1 d2 d3
  refine wpSq_call rfl (by kernel_rfl) fun K hK => ?_
  go_big_move; refine hK _ _ rfl ?_; clear hK K
  refine wpSq_call rfl (by kernel_rfl) fun K hK => ?_
  go_big_op
  go_fit (ftold_low (PC.mk' g1 g2) (PC.mk' k1 k2)  HL.out (Nat.le_trans LP.out (by decide)) (Nat.le_trans LQ.out (by decide)))
  rintro e w_10 ⟨rfl, hb_10⟩
  clear x_b2 x_b3
  replace ha1 := ha1.bl hb_10; replace ha2 := ha2.bl hb_10; replace x_b1 := x_b1.bl hb_10; replace g1 := g1.bl hb_10; replace g2 := g2.bl hb_10; replace k1 := k1.bl hb_10; replace k2 := k2.bl hb_10; replace hb := hb.trans (hb_10.mono hb.size)
  refine hK _ _ rfl ?_
  clear hK K hb_10
  refine wpSq_call rfl (by kernel_rfl) fun K hK => ?_
  go_big_op; refine hK _ _ rfl ?_; clear hK K
  refine wpSq_call rfl (by kernel_rfl) fun K hK => ?_
  go_big_op; refine hK _ _ rfl ?_; clear hK K
  apply wpSq_end
  refine hK6 _ _ ?_
  refine wp_cond_false (congrArg Value.bool (show _ = false from (by first | rfl | assumption | (simp; done) | exact decide_eq_false (by omega) | omega))) ?_
  refine wp_skip ?_
  refine hK5 _ _ ?_
  refine wp_seq_k ?_
  intro K7 hK7
  refine wp_seq_k ?_
  intro K8 hK8
  refine wp_region_sq [0, 1] (by kernel_rfl) ?_
  refine wpSq_call rfl (by kernel_rfl) fun K hK => ?_
  obtain ⟨d0, d1, d2, d3⟩ := x_b1.f4
  go_big_op; refine hK _ _ rfl ?_; clear hK K d0 d1 d2 d3
  refine wpSq_call rfl (by kernel_rfl) fun K hK => ?_
  go_big_op
  go_fit (rbad_yes (PN.mk' ha1 ha2) (by omega) (by omega) )
  rintro e w_11 ⟨rfl, hb_11⟩
  clear g1 g2 k1 k2
  replace ha1 := ha1.bl hb_11; replace ha2 := ha2.bl hb_11; replace x_b1 := x_b1.bl hb_11; replace hb := hb.trans (hb_11.mono hb.size)
  refine hK _ _ rfl ?_
  clear hK K hb_11
  apply wpSq_end
  refine hK8 _ _ ?_
  refine wp_cond_true (congrArg Value.bool (show _ = true from (by first | rfl | assumption | (simp; done) | exact decide_eq_true (by omega) | omega))) ?_
  refine wp_seq_k ?_
  intro K9 hK9
  refine wp_region_sq [0, 1, 2, 3, 4, 5, 6] (by kernel_rfl) ?_
  refine wpSq_call rfl (by kernel_rfl) fun K hK => ?_
  go_big_move; refine hK _ _ rfl ?_; clear hK K
  refine wpSq_call rfl (by kernel_rfl) fun K hK => ?_
  go_big_op; refine hK _ _ rfl ?_; clear hK K
  refine wpSq_call rfl (by kernel_rfl) fun K hK => ?_
  go_big_move; refine hK _ _ rfl ?_; clear hK K
  refine wpSq_call rfl (by kernel_rfl) fun K hK => ?_
  go_big_move; refine hK _ _ rfl ?_; clear hK K
  refine wpSq_call rfl (by kernel_rfl) fun K hK => ?_
  go_big_op; refine hK _ _ rfl ?_; clear hK K
  refine wpSq_call rfl (by kernel_rfl) fun K hK => ?_
  go_big_op; refine hK _ _ rfl ?_; clear hK K
  refine wpSq_call rfl (by kernel_rfl) fun K hK => ?_
  go_big_move; refine hK _ _ rfl ?_; clear hK K
  apply wpSq_end
  refine hK9 _ _ ?_
  refine wp_ret ?_
  try dsimp only [Exit.then, Exit.inBlock]
  refine bodyPost_ret (v := (.bool true)) (by simp [results, Tryz.results8, go_sem]) rfl ?_
  exact ⟨rfl, hb⟩
set_option maxHeartbeats 8000000 in
set_option maxRecDepth 20000 in
theorem texts_some_no {s : ByteArray} (ha : PN w va x l y m) (hl : l ≤ 1048576) (hm : m ≤ 1048576) (h0 : y ≠ 0) (f : Int) (hf : f ≠ 0)
    (h1 : ∀ w, Calls Tryz.prog 48 #[.string s] w fun e w' => e = .returned (.tuple #[.agg #[.bool false, .slice none 0 0, .bool false, .slice none 0 0], .int .i64 f]) ∧ Below w.heap.size w w')
    (h2 : ∀ w, Calls Tryz.prog 49 #[.string s] w fun e w' => e = .returned (.tuple #[.agg #[.bool false, .slice none 0 0, .bool false, .slice none 0 0], .int .i64 f]) ∧ Below w.heap.size w w')
    (htab : Lib.TabIs Tryz.prog w p10 .u64 Lib.pow10Tab) :
    Calls Tryz.prog 8 #[va, .string s] w fun e w' => e = .returned (.bool true) ∧ Below w.heap.size w w' := by
  have htabs := Lib.tabBelow_of_tabIs htab
  obtain ⟨S, hS⟩ : ∃ S, qts x y = S := ⟨_, rfl⟩
  have HS := hide hS
  have qS : (S.toList == S.toList) = true := by simp
  have H0 := hide h0
  have H1 := hide h1
  have H2 := hide h2
  have HF := hide hf
  clear h1 h2 hf h0 hS
  obtain ⟨n_0a, o_0a, k_0a, c_0a, n_0b, o_0b, k_0b, c_0b, rfl, ha1, ha2⟩ := ha
  go_enter Tryz.func8, Tryz.ntmps8
  have hb := Below.refl w.heap.size w
  refine wp_seq_k ?_
  intro K1 hK1
  refine wp_region_sq [0, 1] (by kernel_rfl) ?_
  refine wpSq_call rfl (by kernel_rfl) fun K hK => ?_
  go_big_op
  obtain ⟨p_b1, w_1, eP, eW, x_b1, hn, kb_b1⟩ := newBox w #[.bool n_0a, .slice o_0a k_0a c_0a, .bool n_0b, .slice o_0b k_0b c_0b] 26 hb.size
  rw [eW, eP]
  clear eW eP
  replace ha1 := ha1.bl hn; replace ha2 := ha2.bl hn; replace hb := hb.trans (hn.mono hb.size)
  refine hK _ _ rfl ?_; clear hK K hn
  refine wpSq_call rfl (by kernel_rfl) fun K hK => ?_
  go_big_move; refine hK _ _ rfl ?_; clear hK K
  apply wpSq_end
  refine hK1 _ _ ?_
  refine wp_seq_k ?_
  intro K2 hK2
  refine wp_region_sq [0, 1, 2, 3, 4, 5, 6] (by kernel_rfl) ?_
  refine wpSq_call rfl (by kernel_rfl) fun K hK => ?_
  obtain ⟨d0, d1, d2, d3⟩ := x_b1.f4
  go_big_op; refine hK _ _ rfl ?_; clear hK K d0 d1 d2 d3
  refine wpSq_call rfl (by kernel_rfl) fun K hK => ?_
  go_big_op
  go_fit (fText_any (PN.mk' ha1 ha2) (by omega) (by omega) H0.out (htabs _ hb))
  rintro e w_2 ⟨rfl, hb_2⟩
  replace ha1 := ha1.bl hb_2; replace ha2 := ha2.bl hb_2; replace x_b1 := x_b1.bl hb_2; replace hb := hb.trans (hb_2.mono hb.size)
  rw [HS.out]
  refine hK _ _ rfl ?_
  clear hK K hb_2
  refine wpSq_call rfl (by kernel_rfl) fun K hK => ?_
  go_big_move; refine hK _ _ rfl ?_; clear hK K
  refine wpSq_call rfl (by kernel_rfl) fun K hK => ?_
  go_big_op; refine hK _ _ rfl ?_; clear hK K
  refine wpSq_call rfl (by kernel_rfl) fun K hK => ?_
  go_big_op; refine hK _ _ rfl ?_; clear hK K
  refine wpSq_call rfl (by kernel_rfl) fun K hK => ?_
  go_big_move; refine hK _ _ rfl ?_; clear hK K
  refine wpSq_call rfl (by kernel_rfl) fun K hK => ?_
  go_big_move; refine hK _ _ rfl ?_; clear hK K
  apply wpSq_end
  refine hK2 _ _ ?_
  refine wp_seq_k ?_
  intro K3 hK3
  refine wp_region_sq [0, 1, 2, 3, 4, 5, 6, 7] (by kernel_rfl) ?_
  refine wpSq_call rfl (by kernel_rfl) fun K hK => ?_
  go_big_move; refine hK _ _ rfl ?_; clear hK K
  refine wpSq_call rfl (by kernel_rfl) fun K hK => ?_
  go_big_op
  go_fit (H1.out _)
  rintro e w_3 ⟨rfl, hb_3⟩
  replace ha1 := ha1.bl hb_3; replace ha2 := ha2.bl hb_3; replace x_b1 := x_b1.bl hb_3; replace hb := hb.trans (hb_3.mono hb.size)
  refine hK _ _ rfl ?_
  clear hK K hb_3
  refine wpSq_call rfl (by kernel_rfl) fun K hK => ?_
  go_big_move; refine hK _ _ rfl ?_; clear hK K
  refine wpSq_call rfl (by kernel_rfl) fun K hK => ?_
  go_big_op; refine hK _ _ rfl ?_; clear hK K
  refine wpSq_call rfl (by kernel_rfl) fun K hK => ?_
  go_big_op; refine hK _ _ rfl ?_; clear hK K
  refine wpSq_call rfl (by kernel_rfl) fun K hK => ?_
  go_big_op
  have lt_b1 := x_b1.lt
  obtain ⟨p_b2, w_4, eP, eW, x_b2, hn, kb_b2⟩ := newBox w_3 #[.bool false, .slice none 0 0, .bool false, .slice none 0 0] 26 hb.size
  have ne_b1_b2 : Hid (p_b1 ≠ p_b2) := Nat.ne_of_lt (eP ▸ lt_b1)
  rw [eW, eP]
  clear eW eP lt_b1
  replace ha1 := ha1.bl hn; replace ha2 := ha2.bl hn; replace x_b1 := x_b1.bl hn; replace hb := hb.trans (hn.mono hb.size)
  refine hK _ _ rfl ?_; clear hK K hn
  refine wpSq_call rfl (by kernel_rfl) fun K hK => ?_
  obtain ⟨d0, d1, d2, d3⟩ := x_b2.f4
  have f0 := x_b2.free 0; have f1 := x_b2.free 1; have f2 := x_b2.free 2; have f3 := x_b2.free 3
  go_big_op
  have hnd := x_b2.nod rfl rfl
  obtain ⟨w_5, eW, x_b2', ho⟩ : ∃ w', ((((w_4.setCell ⟨p_b2, 0, none⟩ (.bool false)).setCell ⟨p_b2, 1, none⟩ (.slice none 0 0)).setCell ⟨p_b2, 2, none⟩ (.bool false)).setCell ⟨p_b2, 3, none⟩ (.slice none 0 0)) = w' ∧ Bs w' p_b2 #[.bool false, .slice none 0 0, .bool false, .slice none 0 0] 26 ∧ Only p_b2 w_4 w' := x_b2.setN [(0, .bool false), (1, .slice none 0 0), (2, .bool false), (3, .slice none 0 0)]
  rw [eW]; clear eW d0 d1 d2 d3 f0 f1 f2 f3 x_b2
  have x_b2 := x_b2'; clear x_b2'
  replace ha1 := ha1.fr hnd ho; replace ha2 := ha2.fr hnd ho; replace x_b1 := x_b1.frame ho ne_b1_b2; replace hb := belowOnly hb ho kb_b2
  refine hK _ _ rfl ?_; clear hK K ho hnd
  refine wpSq_call rfl (by kernel_rfl) fun K hK => ?_
  go_big_move; refine hK _ _ rfl ?_; clear hK K
  apply wpSq_end
  refine hK3 _ _ ?_
  refine wp_seq_k ?_
  intro K4 hK4
  refine wp_region_sq [0, 1, 2, 3, 4, 5, 6, 7] (by kernel_rfl) ?_
  refine wpSq_call rfl (by kernel_rfl) fun K hK => ?_
  go_big_move; refine hK _ _ rfl ?_; clear hK K
  refine wpSq_call rfl (by kernel_rfl) fun K hK => ?_
  go_big_op
  go_fit (H2.out _)
  rintro e w_6 ⟨rfl, hb_6⟩
  replace ha1 := ha1.bl hb_6; replace ha2 := ha2.bl hb_6; replace x_b1 := x_b1.bl hb_6; replace x_b2 := x_b2.bl hb_6; replace hb := hb.trans (hb_6.mono hb.size)
  refine hK _ _ rfl ?_
  clear hK K hb_6
  refine wpSq_call rfl (by kernel_rfl) fun K hK => ?_
  go_big_move; refine hK _ _ rfl ?_; clear hK K
  refine wpSq_call rfl (by kernel_rfl) fun K hK => ?_
  go_big_op; refine hK _ _ rfl ?_; clear hK K
  refine wpSq_call rfl (by kernel_rfl) fun K hK => ?_
  go_big_op; refine hK _ _ rfl ?_; clear hK K
  refine wpSq_call rfl (by kernel_rfl) fun K hK => ?_
  go_big_op
  have lt_b1 := x_b1.lt
  have lt_b2 := x_b2.lt
  obtain ⟨p_b3, w_7, eP, eW, x_b3, hn, kb_b3⟩ := newBox w_6 #[.bool false, .slice none 0 0, .bool false, .slice none 0 0] 26 hb.size
  have ne_b1_b3 : Hid (p_b1 ≠ p_b3) := Nat.ne_of_lt (eP ▸ lt_b1)
  have ne_b2_b3 : Hid (p_b2 ≠ p_b3) := Nat.ne_of_lt (eP ▸ lt_b2)
  rw [eW, eP]
  clear eW eP lt_b1 lt_b2
  replace ha1 := ha1.bl hn; replace ha2 := ha2.bl hn; replace x_b1 := x_b1.bl hn; replace x_b2 := x_b2.bl hn; replace hb := hb.trans (hn.mono hb.size)
  refine hK _ _ rfl ?_; clear hK K hn
  refine wpSq_call rfl (by kernel_rfl) fun K hK => ?_
  obtain ⟨d0, d1, d2, d3⟩ := x_b3.f4
  have f0 := x_b3.free 0; have f1 := x_b3.free 1; have f2 := x_b3.free 2; have f3 := x_b3.free 3
  go_big_op
  have hnd := x_b3.nod rfl rfl
  obtain ⟨w_8, eW, x_b3', ho⟩ : ∃ w', ((((w_7.setCell ⟨p_b3, 0, none⟩ (.bool false)).setCell ⟨p_b3, 1, none⟩ (.slice none 0 0)).setCell ⟨p_b3, 2, none⟩ (.bool false)).setCell ⟨p_b3, 3, none⟩ (.slice none 0 0)) = w' ∧ Bs w' p_b3 #[.bool false, .slice none 0 0, .bool false, .slice none 0 0] 26 ∧ Only p_b3 w_7 w' := x_b3.setN [(0, .bool false), (1, .slice none 0 0), (2, .bool false), (3, .slice none 0 0)]
  rw [eW]; clear eW d0 d1 d2 d3 f0 f1 f2 f3 x_b3
  have x_b3 := x_b3'; clear x_b3'
  replace ha1 := ha1.fr hnd ho; replace ha2 := ha2.fr hnd ho; replace x_b1 := x_b1.frame ho ne_b1_b3; replace x_b2 := x_b2.frame ho ne_b2_b3; replace hb := belowOnly hb ho kb_b3
  refine hK _ _ rfl ?_; clear hK K ho hnd
  refine wpSq_call rfl (by kernel_rfl) fun K hK => ?_
  go_big_move; refine hK _ _ rfl ?_; clear hK K
  apply wpSq_end
  refine hK4 _ _ ?_
  refine wp_seq_k ?_
  intro K5 hK5
  refine wp_seq_k ?_
  intro K6 hK6
  refine wp_region_sq [0, 1, 2, 3, 4, 5, 6, 7, 8, 9] (by kernel_rfl) ?_
  refine wpSq_call rfl (by kernel_rfl) fun K hK => ?_
  go_big_op
  go_fit (fawake_any _ (htabs _ hb))
  rintro e w_9 ⟨rfl, hb_9⟩
  replace ha1 := ha1.bl hb_9; replace ha2 := ha2.bl hb_9; replace x_b1 := x_b1.bl hb_9; replace x_b2 := x_b2.bl hb_9; replace x_b3 := x_b3.bl hb_9; replace hb := hb.trans (hb_9.mono hb.size)
  refine hK _ _ rfl ?_
  clear hK K hb_9
  refine wpSq_call rfl (by kernel_rfl) fun K hK => ?_
  go_big_op; refine hK _ _ rfl ?_; clear hK K
  refine wpSq_call rfl (by kernel_rfl) fun K hK => ?_
  go_big_move; refine hK _ _ rfl ?_; clear hK K
  refine wpSq_call rfl (by kernel_rfl) fun K hK => ?_
  obtain ⟨d0, d1, d2, d3⟩ := x_b2.f4
  go_big_op; refine hK _ _ rfl ?_; clear hK K d0 d1 d2 d3
  refine wpSq_call rfl (by kernel_rfl) fun K hK => ?_
  go_big_move; refine hK _ _ rfl ?_; clear hK K
  refine wpSq_call rfl (by kernel_rfl) fun K hK => ?_
  obtain ⟨d0, d1, d2, d3⟩ := x_b3.f4
  go_big_op; refine hK _ _ rfl ?_; clear hK K d0 d1 d2 d3
  refine wpSq_call rfl (by kernel_rfl) fun K hK => ?_
  go_big_move; refine hK _ _ rfl ?_; clear hK K
  refine wpSq_call rfl (by kernel_rfl) fun K hK => ?_
  go_big_op
  go_fit (ftold_err f (.mk' (zc_zero w_9) (zc_zero w_9)) HF.out)
  rintro e w_10 ⟨rfl, hb_10⟩
  clear x_b2 x_b3
  replace ha1 := ha1.bl hb_10; replace ha2 := ha2.bl hb_10; replace x_b1 := x_b1.bl hb_10; replace hb := hb.trans (hb_10.mono hb.size)
  refine hK _ _ rfl ?_
  clear hK K hb_10
  refine wpSq_call rfl (by kernel_rfl) fun K hK => ?_
  go_big_op; refine hK _ _ rfl ?_; clear hK K
  refine wpSq_call rfl (by kernel_rfl) fun K hK => ?_
  go_big_op; refine hK _ _ rfl ?_; clear hK K
  apply wpSq_end
  refine hK6 _ _ ?_
  refine wp_cond_false (congrArg Value.bool (show _ = false from (by first | rfl | assumption | (simp; done) | exact decide_eq_false (by omega) | omega))) ?_
  refine wp_skip ?_
  refine hK5 _ _ ?_
  refine wp_seq_k ?_
  intro K7 hK7
  refine wp_seq_k ?_
  intro K8 hK8
  refine wp_region_sq [0, 1] (by kernel_rfl) ?_
  refine wpSq_call rfl (by kernel_rfl) fun K hK => ?_
  obtain ⟨d0, d1, d2, d3⟩ := x_b1.f4
  go_big_op; refine hK _ _ rfl ?_; clear hK K d0 d1 d2 d3
  refine wpSq_call rfl (by kernel_rfl) fun K hK => ?_
  go_big_op
  go_fit (rbad_no (PN.mk' ha1 ha2) (by omega) (by omega) H0.out)
  rintro e w_11 ⟨rfl, hb_11⟩
  replace ha1 := ha1.bl hb_11; replace ha2 := ha2.bl hb_11; replace x_b1 := x_b1.bl hb_11; replace hb := hb.trans (hb_11.mono hb.size)
  refine hK _ _ rfl ?_
  clear hK K hb_11
  apply wpSq_end
  refine hK8 _ _ ?_
  refine wp_cond_false (congrArg Value.bool (show _ = false from (by first | rfl | assumption | (simp; done) | exact decide_eq_false (by omega) | omega))) ?_
  refine wp_skip ?_
  refine hK7 _ _ ?_
  refine wp_seq_k ?_
  intro K9 hK9
  refine wp_region_sq [0, 1, 2, 3, 4, 5, 6, 7, 8] (by kernel_rfl) ?_
  refine wpSq_call rfl (by kernel_rfl) fun K hK => ?_
  go_big_move; refine hK _ _ rfl ?_; clear hK K
  refine wpSq_call rfl (by kernel_rfl) fun K hK => ?_
  go_big_op; refine hK _ _ rfl ?_; clear hK K
  refine wpSq_call rfl (by kernel_rfl) fun K hK => ?_
  go_big_move; refine hK _ _ rfl ?_; clear hK K
  refine wpSq_call rfl (by kernel_rfl) fun K hK => ?_
  go_big_move; refine hK _ _ rfl ?_; clear hK K
  refine wpSq_call rfl (by kernel_rfl) fun K hK => ?_
  obtain ⟨d0, d1, d2, d3⟩ := x_b1.f4
  go_big_op; refine hK _ _ rfl ?_; clear hK K d0 d1 d2 d3
  refine wpSq_call rfl (by kernel_rfl) fun K hK => ?_
  go_big_op
  go_fit (rfText_any (PN.mk' ha1 ha2) (by omega) (by omega) H0.out)
  rintro e w_12 ⟨rfl, hb_12⟩
  clear x_b1
  replace ha1 := ha1.bl hb_12; replace ha2 := ha2.bl hb_12; replace hb := hb.trans (hb_12.mono hb.size)
  rw [HS.out]
  refine hK _ _ rfl ?_
  clear hK K hb_12
  refine wpSq_call rfl (by kernel_rfl) fun K hK => ?_
  go_big_op; refine hK _ _ rfl ?_; clear hK K
  refine wpSq_call rfl (by kernel_rfl) fun K hK => ?_
  go_big_op; refine hK _ _ rfl ?_; clear hK K
  refine wpSq_call rfl (by kernel_rfl) fun K hK => ?_
  go_big_move; refine hK _ _ rfl ?_; clear hK K
  apply wpSq_end
  refine hK9 _ _ ?_
  refine wp_ret ?_
  try dsimp only [Exit.then, Exit.inBlock]
  refine bodyPost_ret (v := (.bool true)) (by simp [results, Tryz.results8, go_sem]) rfl ?_
  exact ⟨rfl, hb⟩
set_option maxHeartbeats 8000000 in
set_option maxRecDepth 20000 in
theorem texts_some_ok {s : ByteArray} (ha : PN w va x l y m) (hl : l ≤ 1048576) (hm : m ≤ 1048576) (h0 : y ≠ 0) (p q : Int) (hlow : low p q) (lp : (dig p.natAbs).length ≤ 8192) (lq : (dig q.natAbs).length ≤ 8192)
    (h1 : ∀ w, Calls Tryz.prog 48 #[.string s] w fun e w' => ∃ r, e = .returned (.tuple #[r, .int .i64 0]) ∧ PC w' r p q ∧ Below w.heap.size w w')
    (h2 : ∀ w, Calls Tryz.prog 49 #[.string s] w fun e w' => ∃ r, e = .returned (.tuple #[r, .int .i64 0]) ∧ PC w' r p q ∧ Below w.heap.size w w')
    (htab : Lib.TabIs Tryz.prog w p10 .u64 Lib.pow10Tab) :
    Calls Tryz.prog 8 #[va, .string s] w fun e w' => e = .returned (.bool true) ∧ Below w.heap.size w w' := by
  have htabs := Lib.tabBelow_of_tabIs htab
  obtain ⟨S, hS⟩ : ∃ S, qts x y = S := ⟨_, rfl⟩
  have HS := hide hS
  have qS : (S.toList == S.toList) = true := by simp
  have H0 := hide h0
  have H1 := hide h1
  have H2 := hide h2
  have HL := hide hlow
  have LP := hide lp
  have LQ := hide lq
  clear h1 h2 hlow lp lq h0 hS
  obtain ⟨n_0a, o_0a, k_0a, c_0a, n_0b, o_0b, k_0b, c_0b, rfl, ha1, ha2⟩ := ha
  go_enter Tryz.func8, Tryz.ntmps8
  have hb := Below.refl w.heap.size w
  refine wp_seq_k ?_
  intro K1 hK1
  refine wp_region_sq [0, 1] (by kernel_rfl) ?_
  refine wpSq_call rfl (by kernel_rfl) fun K hK => ?_
  go_big_op
  obtain ⟨p_b1, w_1, eP, eW, x_b1, hn, kb_b1⟩ := newBox w #[.bool n_0a, .slice o_0a k_0a c_0a, .bool n_0b, .slice o_0b k_0b c_0b] 26 hb.size
  rw [eW, eP]
  clear eW eP
  replace ha1 := ha1.bl hn; replace ha2 := ha2.bl hn; replace hb := hb.trans (hn.mono hb.size)
  refine hK _ _ rfl ?_; clear hK K hn
  refine wpSq_call rfl (by kernel_rfl) fun K hK => ?_
  go_big_move; refine hK _ _ rfl ?_; clear hK K
  apply wpSq_end
  refine hK1 _ _ ?_
  refine wp_seq_k ?_
  intro K2 hK2
  refine wp_region_sq [0, 1, 2, 3, 4, 5, 6] (by kernel_rfl) ?_
  refine wpSq_call rfl (by kernel_rfl) fun K hK => ?_
  obtain ⟨d0, d1, d2, d3⟩ := x_b1.f4
  go_big_op; refine hK _ _ rfl ?_; clear hK K d0 d1 d2 d3
  refine wpSq_call rfl (by kernel_rfl) fun K hK => ?_
  go_big_op
  go_fit (fText_any (PN.mk' ha1 ha2) (by omega) (by omega) H0.out (htabs _ hb))
  rintro e w_2 ⟨rfl, hb_2⟩
  replace ha1 := ha1.bl hb_2; replace ha2 := ha2.bl hb_2; replace x_b1 := x_b1.bl hb_2; replace hb := hb.trans (hb_2.mono hb.size)
  rw [HS.out]
  refine hK _ _ rfl ?_
  clear hK K hb_2
  refine wpSq_call rfl (by kernel_rfl) fun K hK => ?_
  go_big_move; refine hK _ _ rfl ?_; clear hK K
  refine wpSq_call rfl (by kernel_rfl) fun K hK => ?_
  go_big_op; refine hK _ _ rfl ?_; clear hK K
  refine wpSq_call rfl (by kernel_rfl) fun K hK => ?_
  go_big_op; refine hK _ _ rfl ?_; clear hK K
  refine wpSq_call rfl (by kernel_rfl) fun K hK => ?_
  go_big_move; refine hK _ _ rfl ?_; clear hK K
  refine wpSq_call rfl (by kernel_rfl) fun K hK => ?_
  go_big_move; refine hK _ _ rfl ?_; clear hK K
  apply wpSq_end
  refine hK2 _ _ ?_
  refine wp_seq_k ?_
  intro K3 hK3
  refine wp_region_sq [0, 1, 2, 3, 4, 5, 6, 7] (by kernel_rfl) ?_
  refine wpSq_call rfl (by kernel_rfl) fun K hK => ?_
  go_big_move; refine hK _ _ rfl ?_; clear hK K
  refine wpSq_call rfl (by kernel_rfl) fun K hK => ?_
  go_big_op
  go_fit (H1.out _)
  rintro e w_3 ⟨_, rfl, ⟨n_ga, o_ga, k_ga, c_ga, n_gb, o_gb, k_gb, c_gb, rfl, g1, g2⟩, hb_3⟩
  replace ha1 := ha1.bl hb_3; replace ha2 := ha2.bl hb_3; replace x_b1 := x_b1.bl hb_3; replace hb := hb.trans (hb_3.mono hb.size)
  have Lg1 := hide (g1.lenOf (LP.out))
  have Lg2 := hide (g2.lenOf (LQ.out))
  refine hK _ _ rfl ?_
  clear hK K hb_3
  refine wpSq_call rfl (by kernel_rfl) fun K hK => ?_
  go_big_move; refine hK _ _ rfl ?_; clear hK K
  refine wpSq_call rfl (by kernel_rfl) fun K hK => ?_
  go_big_op; refine hK _ _ rfl ?_; clear hK K
  refine wpSq_call rfl (by kernel_rfl) fun K hK => ?_
  go_big_op; refine hK _ _ rfl ?_; clear hK K
  refine wpSq_call rfl (by kernel_rfl) fun K hK => ?_
  go_big_op
  have lt_b1 := x_b1.lt
  obtain ⟨p_b2, w_4, eP, eW, x_b2, hn, kb_b2⟩ := newBox w_3 #[.bool false, .slice none 0 0, .bool false, .slice none 0 0] 26 hb.size
  have ne_b1_b2 : Hid (p_b1 ≠ p_b2) := Nat.ne_of_lt (eP ▸ lt_b1)
  rw [eW, eP]
  clear eW eP lt_b1
  replace ha1 := ha1.bl hn; replace ha2 := ha2.bl hn; replace x_b1 := x_b1.bl hn; replace g1 := g1.bl hn; replace g2 := g2.bl hn; replace hb := hb.trans (hn.mono hb.size)
  refine hK _ _ rfl ?_; clear hK K hn
  refine wpSq_call rfl (by kernel_rfl) fun K hK => ?_
  obtain ⟨d0, d1, d2, d3⟩ := x_b2.f4
  have f0 := x_b2.free 0; have f1 := x_b2.free 1; have f2 := x_b2.free 2; have f3 := x_b2.free 3
  go_big_op
  have hnd := x_b2.nod rfl rfl
  obtain ⟨w_5, eW, x_b2', ho⟩ : ∃ w', ((((w_4.setCell ⟨p_b2, 0, none⟩ (.bool n_ga)).setCell ⟨p_b2, 1, none⟩ (.slice o_ga k_ga c_ga)).setCell ⟨p_b2, 2, none⟩ (.bool n_gb)).setCell ⟨p_b2, 3, none⟩ (.slice o_gb k_gb c_gb)) = w' ∧ Bs w' p_b2 #[.bool n_ga, .slice o_ga k_ga c_ga, .bool n_gb, .slice o_gb k_gb c_gb] 26 ∧ Only p_b2 w_4 w' := x_b2.setN [(0, .bool n_ga), (1, .slice o_ga k_ga c_ga), (2, .bool n_gb), (3, .slice o_gb k_gb c_gb)]
  rw [eW]; clear eW d0 d1 d2 d3 f0 f1 f2 f3 x_b2
  have x_b2 := x_b2'; clear x_b2'
  replace ha1 := ha1.fr hnd ho; replace ha2 := ha2.fr hnd ho; replace x_b1 := x_b1.frame ho ne_b1_b2; replace g1 := g1.fr hnd ho; replace g2 := g2.fr hnd ho; replace hb := belowOnly hb ho kb_b2
  refine hK _ _ rfl ?_; clear hK K ho hnd
  refine wpSq_call rfl (by kernel_rfl) fun K hK => ?_
  go_big_move; refine hK _ _ rfl ?_; clear hK K
  apply wpSq_end
  refine hK3 _ _ ?_
  refine wp_seq_k ?_
  intro K4 hK4
  refine wp_region_sq [0, 1, 2, 3, 4, 5, 6, 7] (by kernel_rfl) ?_
  refine wpSq_call rfl (by kernel_rfl) fun K hK => ?_
  go_big_move; refine hK _ _ rfl ?_; clear hK K
  refine wpSq_call rfl (by kernel_rfl) fun K hK => ?_
  go_big_op
  go_fit (H2.out _)
  rintro e w_6 ⟨_, rfl, ⟨n_ka, o_ka, k_ka, c_ka, n_kb, o_kb, k_kb, c_kb, rfl, k1, k2⟩, hb_6⟩
  replace ha1 := ha1.bl hb_6; replace ha2 := ha2.bl hb_6; replace x_b1 := x_b1.bl hb_6; replace g1 := g1.bl hb_6; replace g2 := g2.bl hb_6; replace x_b2 := x_b2.bl hb_6; replace hb := hb.trans (hb_6.mono hb.size)
  have Lk1 := hide (k1.lenOf (LP.out))
  have Lk2 := hide (k2.lenOf (LQ.out))
  refine hK _ _ rfl ?_
  clear hK K hb_6
  refine wpSq_call rfl (by kernel_rfl) fun K hK => ?_
  go_big_move; refine hK _ _ rfl ?_; clear hK K
  refine wpSq_call rfl (by kernel_rfl) fun K hK => ?_
  go_big_op; refine hK _ _ rfl ?_; clear hK K
  refine wpSq_call rfl (by kernel_rfl) fun K hK => ?_
  go_big_op; refine hK _ _ rfl ?_; clear hK K
  refine wpSq_call rfl (by kernel_rfl) fun K hK => ?_
  go_big_op
  have lt_b1 := x_b1.lt
  have lt_b2 := x_b2.lt
  obtain ⟨p_b3, w_7, eP, eW, x_b3, hn, kb_b3⟩ := newBox w_6 #[.bool false, .slice none 0 0, .bool false, .slice none 0 0] 26 hb.size
  have ne_b1_b3 : Hid (p_b1 ≠ p_b3) := Nat.ne_of_lt (eP ▸ lt_b1)
  have ne_b2_b3 : Hid (p_b2 ≠ p_b3) := Nat.ne_of_lt (eP ▸ lt_b2)
  rw [eW, eP]
  clear eW eP lt_b1 lt_b2
  replace ha1 := ha1.bl hn; replace ha2 := ha2.bl hn; replace x_b1 := x_b1.bl hn; replace g1 := g1.bl hn; replace g2 := g2.bl hn; replace x_b2 := x_b2.bl hn; replace k1 := k1.bl hn; replace k2 := k2.bl hn; replace hb := hb.trans (hn.mono hb.size)
  refine hK _ _ rfl ?_; clear hK K hn
  refine wpSq_call rfl (by kernel_rfl) fun K hK => ?_
  obtain ⟨d0, d1, d2, d3⟩ := x_b3.f4
  have f0 := x_b3.free 0; have f1 := x_b3.free 1; have f2 := x_b3.free 2; have f3 := x_b3.free 3
  go_big_op
  have hnd := x_b3.nod rfl rfl
  obtain ⟨w_8, eW, x_b3', ho⟩ : ∃ w', ((((w_7.setCell ⟨p_b3, 0, none⟩ (.bool n_ka)).setCell ⟨p_b3, 1, none⟩ (.slice o_ka k_ka c_ka)).setCell ⟨p_b3, 2, none⟩ (.bool n_kb)).setCell ⟨p_b3, 3, none⟩ (.slice o_kb k_kb c_kb)) = w' ∧ Bs w' p_b3 #[.bool n_ka, .slice o_ka k_ka c_ka, .bool n_kb, .slice o_kb k_kb c_kb] 26 ∧ Only p_b3 w_7 w' := x_b3.setN [(0, .bool n_ka), (1, .slice o_ka k_ka c_ka), (2, .bool n_kb), (3, .slice o_kb k_kb c_kb)]
  rw [eW]; clear eW d0 d1 d2 d3 f0 f1 f2 f3 x_b3
  have x_b3 := x_b3'; clear x_b3'
  replace ha1 := ha1.fr hnd ho; replace ha2 := ha2.fr hnd ho; replace x_b1 := x_b1.frame ho ne_b1_b3; replace g1 := g1.fr hnd ho; replace g2 := g2.fr hnd ho; replace x_b2 := x_b2.frame ho ne_b2_b3; replace k1 := k1.fr hnd ho; replace k2 := k2.fr hnd ho; replace hb := belowOnly hb ho kb_b3
  refine hK _ _ rfl ?_; clear hK K ho hnd
  refine wpSq_call rfl (by kernel_rfl) fun K hK => ?_
  go_big_move; refine hK _ _ rfl ?_; clear hK K
  apply wpSq_end
  refine hK4 _ _ ?_
  refine wp_seq_k ?_
  intro K5 hK5
  refine wp_seq_k ?_
  intro K6 hK6
  refine wp_region_sq [0, 1, 2, 3, 4, 5, 6, 7, 8, 9] (by kernel_rfl) ?_
  refine wpSq_call rfl (by kernel_rfl) fun K hK => ?_
  go_big_op
  go_fit (fawake_any _ (htabs _ hb))
  rintro e w_9 ⟨rfl, hb_9⟩
  replace ha1 := ha1.bl hb_9; replace ha2 := ha2.bl hb_9; replace x_b1 := x_b1.bl hb_9; replace g1 := g1.bl hb_9; replace g2 := g2.bl hb_9; replace x_b2 := x_b2.bl hb_9; replace k1 := k1.bl hb_9; replace k2 := k2.bl hb_9; replace x_b3 := x_b3.bl hb_9; replace hb := hb.trans (hb_9.mono hb.size)
  refine hK _ _ rfl ?_
  clear hK K hb_9
  refine wpSq_call rfl (by kernel_rfl) fun K hK => ?_
  go_big_op; refine hK _ _ rfl ?_; clear hK K
  refine wpSq_call rfl (by kernel_rfl) fun K hK => ?_
  go_big_move; refine hK _ _ rfl ?_; clear hK K
  refine wpSq_call rfl (by kernel_rfl) fun K hK => ?_
  obtain ⟨d0, d1, d2, d3⟩ := x_b2.f4
  go_big_op; refine hK _ _ rfl ?_; clear hK K d0 d1 d2 d3
  refine wpSq_call rfl (by kernel_rfl) fun K hK => ?_
  go_big_move; refine hK _ _ rfl ?_; clear hK K
  refine wpSq_call rfl (by kernel_rfl) fun K hK => ?_
  obtain ⟨d0, d1, d2, d3⟩ := x_b3.f4
  go_big_op; refine hK _ _ rfl ?_; clear hK K d0 d1 d2 d3
  refine wpSq_call rfl (by kernel_rfl) fun K hK => ?_
  go_big_move; refine hK _ _ rfl ?_; clear hK K
  refine wpSq_call rfl (by kernel_rfl) fun K hK => ?_
  go_big_op
  go_fit (ftold_low (PC.mk' g1 g2) (PC.mk' k1 k2)  HL.out (Nat.le_trans LP.out (by decide)) (Nat.le_trans LQ.out (by decide)))
  rintro e w_10 ⟨rfl, hb_10⟩
  clear x_b2 x_b3
  replace ha1 := ha1.bl hb_10; replace ha2 := ha2.bl hb_10; replace x_b1 := x_b1.bl hb_10; replace g1 := g1.bl hb_10; replace g2 := g2.bl hb_10; replace k1 := k1.bl hb_10; replace k2 := k2.bl hb_10; replace hb := hb.trans (hb_10.mono hb.size)
  refine hK _ _ rfl ?_
  clear hK K hb_10
  refine wpSq_call rfl (by kernel_rfl) fun K hK => ?_
  go_big_op; refine hK _ _ rfl ?_; clear hK K
  refine wpSq_call rfl (by kernel_rfl) fun K hK => ?_
  go_big_op; refine hK _ _ rfl ?_; clear hK K
  apply wpSq_end
  refine hK6 _ _ ?_
  refine wp_cond_false (congrArg Value.bool (show _ = false from (by first | rfl | assumption | (simp; done) | exact decide_eq_false (by omega) | omega))) ?_
  refine wp_skip ?_
  refine hK5 _ _ ?_
  refine wp_seq_k ?_
  intro K7 hK7
  refine wp_seq_k ?_
  intro K8 hK8
  refine wp_region_sq [0, 1] (by kernel_rfl) ?_
  refine wpSq_call rfl (by kernel_rfl) fun K hK => ?_
  obtain ⟨d0, d1, d2, d3⟩ := x_b1.f4
  go_big_op; refine hK _ _ rfl ?_; clear hK K d0 d1 d2 d3
  refine wpSq_call rfl (by kernel_rfl) fun K hK => ?_
  go_big_op
  go_fit (rbad_no (PN.mk' ha1 ha2) (by omega) (by omega) H0.out)
  rintro e w_11 ⟨rfl, hb_11⟩
  clear g1 g2 k1 k2
  replace ha1 := ha1.bl hb_11; replace ha2 := ha2.bl hb_11; replace x_b1 := x_b1.bl hb_11; replace hb := hb.trans (hb_11.mono hb.size)
  refine hK _ _ rfl ?_
  clear hK K hb_11
  apply wpSq_end
  refine hK8 _ _ ?_
  refine wp_cond_false (congrArg Value.bool (show _ = false from (by first | rfl | assumption | (simp; done) | exact decide_eq_false (by omega) | omega))) ?_
  refine wp_skip ?_
  refine hK7 _ _ ?_
  refine wp_seq_k ?_
  intro K9 hK9
  refine wp_region_sq [0, 1, 2, 3, 4, 5, 6, 7, 8] (by kernel_rfl) ?_
  refine wpSq_call rfl (by kernel_rfl) fun K hK => ?_
  go_big_move; refine hK _ _ rfl ?_; clear hK K
  refine wpSq_call rfl (by kernel_rfl) fun K hK => ?_
  go_big_op; refine hK _ _ rfl ?_; clear hK K
  refine wpSq_call rfl (by kernel_rfl) fun K hK => ?_
  go_big_move; refine hK _ _ rfl ?_; clear hK K
  refine wpSq_call rfl (by kernel_rfl) fun K hK => ?_
  go_big_move; refine hK _ _ rfl ?_; clear hK K
  refine wpSq_call rfl (by kernel_rfl) fun K hK => ?_
  obtain ⟨d0, d1, d2, d3⟩ := x_b1.f4
  go_big_op; refine hK _ _ rfl ?_; clear hK K d0 d1 d2 d3
  refine wpSq_call rfl (by kernel_rfl) fun K hK => ?_
  go_big_op
  go_fit (rfText_any (PN.mk' ha1 ha2) (by omega) (by omega) H0.out)
  rintro e w_12 ⟨rfl, hb_12⟩
  clear x_b1
  replace ha1 := ha1.bl hb_12; replace ha2 := ha2.bl hb_12; replace hb := hb.trans (hb_12.mono hb.size)
  rw [HS.out]
  refine hK _ _ rfl ?_
  clear hK K hb_12
  refine wpSq_call rfl (by kernel_rfl) fun K hK => ?_
  go_big_op; refine hK _ _ rfl ?_; clear hK K
  refine wpSq_call rfl (by kernel_rfl) fun K hK => ?_
  go_big_op; refine hK _ _ rfl ?_; clear hK K
  refine wpSq_call rfl (by kernel_rfl) fun K hK => ?_
  go_big_move; refine hK _ _ rfl ?_; clear hK K
  apply wpSq_end
  refine hK9 _ _ ?_
  refine wp_ret ?_
  try dsimp only [Exit.then, Exit.inBlock]
  refine bodyPost_ret (v := (.bool true)) (by simp [results, Tryz.results8, go_sem]) rfl ?_
  exact ⟨rfl, hb⟩
end
theorem walk_FracTexts (w : World) (n1 : Bool) (s1 : Value) (xs : List Nat) (h1 : Rd w s1 xs) (l1 : xs.length ≤ 1048576) (n2 : Bool) (s2 : Value) (ys : List Nat) (h2 : Rd w s2 ys) (l2 : ys.length ≤ 1048576) (s : ByteArray) (hs : s.size ≤ 1048576) (htab : Lib.TabIs Tryz.prog w p10 .u64 Lib.pow10Tab) :
    Calls Tryz.prog 8 #[.agg #[.bool n1, s1, .bool n2, s2], .string s] w fun e w' => e = .returned (.bool true) ∧ Below w.heap.size w w' := by
  have ha := PN.of_rd n1 n2 h1 l1 h2 l2
  have r := Nat.le_refl 1048576
  by_cases h0 : zv n2 ys = 0
  · rw [h0] at ha
    rcases both_any s with ⟨f, hf, g1, g2⟩ | ⟨p, q, g0, g1, g2, g3, g4⟩
    · exact texts_bad_no ha r r f hf g1 g2 htab
    · exact texts_bad_ok ha r r p q g0 g1 g2 g3 g4 htab
  · rcases both_any s with ⟨f, hf, g1, g2⟩ | ⟨p, q, g0, g1, g2, g3, g4⟩
    · exact texts_some_no ha r r h0 f hf g1 g2 htab
    · exact texts_some_ok ha r r h0 p q g0 g1 g2 g3 g4 htab
end Go.Proofs.YtkgbfnmlpajblaaGreatDoor

