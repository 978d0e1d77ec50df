/- frac.Parse of two parts; the reference's Parse. -/
import Derived.Test.YtkgbfnmlpajblaaGreatDoorT1ToQ10
import Derived.Test.YtkgbfnmlpajblaaGreatDoorQ5
import Derived.Test.YtkgbfnmlpajblaaGreatDoorShelf
import Derived.Lib.BitFns
import Derived.Lib.ItoaNum
import Derived.Test.YtkgbfnmlpajblaaGreatDoorZ1
import Derived.Test.YtkgbfnmlpajblaaGreatDoorR8
import Derived.Test.YtkgbfnmlpajblaaGreatDoorR17
import Derived.Deep.LoopGhost

namespace Go.Proofs.YtkgbfnmlpajblaaGreatDoor
open Go Go.RowKit Dig
set_option linter.unusedVariables false

theorem minus_no {s : ByteArray} (h : digitsB s.data.toList = true) : minusB s = false := by
  have h0 := digits_pos h
  rw [minus_at s h0]
  have h1 := digits_all' h
  have h2 : s[0] ∈ s.data.toList := by
    have : s[0] = s.data.toList[0]'(by rw [← Lib.size_eq]; exact h0) := rfl
    rw [this]; exact List.getElem_mem _
  have h3 := List.all_eq_true.1 h1 _ h2
  unfold isD at h3
  have h4 := of_decide_eq_true h3
  rw [beq_eq_false_iff_ne]
  omega
theorem zok_digits {s : ByteArray} (h : digitsB s.data.toList = true) : zok s = true ∧ zvl s = ((pval s.data.toList : Nat) : Int) := by
  have hm := minus_no h
  unfold zok zvl
  rw [if_neg (by rw [hm]; exact Bool.false_ne_true), if_neg (by rw [hm]; exact Bool.false_ne_true)]
  exact ⟨h, rfl⟩
theorem zok_no {s : ByteArray} (hm : minusB s = false) (h : digitsB s.data.toList = false) : zok s = false := by
  unfold zok; rw [if_neg (by rw [hm]; exact Bool.false_ne_true)]; exact h
section
variable {s : ByteArray} {k : Nat}
set_option maxHeartbeats 4000000 in
set_option maxRecDepth 20000 in
theorem fParse_t0 (w : World) (hs : s.size ≤ 65536) (hk : k < s.size) (hi : Lib.indexByte s.data.toList 47 = (k : Int)) (T B : ByteArray) (hT : s.extract 0 k = T) (hB : s.extract (k + 1) s.size = B) (hTs : T.size ≤ 65536) (h : zok T = false) :
    Calls Tryz.prog 48 #[.string s] w fun e w' => e = .returned (.tuple #[.agg #[.bool false, .slice none 0 0, .bool false, .slice none 0 0], .int .i64 7]) ∧ Below w.heap.size w w' := by
  have HI := hide hi
  have H := hide h
  have HT := hide hT
  have HB := hide hB
  clear hi h hT hB
  go_enter Tryz.func48, Tryz.ntmps48
  have hb := Below.refl w.heap.size w
  refine wp_seq_k ?_
  intro K1 hK1
  refine wp_region_sq [0, 1] (by kernel_rfl) ?_
  refine wpSq_call rfl (by kernel_rfl) fun K hK => ?_
  go_big_op
  obtain ⟨p_b1, w_1, eP, eW, x_b1, hn, kb_b1⟩ := newBox w #[.bool false, .slice none 0 0, .bool false, .slice none 0 0] 26 hb.size
  rw [eW, eP]
  clear eW eP
  replace hb := hb.trans (hn.mono hb.size)
  refine hK _ _ rfl ?_; clear hK K hn
  refine wpSq_call rfl (by kernel_rfl) fun K hK => ?_
  go_big_move; refine hK _ _ rfl ?_; clear hK K
  apply wpSq_end
  refine hK1 _ _ ?_
  refine wp_seq_k ?_
  intro K2 hK2
  refine wp_seq_k ?_
  intro K3 hK3
  refine wp_region_sq [0, 1, 2] (by kernel_rfl) ?_
  refine wpSq_call rfl (by kernel_rfl) fun K hK => ?_
  go_big_move; refine hK _ _ rfl ?_; clear hK K
  refine wpSq_call rfl (by kernel_rfl) fun K hK => ?_
  go_big_op; refine hK _ _ rfl ?_; clear hK K
  refine wpSq_call rfl (by kernel_rfl) fun K hK => ?_
  go_big_op; refine hK _ _ rfl ?_; clear hK K
  apply wpSq_end
  refine hK3 _ _ ?_
  refine wp_cond_false (congrArg Value.bool (show _ = false from (by first | rfl | assumption | (simp; done) | exact decide_eq_false (by omega) | omega))) ?_
  refine wp_skip ?_
  refine hK2 _ _ ?_
  refine wp_seq_k ?_
  intro K4 hK4
  refine wp_region_sq [0, 1, 2, 3, 4, 5, 6, 7, 8] (by kernel_rfl) ?_
  refine wpSq_call rfl (by kernel_rfl) fun K hK => ?_
  go_big_move; refine hK _ _ rfl ?_; clear hK K
  refine wpSq_call rfl (by kernel_rfl) fun K hK => ?_
  go_big_op
  go_fit (scutS_some s _ k hk hs HI.out)
  rintro e w_2 ⟨rfl, hb_2⟩
  replace x_b1 := x_b1.bl hb_2; replace hb := hb.trans (hb_2.mono hb.size)
  rw [HT.out, HB.out]
  refine hK _ _ rfl ?_
  clear hK K hb_2
  refine wpSq_call rfl (by kernel_rfl) fun K hK => ?_
  go_big_move; refine hK _ _ rfl ?_; clear hK K
  refine wpSq_call rfl (by kernel_rfl) fun K hK => ?_
  go_big_op; refine hK _ _ rfl ?_; clear hK K
  refine wpSq_call rfl (by kernel_rfl) fun K hK => ?_
  go_big_op; refine hK _ _ rfl ?_; clear hK K
  refine wpSq_call rfl (by kernel_rfl) fun K hK => ?_
  go_big_op; refine hK _ _ rfl ?_; clear hK K
  refine wpSq_call rfl (by kernel_rfl) fun K hK => ?_
  go_big_move; refine hK _ _ rfl ?_; clear hK K
  refine wpSq_call rfl (by kernel_rfl) fun K hK => ?_
  go_big_move; refine hK _ _ rfl ?_; clear hK K
  refine wpSq_call rfl (by kernel_rfl) fun K hK => ?_
  go_big_move; refine hK _ _ rfl ?_; clear hK K
  apply wpSq_end
  refine hK4 _ _ ?_
  refine wp_seq_k ?_
  intro K5 hK5
  refine wp_seq_k ?_
  intro K6 hK6
  refine wp_region_sq [0, 1] (by kernel_rfl) ?_
  refine wpSq_call rfl (by kernel_rfl) fun K hK => ?_
  go_big_move; refine hK _ _ rfl ?_; clear hK K
  refine wpSq_call rfl (by kernel_rfl) fun K hK => ?_
  go_big_op; refine hK _ _ rfl ?_; clear hK K
  apply wpSq_end
  refine hK6 _ _ ?_
  refine wp_cond_false (congrArg Value.bool (show _ = false from (by first | rfl | assumption | (simp; done) | exact decide_eq_false (by omega) | omega))) ?_
  refine wp_skip ?_
  refine hK5 _ _ ?_
  refine wp_seq_k ?_
  intro K7 hK7
  refine wp_region_sq [0, 1, 2, 3, 4, 5, 6, 7] (by kernel_rfl) ?_
  refine wpSq_call rfl (by kernel_rfl) fun K hK => ?_
  go_big_move; refine hK _ _ rfl ?_; clear hK K
  refine wpSq_call rfl (by kernel_rfl) fun K hK => ?_
  go_big_op
  go_fit (zparse_no T _ hTs H.out)
  rintro e w_3 ⟨rfl, hb_3⟩
  replace x_b1 := x_b1.bl hb_3; replace hb := hb.trans (hb_3.mono hb.size)
  refine hK _ _ rfl ?_
  clear hK K hb_3
  refine wpSq_call rfl (by kernel_rfl) fun K hK => ?_
  go_big_move; refine hK _ _ rfl ?_; clear hK K
  refine wpSq_call rfl (by kernel_rfl) fun K hK => ?_
  go_big_op; refine hK _ _ rfl ?_; clear hK K
  refine wpSq_call rfl (by kernel_rfl) fun K hK => ?_
  go_big_op; refine hK _ _ rfl ?_; clear hK K
  refine wpSq_call rfl (by kernel_rfl) fun K hK => ?_
  go_big_op
  have lt_b1 := x_b1.lt
  obtain ⟨p_b2, w_4, eP, eW, x_b2, hn, kb_b2⟩ := newBox w_3 #[.bool false, .slice none 0 0] 24 hb.size
  have ne_b1_b2 : Hid (p_b1 ≠ p_b2) := Nat.ne_of_lt (eP ▸ lt_b1)
  rw [eW, eP]
  clear eW eP lt_b1
  replace x_b1 := x_b1.bl hn; replace hb := hb.trans (hn.mono hb.size)
  refine hK _ _ rfl ?_; clear hK K hn
  refine wpSq_call rfl (by kernel_rfl) fun K hK => ?_
  obtain ⟨d0, d1⟩ := x_b2.f2
  have f0 := x_b2.free 0; have f1 := x_b2.free 1
  go_big_op
  have hnd := x_b2.nod rfl rfl
  obtain ⟨w_5, eW, x_b2', ho⟩ : ∃ w', ((w_4.setCell ⟨p_b2, 0, none⟩ (.bool false)).setCell ⟨p_b2, 1, none⟩ (.slice none 0 0)) = w' ∧ Bs w' p_b2 #[.bool false, .slice none 0 0] 24 ∧ Only p_b2 w_4 w' := x_b2.setN [(0, .bool false), (1, .slice none 0 0)]
  rw [eW]; clear eW d0 d1 f0 f1 x_b2
  have x_b2 := x_b2'; clear x_b2'
  replace x_b1 := x_b1.frame ho ne_b1_b2; replace hb := belowOnly hb ho kb_b2
  refine hK _ _ rfl ?_; clear hK K ho hnd
  refine wpSq_call rfl (by kernel_rfl) fun K hK => ?_
  go_big_move; refine hK _ _ rfl ?_; clear hK K
  apply wpSq_end
  refine hK7 _ _ ?_
  refine wp_seq_k ?_
  intro K8 hK8
  refine wp_seq_k ?_
  intro K9 hK9
  refine wp_region_sq [0, 1] (by kernel_rfl) ?_
  refine wpSq_call rfl (by kernel_rfl) fun K hK => ?_
  go_big_move; refine hK _ _ rfl ?_; clear hK K
  refine wpSq_call rfl (by kernel_rfl) fun K hK => ?_
  go_big_op; refine hK _ _ rfl ?_; clear hK K
  apply wpSq_end
  refine hK9 _ _ ?_
  refine wp_cond_true (congrArg Value.bool (show _ = true from (by first | rfl | assumption | (simp; done) | exact decide_eq_true (by omega) | omega))) ?_
  refine wp_seq_k ?_
  intro K10 hK10
  refine wp_region_sq [0, 1, 2, 3] (by kernel_rfl) ?_
  refine wpSq_call rfl (by kernel_rfl) fun K hK => ?_
  go_big_op; refine hK _ _ rfl ?_; clear hK K
  refine wpSq_call rfl (by kernel_rfl) fun K hK => ?_
  go_big_move; refine hK _ _ rfl ?_; clear hK K
  refine wpSq_call rfl (by kernel_rfl) fun K hK => ?_
  obtain ⟨d0, d1, d2, d3⟩ := x_b1.f4
  have f0 := x_b1.free 0; have f1 := x_b1.free 1; have f2 := x_b1.free 2; have f3 := x_b1.free 3
  go_big_op
  have hnd := x_b1.nod rfl rfl
  obtain ⟨w_6, eW, x_b1', ho⟩ : ∃ w', ((((w_5.setCell ⟨p_b1, 0, none⟩ (.bool false)).setCell ⟨p_b1, 1, none⟩ (.slice none 0 0)).setCell ⟨p_b1, 2, none⟩ (.bool false)).setCell ⟨p_b1, 3, none⟩ (.slice none 0 0)) = w' ∧ Bs w' p_b1 #[.bool false, .slice none 0 0, .bool false, .slice none 0 0] 26 ∧ Only p_b1 w_5 w' := x_b1.setN [(0, .bool false), (1, .slice none 0 0), (2, .bool false), (3, .slice none 0 0)]
  rw [eW]; clear eW d0 d1 d2 d3 f0 f1 f2 f3 x_b1
  have x_b1 := x_b1'; clear x_b1'
  replace x_b2 := x_b2.frame ho ne_b1_b2.symm; replace hb := belowOnly hb ho kb_b1
  refine hK _ _ rfl ?_; clear hK K ho hnd
  refine wpSq_call rfl (by kernel_rfl) fun K hK => ?_
  go_big_move; refine hK _ _ rfl ?_; clear hK K
  apply wpSq_end
  refine hK10 _ _ ?_
  refine wp_ret ?_
  try dsimp only [Exit.then, Exit.inBlock]
  obtain ⟨r0_0, r0_1, r0_2, r0_3⟩ := x_b1.f4
  refine bodyPost_ret (v := (.tuple #[(.agg #[.bool false, .slice none 0 0, .bool false, .slice none 0 0]), (.int .i64 7)])) (by simp [results, Tryz.results48, go_sem, r0_0, r0_1, r0_2, r0_3]) rfl ?_
  exact ⟨rfl, hb⟩
set_option maxHeartbeats 4000000 in
set_option maxRecDepth 20000 in
theorem fParse_b0 (w : World) (hs : s.size ≤ 65536) (hk : k < s.size) (hi : Lib.indexByte s.data.toList 47 = (k : Int)) (T B : ByteArray) (hT : s.extract 0 k = T) (hB : s.extract (k + 1) s.size = B) (hTs : T.size ≤ 65536) (h : zok T = true)
    (h2 : ∀ w, Calls Tryz.prog 95 #[.string B] w fun e w' => e = .returned (.tuple #[.agg #[.bool false, .slice none 0 0], .int .i64 7]) ∧ Below w.heap.size w w') :
    Calls Tryz.prog 48 #[.string s] w fun e w' => e = .returned (.tuple #[.agg #[.bool false, .slice none 0 0, .bool false, .slice none 0 0], .int .i64 7]) ∧ Below w.heap.size w w' := by
  have HI := hide hi
  have H := hide h
  have H2 := hide h2
  have HT := hide hT
  have HB := hide hB
  clear hi h hT hB h2
  go_enter Tryz.func48, Tryz.ntmps48
  have hb := Below.refl w.heap.size w
  refine wp_seq_k ?_
  intro K1 hK1
  refine wp_region_sq [0, 1] (by kernel_rfl) ?_
  refine wpSq_call rfl (by kernel_rfl) fun K hK => ?_
  go_big_op
  obtain ⟨p_b1, w_1, eP, eW, x_b1, hn, kb_b1⟩ := newBox w #[.bool false, .slice none 0 0, .bool false, .slice none 0 0] 26 hb.size
  rw [eW, eP]
  clear eW eP
  replace hb := hb.trans (hn.mono hb.size)
  refine hK _ _ rfl ?_; clear hK K hn
  refine wpSq_call rfl (by kernel_rfl) fun K hK => ?_
  go_big_move; refine hK _ _ rfl ?_; clear hK K
  apply wpSq_end
  refine hK1 _ _ ?_
  refine wp_seq_k ?_
  intro K2 hK2
  refine wp_seq_k ?_
  intro K3 hK3
  refine wp_region_sq [0, 1, 2] (by kernel_rfl) ?_
  refine wpSq_call rfl (by kernel_rfl) fun K hK => ?_
  go_big_move; refine hK _ _ rfl ?_; clear hK K
  refine wpSq_call rfl (by kernel_rfl) fun K hK => ?_
  go_big_op; refine hK _ _ rfl ?_; clear hK K
  refine wpSq_call rfl (by kernel_rfl) fun K hK => ?_
  go_big_op; refine hK _ _ rfl ?_; clear hK K
  apply wpSq_end
  refine hK3 _ _ ?_
  refine wp_cond_false (congrArg Value.bool (show _ = false from (by first | rfl | assumption | (simp; done) | exact decide_eq_false (by omega) | omega))) ?_
  refine wp_skip ?_
  refine hK2 _ _ ?_
  refine wp_seq_k ?_
  intro K4 hK4
  refine wp_region_sq [0, 1, 2, 3, 4, 5, 6, 7, 8] (by kernel_rfl) ?_
  refine wpSq_call rfl (by kernel_rfl) fun K hK => ?_
  go_big_move; refine hK _ _ rfl ?_; clear hK K
  refine wpSq_call rfl (by kernel_rfl) fun K hK => ?_
  go_big_op
  go_fit (scutS_some s _ k hk hs HI.out)
  rintro e w_2 ⟨rfl, hb_2⟩
  replace x_b1 := x_b1.bl hb_2; replace hb := hb.trans (hb_2.mono hb.size)
  rw [HT.out, HB.out]
  refine hK _ _ rfl ?_
  clear hK K hb_2
  refine wpSq_call rfl (by kernel_rfl) fun K hK => ?_
  go_big_move; refine hK _ _ rfl ?_; clear hK K
  refine wpSq_call rfl (by kernel_rfl) fun K hK => ?_
  go_big_op; refine hK _ _ rfl ?_; clear hK K
  refine wpSq_call rfl (by kernel_rfl) fun K hK => ?_
  go_big_op; refine hK _ _ rfl ?_; clear hK K
  refine wpSq_call rfl (by kernel_rfl) fun K hK => ?_
  go_big_op; refine hK _ _ rfl ?_; clear hK K
  refine wpSq_call rfl (by kernel_rfl) fun K hK => ?_
  go_big_move; refine hK _ _ rfl ?_; clear hK K
  refine wpSq_call rfl (by kernel_rfl) fun K hK => ?_
  go_big_move; refine hK _ _ rfl ?_; clear hK K
  refine wpSq_call rfl (by kernel_rfl) fun K hK => ?_
  go_big_move; refine hK _ _ rfl ?_; clear hK K
  apply wpSq_end
  refine hK4 _ _ ?_
  refine wp_seq_k ?_
  intro K5 hK5
  refine wp_seq_k ?_
  intro K6 hK6
  refine wp_region_sq [0, 1] (by kernel_rfl) ?_
  refine wpSq_call rfl (by kernel_rfl) fun K hK => ?_
  go_big_move; refine hK _ _ rfl ?_; clear hK K
  refine wpSq_call rfl (by kernel_rfl) fun K hK => ?_
  go_big_op; refine hK _ _ rfl ?_; clear hK K
  apply wpSq_end
  refine hK6 _ _ ?_
  refine wp_cond_false (congrArg Value.bool (show _ = false from (by first | rfl | assumption | (simp; done) | exact decide_eq_false (by omega) | omega))) ?_
  refine wp_skip ?_
  refine hK5 _ _ ?_
  refine wp_seq_k ?_
  intro K7 hK7
  refine wp_region_sq [0, 1, 2, 3, 4, 5, 6, 7] (by kernel_rfl) ?_
  refine wpSq_call rfl (by kernel_rfl) fun K hK => ?_
  go_big_move; refine hK _ _ rfl ?_; clear hK K
  refine wpSq_call rfl (by kernel_rfl) fun K hK => ?_
  go_big_op
  go_fit (zparse_ok T _ hTs H.out)
  rintro e w_3 ⟨v_g, rfl, g, hb_3⟩
  replace x_b1 := x_b1.bl hb_3; replace hb := hb.trans (hb_3.mono hb.size)
  obtain ⟨n_g, o_g, k_g, c_g, rfl⟩ := g.open2
  refine hK _ _ rfl ?_
  clear hK K hb_3
  refine wpSq_call rfl (by kernel_rfl) fun K hK => ?_
  go_big_move; refine hK _ _ rfl ?_; clear hK K
  refine wpSq_call rfl (by kernel_rfl) fun K hK => ?_
  go_big_op; refine hK _ _ rfl ?_; clear hK K
  refine wpSq_call rfl (by kernel_rfl) fun K hK => ?_
  go_big_op; refine hK _ _ rfl ?_; clear hK K
  refine wpSq_call rfl (by kernel_rfl) fun K hK => ?_
  go_big_op
  have lt_b1 := x_b1.lt
  obtain ⟨p_b2, w_4, eP, eW, x_b2, hn, kb_b2⟩ := newBox w_3 #[.bool false, .slice none 0 0] 24 hb.size
  have ne_b1_b2 : Hid (p_b1 ≠ p_b2) := Nat.ne_of_lt (eP ▸ lt_b1)
  rw [eW, eP]
  clear eW eP lt_b1
  replace x_b1 := x_b1.bl hn; replace g := g.bl hn; replace hb := hb.trans (hn.mono hb.size)
  refine hK _ _ rfl ?_; clear hK K hn
  refine wpSq_call rfl (by kernel_rfl) fun K hK => ?_
  obtain ⟨d0, d1⟩ := x_b2.f2
  have f0 := x_b2.free 0; have f1 := x_b2.free 1
  go_big_op
  have hnd := x_b2.nod rfl rfl
  obtain ⟨w_5, eW, x_b2', ho⟩ : ∃ w', ((w_4.setCell ⟨p_b2, 0, none⟩ (.bool n_g)).setCell ⟨p_b2, 1, none⟩ (.slice o_g k_g c_g)) = w' ∧ Bs w' p_b2 #[.bool n_g, .slice o_g k_g c_g] 24 ∧ Only p_b2 w_4 w' := x_b2.setN [(0, .bool n_g), (1, .slice o_g k_g c_g)]
  rw [eW]; clear eW d0 d1 f0 f1 x_b2
  have x_b2 := x_b2'; clear x_b2'
  replace x_b1 := x_b1.frame ho ne_b1_b2; replace g := g.fr hnd ho; replace hb := belowOnly hb ho kb_b2
  refine hK _ _ rfl ?_; clear hK K ho hnd
  refine wpSq_call rfl (by kernel_rfl) fun K hK => ?_
  go_big_move; refine hK _ _ rfl ?_; clear hK K
  apply wpSq_end
  refine hK7 _ _ ?_
  refine wp_seq_k ?_
  intro K8 hK8
  refine wp_seq_k ?_
  intro K9 hK9
  refine wp_region_sq [0, 1] (by kernel_rfl) ?_
  refine wpSq_call rfl (by kernel_rfl) fun K hK => ?_
  go_big_move; refine hK _ _ rfl ?_; clear hK K
  refine wpSq_call rfl (by kernel_rfl) fun K hK => ?_
  go_big_op; refine hK _ _ rfl ?_; clear hK K
  apply wpSq_end
  refine hK9 _ _ ?_
  refine wp_cond_false (congrArg Value.bool (show _ = false from (by first | rfl | assumption | (simp; done) | exact decide_eq_false (by omega) | omega))) ?_
  refine wp_skip ?_
  refine hK8 _ _ ?_
  refine wp_seq_k ?_
  intro K10 hK10
  refine wp_region_sq [0, 1, 2, 3, 4, 5, 6, 7] (by kernel_rfl) ?_
  refine wpSq_call rfl (by kernel_rfl) fun K hK => ?_
  go_big_move; refine hK _ _ rfl ?_; clear hK K
  refine wpSq_call rfl (by kernel_rfl) fun K hK => ?_
  go_big_op
  go_fit (H2.out _)
  rintro e w_6 ⟨rfl, hb_6⟩
  replace x_b1 := x_b1.bl hb_6; replace g := g.bl hb_6; replace x_b2 := x_b2.bl hb_6; replace hb := hb.trans (hb_6.mono hb.size)
  refine hK _ _ rfl ?_
  clear hK K hb_6
  refine wpSq_call rfl (by kernel_rfl) fun K hK => ?_
  go_big_move; refine hK _ _ rfl ?_; clear hK K
  refine wpSq_call rfl (by kernel_rfl) fun K hK => ?_
  go_big_op; refine hK _ _ rfl ?_; clear hK K
  refine wpSq_call rfl (by kernel_rfl) fun K hK => ?_
  go_big_op; refine hK _ _ rfl ?_; clear hK K
  refine wpSq_call rfl (by kernel_rfl) fun K hK => ?_
  go_big_op
  have lt_b1 := x_b1.lt
  have lt_b2 := x_b2.lt
  obtain ⟨p_b3, w_7, eP, eW, x_b3, hn, kb_b3⟩ := newBox w_6 #[.bool false, .slice none 0 0] 24 hb.size
  have ne_b1_b3 : Hid (p_b1 ≠ p_b3) := Nat.ne_of_lt (eP ▸ lt_b1)
  have ne_b2_b3 : Hid (p_b2 ≠ p_b3) := Nat.ne_of_lt (eP ▸ lt_b2)
  rw [eW, eP]
  clear eW eP lt_b1 lt_b2
  replace x_b1 := x_b1.bl hn; replace g := g.bl hn; replace x_b2 := x_b2.bl hn; replace hb := hb.trans (hn.mono hb.size)
  refine hK _ _ rfl ?_; clear hK K hn
  refine wpSq_call rfl (by kernel_rfl) fun K hK => ?_
  obtain ⟨d0, d1⟩ := x_b3.f2
  have f0 := x_b3.free 0; have f1 := x_b3.free 1
  go_big_op
  have hnd := x_b3.nod rfl rfl
  obtain ⟨w_8, eW, x_b3', ho⟩ : ∃ w', ((w_7.setCell ⟨p_b3, 0, none⟩ (.bool false)).setCell ⟨p_b3, 1, none⟩ (.slice none 0 0)) = w' ∧ Bs w' p_b3 #[.bool false, .slice none 0 0] 24 ∧ Only p_b3 w_7 w' := x_b3.setN [(0, .bool false), (1, .slice none 0 0)]
  rw [eW]; clear eW d0 d1 f0 f1 x_b3
  have x_b3 := x_b3'; clear x_b3'
  replace x_b1 := x_b1.frame ho ne_b1_b3; replace g := g.fr hnd ho; replace x_b2 := x_b2.frame ho ne_b2_b3; replace hb := belowOnly hb ho kb_b3
  refine hK _ _ rfl ?_; clear hK K ho hnd
  refine wpSq_call rfl (by kernel_rfl) fun K hK => ?_
  go_big_move; refine hK _ _ rfl ?_; clear hK K
  apply wpSq_end
  refine hK10 _ _ ?_
  refine wp_seq_k ?_
  intro K11 hK11
  refine wp_seq_k ?_
  intro K12 hK12
  refine wp_region_sq [0, 1] (by kernel_rfl) ?_
  refine wpSq_call rfl (by kernel_rfl) fun K hK => ?_
  go_big_move; refine hK _ _ rfl ?_; clear hK K
  refine wpSq_call rfl (by kernel_rfl) fun K hK => ?_
  go_big_op; refine hK _ _ rfl ?_; clear hK K
  apply wpSq_end
  refine hK12 _ _ ?_
  refine wp_cond_true (congrArg Value.bool (show _ = true from (by first | rfl | assumption | (simp; done) | exact decide_eq_true (by omega) | omega))) ?_
  refine wp_seq_k ?_
  intro K13 hK13
  refine wp_region_sq [0, 1, 2, 3] (by kernel_rfl) ?_
  refine wpSq_call rfl (by kernel_rfl) fun K hK => ?_
  go_big_op; refine hK _ _ rfl ?_; clear hK K
  refine wpSq_call rfl (by kernel_rfl) fun K hK => ?_
  go_big_move; refine hK _ _ rfl ?_; clear hK K
  refine wpSq_call rfl (by kernel_rfl) fun K hK => ?_
  obtain ⟨d0, d1, d2, d3⟩ := x_b1.f4
  have f0 := x_b1.free 0; have f1 := x_b1.free 1; have f2 := x_b1.free 2; have f3 := x_b1.free 3
  go_big_op
  have hnd := x_b1.nod rfl rfl
  obtain ⟨w_9, eW, x_b1', ho⟩ : ∃ w', ((((w_8.setCell ⟨p_b1, 0, none⟩ (.bool false)).setCell ⟨p_b1, 1, none⟩ (.slice none 0 0)).setCell ⟨p_b1, 2, none⟩ (.bool false)).setCell ⟨p_b1, 3, none⟩ (.slice none 0 0)) = w' ∧ Bs w' p_b1 #[.bool false, .slice none 0 0, .bool false, .slice none 0 0] 26 ∧ Only p_b1 w_8 w' := x_b1.setN [(0, .bool false), (1, .slice none 0 0), (2, .bool false), (3, .slice none 0 0)]
  rw [eW]; clear eW d0 d1 d2 d3 f0 f1 f2 f3 x_b1
  have x_b1 := x_b1'; clear x_b1'
  replace g := g.fr hnd ho; replace x_b2 := x_b2.frame ho ne_b1_b2.symm; replace x_b3 := x_b3.frame ho ne_b1_b3.symm; replace hb := belowOnly hb ho kb_b1
  refine hK _ _ rfl ?_; clear hK K ho hnd
  refine wpSq_call rfl (by kernel_rfl) fun K hK => ?_
  go_big_move; refine hK _ _ rfl ?_; clear hK K
  apply wpSq_end
  refine hK13 _ _ ?_
  refine wp_ret ?_
  try dsimp only [Exit.then, Exit.inBlock]
  obtain ⟨r0_0, r0_1, r0_2, r0_3⟩ := x_b1.f4
  refine bodyPost_ret (v := (.tuple #[(.agg #[.bool false, .slice none 0 0, .bool false, .slice none 0 0]), (.int .i64 7)])) (by simp [results, Tryz.results48, go_sem, r0_0, r0_1, r0_2, r0_3]) rfl ?_
  exact ⟨rfl, hb⟩
set_option maxHeartbeats 4000000 in
set_option maxRecDepth 20000 in
theorem fParse_z (w : World) (hs : s.size ≤ 65536) (hk : k < s.size) (hi : Lib.indexByte s.data.toList 47 = (k : Int)) (T B : ByteArray) (hT : s.extract 0 k = T) (hB : s.extract (k + 1) s.size = B) (hTs : T.size ≤ 65536) (h : zok T = true) (hBs : B.size ≤ 65536) (hm : minusB B = false) (h2 : zok B = true) (h0 : zvl B = 0) :
    Calls Tryz.prog 48 #[.string s] w fun e w' => e = .returned (.tuple #[.agg #[.bool false, .slice none 0 0, .bool false, .slice none 0 0], .int .i64 5]) ∧ Below w.heap.size w w' := by
  have HI := hide hi
  have H := hide h
  have HM := hide hm
  have H2 := hide h2
  have H0 := hide h0
  have LT := hide (zvl_len hTs h)
  have HT := hide hT
  have HB := hide hB
  clear hi h hT hB hm h2 h0
  go_enter Tryz.func48, Tryz.ntmps48
  have hb := Below.refl w.heap.size w
  refine wp_seq_k ?_
  intro K1 hK1
  refine wp_region_sq [0, 1] (by kernel_rfl) ?_
  refine wpSq_call rfl (by kernel_rfl) fun K hK => ?_
  go_big_op
  obtain ⟨p_b1, w_1, eP, eW, x_b1, hn, kb_b1⟩ := newBox w #[.bool false, .slice none 0 0, .bool false, .slice none 0 0] 26 hb.size
  rw [eW, eP]
  clear eW eP
  replace hb := hb.trans (hn.mono hb.size)
  refine hK _ _ rfl ?_; clear hK K hn
  refine wpSq_call rfl (by kernel_rfl) fun K hK => ?_
  go_big_move; refine hK _ _ rfl ?_; clear hK K
  apply wpSq_end
  refine hK1 _ _ ?_
  refine wp_seq_k ?_
  intro K2 hK2
  refine wp_seq_k ?_
  intro K3 hK3
  refine wp_region_sq [0, 1, 2] (by kernel_rfl) ?_
  refine wpSq_call rfl (by kernel_rfl) fun K hK => ?_
  go_big_move; refine hK _ _ rfl ?_; clear hK K
  refine wpSq_call rfl (by kernel_rfl) fun K hK => ?_
  go_big_op; refine hK _ _ rfl ?_; clear hK K
  refine wpSq_call rfl (by kernel_rfl) fun K hK => ?_
  go_big_op; refine hK _ _ rfl ?_; clear hK K
  apply wpSq_end
  refine hK3 _ _ ?_
  refine wp_cond_false (congrArg Value.bool (show _ = false from (by first | rfl | assumption | (simp; done) | exact decide_eq_false (by omega) | omega))) ?_
  refine wp_skip ?_
  refine hK2 _ _ ?_
  refine wp_seq_k ?_
  intro K4 hK4
  refine wp_region_sq [0, 1, 2, 3, 4, 5, 6, 7, 8] (by kernel_rfl) ?_
  refine wpSq_call rfl (by kernel_rfl) fun K hK => ?_
  go_big_move; refine hK _ _ rfl ?_; clear hK K
  refine wpSq_call rfl (by kernel_rfl) fun K hK => ?_
  go_big_op
  go_fit (scutS_some s _ k hk hs HI.out)
  rintro e w_2 ⟨rfl, hb_2⟩
  replace x_b1 := x_b1.bl hb_2; replace hb := hb.trans (hb_2.mono hb.size)
  rw [HT.out, HB.out]
  refine hK _ _ rfl ?_
  clear hK K hb_2
  refine wpSq_call rfl (by kernel_rfl) fun K hK => ?_
  go_big_move; refine hK _ _ rfl ?_; clear hK K
  refine wpSq_call rfl (by kernel_rfl) fun K hK => ?_
  go_big_op; refine hK _ _ rfl ?_; clear hK K
  refine wpSq_call rfl (by kernel_rfl) fun K hK => ?_
  go_big_op; refine hK _ _ rfl ?_; clear hK K
  refine wpSq_call rfl (by kernel_rfl) fun K hK => ?_
  go_big_op; refine hK _ _ rfl ?_; clear hK K
  refine wpSq_call rfl (by kernel_rfl) fun K hK => ?_
  go_big_move; refine hK _ _ rfl ?_; clear hK K
  refine wpSq_call rfl (by kernel_rfl) fun K hK => ?_
  go_big_move; refine hK _ _ rfl ?_; clear hK K
  refine wpSq_call rfl (by kernel_rfl) fun K hK => ?_
  go_big_move; refine hK _ _ rfl ?_; clear hK K
  apply wpSq_end
  refine hK4 _ _ ?_
  refine wp_seq_k ?_
  intro K5 hK5
  refine wp_seq_k ?_
  intro K6 hK6
  refine wp_region_sq [0, 1] (by kernel_rfl) ?_
  refine wpSq_call rfl (by kernel_rfl) fun K hK => ?_
  go_big_move; refine hK _ _ rfl ?_; clear hK K
  refine wpSq_call rfl (by kernel_rfl) fun K hK => ?_
  go_big_op; refine hK _ _ rfl ?_; clear hK K
  apply wpSq_end
  refine hK6 _ _ ?_
  refine wp_cond_false (congrArg Value.bool (show _ = false from (by first | rfl | assumption | (simp; done) | exact decide_eq_false (by omega) | omega))) ?_
  refine wp_skip ?_
  refine hK5 _ _ ?_
  refine wp_seq_k ?_
  intro K7 hK7
  refine wp_region_sq [0, 1, 2, 3, 4, 5, 6, 7] (by kernel_rfl) ?_
  refine wpSq_call rfl (by kernel_rfl) fun K hK => ?_
  go_big_move; refine hK _ _ rfl ?_; clear hK K
  refine wpSq_call rfl (by kernel_rfl) fun K hK => ?_
  go_big_op
  go_fit (zparse_ok T _ hTs H.out)
  rintro e w_3 ⟨v_g, rfl, g, hb_3⟩
  replace x_b1 := x_b1.bl hb_3; replace hb := hb.trans (hb_3.mono hb.size)
  obtain ⟨n_g, o_g, k_g, c_g, rfl⟩ := g.open2
  have Lg := hide (g.lenOf (LT.out))
  refine hK _ _ rfl ?_
  clear hK K hb_3
  refine wpSq_call rfl (by kernel_rfl) fun K hK => ?_
  go_big_move; refine hK _ _ rfl ?_; clear hK K
  refine wpSq_call rfl (by kernel_rfl) fun K hK => ?_
  go_big_op; refine hK _ _ rfl ?_; clear hK K
  refine wpSq_call rfl (by kernel_rfl) fun K hK => ?_
  go_big_op; refine hK _ _ rfl ?_; clear hK K
  refine wpSq_call rfl (by kernel_rfl) fun K hK => ?_
  go_big_op
  have lt_b1 := x_b1.lt
  obtain ⟨p_b2, w_4, eP, eW, x_b2, hn, kb_b2⟩ := newBox w_3 #[.bool false, .slice none 0 0] 24 hb.size
  have ne_b1_b2 : Hid (p_b1 ≠ p_b2) := Nat.ne_of_lt (eP ▸ lt_b1)
  rw [eW, eP]
  clear eW eP lt_b1
  replace x_b1 := x_b1.bl hn; replace g := g.bl hn; replace hb := hb.trans (hn.mono hb.size)
  refine hK _ _ rfl ?_; clear hK K hn
  refine wpSq_call rfl (by kernel_rfl) fun K hK => ?_
  obtain ⟨d0, d1⟩ := x_b2.f2
  have f0 := x_b2.free 0; have f1 := x_b2.free 1
  go_big_op
  have hnd := x_b2.nod rfl rfl
  obtain ⟨w_5, eW, x_b2', ho⟩ : ∃ w', ((w_4.setCell ⟨p_b2, 0, none⟩ (.bool n_g)).setCell ⟨p_b2, 1, none⟩ (.slice o_g k_g c_g)) = w' ∧ Bs w' p_b2 #[.bool n_g, .slice o_g k_g c_g] 24 ∧ Only p_b2 w_4 w' := x_b2.setN [(0, .bool n_g), (1, .slice o_g k_g c_g)]
  rw [eW]; clear eW d0 d1 f0 f1 x_b2
  have x_b2 := x_b2'; clear x_b2'
  replace x_b1 := x_b1.frame ho ne_b1_b2; replace g := g.fr hnd ho; replace hb := belowOnly hb ho kb_b2
  refine hK _ _ rfl ?_; clear hK K ho hnd
  refine wpSq_call rfl (by kernel_rfl) fun K hK => ?_
  go_big_move; refine hK _ _ rfl ?_; clear hK K
  apply wpSq_end
  refine hK7 _ _ ?_
  refine wp_seq_k ?_
  intro K8 hK8
  refine wp_seq_k ?_
  intro K9 hK9
  refine wp_region_sq [0, 1] (by kernel_rfl) ?_
  refine wpSq_call rfl (by kernel_rfl) fun K hK => ?_
  go_big_move; refine hK _ _ rfl ?_; clear hK K
  refine wpSq_call rfl (by kernel_rfl) fun K hK => ?_
  go_big_op; refine hK _ _ rfl ?_; clear hK K
  apply wpSq_end
  refine hK9 _ _ ?_
  refine wp_cond_false (congrArg Value.bool (show _ = false from (by first | rfl | assumption | (simp; done) | exact decide_eq_false (by omega) | omega))) ?_
  refine wp_skip ?_
  refine hK8 _ _ ?_
  refine wp_seq_k ?_
  intro K10 hK10
  refine wp_region_sq [0, 1, 2, 3, 4, 5, 6, 7] (by kernel_rfl) ?_
  refine wpSq_call rfl (by kernel_rfl) fun K hK => ?_
  go_big_move; refine hK _ _ rfl ?_; clear hK K
  refine wpSq_call rfl (by kernel_rfl) fun K hK => ?_
  go_big_op
  go_fit (parseDen_ok B _ hBs HM.out H2.out)
  rintro e w_6 ⟨v_k, rfl, k, hb_6⟩
  replace x_b1 := x_b1.bl hb_6; replace g := g.bl hb_6; replace x_b2 := x_b2.bl hb_6; replace hb := hb.trans (hb_6.mono hb.size)
  obtain ⟨n_k, o_k, k_k, c_k, rfl⟩ := k.open2
  rw [H0.out] at k
  refine hK _ _ rfl ?_
  clear hK K hb_6
  refine wpSq_call rfl (by kernel_rfl) fun K hK => ?_
  go_big_move; refine hK _ _ rfl ?_; clear hK K
  refine wpSq_call rfl (by kernel_rfl) fun K hK => ?_
  go_big_op; refine hK _ _ rfl ?_; clear hK K
  refine wpSq_call rfl (by kernel_rfl) fun K hK => ?_
  go_big_op; refine hK _ _ rfl ?_; clear hK K
  refine wpSq_call rfl (by kernel_rfl) fun K hK => ?_
  go_big_op
  have lt_b1 := x_b1.lt
  have lt_b2 := x_b2.lt
  obtain ⟨p_b3, w_7, eP, eW, x_b3, hn, kb_b3⟩ := newBox w_6 #[.bool false, .slice none 0 0] 24 hb.size
  have ne_b1_b3 : Hid (p_b1 ≠ p_b3) := Nat.ne_of_lt (eP ▸ lt_b1)
  have ne_b2_b3 : Hid (p_b2 ≠ p_b3) := Nat.ne_of_lt (eP ▸ lt_b2)
  rw [eW, eP]
  clear eW eP lt_b1 lt_b2
  replace x_b1 := x_b1.bl hn; replace g := g.bl hn; replace x_b2 := x_b2.bl hn; replace k := k.bl hn; replace hb := hb.trans (hn.mono hb.size)
  refine hK _ _ rfl ?_; clear hK K hn
  refine wpSq_call rfl (by kernel_rfl) fun K hK => ?_
  obtain ⟨d0, d1⟩ := x_b3.f2
  have f0 := x_b3.free 0; have f1 := x_b3.free 1
  go_big_op
  have hnd := x_b3.nod rfl rfl
  obtain ⟨w_8, eW, x_b3', ho⟩ : ∃ w', ((w_7.setCell ⟨p_b3, 0, none⟩ (.bool n_k)).setCell ⟨p_b3, 1, none⟩ (.slice o_k k_k c_k)) = w' ∧ Bs w' p_b3 #[.bool n_k, .slice o_k k_k c_k] 24 ∧ Only p_b3 w_7 w' := x_b3.setN [(0, .bool n_k), (1, .slice o_k k_k c_k)]
  rw [eW]; clear eW d0 d1 f0 f1 x_b3
  have x_b3 := x_b3'; clear x_b3'
  replace x_b1 := x_b1.frame ho ne_b1_b3; replace g := g.fr hnd ho; replace x_b2 := x_b2.frame ho ne_b2_b3; replace k := k.fr hnd ho; replace hb := belowOnly hb ho kb_b3
  refine hK _ _ rfl ?_; clear hK K ho hnd
  refine wpSq_call rfl (by kernel_rfl) fun K hK => ?_
  go_big_move; refine hK _ _ rfl ?_; clear hK K
  apply wpSq_end
  refine hK10 _ _ ?_
  refine wp_seq_k ?_
  intro K11 hK11
  refine wp_seq_k ?_
  intro K12 hK12
  refine wp_region_sq [0, 1] (by kernel_rfl) ?_
  refine wpSq_call rfl (by kernel_rfl) fun K hK => ?_
  go_big_move; refine hK _ _ rfl ?_; clear hK K
  refine wpSq_call rfl (by kernel_rfl) fun K hK => ?_
  go_big_op; refine hK _ _ rfl ?_; clear hK K
  apply wpSq_end
  refine hK12 _ _ ?_
  have Lk := hide (k.lenOf (zlen_0))
  refine wp_cond_false (congrArg Value.bool (show _ = false from (by first | rfl | assumption | (simp; done) | exact decide_eq_false (by omega) | omega))) ?_
  refine wp_skip ?_
  refine hK11 _ _ ?_
  refine wp_seq_k ?_
  intro K13 hK13
  refine wp_region_sq [0, 1, 2, 3, 4, 5, 6] (by kernel_rfl) ?_
  refine wpSq_call rfl (by kernel_rfl) fun K hK => ?_
  obtain ⟨d0, d1⟩ := x_b2.f2
  go_big_op; refine hK _ _ rfl ?_; clear hK K d0 d1
  refine wpSq_call rfl (by kernel_rfl) fun K hK => ?_
  obtain ⟨d0, d1⟩ := x_b3.f2
  go_big_op; refine hK _ _ rfl ?_; clear hK K d0 d1
  refine wpSq_call rfl (by kernel_rfl) fun K hK => ?_
  go_big_op
  go_fit (fmake_zero (g.zn Lg.out) (k.zn Lk.out) (by omega) (by omega) )
  rintro e w_9 ⟨rfl, hb_9⟩
  clear x_b2 x_b3
  replace x_b1 := x_b1.bl hb_9; replace g := g.bl hb_9; replace k := k.bl hb_9; replace hb := hb.trans (hb_9.mono hb.size)
  refine hK _ _ rfl ?_
  clear hK K hb_9
  refine wpSq_call rfl (by kernel_rfl) fun K hK => ?_
  go_big_op; refine hK _ _ rfl ?_; clear hK K
  refine wpSq_call rfl (by kernel_rfl) fun K hK => ?_
  go_big_op; refine hK _ _ rfl ?_; clear hK K
  refine wpSq_call rfl (by kernel_rfl) fun K hK => ?_
  obtain ⟨d0, d1, d2, d3⟩ := x_b1.f4
  have f0 := x_b1.free 0; have f1 := x_b1.free 1; have f2 := x_b1.free 2; have f3 := x_b1.free 3
  go_big_op
  have hnd := x_b1.nod rfl rfl
  obtain ⟨w_10, eW, x_b1', ho⟩ : ∃ w', ((((w_9.setCell ⟨p_b1, 0, none⟩ (.bool false)).setCell ⟨p_b1, 1, none⟩ (.slice none 0 0)).setCell ⟨p_b1, 2, none⟩ (.bool false)).setCell ⟨p_b1, 3, none⟩ (.slice none 0 0)) = w' ∧ Bs w' p_b1 #[.bool false, .slice none 0 0, .bool false, .slice none 0 0] 26 ∧ Only p_b1 w_9 w' := x_b1.setN [(0, .bool false), (1, .slice none 0 0), (2, .bool false), (3, .slice none 0 0)]
  rw [eW]; clear eW d0 d1 d2 d3 f0 f1 f2 f3 x_b1
  have x_b1 := x_b1'; clear x_b1'
  clear g k
  replace hb := belowOnly hb ho kb_b1
  refine hK _ _ rfl ?_; clear hK K ho hnd
  refine wpSq_call rfl (by kernel_rfl) fun K hK => ?_
  go_big_move; refine hK _ _ rfl ?_; clear hK K
  apply wpSq_end
  refine hK13 _ _ ?_
  refine wp_ret ?_
  try dsimp only [Exit.then, Exit.inBlock]
  obtain ⟨r0_0, r0_1, r0_2, r0_3⟩ := x_b1.f4
  refine bodyPost_ret (v := (.tuple #[(.agg #[.bool false, .slice none 0 0, .bool false, .slice none 0 0]), (.int .i64 5)])) (by simp [results, Tryz.results48, go_sem, r0_0, r0_1, r0_2, r0_3]) rfl ?_
  exact ⟨rfl, hb⟩
set_option maxHeartbeats 4000000 in
set_option maxRecDepth 20000 in
theorem fParse_ok (w : World) (hs : s.size ≤ 65536) (hk : k < s.size) (hi : Lib.indexByte s.data.toList 47 = (k : Int)) (T B : ByteArray) (hT : s.extract 0 k = T) (hB : s.extract (k + 1) s.size = B) (hTs : T.size ≤ 65536) (h : zok T = true) (hBs : B.size ≤ 65536) (hm : minusB B = false) (h2 : zok B = true) (h0 : zvl B ≠ 0) :
    Calls Tryz.prog 48 #[.string s] w fun e w' => ∃ r, e = .returned (.tuple #[r, .int .i64 0]) ∧ PC w' r (qN (zvl T) (zvl B)) (qD (zvl T) (zvl B)) ∧ Below w.heap.size w w' := by
  have HI := hide hi
  have H := hide h
  have HM := hide hm
  have H2 := hide h2
  have H0 := hide h0
  have LT := hide (zvl_len hTs h)
  have LB := hide (zvl_len hBs h2)
  have HT := hide hT
  have HB := hide hB
  clear hi h hT hB hm h2 h0
  go_enter Tryz.func48, Tryz.ntmps48
  have hb := Below.refl w.heap.size w
  refine wp_seq_k ?_
  intro K1 hK1
  refine wp_region_sq [0, 1] (by kernel_rfl) ?_
  refine wpSq_call rfl (by kernel_rfl) fun K hK => ?_
  go_big_op
  obtain ⟨p_b1, w_1, eP, eW, x_b1, hn, kb_b1⟩ := newBox w #[.bool false, .slice none 0 0, .bool false, .slice none 0 0] 26 hb.size
  rw [eW, eP]
  clear eW eP
  replace hb := hb.trans (hn.mono hb.size)
  refine hK _ _ rfl ?_; clear hK K hn
  refine wpSq_call rfl (by kernel_rfl) fun K hK => ?_
  go_big_move; refine hK _ _ rfl ?_; clear hK K
  apply wpSq_end
  refine hK1 _ _ ?_
  refine wp_seq_k ?_
  intro K2 hK2
  refine wp_seq_k ?_
  intro K3 hK3
  refine wp_region_sq [0, 1, 2] (by kernel_rfl) ?_
  refine wpSq_call rfl (by kernel_rfl) fun K hK => ?_
  go_big_move; refine hK _ _ rfl ?_; clear hK K
  refine wpSq_call rfl (by kernel_rfl) fun K hK => ?_
  go_big_op; refine hK _ _ rfl ?_; clear hK K
  refine wpSq_call rfl (by kernel_rfl) fun K hK => ?_
  go_big_op; refine hK _ _ rfl ?_; clear hK K
  apply wpSq_end
  refine hK3 _ _ ?_
  refine wp_cond_false (congrArg Value.bool (show _ = false from (by first | rfl | assumption | (simp; done) | exact decide_eq_false (by omega) | omega))) ?_
  refine wp_skip ?_
  refine hK2 _ _ ?_
  refine wp_seq_k ?_
  intro K4 hK4
  refine wp_region_sq [0, 1, 2, 3, 4, 5, 6, 7, 8] (by kernel_rfl) ?_
  refine wpSq_call rfl (by kernel_rfl) fun K hK => ?_
  go_big_move; refine hK _ _ rfl ?_; clear hK K
  refine wpSq_call rfl (by kernel_rfl) fun K hK => ?_
  go_big_op
  go_fit (scutS_some s _ k hk hs HI.out)
  rintro e w_2 ⟨rfl, hb_2⟩
  replace x_b1 := x_b1.bl hb_2; replace hb := hb.trans (hb_2.mono hb.size)
  rw [HT.out, HB.out]
  refine hK _ _ rfl ?_
  clear hK K hb_2
  refine wpSq_call rfl (by kernel_rfl) fun K hK => ?_
  go_big_move; refine hK _ _ rfl ?_; clear hK K
  refine wpSq_call rfl (by kernel_rfl) fun K hK => ?_
  go_big_op; refine hK _ _ rfl ?_; clear hK K
  refine wpSq_call rfl (by kernel_rfl) fun K hK => ?_
  go_big_op; refine hK _ _ rfl ?_; clear hK K
  refine wpSq_call rfl (by kernel_rfl) fun K hK => ?_
  go_big_op; refine hK _ _ rfl ?_; clear hK K
  refine wpSq_call rfl (by kernel_rfl) fun K hK => ?_
  go_big_move; refine hK _ _ rfl ?_; clear hK K
  refine wpSq_call rfl (by kernel_rfl) fun K hK => ?_
  go_big_move; refine hK _ _ rfl ?_; clear hK K
  refine wpSq_call rfl (by kernel_rfl) fun K hK => ?_
  go_big_move; refine hK _ _ rfl ?_; clear hK K
  apply wpSq_end
  refine hK4 _ _ ?_
  refine wp_seq_k ?_
  intro K5 hK5
  refine wp_seq_k ?_
  intro K6 hK6
  refine wp_region_sq [0, 1] (by kernel_rfl) ?_
  refine wpSq_call rfl (by kernel_rfl) fun K hK => ?_
  go_big_move; refine hK _ _ rfl ?_; clear hK K
  refine wpSq_call rfl (by kernel_rfl) fun K hK => ?_
  go_big_op; refine hK _ _ rfl ?_; clear hK K
  apply wpSq_end
  refine hK6 _ _ ?_
  refine wp_cond_false (congrArg Value.bool (show _ = false from (by first | rfl | assumption | (simp; done) | exact decide_eq_false (by omega) | omega))) ?_
  refine wp_skip ?_
  refine hK5 _ _ ?_
  refine wp_seq_k ?_
  intro K7 hK7
  refine wp_region_sq [0, 1, 2, 3, 4, 5, 6, 7] (by kernel_rfl) ?_
  refine wpSq_call rfl (by kernel_rfl) fun K hK => ?_
  go_big_move; refine hK _ _ rfl ?_; clear hK K
  refine wpSq_call rfl (by kernel_rfl) fun K hK => ?_
  go_big_op
  go_fit (zparse_ok T _ hTs H.out)
  rintro e w_3 ⟨v_g, rfl, g, hb_3⟩
  replace x_b1 := x_b1.bl hb_3; replace hb := hb.trans (hb_3.mono hb.size)
  obtain ⟨n_g, o_g, k_g, c_g, rfl⟩ := g.open2
  have Lg := hide (g.lenOf (LT.out))
  refine hK _ _ rfl ?_
  clear hK K hb_3
  refine wpSq_call rfl (by kernel_rfl) fun K hK => ?_
  go_big_move; refine hK _ _ rfl ?_; clear hK K
  refine wpSq_call rfl (by kernel_rfl) fun K hK => ?_
  go_big_op; refine hK _ _ rfl ?_; clear hK K
  refine wpSq_call rfl (by kernel_rfl) fun K hK => ?_
  go_big_op; refine hK _ _ rfl ?_; clear hK K
  refine wpSq_call rfl (by kernel_rfl) fun K hK => ?_
  go_big_op
  have lt_b1 := x_b1.lt
  obtain ⟨p_b2, w_4, eP, eW, x_b2, hn, kb_b2⟩ := newBox w_3 #[.bool false, .slice none 0 0] 24 hb.size
  have ne_b1_b2 : Hid (p_b1 ≠ p_b2) := Nat.ne_of_lt (eP ▸ lt_b1)
  rw [eW, eP]
  clear eW eP lt_b1
  replace x_b1 := x_b1.bl hn; replace g := g.bl hn; replace hb := hb.trans (hn.mono hb.size)
  refine hK _ _ rfl ?_; clear hK K hn
  refine wpSq_call rfl (by kernel_rfl) fun K hK => ?_
  obtain ⟨d0, d1⟩ := x_b2.f2
  have f0 := x_b2.free 0; have f1 := x_b2.free 1
  go_big_op
  have hnd := x_b2.nod rfl rfl
  obtain ⟨w_5, eW, x_b2', ho⟩ : ∃ w', ((w_4.setCell ⟨p_b2, 0, none⟩ (.bool n_g)).setCell ⟨p_b2, 1, none⟩ (.slice o_g k_g c_g)) = w' ∧ Bs w' p_b2 #[.bool n_g, .slice o_g k_g c_g] 24 ∧ Only p_b2 w_4 w' := x_b2.setN [(0, .bool n_g), (1, .slice o_g k_g c_g)]
  rw [eW]; clear eW d0 d1 f0 f1 x_b2
  have x_b2 := x_b2'; clear x_b2'
  replace x_b1 := x_b1.frame ho ne_b1_b2; replace g := g.fr hnd ho; replace hb := belowOnly hb ho kb_b2
  refine hK _ _ rfl ?_; clear hK K ho hnd
  refine wpSq_call rfl (by kernel_rfl) fun K hK => ?_
  go_big_move; refine hK _ _ rfl ?_; clear hK K
  apply wpSq_end
  refine hK7 _ _ ?_
  refine wp_seq_k ?_
  intro K8 hK8
  refine wp_seq_k ?_
  intro K9 hK9
  refine wp_region_sq [0, 1] (by kernel_rfl) ?_
  refine wpSq_call rfl (by kernel_rfl) fun K hK => ?_
  go_big_move; refine hK _ _ rfl ?_; clear hK K
  refine wpSq_call rfl (by kernel_rfl) fun K hK => ?_
  go_big_op; refine hK _ _ rfl ?_; clear hK K
  apply wpSq_end
  refine hK9 _ _ ?_
  refine wp_cond_false (congrArg Value.bool (show _ = false from (by first | rfl | assumption | (simp; done) | exact decide_eq_false (by omega) | omega))) ?_
  refine wp_skip ?_
  refine hK8 _ _ ?_
  refine wp_seq_k ?_
  intro K10 hK10
  refine wp_region_sq [0, 1, 2, 3, 4, 5, 6, 7] (by kernel_rfl) ?_
  refine wpSq_call rfl (by kernel_rfl) fun K hK => ?_
  go_big_move; refine hK _ _ rfl ?_; clear hK K
  refine wpSq_call rfl (by kernel_rfl) fun K hK => ?_
  go_big_op
  go_fit (parseDen_ok B _ hBs HM.out H2.out)
  rintro e w_6 ⟨v_k, rfl, k, hb_6⟩
  replace x_b1 := x_b1.bl hb_6; replace g := g.bl hb_6; replace x_b2 := x_b2.bl hb_6; replace hb := hb.trans (hb_6.mono hb.size)
  obtain ⟨n_k, o_k, k_k, c_k, rfl⟩ := k.open2
  have Lk := hide (k.lenOf (LB.out))
  refine hK _ _ rfl ?_
  clear hK K hb_6
  refine wpSq_call rfl (by kernel_rfl) fun K hK => ?_
  go_big_move; refine hK _ _ rfl ?_; clear hK K
  refine wpSq_call rfl (by kernel_rfl) fun K hK => ?_
  go_big_op; refine hK _ _ rfl ?_; clear hK K
  refine wpSq_call rfl (by kernel_rfl) fun K hK => ?_
  go_big_op; refine hK _ _ rfl ?_; clear hK K
  refine wpSq_call rfl (by kernel_rfl) fun K hK => ?_
  go_big_op
  have lt_b1 := x_b1.lt
  have lt_b2 := x_b2.lt
  obtain ⟨p_b3, w_7, eP, eW, x_b3, hn, kb_b3⟩ := newBox w_6 #[.bool false, .slice none 0 0] 24 hb.size
  have ne_b1_b3 : Hid (p_b1 ≠ p_b3) := Nat.ne_of_lt (eP ▸ lt_b1)
  have ne_b2_b3 : Hid (p_b2 ≠ p_b3) := Nat.ne_of_lt (eP ▸ lt_b2)
  rw [eW, eP]
  clear eW eP lt_b1 lt_b2
  replace x_b1 := x_b1.bl hn; replace g := g.bl hn; replace x_b2 := x_b2.bl hn; replace k := k.bl hn; replace hb := hb.trans (hn.mono hb.size)
  refine hK _ _ rfl ?_; clear hK K hn
  refine wpSq_call rfl (by kernel_rfl) fun K hK => ?_
  obtain ⟨d0, d1⟩ := x_b3.f2
  have f0 := x_b3.free 0; have f1 := x_b3.free 1
  go_big_op
  have hnd := x_b3.nod rfl rfl
  obtain ⟨w_8, eW, x_b3', ho⟩ : ∃ w', ((w_7.setCell ⟨p_b3, 0, none⟩ (.bool n_k)).setCell ⟨p_b3, 1, none⟩ (.slice o_k k_k c_k)) = w' ∧ Bs w' p_b3 #[.bool n_k, .slice o_k k_k c_k] 24 ∧ Only p_b3 w_7 w' := x_b3.setN [(0, .bool n_k), (1, .slice o_k k_k c_k)]
  rw [eW]; clear eW d0 d1 f0 f1 x_b3
  have x_b3 := x_b3'; clear x_b3'
  replace x_b1 := x_b1.frame ho ne_b1_b3; replace g := g.fr hnd ho; replace x_b2 := x_b2.frame ho ne_b2_b3; replace k := k.fr hnd ho; replace hb := belowOnly hb ho kb_b3
  refine hK _ _ rfl ?_; clear hK K ho hnd
  refine wpSq_call rfl (by kernel_rfl) fun K hK => ?_
  go_big_move; refine hK _ _ rfl ?_; clear hK K
  apply wpSq_end
  refine hK10 _ _ ?_
  refine wp_seq_k ?_
  intro K11 hK11
  refine wp_seq_k ?_
  intro K12 hK12
  refine wp_region_sq [0, 1] (by kernel_rfl) ?_
  refine wpSq_call rfl (by kernel_rfl) fun K hK => ?_
  go_big_move; refine hK _ _ rfl ?_; clear hK K
  refine wpSq_call rfl (by kernel_rfl) fun K hK => ?_
  go_big_op; refine hK _ _ rfl ?_; clear hK K
  apply wpSq_end
  refine hK12 _ _ ?_
  refine wp_cond_false (congrArg Value.bool (show _ = false from (by first | rfl | assumption | (simp; done) | exact decide_eq_false (by omega) | omega))) ?_
  refine wp_skip ?_
  refine hK11 _ _ ?_
  refine wp_seq_k ?_
  intro K13 hK13
  refine wp_region_sq [0, 1, 2, 3, 4, 5, 6] (by kernel_rfl) ?_
  refine wpSq_call rfl (by kernel_rfl) fun K hK => ?_
  obtain ⟨d0, d1⟩ := x_b2.f2
  go_big_op; refine hK _ _ rfl ?_; clear hK K d0 d1
  refine wpSq_call rfl (by kernel_rfl) fun K hK => ?_
  obtain ⟨d0, d1⟩ := x_b3.f2
  go_big_op; refine hK _ _ rfl ?_; clear hK K d0 d1
  refine wpSq_call rfl (by kernel_rfl) fun K hK => ?_
  go_big_op
  go_fit (fmake_any (g.zn Lg.out) (k.zn Lk.out) (by omega) (by omega) H0.out)
  rintro e w_9 ⟨_, rfl, ⟨n_ra, o_ra, k_ra, c_ra, n_rb, o_rb, k_rb, c_rb, rfl, r1, r2⟩, hb_9⟩
  clear x_b2 x_b3
  replace x_b1 := x_b1.bl hb_9; replace g := g.bl hb_9; replace k := k.bl hb_9; replace hb := hb.trans (hb_9.mono hb.size)
  have Lr1 := hide (r1.lenOf (qN_len (H0.out) (Lg.out)))
  have Lr2 := hide (r2.lenOf (qD_len (H0.out) (Lk.out)))
  refine hK _ _ rfl ?_
  clear hK K hb_9
  refine wpSq_call rfl (by kernel_rfl) fun K hK => ?_
  go_big_op; refine hK _ _ rfl ?_; clear hK K
  refine wpSq_call rfl (by kernel_rfl) fun K hK => ?_
  go_big_op; refine hK _ _ rfl ?_; clear hK K
  refine wpSq_call rfl (by kernel_rfl) fun K hK => ?_
  obtain ⟨d0, d1, d2, d3⟩ := x_b1.f4
  have f0 := x_b1.free 0; have f1 := x_b1.free 1; have f2 := x_b1.free 2; have f3 := x_b1.free 3
  go_big_op
  have hnd := x_b1.nod rfl rfl
  obtain ⟨w_10, eW, x_b1', ho⟩ : ∃ w', ((((w_9.setCell ⟨p_b1, 0, none⟩ (.bool n_ra)).setCell ⟨p_b1, 1, none⟩ (.slice o_ra k_ra c_ra)).setCell ⟨p_b1, 2, none⟩ (.bool n_rb)).setCell ⟨p_b1, 3, none⟩ (.slice o_rb k_rb c_rb)) = w' ∧ Bs w' p_b1 #[.bool n_ra, .slice o_ra k_ra c_ra, .bool n_rb, .slice o_rb k_rb c_rb] 26 ∧ Only p_b1 w_9 w' := x_b1.setN [(0, .bool n_ra), (1, .slice o_ra k_ra c_ra), (2, .bool n_rb), (3, .slice o_rb k_rb c_rb)]
  rw [eW]; clear eW d0 d1 d2 d3 f0 f1 f2 f3 x_b1
  have x_b1 := x_b1'; clear x_b1'
  clear g k
  replace r1 := r1.fr hnd ho; replace r2 := r2.fr hnd ho; replace hb := belowOnly hb ho kb_b1
  refine hK _ _ rfl ?_; clear hK K ho hnd
  refine wpSq_call rfl (by kernel_rfl) fun K hK => ?_
  go_big_move; refine hK _ _ rfl ?_; clear hK K
  apply wpSq_end
  refine hK13 _ _ ?_
  refine wp_ret ?_
  try dsimp only [Exit.then, Exit.inBlock]
  obtain ⟨r0_0, r0_1, r0_2, r0_3⟩ := x_b1.f4
  refine bodyPost_ret (v := (.tuple #[(.agg #[.bool n_ra, .slice o_ra k_ra c_ra, .bool n_rb, .slice o_rb k_rb c_rb]), (.int .i64 0)])) (by simp [results, Tryz.results48, go_sem, r0_0, r0_1, r0_2, r0_3]) rfl ?_
  exact ⟨_, rfl, .mk' r1 r2, hb⟩
end
/-! the reference -/
section
variable {s : ByteArray} {k : Nat}
set_option maxHeartbeats 4000000 in
set_option maxRecDepth 20000 in
theorem rZ_any {w : World} {va : Value} {x : Int} {l : Nat} (ha : ZN w va x l) (hl : l ≤ 10000000) :
    Calls Tryz.prog 78 #[va] w fun e w' => ∃ r, e = .returned r ∧ PC w' r x 1 ∧ Below w.heap.size w w' := by
  obtain ⟨n_0, o_0, k_0, c_0, rfl⟩ := ha.open2
  go_enter Tryz.func78, Tryz.ntmps78
  have hb := Below.refl w.heap.size w
  refine wp_seq_k ?_
  intro K1 hK1
  refine wp_region_sq [0, 1] (by kernel_rfl) ?_
  refine wpSq_call rfl (by kernel_rfl) fun K hK => ?_
  go_big_op
  obtain ⟨p_b1, w_1, eP, eW, x_b1, hn, kb_b1⟩ := newBox w #[.bool n_0, .slice o_0 k_0 c_0] 24 hb.size
  rw [eW, eP]
  clear eW eP
  replace ha := ha.bl hn; replace hb := hb.trans (hn.mono hb.size)
  refine hK _ _ rfl ?_; clear hK K hn
  refine wpSq_call rfl (by kernel_rfl) fun K hK => ?_
  go_big_op
  have lt_b1 := x_b1.lt
  obtain ⟨p_b2, w_2, eP, eW, x_b2, hn, kb_b2⟩ := newBox w_1 #[.bool false, .slice none 0 0, .bool false, .slice none 0 0] 26 hb.size
  have ne_b1_b2 : Hid (p_b1 ≠ p_b2) := Nat.ne_of_lt (eP ▸ lt_b1)
  rw [eW, eP]
  clear eW eP lt_b1
  replace ha := ha.bl hn; replace x_b1 := x_b1.bl hn; replace hb := hb.trans (hn.mono hb.size)
  refine hK _ _ rfl ?_; clear hK K hn
  apply wpSq_end
  refine hK1 _ _ ?_
  refine wp_seq_k ?_
  intro K2 hK2
  refine wp_region_sq [0, 1, 2, 3, 4] (by kernel_rfl) ?_
  refine wpSq_call rfl (by kernel_rfl) fun K hK => ?_
  obtain ⟨d0, d1⟩ := x_b1.f2
  go_big_op; refine hK _ _ rfl ?_; clear hK K d0 d1
  refine wpSq_call rfl (by kernel_rfl) fun K hK => ?_
  go_big_op
  go_fit (rnorm_any ha (by omega) )
  rintro e w_3 ⟨v_g1, rfl, g1, hb_3⟩
  clear x_b1
  replace ha := ha.bl hb_3; replace x_b2 := x_b2.bl hb_3; replace hb := hb.trans (hb_3.mono hb.size)
  replace g1 := g1.rd
  obtain ⟨n_g1, o_g1, k_g1, c_g1, rfl⟩ := g1.open2
  have Lg1 := hide (g1.lenOf ((ha.len)))
  refine hK _ _ rfl ?_
  clear hK K hb_3
  refine wpSq_call rfl (by kernel_rfl) fun K hK => ?_
  go_big_op
  go_fit (ri_any 1 _ (by decide) (by decide))
  rintro e w_4 ⟨v_g2, rfl, g2, hb_4⟩
  clear ha
  replace x_b2 := x_b2.bl hb_4; replace g1 := g1.bl hb_4; replace hb := hb.trans (hb_4.mono hb.size)
  replace g2 := g2.rd
  obtain ⟨n_g2, o_g2, k_g2, c_g2, rfl⟩ := g2.open2
  refine hK _ _ rfl ?_
  clear hK K hb_4
  refine wpSq_call rfl (by kernel_rfl) fun K hK => ?_
  go_big_op; refine hK _ _ rfl ?_; clear hK K
  refine wpSq_call rfl (by kernel_rfl) fun K hK => ?_
  obtain ⟨d0, d1, d2, d3⟩ := x_b2.f4
  have f0 := x_b2.free 0; have f1 := x_b2.free 1; have f2 := x_b2.free 2; have f3 := x_b2.free 3
  go_big_op
  have hnd := x_b2.nod rfl rfl
  obtain ⟨w_5, eW, x_b2', ho⟩ : ∃ w', ((((w_4.setCell ⟨p_b2, 0, none⟩ (.bool n_g1)).setCell ⟨p_b2, 1, none⟩ (.slice o_g1 k_g1 c_g1)).setCell ⟨p_b2, 2, none⟩ (.bool n_g2)).setCell ⟨p_b2, 3, none⟩ (.slice o_g2 k_g2 c_g2)) = w' ∧ Bs w' p_b2 #[.bool n_g1, .slice o_g1 k_g1 c_g1, .bool n_g2, .slice o_g2 k_g2 c_g2] 26 ∧ Only p_b2 w_4 w' := x_b2.setN [(0, .bool n_g1), (1, .slice o_g1 k_g1 c_g1), (2, .bool n_g2), (3, .slice o_g2 k_g2 c_g2)]
  rw [eW]; clear eW d0 d1 d2 d3 f0 f1 f2 f3 x_b2
  have x_b2 := x_b2'; clear x_b2'
  replace g1 := g1.fr hnd ho; replace g2 := g2.fr hnd ho; replace hb := belowOnly hb ho kb_b2
  refine hK _ _ rfl ?_; clear hK K ho hnd
  apply wpSq_end
  refine hK2 _ _ ?_
  refine wp_ret ?_
  try dsimp only [Exit.then, Exit.inBlock]
  obtain ⟨r0_0, r0_1, r0_2, r0_3⟩ := x_b2.f4
  refine bodyPost_ret (v := (.agg #[.bool n_g1, .slice o_g1 k_g1 c_g1, .bool n_g2, .slice o_g2 k_g2 c_g2])) (by simp [results, Tryz.results78, go_sem, r0_0, r0_1, r0_2, r0_3]) rfl ?_
  exact ⟨_, rfl, .mk' g1 g2, hb⟩
set_option maxHeartbeats 4000000 in
set_option maxRecDepth 20000 in
theorem rParse_long (w : World) (hs : 65536 < s.size) :
    Calls Tryz.prog 49 #[.string s] w fun e w' => e = .returned (.tuple #[.agg #[.bool false, .slice none 0 0, .bool false, .slice none 0 0], .int .i64 12]) ∧ Below w.heap.size w w' := by
  go_enter Tryz.func49, Tryz.ntmps49
  have hb := Below.refl w.heap.size w
  refine wp_seq_k ?_
  intro K1 hK1
  refine wp_region_sq [0, 1] (by kernel_rfl) ?_
  refine wpSq_call rfl (by kernel_rfl) fun K hK => ?_
  go_big_op
  obtain ⟨p_b1, w_1, eP, eW, x_b1, hn, kb_b1⟩ := newBox w #[.bool false, .slice none 0 0, .bool false, .slice none 0 0] 26 hb.size
  rw [eW, eP]
  clear eW eP
  replace hb := hb.trans (hn.mono hb.size)
  refine hK _ _ rfl ?_; clear hK K hn
  refine wpSq_call rfl (by kernel_rfl) fun K hK => ?_
  go_big_move; refine hK _ _ rfl ?_; clear hK K
  apply wpSq_end
  refine hK1 _ _ ?_
  refine wp_seq_k ?_
  intro K2 hK2
  refine wp_seq_k ?_
  intro K3 hK3
  refine wp_region_sq [0, 1, 2] (by kernel_rfl) ?_
  refine wpSq_call rfl (by kernel_rfl) fun K hK => ?_
  go_big_move; refine hK _ _ rfl ?_; clear hK K
  refine wpSq_call rfl (by kernel_rfl) fun K hK => ?_
  go_big_op; refine hK _ _ rfl ?_; clear hK K
  refine wpSq_call rfl (by kernel_rfl) fun K hK => ?_
  go_big_op; refine hK _ _ rfl ?_; clear hK K
  apply wpSq_end
  refine hK3 _ _ ?_
  refine wp_cond_true (congrArg Value.bool (show _ = true from (by first | rfl | assumption | (simp; done) | exact decide_eq_true (by omega) | omega))) ?_
  refine wp_seq_k ?_
  intro K4 hK4
  refine wp_region_sq [0, 1, 2] (by kernel_rfl) ?_
  refine wpSq_call rfl (by kernel_rfl) fun K hK => ?_
  go_big_op; refine hK _ _ rfl ?_; clear hK K
  refine wpSq_call rfl (by kernel_rfl) fun K hK => ?_
  obtain ⟨d0, d1, d2, d3⟩ := x_b1.f4
  have f0 := x_b1.free 0; have f1 := x_b1.free 1; have f2 := x_b1.free 2; have f3 := x_b1.free 3
  go_big_op
  have hnd := x_b1.nod rfl rfl
  obtain ⟨w_2, eW, x_b1', ho⟩ : ∃ w', ((((w_1.setCell ⟨p_b1, 0, none⟩ (.bool false)).setCell ⟨p_b1, 1, none⟩ (.slice none 0 0)).setCell ⟨p_b1, 2, none⟩ (.bool false)).setCell ⟨p_b1, 3, none⟩ (.slice none 0 0)) = w' ∧ Bs w' p_b1 #[.bool false, .slice none 0 0, .bool false, .slice none 0 0] 26 ∧ Only p_b1 w_1 w' := x_b1.setN [(0, .bool false), (1, .slice none 0 0), (2, .bool false), (3, .slice none 0 0)]
  rw [eW]; clear eW d0 d1 d2 d3 f0 f1 f2 f3 x_b1
  have x_b1 := x_b1'; clear x_b1'
  replace hb := belowOnly hb ho kb_b1
  refine hK _ _ rfl ?_; clear hK K ho hnd
  refine wpSq_call rfl (by kernel_rfl) fun K hK => ?_
  go_big_move; refine hK _ _ rfl ?_; clear hK K
  apply wpSq_end
  refine hK4 _ _ ?_
  refine wp_ret ?_
  try dsimp only [Exit.then, Exit.inBlock]
  obtain ⟨r0_0, r0_1, r0_2, r0_3⟩ := x_b1.f4
  refine bodyPost_ret (v := (.tuple #[(.agg #[.bool false, .slice none 0 0, .bool false, .slice none 0 0]), (.int .i64 12)])) (by simp [results, Tryz.results49, go_sem, r0_0, r0_1, r0_2, r0_3]) rfl ?_
  exact ⟨rfl, hb⟩
theorem slash_ne (hk : SlashAt s k) {i : Nat} (hi : i < k) (hlt : i < s.size) : ((s[i]'hlt).toNat : Int) ≠ 47 := by
  have h := hk.2.1 i hi
  have h2 : s.data.toList[i]? = some (s[i]'hlt) := by
    rw [List.getElem?_eq_getElem (by rw [← Lib.size_eq]; exact hlt)]; rfl
  rw [h2] at h
  intro h3
  exact h (congrArg some (UInt8.toNat_inj.1 (by have : (47 : UInt8).toNat = 47 := rfl; omega)))
theorem slash_eq (hk : SlashAt s k) (hlt : k < s.size) : ((s[k]'hlt).toNat : Int) = 47 := by
  have h := hk.2.2 hlt
  have h2 : s.data.toList[k]? = some (s[k]'hlt) := by
    rw [List.getElem?_eq_getElem (by rw [← Lib.size_eq]; exact hlt)]; rfl
  rw [h2] at h
  rw [Option.some.inj h]; rfl
set_option maxHeartbeats 8000000 in
set_option maxRecDepth 20000 in
theorem rParse_w0 (w : World) (hs : s.size ≤ 65536) (hk : SlashAt s k) (hks : k = s.size) (h : zok s = false) :
    Calls Tryz.prog 49 #[.string s] w fun e w' => e = .returned (.tuple #[.agg #[.bool false, .slice none 0 0, .bool false, .slice none 0 0], .int .i64 7]) ∧ Below w.heap.size w w' := by
  have HK := hide hk
  have hkle := hk.1
  have H := hide h
  clear hk h
  go_enter Tryz.func49, Tryz.ntmps49
  have hb := Below.refl w.heap.size w
  refine wp_seq_k ?_
  intro K1 hK1
  refine wp_region_sq [0, 1] (by kernel_rfl) ?_
  refine wpSq_call rfl (by kernel_rfl) fun K hK => ?_
  go_big_op
  obtain ⟨p_b1, w_1, eP, eW, x_b1, hn, kb_b1⟩ := newBox w #[.bool false, .slice none 0 0, .bool false, .slice none 0 0] 26 hb.size
  rw [eW, eP]
  clear eW eP
  replace hb := hb.trans (hn.mono hb.size)
  refine hK _ _ rfl ?_; clear hK K hn
  refine wpSq_call rfl (by kernel_rfl) fun K hK => ?_
  go_big_move; refine hK _ _ rfl ?_; clear hK K
  apply wpSq_end
  refine hK1 _ _ ?_
  refine wp_seq_k ?_
  intro K2 hK2
  refine wp_seq_k ?_
  intro K3 hK3
  refine wp_region_sq [0, 1, 2] (by kernel_rfl) ?_
  refine wpSq_call rfl (by kernel_rfl) fun K hK => ?_
  go_big_move; refine hK _ _ rfl ?_; clear hK K
  refine wpSq_call rfl (by kernel_rfl) fun K hK => ?_
  go_big_op; refine hK _ _ rfl ?_; clear hK K
  refine wpSq_call rfl (by kernel_rfl) fun K hK => ?_
  go_big_op; refine hK _ _ rfl ?_; clear hK K
  apply wpSq_end
  refine hK3 _ _ ?_
  refine wp_cond_false (congrArg Value.bool (show _ = false from (by first | rfl | assumption | (simp; done) | exact decide_eq_false (by omega) | omega))) ?_
  refine wp_skip ?_
  refine hK2 _ _ ?_
  refine wp_seq_k ?_
  intro K4 hK4
  refine wp_region_sq [0] (by kernel_rfl) ?_
  refine wpSq_call rfl (by kernel_rfl) fun K hK => ?_
  go_big_move; refine hK _ _ rfl ?_; clear hK K
  apply wpSq_end
  refine hK4 _ _ ?_
  refine wp_seq_k ?_
  intro K5 hK5
  refine wp_block ?_
  go_loopg [4] k (fun j s4 wr => s4 = .int .i64 ((k - j : Nat) : Int) ∧ j ≤ k ∧ Bs wr p_b1 #[.bool false, .slice none 0 0, .bool false, .slice none 0 0] 26 ∧ Below w.heap.size w wr)
  case atStart => exact ⟨by rw [Nat.sub_self]; rfl, Nat.le_refl _, x_b1, hb⟩
  case round =>
  clear x_b1
  obtain ⟨rfl, hj, x_b1, hb⟩ := hrel
  by_cases h0 : gk = 0
  · subst h0
    clear hj
    rw [Nat.sub_zero]
    subst hks
    have hT : s.extract 0 s.size = s := by apply ByteArray.ext; simp
    refine wp_seq_k ?_
    intro K6 hK6
    refine wp_seq_k ?_
    intro K7 hK7
    refine wp_region_sq [0, 1, 2, 3, 4, 5, 6, 7, 8, 9] (by kernel_rfl) ?_
    refine wpSq_call rfl (by kernel_rfl) fun K hK => ?_
    go_big_move; refine hK _ _ rfl ?_; clear hK K
    refine wpSq_call rfl (by kernel_rfl) fun K hK => ?_
    go_big_move; refine hK _ _ rfl ?_; clear hK K
    refine wpSq_call rfl (by kernel_rfl) fun K hK => ?_
    go_big_op; refine hK _ _ rfl ?_; clear hK K
    refine wpSq_call rfl (by kernel_rfl) fun K hK => ?_
    go_big_op; refine hK _ _ rfl ?_; clear hK K
    refine wpSq_call rfl (by kernel_rfl) fun K hK => ?_
    go_big_move; refine hK _ _ rfl ?_; clear hK K
    apply wpSq_skip
    case hi => rfl
    case hw => kernel_rfl
    case hp => unfold Act.put; simp only [List.setIfInBounds_toArray, List.set_cons_succ, List.set_cons_zero]; rfl
    apply wpSq_skip
    case hi => rfl
    case hw => kernel_rfl
    case hp => unfold Act.put; simp only [List.setIfInBounds_toArray, List.set_cons_succ, List.set_cons_zero]; rfl
    apply wpSq_skip
    case hi => rfl
    case hw => kernel_rfl
    case hp => unfold Act.put; simp only [List.setIfInBounds_toArray, List.set_cons_succ, List.set_cons_zero]; rfl
    apply wpSq_skip
    case hi => rfl
    case hw => kernel_rfl
    case hp => unfold Act.put; simp only [List.setIfInBounds_toArray, List.set_cons_succ, List.set_cons_zero]; rfl
    refine wpSq_call rfl (by kernel_rfl) fun K hK => ?_
    go_big_op; refine hK _ _ rfl ?_; clear hK K
    apply wpSq_end
    refine hK7 _ _ ?_
    refine wp_cond_false (congrArg Value.bool (show _ = false from (by first | rfl | assumption | (simp; done) | exact decide_eq_false (by omega) | omega))) ?_
    refine wp_exit ?_
    refine hK5 _ _ ?_
    refine wp_seq_k ?_
    intro K8 hK8
    refine wp_seq_k ?_
    intro K9 hK9
    refine wp_region_sq [0, 1, 2, 3, 4, 5, 6, 7, 8, 9, 10, 11, 12, 13, 14, 15, 16, 17, 18] (by kernel_rfl) ?_
    refine wpSq_call rfl (by kernel_rfl) fun K hK => ?_
    go_big_move; refine hK _ _ rfl ?_; clear hK K
    refine wpSq_call rfl (by kernel_rfl) fun K hK => ?_
    go_big_move; refine hK _ _ rfl ?_; clear hK K
    refine wpSq_call rfl (by kernel_rfl) fun K hK => ?_
    go_big_op; refine hK _ _ rfl ?_; clear hK K
    refine wpSq_call rfl (by kernel_rfl) fun K hK => ?_
    go_big_op
    go_fit (ris_any s _ hs)
    rintro e w_2 ⟨rfl, e_2⟩
    (first | rw [e_2] | rw [← e_2]); clear e_2 w_2
    rw [H.out]
    refine hK _ _ rfl ?_
    clear hK K
    refine wpSq_call rfl (by kernel_rfl) fun K hK => ?_
    go_big_op; refine hK _ _ rfl ?_; clear hK K
    refine wpSq_call rfl (by kernel_rfl) fun K hK => ?_
    go_big_move; refine hK _ _ rfl ?_; clear hK K
    apply wpSq_skip
    case hi => rfl
    case hw => kernel_rfl
    case hp => unfold Act.put; simp only [List.setIfInBounds_toArray, List.set_cons_succ, List.set_cons_zero]; rfl
    apply wpSq_skip
    case hi => rfl
    case hw => kernel_rfl
    case hp => unfold Act.put; simp only [List.setIfInBounds_toArray, List.set_cons_succ, List.set_cons_zero]; rfl
    apply wpSq_skip
    case hi => rfl
    case hw => kernel_rfl
    case hp => unfold Act.put; simp only [List.setIfInBounds_toArray, List.set_cons_succ, List.set_cons_zero]; rfl
    apply wpSq_skip
    case hi => rfl
    case hw => kernel_rfl
    case hp => unfold Act.put; simp only [List.setIfInBounds_toArray, List.set_cons_succ, List.set_cons_zero]; rfl
    apply wpSq_skip
    case hi => rfl
    case hw => kernel_rfl
    case hp => unfold Act.put; simp only [List.setIfInBounds_toArray, List.set_cons_succ, List.set_cons_zero]; rfl
    apply wpSq_skip
    case hi => rfl
    case hw => kernel_rfl
    case hp => unfold Act.put; simp only [List.setIfInBounds_toArray, List.set_cons_succ, List.set_cons_zero]; rfl
    apply wpSq_skip
    case hi => rfl
    case hw => kernel_rfl
    case hp => unfold Act.put; simp only [List.setIfInBounds_toArray, List.set_cons_succ, List.set_cons_zero]; rfl
    apply wpSq_skip
    case hi => rfl
    case hw => kernel_rfl
    case hp => unfold Act.put; simp only [List.setIfInBounds_toArray, List.set_cons_succ, List.set_cons_zero]; rfl
    apply wpSq_skip
    case hi => rfl
    case hw => kernel_rfl
    case hp => unfold Act.put; simp only [List.setIfInBounds_toArray, List.set_cons_succ, List.set_cons_zero]; rfl
    apply wpSq_skip
    case hi => rfl
    case hw => kernel_rfl
    case hp => unfold Act.put; simp only [List.setIfInBounds_toArray, List.set_cons_succ, List.set_cons_zero]; rfl
    apply wpSq_skip
    case hi => rfl
    case hw => kernel_rfl
    case hp => unfold Act.put; simp only [List.setIfInBounds_toArray, List.set_cons_succ, List.set_cons_zero]; rfl
    apply wpSq_skip
    case hi => rfl
    case hw => kernel_rfl
    case hp => unfold Act.put; simp only [List.setIfInBounds_toArray, List.set_cons_succ, List.set_cons_zero]; rfl
    refine wpSq_call rfl (by kernel_rfl) fun K hK => ?_
    go_big_op; refine hK _ _ rfl ?_; clear hK K
    apply wpSq_end
    refine hK9 _ _ ?_
    refine wp_cond_true (congrArg Value.bool (show _ = true from (by first | rfl | assumption | (simp; done) | exact decide_eq_true (by omega) | omega))) ?_
    refine wp_seq_k ?_
    intro K10 hK10
    refine wp_region_sq [0, 1, 2] (by kernel_rfl) ?_
    refine wpSq_call rfl (by kernel_rfl) fun K hK => ?_
    go_big_op; refine hK _ _ rfl ?_; clear hK K
    refine wpSq_call rfl (by kernel_rfl) fun K hK => ?_
    obtain ⟨d0, d1, d2, d3⟩ := x_b1.f4
    have f0 := x_b1.free 0; have f1 := x_b1.free 1; have f2 := x_b1.free 2; have f3 := x_b1.free 3
    go_big_op
    have hnd := x_b1.nod rfl rfl
    obtain ⟨w_3, eW, x_b1', ho⟩ : ∃ w', ((((wr.setCell ⟨p_b1, 0, none⟩ (.bool false)).setCell ⟨p_b1, 1, none⟩ (.slice none 0 0)).setCell ⟨p_b1, 2, none⟩ (.bool false)).setCell ⟨p_b1, 3, none⟩ (.slice none 0 0)) = w' ∧ Bs w' p_b1 #[.bool false, .slice none 0 0, .bool false, .slice none 0 0] 26 ∧ Only p_b1 wr w' := x_b1.setN [(0, .bool false), (1, .slice none 0 0), (2, .bool false), (3, .slice none 0 0)]
    rw [eW]; clear eW d0 d1 d2 d3 f0 f1 f2 f3 x_b1
    have x_b1 := x_b1'; clear x_b1'
    replace hb := belowOnly hb ho kb_b1
    refine hK _ _ rfl ?_; clear hK K ho hnd
    refine wpSq_call rfl (by kernel_rfl) fun K hK => ?_
    go_big_move; refine hK _ _ rfl ?_; clear hK K
    apply wpSq_end
    refine hK10 _ _ ?_
    refine wp_ret ?_
    try dsimp only [Exit.then, Exit.inBlock]
    obtain ⟨r0_0, r0_1, r0_2, r0_3⟩ := x_b1.f4
    refine bodyPost_ret (v := (.tuple #[(.agg #[.bool false, .slice none 0 0, .bool false, .slice none 0 0]), (.int .i64 7)])) (by simp [results, Tryz.results49, go_sem, r0_0, r0_1, r0_2, r0_3]) rfl ?_
    exact ⟨rfl, hb⟩
  · obtain ⟨i, hi⟩ : ∃ i, k - gk = i := ⟨_, rfl⟩
    rw [hi]
    have hlt : i < s.size := by omega
    have hcn := slash_ne HK.out (show i < k by omega) hlt
    obtain ⟨c, hc⟩ : ∃ c, s[i]'hlt = c := ⟨_, rfl⟩
    rw [hc] at hcn
    refine wp_seq_k ?_
    intro K6 hK6
    refine wp_seq_k ?_
    intro K7 hK7
    refine wp_region_sq [0, 1, 2, 3, 4, 5, 6, 7, 8, 9] (by kernel_rfl) ?_
    refine wpSq_call rfl (by kernel_rfl) fun K hK => ?_
    go_big_move; refine hK _ _ rfl ?_; clear hK K
    refine wpSq_call rfl (by kernel_rfl) fun K hK => ?_
    go_big_move; refine hK _ _ rfl ?_; clear hK K
    refine wpSq_call rfl (by kernel_rfl) fun K hK => ?_
    go_big_op; refine hK _ _ rfl ?_; clear hK K
    refine wpSq_call rfl (by kernel_rfl) fun K hK => ?_
    go_big_op; refine hK _ _ rfl ?_; clear hK K
    refine wpSq_call rfl (by kernel_rfl) fun K hK => ?_
    go_big_move; refine hK _ _ rfl ?_; clear hK K
    refine wpSq_call rfl (by kernel_rfl) fun K hK => ?_
    go_big_move; refine hK _ _ rfl ?_; clear hK K
    refine wpSq_call rfl (by kernel_rfl) fun K hK => ?_
    go_big_move; refine hK _ _ rfl ?_; clear hK K
    refine wpSq_call rfl (by kernel_rfl) fun K hK => ?_
    go_big_op; refine hK _ _ rfl ?_; clear hK K
    refine wpSq_call rfl (by kernel_rfl) fun K hK => ?_
    go_big_op; refine hK _ _ rfl ?_; clear hK K
    refine wpSq_call rfl (by kernel_rfl) fun K hK => ?_
    go_big_op; refine hK _ _ rfl ?_; clear hK K
    apply wpSq_end
    refine hK7 _ _ ?_
    refine wp_cond_true (congrArg Value.bool (show _ = true from (by simpa using hcn))) ?_
    refine wp_skip ?_
    refine hK6 _ _ ?_
    refine wp_block ?_
    refine wp_region_sq [0, 1, 2] (by kernel_rfl) ?_
    refine wpSq_call rfl (by kernel_rfl) fun K hK => ?_
    go_big_move; refine hK _ _ rfl ?_; clear hK K
    refine wpSq_call rfl (by kernel_rfl) fun K hK => ?_
    go_big_op; refine hK _ _ rfl ?_; clear hK K
    refine wpSq_call rfl (by kernel_rfl) fun K hK => ?_
    go_big_move; refine hK _ _ rfl ?_; clear hK K
    apply wpSq_end
    refine ‹∀ (a' : Act) (w' : World), Handed _ _ a' w' → _› _ _ ?_
    go_roundg (gk - 1)
    case rel => exact ⟨by congr 1; omega, by omega, x_b1, hb⟩
    case measure => omega
set_option maxHeartbeats 8000000 in
set_option maxRecDepth 20000 in
theorem rParse_w1 (w : World) (hs : s.size ≤ 65536) (hk : SlashAt s k) (hks : k = s.size) (h : zok s = true) :
    Calls Tryz.prog 49 #[.string s] w fun e w' => ∃ r, e = .returned (.tuple #[r, .int .i64 0]) ∧ PC w' r (zvl s) (1) ∧ Below w.heap.size w w' := by
  have LS := hide (zvl_len hs h)
  have HK := hide hk
  have hkle := hk.1
  have H := hide h
  clear hk h
  go_enter Tryz.func49, Tryz.ntmps49
  have hb := Below.refl w.heap.size w
  refine wp_seq_k ?_
  intro K1 hK1
  refine wp_region_sq [0, 1] (by kernel_rfl) ?_
  refine wpSq_call rfl (by kernel_rfl) fun K hK => ?_
  go_big_op
  obtain ⟨p_b1, w_1, eP, eW, x_b1, hn, kb_b1⟩ := newBox w #[.bool false, .slice none 0 0, .bool false, .slice none 0 0] 26 hb.size
  rw [eW, eP]
  clear eW eP
  replace hb := hb.trans (hn.mono hb.size)
  refine hK _ _ rfl ?_; clear hK K hn
  refine wpSq_call rfl (by kernel_rfl) fun K hK => ?_
  go_big_move; refine hK _ _ rfl ?_; clear hK K
  apply wpSq_end
  refine hK1 _ _ ?_
  refine wp_seq_k ?_
  intro K2 hK2
  refine wp_seq_k ?_
  intro K3 hK3
  refine wp_region_sq [0, 1, 2] (by kernel_rfl) ?_
  refine wpSq_call rfl (by kernel_rfl) fun K hK => ?_
  go_big_move; refine hK _ _ rfl ?_; clear hK K
  refine wpSq_call rfl (by kernel_rfl) fun K hK => ?_
  go_big_op; refine hK _ _ rfl ?_; clear hK K
  refine wpSq_call rfl (by kernel_rfl) fun K hK => ?_
  go_big_op; refine hK _ _ rfl ?_; clear hK K
  apply wpSq_end
  refine hK3 _ _ ?_
  refine wp_cond_false (congrArg Value.bool (show _ = false from (by first | rfl | assumption | (simp; done) | exact decide_eq_false (by omega) | omega))) ?_
  refine wp_skip ?_
  refine hK2 _ _ ?_
  refine wp_seq_k ?_
  intro K4 hK4
  refine wp_region_sq [0] (by kernel_rfl) ?_
  refine wpSq_call rfl (by kernel_rfl) fun K hK => ?_
  go_big_move; refine hK _ _ rfl ?_; clear hK K
  apply wpSq_end
  refine hK4 _ _ ?_
  refine wp_seq_k ?_
  intro K5 hK5
  refine wp_block ?_
  go_loopg [4] k (fun j s4 wr => s4 = .int .i64 ((k - j : Nat) : Int) ∧ j ≤ k ∧ Bs wr p_b1 #[.bool false, .slice none 0 0, .bool false, .slice none 0 0] 26 ∧ Below w.heap.size w wr)
  case atStart => exact ⟨by rw [Nat.sub_self]; rfl, Nat.le_refl _, x_b1, hb⟩
  case round =>
  clear x_b1
  obtain ⟨rfl, hj, x_b1, hb⟩ := hrel
  by_cases h0 : gk = 0
  · subst h0
    clear hj
    rw [Nat.sub_zero]
    subst hks
    have hT : s.extract 0 s.size = s := by apply ByteArray.ext; simp
    refine wp_seq_k ?_
    intro K6 hK6
    refine wp_seq_k ?_
    intro K7 hK7
    refine wp_region_sq [0, 1, 2, 3, 4, 5, 6, 7, 8, 9] (by kernel_rfl) ?_
    refine wpSq_call rfl (by kernel_rfl) fun K hK => ?_
    go_big_move; refine hK _ _ rfl ?_; clear hK K
    refine wpSq_call rfl (by kernel_rfl) fun K hK => ?_
    go_big_move; refine hK _ _ rfl ?_; clear hK K
    refine wpSq_call rfl (by kernel_rfl) fun K hK => ?_
    go_big_op; refine hK _ _ rfl ?_; clear hK K
    refine wpSq_call rfl (by kernel_rfl) fun K hK => ?_
    go_big_op; refine hK _ _ rfl ?_; clear hK K
    refine wpSq_call rfl (by kernel_rfl) fun K hK => ?_
    go_big_move; refine hK _ _ rfl ?_; clear hK K
    apply wpSq_skip
    case hi => rfl
    case hw => kernel_rfl
    case hp => unfold Act.put; simp only [List.setIfInBounds_toArray, List.set_cons_succ, List.set_cons_zero]; rfl
    apply wpSq_skip
    case hi => rfl
    case hw => kernel_rfl
    case hp => unfold Act.put; simp only [List.setIfInBounds_toArray, List.set_cons_succ, List.set_cons_zero]; rfl
    apply wpSq_skip
    case hi => rfl
    case hw => kernel_rfl
    case hp => unfold Act.put; simp only [List.setIfInBounds_toArray, List.set_cons_succ, List.set_cons_zero]; rfl
    apply wpSq_skip
    case hi => rfl
    case hw => kernel_rfl
    case hp => unfold Act.put; simp only [List.setIfInBounds_toArray, List.set_cons_succ, List.set_cons_zero]; rfl
    refine wpSq_call rfl (by kernel_rfl) fun K hK => ?_
    go_big_op; refine hK _ _ rfl ?_; clear hK K
    apply wpSq_end
    refine hK7 _ _ ?_
    refine wp_cond_false (congrArg Value.bool (show _ = false from (by first | rfl | assumption | (simp; done) | exact decide_eq_false (by omega) | omega))) ?_
    refine wp_exit ?_
    refine hK5 _ _ ?_
    refine wp_seq_k ?_
    intro K8 hK8
    refine wp_seq_k ?_
    intro K9 hK9
    refine wp_region_sq [0, 1, 2, 3, 4, 5, 6, 7, 8, 9, 10, 11, 12, 13, 14, 15, 16, 17, 18] (by kernel_rfl) ?_
    refine wpSq_call rfl (by kernel_rfl) fun K hK => ?_
    go_big_move; refine hK _ _ rfl ?_; clear hK K
    refine wpSq_call rfl (by kernel_rfl) fun K hK => ?_
    go_big_move; refine hK _ _ rfl ?_; clear hK K
    refine wpSq_call rfl (by kernel_rfl) fun K hK => ?_
    go_big_op; refine hK _ _ rfl ?_; clear hK K
    refine wpSq_call rfl (by kernel_rfl) fun K hK => ?_
    go_big_op
    go_fit (ris_any s _ hs)
    rintro e w_2 ⟨rfl, e_2⟩
    (first | rw [e_2] | rw [← e_2]); clear e_2 w_2
    rw [H.out]
    refine hK _ _ rfl ?_
    clear hK K
    refine wpSq_call rfl (by kernel_rfl) fun K hK => ?_
    go_big_op; refine hK _ _ rfl ?_; clear hK K
    refine wpSq_call rfl (by kernel_rfl) fun K hK => ?_
    go_big_move; refine hK _ _ rfl ?_; clear hK K
    refine wpSq_call rfl (by kernel_rfl) fun K hK => ?_
    go_big_move; refine hK _ _ rfl ?_; clear hK K
    refine wpSq_call rfl (by kernel_rfl) fun K hK => ?_
    go_big_move; refine hK _ _ rfl ?_; clear hK K
    refine wpSq_call rfl (by kernel_rfl) fun K hK => ?_
    go_big_op; refine hK _ _ rfl ?_; clear hK K
    refine wpSq_call rfl (by kernel_rfl) fun K hK => ?_
    go_big_op; refine hK _ _ rfl ?_; clear hK K
    refine wpSq_call rfl (by kernel_rfl) fun K hK => ?_
    go_big_move; refine hK _ _ rfl ?_; clear hK K
    apply wpSq_skip
    case hi => rfl
    case hw => kernel_rfl
    case hp => unfold Act.put; simp only [List.setIfInBounds_toArray, List.set_cons_succ, List.set_cons_zero]; rfl
    apply wpSq_skip
    case hi => rfl
    case hw => kernel_rfl
    case hp => unfold Act.put; simp only [List.setIfInBounds_toArray, List.set_cons_succ, List.set_cons_zero]; rfl
    apply wpSq_skip
    case hi => rfl
    case hw => kernel_rfl
    case hp => unfold Act.put; simp only [List.setIfInBounds_toArray, List.set_cons_succ, List.set_cons_zero]; rfl
    apply wpSq_skip
    case hi => rfl
    case hw => kernel_rfl
    case hp => unfold Act.put; simp only [List.setIfInBounds_toArray, List.set_cons_succ, List.set_cons_zero]; rfl
    apply wpSq_skip
    case hi => rfl
    case hw => kernel_rfl
    case hp => unfold Act.put; simp only [List.setIfInBounds_toArray, List.set_cons_succ, List.set_cons_zero]; rfl
    apply wpSq_skip
    case hi => rfl
    case hw => kernel_rfl
    case hp => unfold Act.put; simp only [List.setIfInBounds_toArray, List.set_cons_succ, List.set_cons_zero]; rfl
    refine wpSq_call rfl (by kernel_rfl) fun K hK => ?_
    go_big_op; refine hK _ _ rfl ?_; clear hK K
    refine wpSq_call rfl (by kernel_rfl) fun K hK => ?_
    go_big_op; refine hK _ _ rfl ?_; clear hK K
    apply wpSq_end
    refine hK9 _ _ ?_
    refine wp_cond_false (congrArg Value.bool (show _ = false from (by first | rfl | assumption | (simp; done) | exact decide_eq_false (by omega) | omega))) ?_
    refine wp_skip ?_
    refine hK8 _ _ ?_
    refine wp_seq_k ?_
    intro K10 hK10
    refine wp_seq_k ?_
    intro K11 hK11
    refine wp_region_sq [0, 1, 2, 3] (by kernel_rfl) ?_
    refine wpSq_call rfl (by kernel_rfl) fun K hK => ?_
    go_big_move; refine hK _ _ rfl ?_; clear hK K
    refine wpSq_call rfl (by kernel_rfl) fun K hK => ?_
    go_big_move; refine hK _ _ rfl ?_; clear hK K
    refine wpSq_call rfl (by kernel_rfl) fun K hK => ?_
    go_big_op; refine hK _ _ rfl ?_; clear hK K
    refine wpSq_call rfl (by kernel_rfl) fun K hK => ?_
    go_big_op; refine hK _ _ rfl ?_; clear hK K
    apply wpSq_end
    refine hK11 _ _ ?_
    refine wp_cond_true (congrArg Value.bool (show _ = true from (by first | rfl | assumption | (simp; done) | exact decide_eq_true (by omega) | omega))) ?_
    refine wp_seq_k ?_
    intro K12 hK12
    refine wp_region_sq [0, 1, 2, 3, 4] (by kernel_rfl) ?_
    refine wpSq_call rfl (by kernel_rfl) fun K hK => ?_
    go_big_move; refine hK _ _ rfl ?_; clear hK K
    refine wpSq_call rfl (by kernel_rfl) fun K hK => ?_
    go_big_op
    go_fit (rzparse_ok s _ hs H.out)
    rintro e w_3 ⟨v_g, rfl, g, hb_3⟩
    replace x_b1 := x_b1.bl hb_3; replace hb := hb.trans (hb_3.mono hb.size)
    obtain ⟨n_g, o_g, k_g, c_g, rfl⟩ := g.open2
    have Lg := hide (g.lenOf (LS.out))
    refine hK _ _ rfl ?_
    clear hK K hb_3
    refine wpSq_call rfl (by kernel_rfl) fun K hK => ?_
    go_big_op
    go_fit (rZ_any (g.zn Lg.out) (by omega))
    rintro e w_4 ⟨_, rfl, ⟨n_ra, o_ra, k_ra, c_ra, n_rb, o_rb, k_rb, c_rb, rfl, r1, r2⟩, hb_4⟩
    replace x_b1 := x_b1.bl hb_4; replace g := g.bl hb_4; replace hb := hb.trans (hb_4.mono hb.size)
    refine hK _ _ rfl ?_
    clear hK K hb_4
    refine wpSq_call rfl (by kernel_rfl) fun K hK => ?_
    obtain ⟨d0, d1, d2, d3⟩ := x_b1.f4
    have f0 := x_b1.free 0; have f1 := x_b1.free 1; have f2 := x_b1.free 2; have f3 := x_b1.free 3
    go_big_op
    have hnd := x_b1.nod rfl rfl
    obtain ⟨w_5, eW, x_b1', ho⟩ : ∃ w', ((((w_4.setCell ⟨p_b1, 0, none⟩ (.bool n_ra)).setCell ⟨p_b1, 1, none⟩ (.slice o_ra k_ra c_ra)).setCell ⟨p_b1, 2, none⟩ (.bool n_rb)).setCell ⟨p_b1, 3, none⟩ (.slice o_rb k_rb c_rb)) = w' ∧ Bs w' p_b1 #[.bool n_ra, .slice o_ra k_ra c_ra, .bool n_rb, .slice o_rb k_rb c_rb] 26 ∧ Only p_b1 w_4 w' := x_b1.setN [(0, .bool n_ra), (1, .slice o_ra k_ra c_ra), (2, .bool n_rb), (3, .slice o_rb k_rb c_rb)]
    rw [eW]; clear eW d0 d1 d2 d3 f0 f1 f2 f3 x_b1
    have x_b1 := x_b1'; clear x_b1'
    clear g
    replace r1 := r1.fr hnd ho; replace r2 := r2.fr hnd ho; replace hb := belowOnly hb ho kb_b1
    refine hK _ _ rfl ?_; clear hK K ho hnd
    refine wpSq_call rfl (by kernel_rfl) fun K hK => ?_
    go_big_move; refine hK _ _ rfl ?_; clear hK K
    apply wpSq_end
    refine hK12 _ _ ?_
    refine wp_ret ?_
    try dsimp only [Exit.then, Exit.inBlock]
    obtain ⟨r0_0, r0_1, r0_2, r0_3⟩ := x_b1.f4
    refine bodyPost_ret (v := (.tuple #[(.agg #[.bool n_ra, .slice o_ra k_ra c_ra, .bool n_rb, .slice o_rb k_rb c_rb]), (.int .i64 0)])) (by simp [results, Tryz.results49, go_sem, r0_0, r0_1, r0_2, r0_3]) rfl ?_
    exact ⟨_, rfl, .mk' r1 r2, hb⟩
  · obtain ⟨i, hi⟩ : ∃ i, k - gk = i := ⟨_, rfl⟩
    rw [hi]
    have hlt : i < s.size := by omega
    have hcn := slash_ne HK.out (show i < k by omega) hlt
    obtain ⟨c, hc⟩ : ∃ c, s[i]'hlt = c := ⟨_, rfl⟩
    rw [hc] at hcn
    refine wp_seq_k ?_
    intro K6 hK6
    refine wp_seq_k ?_
    intro K7 hK7
    refine wp_region_sq [0, 1, 2, 3, 4, 5, 6, 7, 8, 9] (by kernel_rfl) ?_
    refine wpSq_call rfl (by kernel_rfl) fun K hK => ?_
    go_big_move; refine hK _ _ rfl ?_; clear hK K
    refine wpSq_call rfl (by kernel_rfl) fun K hK => ?_
    go_big_move; refine hK _ _ rfl ?_; clear hK K
    refine wpSq_call rfl (by kernel_rfl) fun K hK => ?_
    go_big_op; refine hK _ _ rfl ?_; clear hK K
    refine wpSq_call rfl (by kernel_rfl) fun K hK => ?_
    go_big_op; refine hK _ _ rfl ?_; clear hK K
    refine wpSq_call rfl (by kernel_rfl) fun K hK => ?_
    go_big_move; refine hK _ _ rfl ?_; clear hK K
    refine wpSq_call rfl (by kernel_rfl) fun K hK => ?_
    go_big_move; refine hK _ _ rfl ?_; clear hK K
    refine wpSq_call rfl (by kernel_rfl) fun K hK => ?_
    go_big_move; refine hK _ _ rfl ?_; clear hK K
    refine wpSq_call rfl (by kernel_rfl) fun K hK => ?_
    go_big_op; refine hK _ _ rfl ?_; clear hK K
    refine wpSq_call rfl (by kernel_rfl) fun K hK => ?_
    go_big_op; refine hK _ _ rfl ?_; clear hK K
    refine wpSq_call rfl (by kernel_rfl) fun K hK => ?_
    go_big_op; refine hK _ _ rfl ?_; clear hK K
    apply wpSq_end
    refine hK7 _ _ ?_
    refine wp_cond_true (congrArg Value.bool (show _ = true from (by simpa using hcn))) ?_
    refine wp_skip ?_
    refine hK6 _ _ ?_
    refine wp_block ?_
    refine wp_region_sq [0, 1, 2] (by kernel_rfl) ?_
    refine wpSq_call rfl (by kernel_rfl) fun K hK => ?_
    go_big_move; refine hK _ _ rfl ?_; clear hK K
    refine wpSq_call rfl (by kernel_rfl) fun K hK => ?_
    go_big_op; refine hK _ _ rfl ?_; clear hK K
    refine wpSq_call rfl (by kernel_rfl) fun K hK => ?_
    go_big_move; refine hK _ _ rfl ?_; clear hK K
    apply wpSq_end
    refine ‹∀ (a' : Act) (w' : World), Handed _ _ a' w' → _› _ _ ?_
    go_roundg (gk - 1)
    case rel => exact ⟨by congr 1; omega, by omega, x_b1, hb⟩
    case measure => omega
set_option maxHeartbeats 8000000 in
set_option maxRecDepth 20000 in
theorem rParse_t0 (w : World) (hs : s.size ≤ 65536) (hk : SlashAt s k) (hks : k < s.size) (T B : ByteArray) (hT : s.extract 0 k = T) (hB : s.extract (k + 1) s.size = B) (hTs : T.size ≤ 65536) (h : zok T = false) :
    Calls Tryz.prog 49 #[.string s] w fun e w' => e = .returned (.tuple #[.agg #[.bool false, .slice none 0 0, .bool false, .slice none 0 0], .int .i64 7]) ∧ Below w.heap.size w w' := by
  have HK := hide hk
  have hkle := hk.1
  have H := hide h
  clear hk h
  go_enter Tryz.func49, Tryz.ntmps49
  have hb := Below.refl w.heap.size w
  refine wp_seq_k ?_
  intro K1 hK1
  refine wp_region_sq [0, 1] (by kernel_rfl) ?_
  refine wpSq_call rfl (by kernel_rfl) fun K hK => ?_
  go_big_op
  obtain ⟨p_b1, w_1, eP, eW, x_b1, hn, kb_b1⟩ := newBox w #[.bool false, .slice none 0 0, .bool false, .slice none 0 0] 26 hb.size
  rw [eW, eP]
  clear eW eP
  replace hb := hb.trans (hn.mono hb.size)
  refine hK _ _ rfl ?_; clear hK K hn
  refine wpSq_call rfl (by kernel_rfl) fun K hK => ?_
  go_big_move; refine hK _ _ rfl ?_; clear hK K
  apply wpSq_end
  refine hK1 _ _ ?_
  refine wp_seq_k ?_
  intro K2 hK2
  refine wp_seq_k ?_
  intro K3 hK3
  refine wp_region_sq [0, 1, 2] (by kernel_rfl) ?_
  refine wpSq_call rfl (by kernel_rfl) fun K hK => ?_
  go_big_move; refine hK _ _ rfl ?_; clear hK K
  refine wpSq_call rfl (by kernel_rfl) fun K hK => ?_
  go_big_op; refine hK _ _ rfl ?_; clear hK K
  refine wpSq_call rfl (by kernel_rfl) fun K hK => ?_
  go_big_op; refine hK _ _ rfl ?_; clear hK K
  apply wpSq_end
  refine hK3 _ _ ?_
  refine wp_cond_false (congrArg Value.bool (show _ = false from (by first | rfl | assumption | (simp; done) | exact decide_eq_false (by omega) | omega))) ?_
  refine wp_skip ?_
  refine hK2 _ _ ?_
  refine wp_seq_k ?_
  intro K4 hK4
  refine wp_region_sq [0] (by kernel_rfl) ?_
  refine wpSq_call rfl (by kernel_rfl) fun K hK => ?_
  go_big_move; refine hK _ _ rfl ?_; clear hK K
  apply wpSq_end
  refine hK4 _ _ ?_
  refine wp_seq_k ?_
  intro K5 hK5
  refine wp_block ?_
  go_loopg [4] k (fun j s4 wr => s4 = .int .i64 ((k - j : Nat) : Int) ∧ j ≤ k ∧ Bs wr p_b1 #[.bool false, .slice none 0 0, .bool false, .slice none 0 0] 26 ∧ Below w.heap.size w wr)
  case atStart => exact ⟨by rw [Nat.sub_self]; rfl, Nat.le_refl _, x_b1, hb⟩
  case round =>
  clear x_b1
  obtain ⟨rfl, hj, x_b1, hb⟩ := hrel
  by_cases h0 : gk = 0
  · subst h0
    clear hj
    rw [Nat.sub_zero]
    have hce := slash_eq HK.out hks
    obtain ⟨c, hc⟩ : ∃ c, s[k]'hks = c := ⟨_, rfl⟩
    rw [hc] at hce
    refine wp_seq_k ?_
    intro K6 hK6
    refine wp_seq_k ?_
    intro K7 hK7
    refine wp_region_sq [0, 1, 2, 3, 4, 5, 6, 7, 8, 9] (by kernel_rfl) ?_
    refine wpSq_call rfl (by kernel_rfl) fun K hK => ?_
    go_big_move; refine hK _ _ rfl ?_; clear hK K
    refine wpSq_call rfl (by kernel_rfl) fun K hK => ?_
    go_big_move; refine hK _ _ rfl ?_; clear hK K
    refine wpSq_call rfl (by kernel_rfl) fun K hK => ?_
    go_big_op; refine hK _ _ rfl ?_; clear hK K
    refine wpSq_call rfl (by kernel_rfl) fun K hK => ?_
    go_big_op; refine hK _ _ rfl ?_; clear hK K
    refine wpSq_call rfl (by kernel_rfl) fun K hK => ?_
    go_big_move; refine hK _ _ rfl ?_; clear hK K
    refine wpSq_call rfl (by kernel_rfl) fun K hK => ?_
    go_big_move; refine hK _ _ rfl ?_; clear hK K
    refine wpSq_call rfl (by kernel_rfl) fun K hK => ?_
    go_big_move; refine hK _ _ rfl ?_; clear hK K
    refine wpSq_call rfl (by kernel_rfl) fun K hK => ?_
    go_big_op; refine hK _ _ rfl ?_; clear hK K
    refine wpSq_call rfl (by kernel_rfl) fun K hK => ?_
    go_big_op; refine hK _ _ rfl ?_; clear hK K
    refine wpSq_call rfl (by kernel_rfl) fun K hK => ?_
    go_big_op; refine hK _ _ rfl ?_; clear hK K
    apply wpSq_end
    refine hK7 _ _ ?_
    refine wp_cond_false (congrArg Value.bool (show _ = false from (by first | rfl | assumption | (simp; done) | exact decide_eq_false (by omega) | omega))) ?_
    refine wp_exit ?_
    refine hK5 _ _ ?_
    refine wp_seq_k ?_
    intro K8 hK8
    refine wp_seq_k ?_
    intro K9 hK9
    refine wp_region_sq [0, 1, 2, 3, 4, 5, 6, 7, 8, 9, 10, 11, 12, 13, 14, 15, 16, 17, 18] (by kernel_rfl) ?_
    refine wpSq_call rfl (by kernel_rfl) fun K hK => ?_
    go_big_move; refine hK _ _ rfl ?_; clear hK K
    refine wpSq_call rfl (by kernel_rfl) fun K hK => ?_
    go_big_move; refine hK _ _ rfl ?_; clear hK K
    refine wpSq_call rfl (by kernel_rfl) fun K hK => ?_
    go_big_op; refine hK _ _ rfl ?_; clear hK K
    refine wpSq_call rfl (by kernel_rfl) fun K hK => ?_
    go_big_op
    go_fit (ris_any T _ hTs)
    rintro e w_2 ⟨rfl, e_2⟩
    (first | rw [e_2] | rw [← e_2]); clear e_2 w_2
    rw [H.out]
    refine hK _ _ rfl ?_
    clear hK K
    refine wpSq_call rfl (by kernel_rfl) fun K hK => ?_
    go_big_op; refine hK _ _ rfl ?_; clear hK K
    refine wpSq_call rfl (by kernel_rfl) fun K hK => ?_
    go_big_move; refine hK _ _ rfl ?_; clear hK K
    apply wpSq_skip
    case hi => rfl
    case hw => kernel_rfl
    case hp => unfold Act.put; simp only [List.setIfInBounds_toArray, List.set_cons_succ, List.set_cons_zero]; rfl
    apply wpSq_skip
    case hi => rfl
    case hw => kernel_rfl
    case hp => unfold Act.put; simp only [List.setIfInBounds_toArray, List.set_cons_succ, List.set_cons_zero]; rfl
    apply wpSq_skip
    case hi => rfl
    case hw => kernel_rfl
    case hp => unfold Act.put; simp only [List.setIfInBounds_toArray, List.set_cons_succ, List.set_cons_zero]; rfl
    apply wpSq_skip
    case hi => rfl
    case hw => kernel_rfl
    case hp => unfold Act.put; simp only [List.setIfInBounds_toArray, List.set_cons_succ, List.set_cons_zero]; rfl
    apply wpSq_skip
    case hi => rfl
    case hw => kernel_rfl
    case hp => unfold Act.put; simp only [List.setIfInBounds_toArray, List.set_cons_succ, List.set_cons_zero]; rfl
    apply wpSq_skip
    case hi => rfl
    case hw => kernel_rfl
    case hp => unfold Act.put; simp only [List.setIfInBounds_toArray, List.set_cons_succ, List.set_cons_zero]; rfl
    apply wpSq_skip
    case hi => rfl
    case hw => kernel_rfl
    case hp => unfold Act.put; simp only [List.setIfInBounds_toArray, List.set_cons_succ, List.set_cons_zero]; rfl
    apply wpSq_skip
    case hi => rfl
    case hw => kernel_rfl
    case hp => unfold Act.put; simp only [List.setIfInBounds_toArray, List.set_cons_succ, List.set_cons_zero]; rfl
    apply wpSq_skip
    case hi => rfl
    case hw => kernel_rfl
    case hp => unfold Act.put; simp only [List.setIfInBounds_toArray, List.set_cons_succ, List.set_cons_zero]; rfl
    apply wpSq_skip
    case hi => rfl
    case hw => kernel_rfl
    case hp => unfold Act.put; simp only [List.setIfInBounds_toArray, List.set_cons_succ, List.set_cons_zero]; rfl
    apply wpSq_skip
    case hi => rfl
    case hw => kernel_rfl
    case hp => unfold Act.put; simp only [List.setIfInBounds_toArray, List.set_cons_succ, List.set_cons_zero]; rfl
    apply wpSq_skip
    case hi => rfl
    case hw => kernel_rfl
    case hp => unfold Act.put; simp only [List.setIfInBounds_toArray, List.set_cons_succ, List.set_cons_zero]; rfl
    refine wpSq_call rfl (by kernel_rfl) fun K hK => ?_
    go_big_op; refine hK _ _ rfl ?_; clear hK K
    apply wpSq_end
    refine hK9 _ _ ?_
    refine wp_cond_true (congrArg Value.bool (show _ = true from (by first | rfl | assumption | (simp; done) | exact decide_eq_true (by omega) | omega))) ?_
    refine wp_seq_k ?_
    intro K10 hK10
    refine wp_region_sq [0, 1, 2] (by kernel_rfl) ?_
    refine wpSq_call rfl (by kernel_rfl) fun K hK => ?_
    go_big_op; refine hK _ _ rfl ?_; clear hK K
    refine wpSq_call rfl (by kernel_rfl) fun K hK => ?_
    obtain ⟨d0, d1, d2, d3⟩ := x_b1.f4
    have f0 := x_b1.free 0; have f1 := x_b1.free 1; have f2 := x_b1.free 2; have f3 := x_b1.free 3
    go_big_op
    have hnd := x_b1.nod rfl rfl
    obtain ⟨w_3, eW, x_b1', ho⟩ : ∃ w', ((((wr.setCell ⟨p_b1, 0, none⟩ (.bool false)).setCell ⟨p_b1, 1, none⟩ (.slice none 0 0)).setCell ⟨p_b1, 2, none⟩ (.bool false)).setCell ⟨p_b1, 3, none⟩ (.slice none 0 0)) = w' ∧ Bs w' p_b1 #[.bool false, .slice none 0 0, .bool false, .slice none 0 0] 26 ∧ Only p_b1 wr w' := x_b1.setN [(0, .bool false), (1, .slice none 0 0), (2, .bool false), (3, .slice none 0 0)]
    rw [eW]; clear eW d0 d1 d2 d3 f0 f1 f2 f3 x_b1
    have x_b1 := x_b1'; clear x_b1'
    replace hb := belowOnly hb ho kb_b1
    refine hK _ _ rfl ?_; clear hK K ho hnd
    refine wpSq_call rfl (by kernel_rfl) fun K hK => ?_
    go_big_move; refine hK _ _ rfl ?_; clear hK K
    apply wpSq_end
    refine hK10 _ _ ?_
    refine wp_ret ?_
    try dsimp only [Exit.then, Exit.inBlock]
    obtain ⟨r0_0, r0_1, r0_2, r0_3⟩ := x_b1.f4
    refine bodyPost_ret (v := (.tuple #[(.agg #[.bool false, .slice none 0 0, .bool false, .slice none 0 0]), (.int .i64 7)])) (by simp [results, Tryz.results49, go_sem, r0_0, r0_1, r0_2, r0_3]) rfl ?_
    exact ⟨rfl, hb⟩
  · obtain ⟨i, hi⟩ : ∃ i, k - gk = i := ⟨_, rfl⟩
    rw [hi]
    have hlt : i < s.size := by omega
    have hcn := slash_ne HK.out (show i < k by omega) hlt
    obtain ⟨c, hc⟩ : ∃ c, s[i]'hlt = c := ⟨_, rfl⟩
    rw [hc] at hcn
    refine wp_seq_k ?_
    intro K6 hK6
    refine wp_seq_k ?_
    intro K7 hK7
    refine wp_region_sq [0, 1, 2, 3, 4, 5, 6, 7, 8, 9] (by kernel_rfl) ?_
    refine wpSq_call rfl (by kernel_rfl) fun K hK => ?_
    go_big_move; refine hK _ _ rfl ?_; clear hK K
    refine wpSq_call rfl (by kernel_rfl) fun K hK => ?_
    go_big_move; refine hK _ _ rfl ?_; clear hK K
    refine wpSq_call rfl (by kernel_rfl) fun K hK => ?_
    go_big_op; refine hK _ _ rfl ?_; clear hK K
    refine wpSq_call rfl (by kernel_rfl) fun K hK => ?_
    go_big_op; refine hK _ _ rfl ?_; clear hK K
    refine wpSq_call rfl (by kernel_rfl) fun K hK => ?_
    go_big_move; refine hK _ _ rfl ?_; clear hK K
    refine wpSq_call rfl (by kernel_rfl) fun K hK => ?_
    go_big_move; refine hK _ _ rfl ?_; clear hK K
    refine wpSq_call rfl (by kernel_rfl) fun K hK => ?_
    go_big_move; refine hK _ _ rfl ?_; clear hK K
    refine wpSq_call rfl (by kernel_rfl) fun K hK => ?_
    go_big_op; refine hK _ _ rfl ?_; clear hK K
    refine wpSq_call rfl (by kernel_rfl) fun K hK => ?_
    go_big_op; refine hK _ _ rfl ?_; clear hK K
    refine wpSq_call rfl (by kernel_rfl) fun K hK => ?_
    go_big_op; refine hK _ _ rfl ?_; clear hK K
    apply wpSq_end
    refine hK7 _ _ ?_
    refine wp_cond_true (congrArg Value.bool (show _ = true from (by simpa using hcn))) ?_
    refine wp_skip ?_
    refine hK6 _ _ ?_
    refine wp_block ?_
    refine wp_region_sq [0, 1, 2] (by kernel_rfl) ?_
    refine wpSq_call rfl (by kernel_rfl) fun K hK => ?_
    go_big_move; refine hK _ _ rfl ?_; clear hK K
    refine wpSq_call rfl (by kernel_rfl) fun K hK => ?_
    go_big_op; refine hK _ _ rfl ?_; clear hK K
    refine wpSq_call rfl (by kernel_rfl) fun K hK => ?_
    go_big_move; refine hK _ _ rfl ?_; clear hK K
    apply wpSq_end
    refine ‹∀ (a' : Act) (w' : World), Handed _ _ a' w' → _› _ _ ?_
    go_roundg (gk - 1)
    case rel => exact ⟨by congr 1; omega, by omega, x_b1, hb⟩
    case measure => omega
set_option maxHeartbeats 8000000 in
set_option maxRecDepth 20000 in
theorem rParse_b0 (w : World) (hs : s.size ≤ 65536) (hk : SlashAt s k) (hks : k < s.size) (T B : ByteArray) (hT : s.extract 0 k = T) (hB : s.extract (k + 1) s.size = B) (hTs : T.size ≤ 65536) (h : zok T = true) (hBs : B.size ≤ 65536) (h2 : digitsB B.data.toList = false) :
    Calls Tryz.prog 49 #[.string s] w fun e w' => e = .returned (.tuple #[.agg #[.bool false, .slice none 0 0, .bool false, .slice none 0 0], .int .i64 7]) ∧ Below w.heap.size w w' := by
  have HK := hide hk
  have hkle := hk.1
  have H := hide h
  clear hk h
  have H2 := hide h2
  clear h2
  go_enter Tryz.func49, Tryz.ntmps49
  have hb := Below.refl w.heap.size w
  refine wp_seq_k ?_
  intro K1 hK1
  refine wp_region_sq [0, 1] (by kernel_rfl) ?_
  refine wpSq_call rfl (by kernel_rfl) fun K hK => ?_
  go_big_op
  obtain ⟨p_b1, w_1, eP, eW, x_b1, hn, kb_b1⟩ := newBox w #[.bool false, .slice none 0 0, .bool false, .slice none 0 0] 26 hb.size
  rw [eW, eP]
  clear eW eP
  replace hb := hb.trans (hn.mono hb.size)
  refine hK _ _ rfl ?_; clear hK K hn
  refine wpSq_call rfl (by kernel_rfl) fun K hK => ?_
  go_big_move; refine hK _ _ rfl ?_; clear hK K
  apply wpSq_end
  refine hK1 _ _ ?_
  refine wp_seq_k ?_
  intro K2 hK2
  refine wp_seq_k ?_
  intro K3 hK3
  refine wp_region_sq [0, 1, 2] (by kernel_rfl) ?_
  refine wpSq_call rfl (by kernel_rfl) fun K hK => ?_
  go_big_move; refine hK _ _ rfl ?_; clear hK K
  refine wpSq_call rfl (by kernel_rfl) fun K hK => ?_
  go_big_op; refine hK _ _ rfl ?_; clear hK K
  refine wpSq_call rfl (by kernel_rfl) fun K hK => ?_
  go_big_op; refine hK _ _ rfl ?_; clear hK K
  apply wpSq_end
  refine hK3 _ _ ?_
  refine wp_cond_false (congrArg Value.bool (show _ = false from (by first | rfl | assumption | (simp; done) | exact decide_eq_false (by omega) | omega))) ?_
  refine wp_skip ?_
  refine hK2 _ _ ?_
  refine wp_seq_k ?_
  intro K4 hK4
  refine wp_region_sq [0] (by kernel_rfl) ?_
  refine wpSq_call rfl (by kernel_rfl) fun K hK => ?_
  go_big_move; refine hK _ _ rfl ?_; clear hK K
  apply wpSq_end
  refine hK4 _ _ ?_
  refine wp_seq_k ?_
  intro K5 hK5
  refine wp_block ?_
  go_loopg [4] k (fun j s4 wr => s4 = .int .i64 ((k - j : Nat) : Int) ∧ j ≤ k ∧ Bs wr p_b1 #[.bool false, .slice none 0 0, .bool false, .slice none 0 0] 26 ∧ Below w.heap.size w wr)
  case atStart => exact ⟨by rw [Nat.sub_self]; rfl, Nat.le_refl _, x_b1, hb⟩
  case round =>
  clear x_b1
  obtain ⟨rfl, hj, x_b1, hb⟩ := hrel
  by_cases h0 : gk = 0
  · subst h0
    clear hj
    rw [Nat.sub_zero]
    have hce := slash_eq HK.out hks
    obtain ⟨c, hc⟩ : ∃ c, s[k]'hks = c := ⟨_, rfl⟩
    rw [hc] at hce
    refine wp_seq_k ?_
    intro K6 hK6
    refine wp_seq_k ?_
    intro K7 hK7
    refine wp_region_sq [0, 1, 2, 3, 4, 5, 6, 7, 8, 9] (by kernel_rfl) ?_
    refine wpSq_call rfl (by kernel_rfl) fun K hK => ?_
    go_big_move; refine hK _ _ rfl ?_; clear hK K
    refine wpSq_call rfl (by kernel_rfl) fun K hK => ?_
    go_big_move; refine hK _ _ rfl ?_; clear hK K
    refine wpSq_call rfl (by kernel_rfl) fun K hK => ?_
    go_big_op; refine hK _ _ rfl ?_; clear hK K
    refine wpSq_call rfl (by kernel_rfl) fun K hK => ?_
    go_big_op; refine hK _ _ rfl ?_; clear hK K
    refine wpSq_call rfl (by kernel_rfl) fun K hK => ?_
    go_big_move; refine hK _ _ rfl ?_; clear hK K
    refine wpSq_call rfl (by kernel_rfl) fun K hK => ?_
    go_big_move; refine hK _ _ rfl ?_; clear hK K
    refine wpSq_call rfl (by kernel_rfl) fun K hK => ?_
    go_big_move; refine hK _ _ rfl ?_; clear hK K
    refine wpSq_call rfl (by kernel_rfl) fun K hK => ?_
    go_big_op; refine hK _ _ rfl ?_; clear hK K
    refine wpSq_call rfl (by kernel_rfl) fun K hK => ?_
    go_big_op; refine hK _ _ rfl ?_; clear hK K
    refine wpSq_call rfl (by kernel_rfl) fun K hK => ?_
    go_big_op; refine hK _ _ rfl ?_; clear hK K
    apply wpSq_end
    refine hK7 _ _ ?_
    refine wp_cond_false (congrArg Value.bool (show _ = false from (by first | rfl | assumption | (simp; done) | exact decide_eq_false (by omega) | omega))) ?_
    refine wp_exit ?_
    refine hK5 _ _ ?_
    refine wp_seq_k ?_
    intro K8 hK8
    refine wp_seq_k ?_
    intro K9 hK9
    refine wp_region_sq [0, 1, 2, 3, 4, 5, 6, 7, 8, 9, 10, 11, 12, 13, 14, 15, 16, 17, 18] (by kernel_rfl) ?_
    refine wpSq_call rfl (by kernel_rfl) fun K hK => ?_
    go_big_move; refine hK _ _ rfl ?_; clear hK K
    refine wpSq_call rfl (by kernel_rfl) fun K hK => ?_
    go_big_move; refine hK _ _ rfl ?_; clear hK K
    refine wpSq_call rfl (by kernel_rfl) fun K hK => ?_
    go_big_op; refine hK _ _ rfl ?_; clear hK K
    refine wpSq_call rfl (by kernel_rfl) fun K hK => ?_
    go_big_op
    go_fit (ris_any T _ hTs)
    rintro e w_2 ⟨rfl, e_2⟩
    (first | rw [e_2] | rw [← e_2]); clear e_2 w_2
    rw [H.out]
    refine hK _ _ rfl ?_
    clear hK K
    refine wpSq_call rfl (by kernel_rfl) fun K hK => ?_
    go_big_op; refine hK _ _ rfl ?_; clear hK K
    refine wpSq_call rfl (by kernel_rfl) fun K hK => ?_
    go_big_move; refine hK _ _ rfl ?_; clear hK K
    refine wpSq_call rfl (by kernel_rfl) fun K hK => ?_
    go_big_move; refine hK _ _ rfl ?_; clear hK K
    refine wpSq_call rfl (by kernel_rfl) fun K hK => ?_
    go_big_move; refine hK _ _ rfl ?_; clear hK K
    refine wpSq_call rfl (by kernel_rfl) fun K hK => ?_
    go_big_op; refine hK _ _ rfl ?_; clear hK K
    refine wpSq_call rfl (by kernel_rfl) fun K hK => ?_
    go_big_op; refine hK _ _ rfl ?_; clear hK K
    refine wpSq_call rfl (by kernel_rfl) fun K hK => ?_
    go_big_move; refine hK _ _ rfl ?_; clear hK K
    refine wpSq_call rfl (by kernel_rfl) fun K hK => ?_
    go_big_move; refine hK _ _ rfl ?_; clear hK K
    refine wpSq_call rfl (by kernel_rfl) fun K hK => ?_
    go_big_move; refine hK _ _ rfl ?_; clear hK K
    refine wpSq_call rfl (by kernel_rfl) fun K hK => ?_
    go_big_op; refine hK _ _ rfl ?_; clear hK K
    refine wpSq_call rfl (by kernel_rfl) fun K hK => ?_
    go_big_op; refine hK _ _ rfl ?_; clear hK K
    refine wpSq_call rfl (by kernel_rfl) fun K hK => ?_
    go_big_op
    go_fit (rDigits_any B _ (by omega))
    rintro e w_3 ⟨rfl, e_3⟩
    (first | rw [e_3] | rw [← e_3]); clear e_3 w_3
    rw [H2.out]
    refine hK _ _ rfl ?_
    clear hK K
    refine wpSq_call rfl (by kernel_rfl) fun K hK => ?_
    go_big_op; refine hK _ _ rfl ?_; clear hK K
    refine wpSq_call rfl (by kernel_rfl) fun K hK => ?_
    go_big_op; refine hK _ _ rfl ?_; clear hK K
    refine wpSq_call rfl (by kernel_rfl) fun K hK => ?_
    go_big_op; refine hK _ _ rfl ?_; clear hK K
    apply wpSq_end
    refine hK9 _ _ ?_
    refine wp_cond_true (congrArg Value.bool (show _ = true from (by first | rfl | assumption | (simp; done) | exact decide_eq_true (by omega) | omega))) ?_
    refine wp_seq_k ?_
    intro K10 hK10
    refine wp_region_sq [0, 1, 2] (by kernel_rfl) ?_
    refine wpSq_call rfl (by kernel_rfl) fun K hK => ?_
    go_big_op; refine hK _ _ rfl ?_; clear hK K
    refine wpSq_call rfl (by kernel_rfl) fun K hK => ?_
    obtain ⟨d0, d1, d2, d3⟩ := x_b1.f4
    have f0 := x_b1.free 0; have f1 := x_b1.free 1; have f2 := x_b1.free 2; have f3 := x_b1.free 3
    go_big_op
    have hnd := x_b1.nod rfl rfl
    obtain ⟨w_4, eW, x_b1', ho⟩ : ∃ w', ((((wr.setCell ⟨p_b1, 0, none⟩ (.bool false)).setCell ⟨p_b1, 1, none⟩ (.slice none 0 0)).setCell ⟨p_b1, 2, none⟩ (.bool false)).setCell ⟨p_b1, 3, none⟩ (.slice none 0 0)) = w' ∧ Bs w' p_b1 #[.bool false, .slice none 0 0, .bool false, .slice none 0 0] 26 ∧ Only p_b1 wr w' := x_b1.setN [(0, .bool false), (1, .slice none 0 0), (2, .bool false), (3, .slice none 0 0)]
    rw [eW]; clear eW d0 d1 d2 d3 f0 f1 f2 f3 x_b1
    have x_b1 := x_b1'; clear x_b1'
    replace hb := belowOnly hb ho kb_b1
    refine hK _ _ rfl ?_; clear hK K ho hnd
    refine wpSq_call rfl (by kernel_rfl) fun K hK => ?_
    go_big_move; refine hK _ _ rfl ?_; clear hK K
    apply wpSq_end
    refine hK10 _ _ ?_
    refine wp_ret ?_
    try dsimp only [Exit.then, Exit.inBlock]
    obtain ⟨r0_0, r0_1, r0_2, r0_3⟩ := x_b1.f4
    refine bodyPost_ret (v := (.tuple #[(.agg #[.bool false, .slice none 0 0, .bool false, .slice none 0 0]), (.int .i64 7)])) (by simp [results, Tryz.results49, go_sem, r0_0, r0_1, r0_2, r0_3]) rfl ?_
    exact ⟨rfl, hb⟩
  · obtain ⟨i, hi⟩ : ∃ i, k - gk = i := ⟨_, rfl⟩
    rw [hi]
    have hlt : i < s.size := by omega
    have hcn := slash_ne HK.out (show i < k by omega) hlt
    obtain ⟨c, hc⟩ : ∃ c, s[i]'hlt = c := ⟨_, rfl⟩
    rw [hc] at hcn
    refine wp_seq_k ?_
    intro K6 hK6
    refine wp_seq_k ?_
    intro K7 hK7
    refine wp_region_sq [0, 1, 2, 3, 4, 5, 6, 7, 8, 9] (by kernel_rfl) ?_
    refine wpSq_call rfl (by kernel_rfl) fun K hK => ?_
    go_big_move; refine hK _ _ rfl ?_; clear hK K
    refine wpSq_call rfl (by kernel_rfl) fun K hK => ?_
    go_big_move; refine hK _ _ rfl ?_; clear hK K
    refine wpSq_call rfl (by kernel_rfl) fun K hK => ?_
    go_big_op; refine hK _ _ rfl ?_; clear hK K
    refine wpSq_call rfl (by kernel_rfl) fun K hK => ?_
    go_big_op; refine hK _ _ rfl ?_; clear hK K
    refine wpSq_call rfl (by kernel_rfl) fun K hK => ?_
    go_big_move; refine hK _ _ rfl ?_; clear hK K
    refine wpSq_call rfl (by kernel_rfl) fun K hK => ?_
    go_big_move; refine hK _ _ rfl ?_; clear hK K
    refine wpSq_call rfl (by kernel_rfl) fun K hK => ?_
    go_big_move; refine hK _ _ rfl ?_; clear hK K
    refine wpSq_call rfl (by kernel_rfl) fun K hK => ?_
    go_big_op; refine hK _ _ rfl ?_; clear hK K
    refine wpSq_call rfl (by kernel_rfl) fun K hK => ?_
    go_big_op; refine hK _ _ rfl ?_; clear hK K
    refine wpSq_call rfl (by kernel_rfl) fun K hK => ?_
    go_big_op; refine hK _ _ rfl ?_; clear hK K
    apply wpSq_end
    refine hK7 _ _ ?_
    refine wp_cond_true (congrArg Value.bool (show _ = true from (by simpa using hcn))) ?_
    refine wp_skip ?_
    refine hK6 _ _ ?_
    refine wp_block ?_
    refine wp_region_sq [0, 1, 2] (by kernel_rfl) ?_
    refine wpSq_call rfl (by kernel_rfl) fun K hK => ?_
    go_big_move; refine hK _ _ rfl ?_; clear hK K
    refine wpSq_call rfl (by kernel_rfl) fun K hK => ?_
    go_big_op; refine hK _ _ rfl ?_; clear hK K
    refine wpSq_call rfl (by kernel_rfl) fun K hK => ?_
    go_big_move; refine hK _ _ rfl ?_; clear hK K
    apply wpSq_end
    refine ‹∀ (a' : Act) (w' : World), Handed _ _ a' w' → _› _ _ ?_
    go_roundg (gk - 1)
    case rel => exact ⟨by congr 1; omega, by omega, x_b1, hb⟩
    case measure => omega
set_option maxHeartbeats 8000000 in
set_option maxRecDepth 20000 in
theorem rParse_z (w : World) (hs : s.size ≤ 65536) (hk : SlashAt s k) (hks : k < s.size) (T B : ByteArray) (hT : s.extract 0 k = T) (hB : s.extract (k + 1) s.size = B) (hTs : T.size ≤ 65536) (h : zok T = true) (hBs : B.size ≤ 65536) (h2 : digitsB B.data.toList = true) (h0 : zvl B = 0) :
    Calls Tryz.prog 49 #[.string s] w fun e w' => e = .returned (.tuple #[.agg #[.bool false, .slice none 0 0, .bool false, .slice none 0 0], .int .i64 5]) ∧ Below w.heap.size w w' := by
  have HK := hide hk
  have hkle := hk.1
  have H := hide h
  clear hk h
  have HZ := hide (zok_digits h2).1
  have LB := hide (zvl_len hBs HZ.out)
  have H2 := hide h2
  have H0 := hide h0
  clear h2 h0
  go_enter Tryz.func49, Tryz.ntmps49
  have hb := Below.refl w.heap.size w
  refine wp_seq_k ?_
  intro K1 hK1
  refine wp_region_sq [0, 1] (by kernel_rfl) ?_
  refine wpSq_call rfl (by kernel_rfl) fun K hK => ?_
  go_big_op
  obtain ⟨p_b1, w_1, eP, eW, x_b1, hn, kb_b1⟩ := newBox w #[.bool false, .slice none 0 0, .bool false, .slice none 0 0] 26 hb.size
  rw [eW, eP]
  clear eW eP
  replace hb := hb.trans (hn.mono hb.size)
  refine hK _ _ rfl ?_; clear hK K hn
  refine wpSq_call rfl (by kernel_rfl) fun K hK => ?_
  go_big_move; refine hK _ _ rfl ?_; clear hK K
  apply wpSq_end
  refine hK1 _ _ ?_
  refine wp_seq_k ?_
  intro K2 hK2
  refine wp_seq_k ?_
  intro K3 hK3
  refine wp_region_sq [0, 1, 2] (by kernel_rfl) ?_
  refine wpSq_call rfl (by kernel_rfl) fun K hK => ?_
  go_big_move; refine hK _ _ rfl ?_; clear hK K
  refine wpSq_call rfl (by kernel_rfl) fun K hK => ?_
  go_big_op; refine hK _ _ rfl ?_; clear hK K
  refine wpSq_call rfl (by kernel_rfl) fun K hK => ?_
  go_big_op; refine hK _ _ rfl ?_; clear hK K
  apply wpSq_end
  refine hK3 _ _ ?_
  refine wp_cond_false (congrArg Value.bool (show _ = false from (by first | rfl | assumption | (simp; done) | exact decide_eq_false (by omega) | omega))) ?_
  refine wp_skip ?_
  refine hK2 _ _ ?_
  refine wp_seq_k ?_
  intro K4 hK4
  refine wp_region_sq [0] (by kernel_rfl) ?_
  refine wpSq_call rfl (by kernel_rfl) fun K hK => ?_
  go_big_move; refine hK _ _ rfl ?_; clear hK K
  apply wpSq_end
  refine hK4 _ _ ?_
  refine wp_seq_k ?_
  intro K5 hK5
  refine wp_block ?_
  go_loopg [4] k (fun j s4 wr => s4 = .int .i64 ((k - j : Nat) : Int) ∧ j ≤ k ∧ Bs wr p_b1 #[.bool false, .slice none 0 0, .bool false, .slice none 0 0] 26 ∧ Below w.heap.size w wr)
  case atStart => exact ⟨by rw [Nat.sub_self]; rfl, Nat.le_refl _, x_b1, hb⟩
  case round =>
  clear x_b1
  obtain ⟨rfl, hj, x_b1, hb⟩ := hrel
  by_cases h0 : gk = 0
  · subst h0
    clear hj
    rw [Nat.sub_zero]
    have hce := slash_eq HK.out hks
    obtain ⟨c, hc⟩ : ∃ c, s[k]'hks = c := ⟨_, rfl⟩
    rw [hc] at hce
    refine wp_seq_k ?_
    intro K6 hK6
    refine wp_seq_k ?_
    intro K7 hK7
    refine wp_region_sq [0, 1, 2, 3, 4, 5, 6, 7, 8, 9] (by kernel_rfl) ?_
    refine wpSq_call rfl (by kernel_rfl) fun K hK => ?_
    go_big_move; refine hK _ _ rfl ?_; clear hK K
    refine wpSq_call rfl (by kernel_rfl) fun K hK => ?_
    go_big_move; refine hK _ _ rfl ?_; clear hK K
    refine wpSq_call rfl (by kernel_rfl) fun K hK => ?_
    go_big_op; refine hK _ _ rfl ?_; clear hK K
    refine wpSq_call rfl (by kernel_rfl) fun K hK => ?_
    go_big_op; refine hK _ _ rfl ?_; clear hK K
    refine wpSq_call rfl (by kernel_rfl) fun K hK => ?_
    go_big_move; refine hK _ _ rfl ?_; clear hK K
    refine wpSq_call rfl (by kernel_rfl) fun K hK => ?_
    go_big_move; refine hK _ _ rfl ?_; clear hK K
    refine wpSq_call rfl (by kernel_rfl) fun K hK => ?_
    go_big_move; refine hK _ _ rfl ?_; clear hK K
    refine wpSq_call rfl (by kernel_rfl) fun K hK => ?_
    go_big_op; refine hK _ _ rfl ?_; clear hK K
    refine wpSq_call rfl (by kernel_rfl) fun K hK => ?_
    go_big_op; refine hK _ _ rfl ?_; clear hK K
    refine wpSq_call rfl (by kernel_rfl) fun K hK => ?_
    go_big_op; refine hK _ _ rfl ?_; clear hK K
    apply wpSq_end
    refine hK7 _ _ ?_
    refine wp_cond_false (congrArg Value.bool (show _ = false from (by first | rfl | assumption | (simp; done) | exact decide_eq_false (by omega) | omega))) ?_
    refine wp_exit ?_
    refine hK5 _ _ ?_
    refine wp_seq_k ?_
    intro K8 hK8
    refine wp_seq_k ?_
    intro K9 hK9
    refine wp_region_sq [0, 1, 2, 3, 4, 5, 6, 7, 8, 9, 10, 11, 12, 13, 14, 15, 16, 17, 18] (by kernel_rfl) ?_
    refine wpSq_call rfl (by kernel_rfl) fun K hK => ?_
    go_big_move; refine hK _ _ rfl ?_; clear hK K
    refine wpSq_call rfl (by kernel_rfl) fun K hK => ?_
    go_big_move; refine hK _ _ rfl ?_; clear hK K
    refine wpSq_call rfl (by kernel_rfl) fun K hK => ?_
    go_big_op; refine hK _ _ rfl ?_; clear hK K
    refine wpSq_call rfl (by kernel_rfl) fun K hK => ?_
    go_big_op
    go_fit (ris_any T _ hTs)
    rintro e w_2 ⟨rfl, e_2⟩
    (first | rw [e_2] | rw [← e_2]); clear e_2 w_2
    rw [H.out]
    refine hK _ _ rfl ?_
    clear hK K
    refine wpSq_call rfl (by kernel_rfl) fun K hK => ?_
    go_big_op; refine hK _ _ rfl ?_; clear hK K
    refine wpSq_call rfl (by kernel_rfl) fun K hK => ?_
    go_big_move; refine hK _ _ rfl ?_; clear hK K
    refine wpSq_call rfl (by kernel_rfl) fun K hK => ?_
    go_big_move; refine hK _ _ rfl ?_; clear hK K
    refine wpSq_call rfl (by kernel_rfl) fun K hK => ?_
    go_big_move; refine hK _ _ rfl ?_; clear hK K
    refine wpSq_call rfl (by kernel_rfl) fun K hK => ?_
    go_big_op; refine hK _ _ rfl ?_; clear hK K
    refine wpSq_call rfl (by kernel_rfl) fun K hK => ?_
    go_big_op; refine hK _ _ rfl ?_; clear hK K
    refine wpSq_call rfl (by kernel_rfl) fun K hK => ?_
    go_big_move; refine hK _ _ rfl ?_; clear hK K
    refine wpSq_call rfl (by kernel_rfl) fun K hK => ?_
    go_big_move; refine hK _ _ rfl ?_; clear hK K
    refine wpSq_call rfl (by kernel_rfl) fun K hK => ?_
    go_big_move; refine hK _ _ rfl ?_; clear hK K
    refine wpSq_call rfl (by kernel_rfl) fun K hK => ?_
    go_big_op; refine hK _ _ rfl ?_; clear hK K
    refine wpSq_call rfl (by kernel_rfl) fun K hK => ?_
    go_big_op; refine hK _ _ rfl ?_; clear hK K
    refine wpSq_call rfl (by kernel_rfl) fun K hK => ?_
    go_big_op
    go_fit (rDigits_any B _ (by omega))
    rintro e w_3 ⟨rfl, e_3⟩
    (first | rw [e_3] | rw [← e_3]); clear e_3 w_3
    rw [H2.out]
    refine hK _ _ rfl ?_
    clear hK K
    refine wpSq_call rfl (by kernel_rfl) fun K hK => ?_
    go_big_op; refine hK _ _ rfl ?_; clear hK K
    refine wpSq_call rfl (by kernel_rfl) fun K hK => ?_
    go_big_op; refine hK _ _ rfl ?_; clear hK K
    refine wpSq_call rfl (by kernel_rfl) fun K hK => ?_
    go_big_op; refine hK _ _ rfl ?_; clear hK K
    apply wpSq_end
    refine hK9 _ _ ?_
    refine wp_cond_false (congrArg Value.bool (show _ = false from (by first | rfl | assumption | (simp; done) | exact decide_eq_false (by omega) | omega))) ?_
    refine wp_skip ?_
    refine hK8 _ _ ?_
    refine wp_seq_k ?_
    intro K10 hK10
    refine wp_seq_k ?_
    intro K11 hK11
    refine wp_region_sq [0, 1, 2, 3] (by kernel_rfl) ?_
    refine wpSq_call rfl (by kernel_rfl) fun K hK => ?_
    go_big_move; refine hK _ _ rfl ?_; clear hK K
    refine wpSq_call rfl (by kernel_rfl) fun K hK => ?_
    go_big_move; refine hK _ _ rfl ?_; clear hK K
    refine wpSq_call rfl (by kernel_rfl) fun K hK => ?_
    go_big_op; refine hK _ _ rfl ?_; clear hK K
    refine wpSq_call rfl (by kernel_rfl) fun K hK => ?_
    go_big_op; refine hK _ _ rfl ?_; clear hK K
    apply wpSq_end
    refine hK11 _ _ ?_
    refine wp_cond_false (congrArg Value.bool (show _ = false from (by first | rfl | assumption | (simp; done) | exact decide_eq_false (by omega) | omega))) ?_
    refine wp_skip ?_
    refine hK10 _ _ ?_
    refine wp_seq_k ?_
    intro K12 hK12
    refine wp_region_sq [0, 1, 2, 3, 4, 5, 6] (by kernel_rfl) ?_
    refine wpSq_call rfl (by kernel_rfl) fun K hK => ?_
    go_big_move; refine hK _ _ rfl ?_; clear hK K
    refine wpSq_call rfl (by kernel_rfl) fun K hK => ?_
    go_big_move; refine hK _ _ rfl ?_; clear hK K
    refine wpSq_call rfl (by kernel_rfl) fun K hK => ?_
    go_big_op; refine hK _ _ rfl ?_; clear hK K
    refine wpSq_call rfl (by kernel_rfl) fun K hK => ?_
    go_big_op; refine hK _ _ rfl ?_; clear hK K
    refine wpSq_call rfl (by kernel_rfl) fun K hK => ?_
    go_big_op
    go_fit (rzparse_ok B _ hBs HZ.out)
    rintro e w_4 ⟨v_g, rfl, g, hb_4⟩
    replace x_b1 := x_b1.bl hb_4; replace hb := hb.trans (hb_4.mono hb.size)
    obtain ⟨n_g, o_g, k_g, c_g, rfl⟩ := g.open2
    rw [H0.out] at g
    refine hK _ _ rfl ?_
    clear hK K hb_4
    refine wpSq_call rfl (by kernel_rfl) fun K hK => ?_
    go_big_op
    have lt_b1 := x_b1.lt
    obtain ⟨p_b2, w_5, eP, eW, x_b2, hn, kb_b2⟩ := newBox w_4 #[.bool false, .slice none 0 0] 24 hb.size
    have ne_b1_b2 : Hid (p_b1 ≠ p_b2) := Nat.ne_of_lt (eP ▸ lt_b1)
    rw [eW, eP]
    clear eW eP lt_b1
    replace x_b1 := x_b1.bl hn; replace g := g.bl hn; replace hb := hb.trans (hn.mono hb.size)
    refine hK _ _ rfl ?_; clear hK K hn
    refine wpSq_call rfl (by kernel_rfl) fun K hK => ?_
    obtain ⟨d0, d1⟩ := x_b2.f2
    have f0 := x_b2.free 0; have f1 := x_b2.free 1
    go_big_op
    have hnd := x_b2.nod rfl rfl
    obtain ⟨w_6, eW, x_b2', ho⟩ : ∃ w', ((w_5.setCell ⟨p_b2, 0, none⟩ (.bool n_g)).setCell ⟨p_b2, 1, none⟩ (.slice o_g k_g c_g)) = w' ∧ Bs w' p_b2 #[.bool n_g, .slice o_g k_g c_g] 24 ∧ Only p_b2 w_5 w' := x_b2.setN [(0, .bool n_g), (1, .slice o_g k_g c_g)]
    rw [eW]; clear eW d0 d1 f0 f1 x_b2
    have x_b2 := x_b2'; clear x_b2'
    replace x_b1 := x_b1.frame ho ne_b1_b2; replace g := g.fr hnd ho; replace hb := belowOnly hb ho kb_b2
    refine hK _ _ rfl ?_; clear hK K ho hnd
    apply wpSq_end
    refine hK12 _ _ ?_
    refine wp_seq_k ?_
    intro K13 hK13
    refine wp_seq_k ?_
    intro K14 hK14
    refine wp_region_sq [0, 1, 2] (by kernel_rfl) ?_
    refine wpSq_call rfl (by kernel_rfl) fun K hK => ?_
    obtain ⟨d0, d1⟩ := x_b2.f2
    go_big_op; refine hK _ _ rfl ?_; clear hK K d0 d1
    have Lg := hide (g.lenOf (zlen_0))
    refine wpSq_call rfl (by kernel_rfl) fun K hK => ?_
    go_big_op
    go_fit (rzsign_any (g.zn Lg.out) (by omega) )
    rintro e w_7 ⟨rfl, hb_7⟩
    replace x_b1 := x_b1.bl hb_7; replace g := g.bl hb_7; replace x_b2 := x_b2.bl hb_7; replace hb := hb.trans (hb_7.mono hb.size)
    refine hK _ _ rfl ?_
    clear hK K hb_7
    refine wpSq_call rfl (by kernel_rfl) fun K hK => ?_
    go_big_op; refine hK _ _ rfl ?_; clear hK K
    apply wpSq_end
    refine hK14 _ _ ?_
    refine wp_cond_true (congrArg Value.bool (show _ = true from (by first | rfl | assumption | (simp; done) | exact decide_eq_true (by omega) | omega))) ?_
    refine wp_seq_k ?_
    intro K15 hK15
    refine wp_region_sq [0, 1, 2] (by kernel_rfl) ?_
    refine wpSq_call rfl (by kernel_rfl) fun K hK => ?_
    go_big_op; refine hK _ _ rfl ?_; clear hK K
    refine wpSq_call rfl (by kernel_rfl) fun K hK => ?_
    obtain ⟨d0, d1, d2, d3⟩ := x_b1.f4
    have f0 := x_b1.free 0; have f1 := x_b1.free 1; have f2 := x_b1.free 2; have f3 := x_b1.free 3
    go_big_op
    have hnd := x_b1.nod rfl rfl
    obtain ⟨w_8, eW, x_b1', ho⟩ : ∃ w', ((((w_7.setCell ⟨p_b1, 0, none⟩ (.bool false)).setCell ⟨p_b1, 1, none⟩ (.slice none 0 0)).setCell ⟨p_b1, 2, none⟩ (.bool false)).setCell ⟨p_b1, 3, none⟩ (.slice none 0 0)) = w' ∧ Bs w' p_b1 #[.bool false, .slice none 0 0, .bool false, .slice none 0 0] 26 ∧ Only p_b1 w_7 w' := x_b1.setN [(0, .bool false), (1, .slice none 0 0), (2, .bool false), (3, .slice none 0 0)]
    rw [eW]; clear eW d0 d1 d2 d3 f0 f1 f2 f3 x_b1
    have x_b1 := x_b1'; clear x_b1'
    replace g := g.fr hnd ho; replace x_b2 := x_b2.frame ho ne_b1_b2.symm; replace hb := belowOnly hb ho kb_b1
    refine hK _ _ rfl ?_; clear hK K ho hnd
    refine wpSq_call rfl (by kernel_rfl) fun K hK => ?_
    go_big_move; refine hK _ _ rfl ?_; clear hK K
    apply wpSq_end
    refine hK15 _ _ ?_
    refine wp_ret ?_
    try dsimp only [Exit.then, Exit.inBlock]
    obtain ⟨r0_0, r0_1, r0_2, r0_3⟩ := x_b1.f4
    refine bodyPost_ret (v := (.tuple #[(.agg #[.bool false, .slice none 0 0, .bool false, .slice none 0 0]), (.int .i64 5)])) (by simp [results, Tryz.results49, go_sem, r0_0, r0_1, r0_2, r0_3]) rfl ?_
    exact ⟨rfl, hb⟩
  · obtain ⟨i, hi⟩ : ∃ i, k - gk = i := ⟨_, rfl⟩
    rw [hi]
    have hlt : i < s.size := by omega
    have hcn := slash_ne HK.out (show i < k by omega) hlt
    obtain ⟨c, hc⟩ : ∃ c, s[i]'hlt = c := ⟨_, rfl⟩
    rw [hc] at hcn
    refine wp_seq_k ?_
    intro K6 hK6
    refine wp_seq_k ?_
    intro K7 hK7
    refine wp_region_sq [0, 1, 2, 3, 4, 5, 6, 7, 8, 9] (by kernel_rfl) ?_
    refine wpSq_call rfl (by kernel_rfl) fun K hK => ?_
    go_big_move; refine hK _ _ rfl ?_; clear hK K
    refine wpSq_call rfl (by kernel_rfl) fun K hK => ?_
    go_big_move; refine hK _ _ rfl ?_; clear hK K
    refine wpSq_call rfl (by kernel_rfl) fun K hK => ?_
    go_big_op; refine hK _ _ rfl ?_; clear hK K
    refine wpSq_call rfl (by kernel_rfl) fun K hK => ?_
    go_big_op; refine hK _ _ rfl ?_; clear hK K
    refine wpSq_call rfl (by kernel_rfl) fun K hK => ?_
    go_big_move; refine hK _ _ rfl ?_; clear hK K
    refine wpSq_call rfl (by kernel_rfl) fun K hK => ?_
    go_big_move; refine hK _ _ rfl ?_; clear hK K
    refine wpSq_call rfl (by kernel_rfl) fun K hK => ?_
    go_big_move; refine hK _ _ rfl ?_; clear hK K
    refine wpSq_call rfl (by kernel_rfl) fun K hK => ?_
    go_big_op; refine hK _ _ rfl ?_; clear hK K
    refine wpSq_call rfl (by kernel_rfl) fun K hK => ?_
    go_big_op; refine hK _ _ rfl ?_; clear hK K
    refine wpSq_call rfl (by kernel_rfl) fun K hK => ?_
    go_big_op; refine hK _ _ rfl ?_; clear hK K
    apply wpSq_end
    refine hK7 _ _ ?_
    refine wp_cond_true (congrArg Value.bool (show _ = true from (by simpa using hcn))) ?_
    refine wp_skip ?_
    refine hK6 _ _ ?_
    refine wp_block ?_
    refine wp_region_sq [0, 1, 2] (by kernel_rfl) ?_
    refine wpSq_call rfl (by kernel_rfl) fun K hK => ?_
    go_big_move; refine hK _ _ rfl ?_; clear hK K
    refine wpSq_call rfl (by kernel_rfl) fun K hK => ?_
    go_big_op; refine hK _ _ rfl ?_; clear hK K
    refine wpSq_call rfl (by kernel_rfl) fun K hK => ?_
    go_big_move; refine hK _ _ rfl ?_; clear hK K
    apply wpSq_end
    refine ‹∀ (a' : Act) (w' : World), Handed _ _ a' w' → _› _ _ ?_
    go_roundg (gk - 1)
    case rel => exact ⟨by congr 1; omega, by omega, x_b1, hb⟩
    case measure => omega
set_option maxHeartbeats 8000000 in
set_option maxRecDepth 20000 in
theorem rParse_ok (w : World) (hs : s.size ≤ 65536) (hk : SlashAt s k) (hks : k < s.size) (T B : ByteArray) (hT : s.extract 0 k = T) (hB : s.extract (k + 1) s.size = B) (hTs : T.size ≤ 65536) (h : zok T = true) (hBs : B.size ≤ 65536) (h2 : digitsB B.data.toList = true) (h0 : zvl B ≠ 0) :
    Calls Tryz.prog 49 #[.string s] w fun e w' => ∃ r, e = .returned (.tuple #[r, .int .i64 0]) ∧ PC w' r (qN (zvl T) (zvl B)) (qD (zvl T) (zvl B)) ∧ Below w.heap.size w w' := by
  have LT := hide (zvl_len hTs h)
  have HK := hide hk
  have hkle := hk.1
  have H := hide h
  clear hk h
  have HZ := hide (zok_digits h2).1
  have LB := hide (zvl_len hBs HZ.out)
  have H2 := hide h2
  have HS := hide (show ((zvl B).sign == 0) = false by simpa using h0)
  have H0 := hide h0
  clear h2 h0
  go_enter Tryz.func49, Tryz.ntmps49
  have hb := Below.refl w.heap.size w
  refine wp_seq_k ?_
  intro K1 hK1
  refine wp_region_sq [0, 1] (by kernel_rfl) ?_
  refine wpSq_call rfl (by kernel_rfl) fun K hK => ?_
  go_big_op
  obtain ⟨p_b1, w_1, eP, eW, x_b1, hn, kb_b1⟩ := newBox w #[.bool false, .slice none 0 0, .bool false, .slice none 0 0] 26 hb.size
  rw [eW, eP]
  clear eW eP
  replace hb := hb.trans (hn.mono hb.size)
  refine hK _ _ rfl ?_; clear hK K hn
  refine wpSq_call rfl (by kernel_rfl) fun K hK => ?_
  go_big_move; refine hK _ _ rfl ?_; clear hK K
  apply wpSq_end
  refine hK1 _ _ ?_
  refine wp_seq_k ?_
  intro K2 hK2
  refine wp_seq_k ?_
  intro K3 hK3
  refine wp_region_sq [0, 1, 2] (by kernel_rfl) ?_
  refine wpSq_call rfl (by kernel_rfl) fun K hK => ?_
  go_big_move; refine hK _ _ rfl ?_; clear hK K
  refine wpSq_call rfl (by kernel_rfl) fun K hK => ?_
  go_big_op; refine hK _ _ rfl ?_; clear hK K
  refine wpSq_call rfl (by kernel_rfl) fun K hK => ?_
  go_big_op; refine hK _ _ rfl ?_; clear hK K
  apply wpSq_end
  refine hK3 _ _ ?_
  refine wp_cond_false (congrArg Value.bool (show _ = false from (by first | rfl | assumption | (simp; done) | exact decide_eq_false (by omega) | omega))) ?_
  refine wp_skip ?_
  refine hK2 _ _ ?_
  refine wp_seq_k ?_
  intro K4 hK4
  refine wp_region_sq [0] (by kernel_rfl) ?_
  refine wpSq_call rfl (by kernel_rfl) fun K hK => ?_
  go_big_move; refine hK _ _ rfl ?_; clear hK K
  apply wpSq_end
  refine hK4 _ _ ?_
  refine wp_seq_k ?_
  intro K5 hK5
  refine wp_block ?_
  go_loopg [4] k (fun j s4 wr => s4 = .int .i64 ((k - j : Nat) : Int) ∧ j ≤ k ∧ Bs wr p_b1 #[.bool false, .slice none 0 0, .bool false, .slice none 0 0] 26 ∧ Below w.heap.size w wr)
  case atStart => exact ⟨by rw [Nat.sub_self]; rfl, Nat.le_refl _, x_b1, hb⟩
  case round =>
  clear x_b1
  obtain ⟨rfl, hj, x_b1, hb⟩ := hrel
  by_cases h0 : gk = 0
  · subst h0
    clear hj
    rw [Nat.sub_zero]
    have hce := slash_eq HK.out hks
    obtain ⟨c, hc⟩ : ∃ c, s[k]'hks = c := ⟨_, rfl⟩
    rw [hc] at hce
    refine wp_seq_k ?_
    intro K6 hK6
    refine wp_seq_k ?_
    intro K7 hK7
    refine wp_region_sq [0, 1, 2, 3, 4, 5, 6, 7, 8, 9] (by kernel_rfl) ?_
    refine wpSq_call rfl (by kernel_rfl) fun K hK => ?_
    go_big_move; refine hK _ _ rfl ?_; clear hK K
    refine wpSq_call rfl (by kernel_rfl) fun K hK => ?_
    go_big_move; refine hK _ _ rfl ?_; clear hK K
    refine wpSq_call rfl (by kernel_rfl) fun K hK => ?_
    go_big_op; refine hK _ _ rfl ?_; clear hK K
    refine wpSq_call rfl (by kernel_rfl) fun K hK => ?_
    go_big_op; refine hK _ _ rfl ?_; clear hK K
    refine wpSq_call rfl (by kernel_rfl) fun K hK => ?_
    go_big_move; refine hK _ _ rfl ?_; clear hK K
    refine wpSq_call rfl (by kernel_rfl) fun K hK => ?_
    go_big_move; refine hK _ _ rfl ?_; clear hK K
    refine wpSq_call rfl (by kernel_rfl) fun K hK => ?_
    go_big_move; refine hK _ _ rfl ?_; clear hK K
    refine wpSq_call rfl (by kernel_rfl) fun K hK => ?_
    go_big_op; refine hK _ _ rfl ?_; clear hK K
    refine wpSq_call rfl (by kernel_rfl) fun K hK => ?_
    go_big_op; refine hK _ _ rfl ?_; clear hK K
    refine wpSq_call rfl (by kernel_rfl) fun K hK => ?_
    go_big_op; refine hK _ _ rfl ?_; clear hK K
    apply wpSq_end
    refine hK7 _ _ ?_
    refine wp_cond_false (congrArg Value.bool (show _ = false from (by first | rfl | assumption | (simp; done) | exact decide_eq_false (by omega) | omega))) ?_
    refine wp_exit ?_
    refine hK5 _ _ ?_
    refine wp_seq_k ?_
    intro K8 hK8
    refine wp_seq_k ?_
    intro K9 hK9
    refine wp_region_sq [0, 1, 2, 3, 4, 5, 6, 7, 8, 9, 10, 11, 12, 13, 14, 15, 16, 17, 18] (by kernel_rfl) ?_
    refine wpSq_call rfl (by kernel_rfl) fun K hK => ?_
    go_big_move; refine hK _ _ rfl ?_; clear hK K
    refine wpSq_call rfl (by kernel_rfl) fun K hK => ?_
    go_big_move; refine hK _ _ rfl ?_; clear hK K
    refine wpSq_call rfl (by kernel_rfl) fun K hK => ?_
    go_big_op; refine hK _ _ rfl ?_; clear hK K
    refine wpSq_call rfl (by kernel_rfl) fun K hK => ?_
    go_big_op
    go_fit (ris_any T _ hTs)
    rintro e w_2 ⟨rfl, e_2⟩
    (first | rw [e_2] | rw [← e_2]); clear e_2 w_2
    rw [H.out]
    refine hK _ _ rfl ?_
    clear hK K
    refine wpSq_call rfl (by kernel_rfl) fun K hK => ?_
    go_big_op; refine hK _ _ rfl ?_; clear hK K
    refine wpSq_call rfl (by kernel_rfl) fun K hK => ?_
    go_big_move; refine hK _ _ rfl ?_; clear hK K
    refine wpSq_call rfl (by kernel_rfl) fun K hK => ?_
    go_big_move; refine hK _ _ rfl ?_; clear hK K
    refine wpSq_call rfl (by kernel_rfl) fun K hK => ?_
    go_big_move; refine hK _ _ rfl ?_; clear hK K
    refine wpSq_call rfl (by kernel_rfl) fun K hK => ?_
    go_big_op; refine hK _ _ rfl ?_; clear hK K
    refine wpSq_call rfl (by kernel_rfl) fun K hK => ?_
    go_big_op; refine hK _ _ rfl ?_; clear hK K
    refine wpSq_call rfl (by kernel_rfl) fun K hK => ?_
    go_big_move; refine hK _ _ rfl ?_; clear hK K
    refine wpSq_call rfl (by kernel_rfl) fun K hK => ?_
    go_big_move; refine hK _ _ rfl ?_; clear hK K
    refine wpSq_call rfl (by kernel_rfl) fun K hK => ?_
    go_big_move; refine hK _ _ rfl ?_; clear hK K
    refine wpSq_call rfl (by kernel_rfl) fun K hK => ?_
    go_big_op; refine hK _ _ rfl ?_; clear hK K
    refine wpSq_call rfl (by kernel_rfl) fun K hK => ?_
    go_big_op; refine hK _ _ rfl ?_; clear hK K
    refine wpSq_call rfl (by kernel_rfl) fun K hK => ?_
    go_big_op
    go_fit (rDigits_any B _ (by omega))
    rintro e w_3 ⟨rfl, e_3⟩
    (first | rw [e_3] | rw [← e_3]); clear e_3 w_3
    rw [H2.out]
    refine hK _ _ rfl ?_
    clear hK K
    refine wpSq_call rfl (by kernel_rfl) fun K hK => ?_
    go_big_op; refine hK _ _ rfl ?_; clear hK K
    refine wpSq_call rfl (by kernel_rfl) fun K hK => ?_
    go_big_op; refine hK _ _ rfl ?_; clear hK K
    refine wpSq_call rfl (by kernel_rfl) fun K hK => ?_
    go_big_op; refine hK _ _ rfl ?_; clear hK K
    apply wpSq_end
    refine hK9 _ _ ?_
    refine wp_cond_false (congrArg Value.bool (show _ = false from (by first | rfl | assumption | (simp; done) | exact decide_eq_false (by omega) | omega))) ?_
    refine wp_skip ?_
    refine hK8 _ _ ?_
    refine wp_seq_k ?_
    intro K10 hK10
    refine wp_seq_k ?_
    intro K11 hK11
    refine wp_region_sq [0, 1, 2, 3] (by kernel_rfl) ?_
    refine wpSq_call rfl (by kernel_rfl) fun K hK => ?_
    go_big_move; refine hK _ _ rfl ?_; clear hK K
    refine wpSq_call rfl (by kernel_rfl) fun K hK => ?_
    go_big_move; refine hK _ _ rfl ?_; clear hK K
    refine wpSq_call rfl (by kernel_rfl) fun K hK => ?_
    go_big_op; refine hK _ _ rfl ?_; clear hK K
    refine wpSq_call rfl (by kernel_rfl) fun K hK => ?_
    go_big_op; refine hK _ _ rfl ?_; clear hK K
    apply wpSq_end
    refine hK11 _ _ ?_
    refine wp_cond_false (congrArg Value.bool (show _ = false from (by first | rfl | assumption | (simp; done) | exact decide_eq_false (by omega) | omega))) ?_
    refine wp_skip ?_
    refine hK10 _ _ ?_
    refine wp_seq_k ?_
    intro K12 hK12
    refine wp_region_sq [0, 1, 2, 3, 4, 5, 6] (by kernel_rfl) ?_
    refine wpSq_call rfl (by kernel_rfl) fun K hK => ?_
    go_big_move; refine hK _ _ rfl ?_; clear hK K
    refine wpSq_call rfl (by kernel_rfl) fun K hK => ?_
    go_big_move; refine hK _ _ rfl ?_; clear hK K
    refine wpSq_call rfl (by kernel_rfl) fun K hK => ?_
    go_big_op; refine hK _ _ rfl ?_; clear hK K
    refine wpSq_call rfl (by kernel_rfl) fun K hK => ?_
    go_big_op; refine hK _ _ rfl ?_; clear hK K
    refine wpSq_call rfl (by kernel_rfl) fun K hK => ?_
    go_big_op
    go_fit (rzparse_ok B _ hBs HZ.out)
    rintro e w_4 ⟨v_g, rfl, g, hb_4⟩
    replace x_b1 := x_b1.bl hb_4; replace hb := hb.trans (hb_4.mono hb.size)
    obtain ⟨n_g, o_g, k_g, c_g, rfl⟩ := g.open2
    have Lg := hide (g.lenOf (LB.out))
    refine hK _ _ rfl ?_
    clear hK K hb_4
    refine wpSq_call rfl (by kernel_rfl) fun K hK => ?_
    go_big_op
    have lt_b1 := x_b1.lt
    obtain ⟨p_b2, w_5, eP, eW, x_b2, hn, kb_b2⟩ := newBox w_4 #[.bool false, .slice none 0 0] 24 hb.size
    have ne_b1_b2 : Hid (p_b1 ≠ p_b2) := Nat.ne_of_lt (eP ▸ lt_b1)
    rw [eW, eP]
    clear eW eP lt_b1
    replace x_b1 := x_b1.bl hn; replace g := g.bl hn; replace hb := hb.trans (hn.mono hb.size)
    refine hK _ _ rfl ?_; clear hK K hn
    refine wpSq_call rfl (by kernel_rfl) fun K hK => ?_
    obtain ⟨d0, d1⟩ := x_b2.f2
    have f0 := x_b2.free 0; have f1 := x_b2.free 1
    go_big_op
    have hnd := x_b2.nod rfl rfl
    obtain ⟨w_6, eW, x_b2', ho⟩ : ∃ w', ((w_5.setCell ⟨p_b2, 0, none⟩ (.bool n_g)).setCell ⟨p_b2, 1, none⟩ (.slice o_g k_g c_g)) = w' ∧ Bs w' p_b2 #[.bool n_g, .slice o_g k_g c_g] 24 ∧ Only p_b2 w_5 w' := x_b2.setN [(0, .bool n_g), (1, .slice o_g k_g c_g)]
    rw [eW]; clear eW d0 d1 f0 f1 x_b2
    have x_b2 := x_b2'; clear x_b2'
    replace x_b1 := x_b1.frame ho ne_b1_b2; replace g := g.fr hnd ho; replace hb := belowOnly hb ho kb_b2
    refine hK _ _ rfl ?_; clear hK K ho hnd
    apply wpSq_end
    refine hK12 _ _ ?_
    refine wp_seq_k ?_
    intro K13 hK13
    refine wp_seq_k ?_
    intro K14 hK14
    refine wp_region_sq [0, 1, 2] (by kernel_rfl) ?_
    refine wpSq_call rfl (by kernel_rfl) fun K hK => ?_
    obtain ⟨d0, d1⟩ := x_b2.f2
    go_big_op; refine hK _ _ rfl ?_; clear hK K d0 d1
    refine wpSq_call rfl (by kernel_rfl) fun K hK => ?_
    go_big_op
    go_fit (rzsign_any (g.zn Lg.out) (by omega) )
    rintro e w_7 ⟨rfl, hb_7⟩
    replace x_b1 := x_b1.bl hb_7; replace g := g.bl hb_7; replace x_b2 := x_b2.bl hb_7; replace hb := hb.trans (hb_7.mono hb.size)
    refine hK _ _ rfl ?_
    clear hK K hb_7
    refine wpSq_call rfl (by kernel_rfl) fun K hK => ?_
    go_big_op; refine hK _ _ rfl ?_; clear hK K
    apply wpSq_end
    refine hK14 _ _ ?_
    refine wp_cond_false (congrArg Value.bool (show _ = false from (by exact HS.out))) ?_
    refine wp_skip ?_
    refine hK13 _ _ ?_
    refine wp_seq_k ?_
    intro K15 hK15
    refine wp_region_fl2 [(0, false), (1, false), (2, false), (4, false), (3, true), (5, true)] [6, 7] [] (fun _ => default) [99, 99, 99, 99, 0, 99, 99, 99] [] (fun w' => w'.cell? ⟨p_b2, 0, none⟩ = some (.bool n_g) ∧ w'.cell? ⟨p_b2, 1, none⟩ = some (.slice o_g k_g c_g)) [fun w' => w'.cell? ⟨p_b2, 0, none⟩ = some (.bool n_g) ∧ w'.cell? ⟨p_b2, 1, none⟩ = some (.slice o_g k_g c_g)] (by kernel_rfl) (by kernel_rfl) (by kernel_rfl) (by kernel_rfl) (by kernel_rfl) (by kernel_rfl) (by kernel_rfl) (by kernel_rfl) (by decide) (by intro j hj; cases hj) (by intro w' o hC; obtain ⟨c0, c1⟩ := hC; exact ⟨cell_alloc c0 o, cell_alloc c1 o⟩) (by intro w' hC G hG; obtain ⟨c0, c1⟩ := hC; simp only [List.mem_cons, List.not_mem_nil, or_false] at hG; rcases hG with rfl <;> first | exact ⟨c0, c1⟩) ?_
    have lt_b1 := x_b1.lt
    have lt_b2 := x_b2.lt
    intro w_8 hn
    replace lt_b1 := Nat.lt_of_lt_of_le lt_b1 hn.size
    replace lt_b2 := Nat.lt_of_lt_of_le lt_b2 hn.size
    replace x_b1 := x_b1.bl hn; replace g := g.bl hn; replace x_b2 := x_b2.bl hn; replace hb := hb.trans (hn.mono hb.size)
    clear hn
    have kb0 := hb.size
    refine ⟨⟨x_b2.cell 0 rfl, x_b2.cell 1 rfl⟩, ?_⟩
    apply wpFl_ld rfl rfl; (case h1 => intro w' hC K hK; go_big_move; exact hK); iterate 4 kernel_rfl
    apply wpFl_ld rfl rfl; (case h1 => intro w' hC K hK; go_big_move; exact hK); iterate 4 kernel_rfl
    apply wpFl_ld rfl rfl; (case h1 => intro w' hC K hK; go_big_op; exact hK); iterate 4 kernel_rfl
    apply wpFl_ld rfl rfl; (case h1 => intro w' hC K hK; obtain ⟨c0, c1⟩ := hC; go_big_op; exact hK); iterate 4 kernel_rfl
    refine wpFl_call rfl (by kernel_rfl) fun w_9 hn hC => ?_; clear hC
    replace x_b1 := x_b1.bl hn; replace g := g.bl hn; replace x_b2 := x_b2.bl hn; replace hb := hb.trans (hn.mono hb.size)
    clear hn; intro K hK
    go_big_op
    go_fit (rzparse_ok T _ hTs H.out)
    rintro e w_10 ⟨v_g5, rfl, g5, hb_10⟩
    replace x_b1 := x_b1.bl hb_10; replace g := g.bl hb_10; replace x_b2 := x_b2.bl hb_10; replace hb := hb.trans (hb_10.mono hb.size)
    obtain ⟨n_g5, o_g5, k_g5, c_g5, rfl⟩ := g5.open2
    have Lg5 := hide (g5.lenOf (LT.out))
    refine hK _ _ rfl hb_10 ⟨x_b2.cell 0 rfl, x_b2.cell 1 rfl⟩ ?_
    clear hK K hb_10
    refine wpFl_call rfl (by kernel_rfl) fun w_11 hn hC => ?_; clear hC
    replace x_b1 := x_b1.bl hn; replace g := g.bl hn; replace x_b2 := x_b2.bl hn; replace g5 := g5.bl hn; replace hb := hb.trans (hn.mono hb.size)
    clear hn; intro K hK
    go_big_op
    go_fit (rfmake_any (g5.zn Lg5.out) (g.zn Lg.out) (by omega) (by omega) H0.out)
    rintro e w_12 ⟨_, rfl, ⟨n_ra, o_ra, k_ra, c_ra, n_rb, o_rb, k_rb, c_rb, rfl, r1, r2⟩, hb_12⟩
    replace x_b1 := x_b1.bl hb_12; replace g := g.bl hb_12; replace x_b2 := x_b2.bl hb_12; replace g5 := g5.bl hb_12; replace hb := hb.trans (hb_12.mono hb.size)
    have Lr1 := hide (r1.lenOf (qN_len (H0.out) (Lg5.out)))
    have Lr2 := hide (r2.lenOf (qD_len (H0.out) (Lg.out)))
    refine hK _ _ rfl hb_12 ⟨x_b2.cell 0 rfl, x_b2.cell 1 rfl⟩ ?_
    clear hK K hb_12
    apply wpFl_end
    case ha => intro pt; simp only [putF]; rfl
    case h =>
    intro w_13 pt hn hC hF hD
    clear hC
    clear g5
    replace x_b1 := x_b1.bl hn; replace g := g.bl hn; replace x_b2 := x_b2.bl hn; replace r1 := r1.bl hn; replace r2 := r2.bl hn; replace hb := hb.trans (hn.mono hb.size)
    clear hn
    clear hF hD
    clear pt
    clear kb0 lt_b1 lt_b2
    refine wpTail_call rfl (by kernel_rfl) fun K hK => ?_
    obtain ⟨d0, d1, d2, d3⟩ := x_b1.f4
    have f0 := x_b1.free 0; have f1 := x_b1.free 1; have f2 := x_b1.free 2; have f3 := x_b1.free 3
    go_big_op
    have hnd := x_b1.nod rfl rfl
    obtain ⟨w_14, eW, x_b1', ho⟩ : ∃ w', ((((w_13.setCell ⟨p_b1, 0, none⟩ (.bool n_ra)).setCell ⟨p_b1, 1, none⟩ (.slice o_ra k_ra c_ra)).setCell ⟨p_b1, 2, none⟩ (.bool n_rb)).setCell ⟨p_b1, 3, none⟩ (.slice o_rb k_rb c_rb)) = w' ∧ Bs w' p_b1 #[.bool n_ra, .slice o_ra k_ra c_ra, .bool n_rb, .slice o_rb k_rb c_rb] 26 ∧ Only p_b1 w_13 w' := x_b1.setN [(0, .bool n_ra), (1, .slice o_ra k_ra c_ra), (2, .bool n_rb), (3, .slice o_rb k_rb c_rb)]
    rw [eW]; clear eW d0 d1 d2 d3 f0 f1 f2 f3 x_b1
    have x_b1 := x_b1'; clear x_b1'
    replace g := g.fr hnd ho; replace x_b2 := x_b2.frame ho ne_b1_b2.symm; replace r1 := r1.fr hnd ho; replace r2 := r2.fr hnd ho; replace hb := belowOnly hb ho kb_b1
    refine hK _ _ rfl (And.intro ⟨x_b2.cell 0 rfl, x_b2.cell 1 rfl⟩ True.intro) ?_; clear hK K ho hnd
    refine wpTail_call rfl (by kernel_rfl) fun K hK => ?_
    go_big_move; refine hK _ _ rfl (And.intro ⟨x_b2.cell 0 rfl, x_b2.cell 1 rfl⟩ True.intro) ?_; clear hK K
    apply wpTail_end
    refine hK15 _ _ ?_
    refine wp_ret ?_
    try dsimp only [Exit.then, Exit.inBlock]
    obtain ⟨r0_0, r0_1, r0_2, r0_3⟩ := x_b1.f4
    refine bodyPost_ret (v := (.tuple #[(.agg #[.bool n_ra, .slice o_ra k_ra c_ra, .bool n_rb, .slice o_rb k_rb c_rb]), (.int .i64 0)])) (by simp [results, Tryz.results49, go_sem, r0_0, r0_1, r0_2, r0_3]) rfl ?_
    exact ⟨_, rfl, .mk' r1 r2, hb⟩
  · obtain ⟨i, hi⟩ : ∃ i, k - gk = i := ⟨_, rfl⟩
    rw [hi]
    have hlt : i < s.size := by omega
    have hcn := slash_ne HK.out (show i < k by omega) hlt
    obtain ⟨c, hc⟩ : ∃ c, s[i]'hlt = c := ⟨_, rfl⟩
    rw [hc] at hcn
    refine wp_seq_k ?_
    intro K6 hK6
    refine wp_seq_k ?_
    intro K7 hK7
    refine wp_region_sq [0, 1, 2, 3, 4, 5, 6, 7, 8, 9] (by kernel_rfl) ?_
    refine wpSq_call rfl (by kernel_rfl) fun K hK => ?_
    go_big_move; refine hK _ _ rfl ?_; clear hK K
    refine wpSq_call rfl (by kernel_rfl) fun K hK => ?_
    go_big_move; refine hK _ _ rfl ?_; clear hK K
    refine wpSq_call rfl (by kernel_rfl) fun K hK => ?_
    go_big_op; refine hK _ _ rfl ?_; clear hK K
    refine wpSq_call rfl (by kernel_rfl) fun K hK => ?_
    go_big_op; refine hK _ _ rfl ?_; clear hK K
    refine wpSq_call rfl (by kernel_rfl) fun K hK => ?_
    go_big_move; refine hK _ _ rfl ?_; clear hK K
    refine wpSq_call rfl (by kernel_rfl) fun K hK => ?_
    go_big_move; refine hK _ _ rfl ?_; clear hK K
    refine wpSq_call rfl (by kernel_rfl) fun K hK => ?_
    go_big_move; refine hK _ _ rfl ?_; clear hK K
    refine wpSq_call rfl (by kernel_rfl) fun K hK => ?_
    go_big_op; refine hK _ _ rfl ?_; clear hK K
    refine wpSq_call rfl (by kernel_rfl) fun K hK => ?_
    go_big_op; refine hK _ _ rfl ?_; clear hK K
    refine wpSq_call rfl (by kernel_rfl) fun K hK => ?_
    go_big_op; refine hK _ _ rfl ?_; clear hK K
    apply wpSq_end
    refine hK7 _ _ ?_
    refine wp_cond_true (congrArg Value.bool (show _ = true from (by simpa using hcn))) ?_
    refine wp_skip ?_
    refine hK6 _ _ ?_
    refine wp_block ?_
    refine wp_region_sq [0, 1, 2] (by kernel_rfl) ?_
    refine wpSq_call rfl (by kernel_rfl) fun K hK => ?_
    go_big_move; refine hK _ _ rfl ?_; clear hK K
    refine wpSq_call rfl (by kernel_rfl) fun K hK => ?_
    go_big_op; refine hK _ _ rfl ?_; clear hK K
    refine wpSq_call rfl (by kernel_rfl) fun K hK => ?_
    go_big_move; refine hK _ _ rfl ?_; clear hK K
    apply wpSq_end
    refine ‹∀ (a' : Act) (w' : World), Handed _ _ a' w' → _› _ _ ?_
    go_roundg (gk - 1)
    case rel => exact ⟨by congr 1; omega, by omega, x_b1, hb⟩
    case measure => omega
end
end Go.Proofs.YtkgbfnmlpajblaaGreatDoor

/- Texts of rationals by the reference; what both Parses answer. -/
namespace Go.Proofs.YtkgbfnmlpajblaaGreatDoor
open Go Go.RowKit Dig
set_option linter.unusedVariables false

section
variable {w : World} {va vb : Value} {x y u v : Int} {l m k n : Nat}
set_option maxHeartbeats 4000000 in
set_option maxRecDepth 20000 in
theorem rfText_one (ha : PN w va x l y m) (hl : l ≤ 10000000) (hm : m ≤ 10000000) (h0 : y ≠ 0) (h1 : qD x y = 1) :
    Calls Tryz.prog 50 #[va] w fun e w' => e = .returned (.string (zts (qN x y))) ∧ Below w.heap.size w w' := by
  have H0 := hide h0
  have H1 := hide (show zcmp (qD x y) 1 = 0 from zcmp_eq h1)
  obtain ⟨S, hS⟩ : ∃ S, zts (qN x y) = S := ⟨_, rfl⟩
  have HS := hide hS
  rw [hS]
  clear h0 h1 hS
  obtain ⟨n_0a, o_0a, k_0a, c_0a, n_0b, o_0b, k_0b, c_0b, rfl, ha1, ha2⟩ := ha
  go_enter Tryz.func50, Tryz.ntmps50
  have hb := Below.refl w.heap.size w
  refine wp_seq_k ?_
  intro K1 hK1
  refine wp_region_sq [0, 1] (by kernel_rfl) ?_
  refine wpSq_call rfl (by kernel_rfl) fun K hK => ?_
  go_big_op
  obtain ⟨p_b1, w_1, eP, eW, x_b1, hn, kb_b1⟩ := newBox w #[.bool n_0a, .slice o_0a k_0a c_0a, .bool n_0b, .slice o_0b k_0b c_0b] 26 hb.size
  rw [eW, eP]
  clear eW eP
  replace ha1 := ha1.bl hn; replace ha2 := ha2.bl hn; replace hb := hb.trans (hn.mono hb.size)
  refine hK _ _ rfl ?_; clear hK K hn
  refine wpSq_call rfl (by kernel_rfl) fun K hK => ?_
  go_big_move; refine hK _ _ rfl ?_; clear hK K
  apply wpSq_end
  refine hK1 _ _ ?_
  refine wp_seq_k ?_
  intro K2 hK2
  refine wp_region_sq [0, 1, 2, 3] (by kernel_rfl) ?_
  refine wpSq_call rfl (by kernel_rfl) fun K hK => ?_
  obtain ⟨d0, d1, d2, d3⟩ := x_b1.f4
  go_big_op; refine hK _ _ rfl ?_; clear hK K d0 d1 d2 d3
  refine wpSq_call rfl (by kernel_rfl) fun K hK => ?_
  go_big_op
  go_fit (rfnorm_any (PN.mk' ha1 ha2) (by omega) (by omega) H0.out)
  rintro e w_2 ⟨_, rfl, ⟨n_ga, o_ga, k_ga, c_ga, n_gb, o_gb, k_gb, c_gb, rfl, g1, g2⟩, hb_2⟩
  clear x_b1
  replace ha1 := ha1.bl hb_2; replace ha2 := ha2.bl hb_2; replace hb := hb.trans (hb_2.mono hb.size)
  have Lg1 := hide (g1.lenOf (qN_len (H0.out) (ha1.len)))
  have Lg2 := hide (g2.lenOf (qD_len (H0.out) (ha2.len)))
  refine hK _ _ rfl ?_
  clear hK K hb_2
  refine wpSq_call rfl (by kernel_rfl) fun K hK => ?_
  go_big_op
  clear ha1 ha2
  obtain ⟨p_b2, w_3, eP, eW, x_b2, hn, kb_b2⟩ := newBox w_2 #[.bool false, .slice none 0 0, .bool false, .slice none 0 0] 26 hb.size
  rw [eW, eP]
  clear eW eP
  replace g1 := g1.bl hn; replace g2 := g2.bl hn; replace hb := hb.trans (hn.mono hb.size)
  refine hK _ _ rfl ?_; clear hK K hn
  refine wpSq_call rfl (by kernel_rfl) fun K hK => ?_
  obtain ⟨d0, d1, d2, d3⟩ := x_b2.f4
  have f0 := x_b2.free 0; have f1 := x_b2.free 1; have f2 := x_b2.free 2; have f3 := x_b2.free 3
  go_big_op
  have hnd := x_b2.nod rfl rfl
  obtain ⟨w_4, eW, x_b2', ho⟩ : ∃ w', ((((w_3.setCell ⟨p_b2, 0, none⟩ (.bool n_ga)).setCell ⟨p_b2, 1, none⟩ (.slice o_ga k_ga c_ga)).setCell ⟨p_b2, 2, none⟩ (.bool n_gb)).setCell ⟨p_b2, 3, none⟩ (.slice o_gb k_gb c_gb)) = w' ∧ Bs w' p_b2 #[.bool n_ga, .slice o_ga k_ga c_ga, .bool n_gb, .slice o_gb k_gb c_gb] 26 ∧ Only p_b2 w_3 w' := x_b2.setN [(0, .bool n_ga), (1, .slice o_ga k_ga c_ga), (2, .bool n_gb), (3, .slice o_gb k_gb c_gb)]
  rw [eW]; clear eW d0 d1 d2 d3 f0 f1 f2 f3 x_b2
  have x_b2 := x_b2'; clear x_b2'
  replace g1 := g1.fr hnd ho; replace g2 := g2.fr hnd ho; replace hb := belowOnly hb ho kb_b2
  refine hK _ _ rfl ?_; clear hK K ho hnd
  apply wpSq_end
  refine hK2 _ _ ?_
  refine wp_seq_k ?_
  intro K3 hK3
  refine wp_seq_k ?_
  intro K4 hK4
  refine wp_region_fl2 [(0, false), (1, false), (2, true), (3, true), (4, false)] [] [] (fun _ => default) [99, 0, 99, 99, 99] [] (fun w' => w'.cell? ⟨p_b2, 0, none⟩ = some (.bool n_ga) ∧ w'.cell? ⟨p_b2, 1, none⟩ = some (.slice o_ga k_ga c_ga) ∧ w'.cell? ⟨p_b2, 2, none⟩ = some (.bool n_gb) ∧ w'.cell? ⟨p_b2, 3, none⟩ = some (.slice o_gb k_gb c_gb)) [fun w' => w'.cell? ⟨p_b2, 0, none⟩ = some (.bool n_ga) ∧ w'.cell? ⟨p_b2, 1, none⟩ = some (.slice o_ga k_ga c_ga) ∧ w'.cell? ⟨p_b2, 2, none⟩ = some (.bool n_gb) ∧ w'.cell? ⟨p_b2, 3, none⟩ = some (.slice o_gb k_gb c_gb)] (by kernel_rfl) (by kernel_rfl) (by kernel_rfl) (by kernel_rfl) (by kernel_rfl) (by kernel_rfl) (by kernel_rfl) (by kernel_rfl) (by decide) (by intro j hj; cases hj) (by intro w' o hC; obtain ⟨c0, c1, c2, c3⟩ := hC; exact ⟨cell_alloc c0 o, cell_alloc c1 o, cell_alloc c2 o, cell_alloc c3 o⟩) (by intro w' hC G hG; obtain ⟨c0, c1, c2, c3⟩ := hC; simp only [List.mem_cons, List.not_mem_nil, or_false] at hG; rcases hG with rfl <;> first | exact ⟨c0, c1, c2, c3⟩) ?_
  have lt_b2 := x_b2.lt
  intro w_5 hn
  replace lt_b2 := Nat.lt_of_lt_of_le lt_b2 hn.size
  replace g1 := g1.bl hn; replace g2 := g2.bl hn; replace x_b2 := x_b2.bl hn; replace hb := hb.trans (hn.mono hb.size)
  clear hn
  have kb0 := hb.size
  refine ⟨⟨x_b2.cell 0 rfl, x_b2.cell 1 rfl, x_b2.cell 2 rfl, x_b2.cell 3 rfl⟩, ?_⟩
  apply wpFl_ld rfl rfl; (case h1 => intro w' hC K hK; go_big_op; exact hK); iterate 4 kernel_rfl
  apply wpFl_ld rfl rfl; (case h1 => intro w' hC K hK; obtain ⟨c0, c1, c2, c3⟩ := hC; go_big_op; exact hK); iterate 4 kernel_rfl
  refine wpFl_call rfl (by kernel_rfl) fun w_6 hn hC => ?_; clear hC
  replace g1 := g1.bl hn; replace g2 := g2.bl hn; replace x_b2 := x_b2.bl hn; replace hb := hb.trans (hn.mono hb.size)
  clear hn; intro K hK
  go_big_op
  go_fit (ri_any 1 _ (by decide) (by decide))
  rintro e w_7 ⟨v_g3, rfl, g3, hb_7⟩
  replace g1 := g1.bl hb_7; replace g2 := g2.bl hb_7; replace x_b2 := x_b2.bl hb_7; replace hb := hb.trans (hb_7.mono hb.size)
  replace g3 := g3.rd
  obtain ⟨n_g3, o_g3, k_g3, c_g3, rfl⟩ := g3.open2
  have Lg3 := hide (g3.lenOf (zlen_i (1 : Int) (by decide) (by decide)))
  refine hK _ _ rfl hb_7 ⟨x_b2.cell 0 rfl, x_b2.cell 1 rfl, x_b2.cell 2 rfl, x_b2.cell 3 rfl⟩ ?_
  clear hK K hb_7
  refine wpFl_call rfl (by kernel_rfl) fun w_8 hn hC => ?_; clear hC
  replace g1 := g1.bl hn; replace g2 := g2.bl hn; replace x_b2 := x_b2.bl hn; replace g3 := g3.bl hn; replace hb := hb.trans (hn.mono hb.size)
  clear hn; intro K hK
  go_big_op
  go_fit (rzcmp_any (g2.zn Lg2.out) (g3.zn Lg3.out) (by omega) (by omega) )
  rintro e w_9 ⟨rfl, hb_9⟩
  replace g1 := g1.bl hb_9; replace g2 := g2.bl hb_9; replace x_b2 := x_b2.bl hb_9; replace g3 := g3.bl hb_9; replace hb := hb.trans (hb_9.mono hb.size)
  rw [H1.out]
  refine hK _ _ rfl hb_9 ⟨x_b2.cell 0 rfl, x_b2.cell 1 rfl, x_b2.cell 2 rfl, x_b2.cell 3 rfl⟩ ?_
  clear hK K hb_9
  apply wpFl_ld rfl rfl; (case h1 => intro w' hC K hK; go_big_op; exact hK); iterate 4 kernel_rfl
  apply wpFl_end
  case ha => intro pt; simp only [putF]; rfl
  case h =>
  intro w_10 pt hn hC hF hD
  clear hC
  clear g3
  replace g1 := g1.bl hn; replace g2 := g2.bl hn; replace x_b2 := x_b2.bl hn; replace hb := hb.trans (hn.mono hb.size)
  clear hn
  clear hF hD
  clear pt
  clear kb0 lt_b2
  apply wpTail_end
  refine hK4 _ _ ?_
  refine wp_cond_true (congrArg Value.bool (show _ = true from (by first | rfl | assumption | (simp; done) | exact decide_eq_true (by omega) | omega))) ?_
  refine wp_seq_k ?_
  intro K5 hK5
  refine wp_region_sq [0, 1, 2, 3] (by kernel_rfl) ?_
  refine wpSq_call rfl (by kernel_rfl) fun K hK => ?_
  go_big_op; refine hK _ _ rfl ?_; clear hK K
  refine wpSq_call rfl (by kernel_rfl) fun K hK => ?_
  obtain ⟨d0, d1, d2, d3⟩ := x_b2.f4
  go_big_op; refine hK _ _ rfl ?_; clear hK K d0 d1 d2 d3
  refine wpSq_call rfl (by kernel_rfl) fun K hK => ?_
  go_big_op
  go_fit (rztext_s (g1.zn Lg1.out) (by omega))
  rintro e w_11 ⟨rfl, hb_11⟩
  replace g1 := g1.bl hb_11; replace g2 := g2.bl hb_11; replace x_b2 := x_b2.bl hb_11; replace hb := hb.trans (hb_11.mono hb.size)
  rw [HS.out]
  refine hK _ _ rfl ?_
  clear hK K hb_11
  refine wpSq_call rfl (by kernel_rfl) fun K hK => ?_
  go_big_move; refine hK _ _ rfl ?_; clear hK K
  apply wpSq_end
  refine hK5 _ _ ?_
  refine wp_ret ?_
  try dsimp only [Exit.then, Exit.inBlock]
  refine bodyPost_ret (v := (.string S)) (by simp [results, Tryz.results50, go_sem]) rfl ?_
  exact ⟨rfl, hb⟩
set_option maxHeartbeats 4000000 in
set_option maxRecDepth 20000 in
theorem rfText_two (ha : PN w va x l y m) (hl : l ≤ 10000000) (hm : m ≤ 10000000) (h0 : y ≠ 0) (h1 : qD x y ≠ 1) :
    Calls Tryz.prog 50 #[va] w fun e w' => e = .returned (.string (zts (qN x y) ++ (⟨#[47]⟩ ++ zts (qD x y)))) ∧ Below w.heap.size w w' := by
  have H0 := hide h0
  have H1 := hide (show zcmp (qD x y) 1 = 1 from zcmp_gt (by have := qD_pos (x := x) h0; omega))
  have hs := zts_size (qN_len h0 ha.len1)
  have ht := zts_size (qD_len (x := x) h0 ha.len2)
  obtain ⟨S, hS⟩ : ∃ S, zts (qN x y) = S := ⟨_, rfl⟩
  obtain ⟨T, hT⟩ : ∃ T, zts (qD x y) = T := ⟨_, rfl⟩
  have HS := hide hS
  have HT := hide hT
  rw [hS] at hs ⊢
  rw [hT] at ht ⊢
  have HA := hide (ByteArray.append_assoc (a := S) (b := ⟨#[47]⟩) (c := T))
  rw [← HA.out]
  have hz : (S ++ ⟨#[47]⟩ : ByteArray).size ≤ 10 * l + 12 := by rw [ByteArray.size_append]; have : (⟨#[47]⟩ : ByteArray).size = 1 := rfl; omega
  clear h0 h1 hS hT
  obtain ⟨n_0a, o_0a, k_0a, c_0a, n_0b, o_0b, k_0b, c_0b, rfl, ha1, ha2⟩ := ha
  go_enter Tryz.func50, Tryz.ntmps50
  have hb := Below.refl w.heap.size w
  refine wp_seq_k ?_
  intro K1 hK1
  refine wp_region_sq [0, 1] (by kernel_rfl) ?_
  refine wpSq_call rfl (by kernel_rfl) fun K hK => ?_
  go_big_op
  obtain ⟨p_b1, w_1, eP, eW, x_b1, hn, kb_b1⟩ := newBox w #[.bool n_0a, .slice o_0a k_0a c_0a, .bool n_0b, .slice o_0b k_0b c_0b] 26 hb.size
  rw [eW, eP]
  clear eW eP
  replace ha1 := ha1.bl hn; replace ha2 := ha2.bl hn; replace hb := hb.trans (hn.mono hb.size)
  refine hK _ _ rfl ?_; clear hK K hn
  refine wpSq_call rfl (by kernel_rfl) fun K hK => ?_
  go_big_move; refine hK _ _ rfl ?_; clear hK K
  apply wpSq_end
  refine hK1 _ _ ?_
  refine wp_seq_k ?_
  intro K2 hK2
  refine wp_region_sq [0, 1, 2, 3] (by kernel_rfl) ?_
  refine wpSq_call rfl (by kernel_rfl) fun K hK => ?_
  obtain ⟨d0, d1, d2, d3⟩ := x_b1.f4
  go_big_op; refine hK _ _ rfl ?_; clear hK K d0 d1 d2 d3
  refine wpSq_call rfl (by kernel_rfl) fun K hK => ?_
  go_big_op
  go_fit (rfnorm_any (PN.mk' ha1 ha2) (by omega) (by omega) H0.out)
  rintro e w_2 ⟨_, rfl, ⟨n_ga, o_ga, k_ga, c_ga, n_gb, o_gb, k_gb, c_gb, rfl, g1, g2⟩, hb_2⟩
  clear x_b1
  replace ha1 := ha1.bl hb_2; replace ha2 := ha2.bl hb_2; replace hb := hb.trans (hb_2.mono hb.size)
  have Lg1 := hide (g1.lenOf (qN_len (H0.out) (ha1.len)))
  have Lg2 := hide (g2.lenOf (qD_len (H0.out) (ha2.len)))
  refine hK _ _ rfl ?_
  clear hK K hb_2
  refine wpSq_call rfl (by kernel_rfl) fun K hK => ?_
  go_big_op
  clear ha1 ha2
  obtain ⟨p_b2, w_3, eP, eW, x_b2, hn, kb_b2⟩ := newBox w_2 #[.bool false, .slice none 0 0, .bool false, .slice none 0 0] 26 hb.size
  rw [eW, eP]
  clear eW eP
  replace g1 := g1.bl hn; replace g2 := g2.bl hn; replace hb := hb.trans (hn.mono hb.size)
  refine hK _ _ rfl ?_; clear hK K hn
  refine wpSq_call rfl (by kernel_rfl) fun K hK => ?_
  obtain ⟨d0, d1, d2, d3⟩ := x_b2.f4
  have f0 := x_b2.free 0; have f1 := x_b2.free 1; have f2 := x_b2.free 2; have f3 := x_b2.free 3
  go_big_op
  have hnd := x_b2.nod rfl rfl
  obtain ⟨w_4, eW, x_b2', ho⟩ : ∃ w', ((((w_3.setCell ⟨p_b2, 0, none⟩ (.bool n_ga)).setCell ⟨p_b2, 1, none⟩ (.slice o_ga k_ga c_ga)).setCell ⟨p_b2, 2, none⟩ (.bool n_gb)).setCell ⟨p_b2, 3, none⟩ (.slice o_gb k_gb c_gb)) = w' ∧ Bs w' p_b2 #[.bool n_ga, .slice o_ga k_ga c_ga, .bool n_gb, .slice o_gb k_gb c_gb] 26 ∧ Only p_b2 w_3 w' := x_b2.setN [(0, .bool n_ga), (1, .slice o_ga k_ga c_ga), (2, .bool n_gb), (3, .slice o_gb k_gb c_gb)]
  rw [eW]; clear eW d0 d1 d2 d3 f0 f1 f2 f3 x_b2
  have x_b2 := x_b2'; clear x_b2'
  replace g1 := g1.fr hnd ho; replace g2 := g2.fr hnd ho; replace hb := belowOnly hb ho kb_b2
  refine hK _ _ rfl ?_; clear hK K ho hnd
  apply wpSq_end
  refine hK2 _ _ ?_
  refine wp_seq_k ?_
  intro K3 hK3
  refine wp_seq_k ?_
  intro K4 hK4
  refine wp_region_fl2 [(0, false), (1, false), (2, true), (3, true), (4, false)] [] [] (fun _ => default) [99, 0, 99, 99, 99] [] (fun w' => w'.cell? ⟨p_b2, 0, none⟩ = some (.bool n_ga) ∧ w'.cell? ⟨p_b2, 1, none⟩ = some (.slice o_ga k_ga c_ga) ∧ w'.cell? ⟨p_b2, 2, none⟩ = some (.bool n_gb) ∧ w'.cell? ⟨p_b2, 3, none⟩ = some (.slice o_gb k_gb c_gb)) [fun w' => w'.cell? ⟨p_b2, 0, none⟩ = some (.bool n_ga) ∧ w'.cell? ⟨p_b2, 1, none⟩ = some (.slice o_ga k_ga c_ga) ∧ w'.cell? ⟨p_b2, 2, none⟩ = some (.bool n_gb) ∧ w'.cell? ⟨p_b2, 3, none⟩ = some (.slice o_gb k_gb c_gb)] (by kernel_rfl) (by kernel_rfl) (by kernel_rfl) (by kernel_rfl) (by kernel_rfl) (by kernel_rfl) (by kernel_rfl) (by kernel_rfl) (by decide) (by intro j hj; cases hj) (by intro w' o hC; obtain ⟨c0, c1, c2, c3⟩ := hC; exact ⟨cell_alloc c0 o, cell_alloc c1 o, cell_alloc c2 o, cell_alloc c3 o⟩) (by intro w' hC G hG; obtain ⟨c0, c1, c2, c3⟩ := hC; simp only [List.mem_cons, List.not_mem_nil, or_false] at hG; rcases hG with rfl <;> first | exact ⟨c0, c1, c2, c3⟩) ?_
  have lt_b2 := x_b2.lt
  intro w_5 hn
  replace lt_b2 := Nat.lt_of_lt_of_le lt_b2 hn.size
  replace g1 := g1.bl hn; replace g2 := g2.bl hn; replace x_b2 := x_b2.bl hn; replace hb := hb.trans (hn.mono hb.size)
  clear hn
  have kb0 := hb.size
  refine ⟨⟨x_b2.cell 0 rfl, x_b2.cell 1 rfl, x_b2.cell 2 rfl, x_b2.cell 3 rfl⟩, ?_⟩
  apply wpFl_ld rfl rfl; (case h1 => intro w' hC K hK; go_big_op; exact hK); iterate 4 kernel_rfl
  apply wpFl_ld rfl rfl; (case h1 => intro w' hC K hK; obtain ⟨c0, c1, c2, c3⟩ := hC; go_big_op; exact hK); iterate 4 kernel_rfl
  refine wpFl_call rfl (by kernel_rfl) fun w_6 hn hC => ?_; clear hC
  replace g1 := g1.bl hn; replace g2 := g2.bl hn; replace x_b2 := x_b2.bl hn; replace hb := hb.trans (hn.mono hb.size)
  clear hn; intro K hK
  go_big_op
  go_fit (ri_any 1 _ (by decide) (by decide))
  rintro e w_7 ⟨v_g3, rfl, g3, hb_7⟩
  replace g1 := g1.bl hb_7; replace g2 := g2.bl hb_7; replace x_b2 := x_b2.bl hb_7; replace hb := hb.trans (hb_7.mono hb.size)
  replace g3 := g3.rd
  obtain ⟨n_g3, o_g3, k_g3, c_g3, rfl⟩ := g3.open2
  have Lg3 := hide (g3.lenOf (zlen_i (1 : Int) (by decide) (by decide)))
  refine hK _ _ rfl hb_7 ⟨x_b2.cell 0 rfl, x_b2.cell 1 rfl, x_b2.cell 2 rfl, x_b2.cell 3 rfl⟩ ?_
  clear hK K hb_7
  refine wpFl_call rfl (by kernel_rfl) fun w_8 hn hC => ?_; clear hC
  replace g1 := g1.bl hn; replace g2 := g2.bl hn; replace x_b2 := x_b2.bl hn; replace g3 := g3.bl hn; replace hb := hb.trans (hn.mono hb.size)
  clear hn; intro K hK
  go_big_op
  go_fit (rzcmp_any (g2.zn Lg2.out) (g3.zn Lg3.out) (by omega) (by omega) )
  rintro e w_9 ⟨rfl, hb_9⟩
  replace g1 := g1.bl hb_9; replace g2 := g2.bl hb_9; replace x_b2 := x_b2.bl hb_9; replace g3 := g3.bl hb_9; replace hb := hb.trans (hb_9.mono hb.size)
  rw [H1.out]
  refine hK _ _ rfl hb_9 ⟨x_b2.cell 0 rfl, x_b2.cell 1 rfl, x_b2.cell 2 rfl, x_b2.cell 3 rfl⟩ ?_
  clear hK K hb_9
  apply wpFl_ld rfl rfl; (case h1 => intro w' hC K hK; go_big_op; exact hK); iterate 4 kernel_rfl
  apply wpFl_end
  case ha => intro pt; simp only [putF]; rfl
  case h =>
  intro w_10 pt hn hC hF hD
  clear hC
  clear g3
  replace g1 := g1.bl hn; replace g2 := g2.bl hn; replace x_b2 := x_b2.bl hn; replace hb := hb.trans (hn.mono hb.size)
  clear hn
  clear hF hD
  clear pt
  clear kb0 lt_b2
  apply wpTail_end
  refine hK4 _ _ ?_
  refine wp_cond_false (congrArg Value.bool (show _ = false from (by first | rfl | assumption | (simp; done) | exact decide_eq_false (by omega) | omega))) ?_
  refine wp_skip ?_
  refine hK3 _ _ ?_
  refine wp_seq_k ?_
  intro K5 hK5
  refine wp_region_fl2 [(0, false), (1, false), (4, false), (5, false), (2, true), (3, false), (6, true), (7, false), (8, false)] [] [] (fun _ => default) [99, 0, 99, 99, 99, 0, 99, 99, 99] [] (fun w' => w'.cell? ⟨p_b2, 0, none⟩ = some (.bool n_ga) ∧ w'.cell? ⟨p_b2, 1, none⟩ = some (.slice o_ga k_ga c_ga) ∧ w'.cell? ⟨p_b2, 2, none⟩ = some (.bool n_gb) ∧ w'.cell? ⟨p_b2, 3, none⟩ = some (.slice o_gb k_gb c_gb)) [fun w' => w'.cell? ⟨p_b2, 0, none⟩ = some (.bool n_ga) ∧ w'.cell? ⟨p_b2, 1, none⟩ = some (.slice o_ga k_ga c_ga) ∧ w'.cell? ⟨p_b2, 2, none⟩ = some (.bool n_gb) ∧ w'.cell? ⟨p_b2, 3, none⟩ = some (.slice o_gb k_gb c_gb)] (by kernel_rfl) (by kernel_rfl) (by kernel_rfl) (by kernel_rfl) (by kernel_rfl) (by kernel_rfl) (by kernel_rfl) (by kernel_rfl) (by decide) (by intro j hj; cases hj) (by intro w' o hC; obtain ⟨c0, c1, c2, c3⟩ := hC; exact ⟨cell_alloc c0 o, cell_alloc c1 o, cell_alloc c2 o, cell_alloc c3 o⟩) (by intro w' hC G hG; obtain ⟨c0, c1, c2, c3⟩ := hC; simp only [List.mem_cons, List.not_mem_nil, or_false] at hG; rcases hG with rfl <;> first | exact ⟨c0, c1, c2, c3⟩) ?_
  have lt_b2 := x_b2.lt
  intro w_11 hn
  replace lt_b2 := Nat.lt_of_lt_of_le lt_b2 hn.size
  replace g1 := g1.bl hn; replace g2 := g2.bl hn; replace x_b2 := x_b2.bl hn; replace hb := hb.trans (hn.mono hb.size)
  clear hn
  have kb0 := hb.size
  refine ⟨⟨x_b2.cell 0 rfl, x_b2.cell 1 rfl, x_b2.cell 2 rfl, x_b2.cell 3 rfl⟩, ?_⟩
  apply wpFl_ld rfl rfl; (case h1 => intro w' hC K hK; go_big_op; exact hK); iterate 4 kernel_rfl
  apply wpFl_ld rfl rfl; (case h1 => intro w' hC K hK; obtain ⟨c0, c1, c2, c3⟩ := hC; go_big_op; exact hK); iterate 4 kernel_rfl
  apply wpFl_ld rfl rfl; (case h1 => intro w' hC K hK; go_big_op; exact hK); iterate 4 kernel_rfl
  apply wpFl_ld rfl rfl; (case h1 => intro w' hC K hK; obtain ⟨c0, c1, c2, c3⟩ := hC; go_big_op; exact hK); iterate 4 kernel_rfl
  refine wpFl_call rfl (by kernel_rfl) fun w_12 hn hC => ?_; clear hC
  replace g1 := g1.bl hn; replace g2 := g2.bl hn; replace x_b2 := x_b2.bl hn; replace hb := hb.trans (hn.mono hb.size)
  clear hn; intro K hK
  go_big_op
  go_fit (rztext_s (g1.zn Lg1.out) (by omega))
  rintro e w_13 ⟨rfl, hb_13⟩
  replace g1 := g1.bl hb_13; replace g2 := g2.bl hb_13; replace x_b2 := x_b2.bl hb_13; replace hb := hb.trans (hb_13.mono hb.size)
  rw [HS.out]
  refine hK _ _ rfl hb_13 ⟨x_b2.cell 0 rfl, x_b2.cell 1 rfl, x_b2.cell 2 rfl, x_b2.cell 3 rfl⟩ ?_
  clear hK K hb_13
  apply wpFl_ld rfl rfl; (case h1 => intro w' hC K hK; go_big_op; exact hK); iterate 4 kernel_rfl
  refine wpFl_call rfl (by kernel_rfl) fun w_14 hn hC => ?_; clear hC
  replace g1 := g1.bl hn; replace g2 := g2.bl hn; replace x_b2 := x_b2.bl hn; replace hb := hb.trans (hn.mono hb.size)
  clear hn; intro K hK
  go_big_op
  go_fit (rztext_s (g2.zn Lg2.out) (by omega))
  rintro e w_15 ⟨rfl, hb_15⟩
  replace g1 := g1.bl hb_15; replace g2 := g2.bl hb_15; replace x_b2 := x_b2.bl hb_15; replace hb := hb.trans (hb_15.mono hb.size)
  rw [HT.out]
  refine hK _ _ rfl hb_15 ⟨x_b2.cell 0 rfl, x_b2.cell 1 rfl, x_b2.cell 2 rfl, x_b2.cell 3 rfl⟩ ?_
  clear hK K hb_15
  apply wpFl_ld rfl rfl; (case h1 => intro w' hC K hK; go_big_op; exact hK); iterate 4 kernel_rfl
  apply wpFl_ld rfl rfl; (case h1 => intro w' hC K hK; go_big_move; exact hK); iterate 4 kernel_rfl
  apply wpFl_end
  case ha => intro pt; simp only [putF]; rfl
  case h =>
  intro w_16 pt hn hC hF hD
  clear hC
  replace g1 := g1.bl hn; replace g2 := g2.bl hn; replace x_b2 := x_b2.bl hn; replace hb := hb.trans (hn.mono hb.size)
  clear hn
  clear hF hD
  clear pt
  clear kb0 lt_b2
  apply wpTail_end
  refine hK5 _ _ ?_
  refine wp_ret ?_
  try dsimp only [Exit.then, Exit.inBlock]
  refine bodyPost_ret (v := (.string (S ++ ⟨#[47]⟩ ++ T))) (by simp [results, Tryz.results50, go_sem]) rfl ?_
  exact ⟨rfl, hb⟩
theorem rfText_any (ha : PN w va x l y m) (hl : l ≤ 10000000) (hm : m ≤ 10000000) (h0 : y ≠ 0) :
    Calls Tryz.prog 50 #[va] w fun e w' => e = .returned (.string (qts x y)) ∧ Below w.heap.size w w' := by
  by_cases h1 : qD x y = 1
  · unfold qts; rw [if_pos h1]; exact rfText_one ha hl hm h0 h1
  · unfold qts; rw [if_neg h1]; exact rfText_two ha hl hm h0 h1
end

/-- Both refuse a text alike, or both read the same. -/
def Both (s : ByteArray) : Prop :=
  (∃ f : Int, f ≠ 0 ∧ (∀ w, Calls Tryz.prog 48 #[.string s] w fun e w' => e = .returned (.tuple #[.agg #[.bool false, .slice none 0 0, .bool false, .slice none 0 0], .int .i64 f]) ∧ Below w.heap.size w w') ∧
    ∀ w, Calls Tryz.prog 49 #[.string s] w fun e w' => e = .returned (.tuple #[.agg #[.bool false, .slice none 0 0, .bool false, .slice none 0 0], .int .i64 f]) ∧ Below w.heap.size w w') ∨
  ∃ p q : Int, low p q ∧ (dig p.natAbs).length ≤ 8192 ∧ (dig q.natAbs).length ≤ 8192 ∧ (∀ w, Calls Tryz.prog 48 #[.string s] w fun e w' => ∃ r, e = .returned (.tuple #[r, .int .i64 0]) ∧ PC w' r p q ∧ Below w.heap.size w w') ∧
    ∀ w, Calls Tryz.prog 49 #[.string s] w fun e w' => ∃ r, e = .returned (.tuple #[r, .int .i64 0]) ∧ PC w' r p q ∧ Below w.heap.size w w'
theorem both_any (s : ByteArray) : Both s := by
  by_cases hs : 65536 < s.size
  · exact .inl ⟨12, by decide, fun w => fParse_long s w hs, fun w => rParse_long w hs⟩
  have hs : s.size ≤ 65536 := by omega
  obtain ⟨k, hk, hi⟩ := slash_of s
  by_cases hks : k < s.size
  · rw [if_pos hks] at hi
    have hT : (s.extract 0 k).size ≤ 65536 := by rw [ByteArray.size_extract]; omega
    have hB : (s.extract (k + 1) s.size).size ≤ 65536 := by rw [ByteArray.size_extract]; omega
    cases h : zok (s.extract 0 k) with
    | false => exact .inl ⟨7, by decide, fun w => fParse_t0 w hs hks hi _ _ rfl rfl hT h, fun w => rParse_t0 w hs hk hks _ _ rfl rfl hT h⟩
    | true =>
      cases h2 : digitsB (s.extract (k + 1) s.size).data.toList with
      | false =>
        refine .inl ⟨7, by decide, fun w => fParse_b0 w hs hks hi _ _ rfl rfl hT h (fun w => ?_), fun w => rParse_b0 w hs hk hks _ _ rfl rfl hT h hB h2⟩
        cases hm : minusB (s.extract (k + 1) s.size) with
        | true => exact parseDen_minus _ w hm
        | false => exact parseDen_no _ w hB hm (zok_no hm h2)
      | true =>
        have hz := (zok_digits h2).1
        have hm := minus_no h2
        by_cases h0 : zvl (s.extract (k + 1) s.size) = 0
        · exact .inl ⟨5, by decide, fun w => fParse_z w hs hks hi _ _ rfl rfl hT h hB hm hz h0, fun w => rParse_z w hs hk hks _ _ rfl rfl hT h hB h2 h0⟩
        · exact .inr ⟨_, _, low_q h0, qN_len h0 (zvl_len hT h), qD_len h0 (zvl_len hB hz), fun w => fParse_ok w hs hks hi _ _ rfl rfl hT h hB hm hz h0, fun w => rParse_ok w hs hk hks _ _ rfl rfl hT h hB h2 h0⟩
  · rw [if_neg hks] at hi
    have hke : k = s.size := by have := hk.1; omega
    cases h : zok s with
    | false => exact .inl ⟨7, by decide, fun w => fParse_w0 s w hs hi h, fun w => rParse_w0 w hs hk hke h⟩
    | true => exact .inr ⟨_, _, ⟨by decide, Int.gcd_one_right _⟩, zvl_len hs h, by decide, fun w => fParse_w1 s w hs hi h, fun w => rParse_w1 w hs hk hke h⟩
end Go.Proofs.YtkgbfnmlpajblaaGreatDoor

/- frac: powers by squares. -/
namespace Go.Proofs.YtkgbfnmlpajblaaGreatDoor
open Go Go.RowKit Dig
set_option linter.unusedVariables false

end Go.Proofs.YtkgbfnmlpajblaaGreatDoor

/- The reference's Bits, Shl and Pow, where the seat has no Root. -/
namespace Go.Proofs.YtkgbfnmlpajblaaGreatDoor
open Go.RowKit Dig

theorem Rd.bl {w w' : World} {v : Value} {ds : List Nat} (h : Rd w v ds) (hb : Below w.heap.size w w') : Rd w' v ds := h.below hb (Nat.le_refl _)
end Go.Proofs.YtkgbfnmlpajblaaGreatDoor

