/- Texts of rationals by the reference; what both Parses answer. -/
import Derived.Test.YtkgbfnmlpajblaaGreatDoorQ14
namespace Go.Proofs.YtkgbfnmlpajblaaGreatDoor
open Go Go.RowKit Dig
set_option linter.unusedVariables false

section
variable {w : World} {va vb : Value} {x y u v : Int} {l m k n : Nat}
set_option maxHeartbeats 4000000 in
set_option maxRecDepth 20000 in
theorem rfText_one (ha : PN w va x l y m) (hl : l ≤ 10000000) (hm : m ≤ 10000000) (h0 : y ≠ 0) (h1 : qD x y = 1) :
    Calls Tryz.prog 50 #[va] w fun e w' => e = .returned (.string (zts (qN x y))) ∧ Below w.heap.size w w' := by
  have H0 := hide h0
  have H1 := hide (show zcmp (qD x y) 1 = 0 from zcmp_eq h1)
  obtain ⟨S, hS⟩ : ∃ S, zts (qN x y) = S := ⟨_, rfl⟩
  have HS := hide hS
  rw [hS]
  clear h0 h1 hS
  obtain ⟨n_0a, o_0a, k_0a, c_0a, n_0b, o_0b, k_0b, c_0b, rfl, ha1, ha2⟩ := ha
  go_enter Tryz.func50, Tryz.ntmps50
  have hb := Below.refl w.heap.size w
  refine wp_seq_k ?_
  intro K1 hK1
  refine wp_region_sq [0, 1] (by kernel_rfl) ?_
  refine wpSq_call rfl (by kernel_rfl) fun K hK => ?_
  go_big_op
  obtain ⟨p_b1, w_1, eP, eW, x_b1, hn, kb_b1⟩ := newBox w #[.bool n_0a, .slice o_0a k_0a c_0a, .bool n_0b, .slice o_0b k_0b c_0b] 26 hb.size
  rw [eW, eP]
  clear eW eP
  replace ha1 := ha1.bl hn; replace ha2 := ha2.bl hn; replace hb := hb.trans (hn.mono hb.size)
  refine hK _ _ rfl ?_; clear hK K hn
  refine wpSq_call rfl (by kernel_rfl) fun K hK => ?_
  go_big_move; refine hK _ _ rfl ?_; clear hK K
  apply wpSq_end
  refine hK1 _ _ ?_
  refine wp_seq_k ?_
  intro K2 hK2
  refine wp_region_sq [0, 1, 2, 3] (by kernel_rfl) ?_
  refine wpSq_call rfl (by kernel_rfl) fun K hK => ?_
  obtain ⟨d0, d1, d2, d3⟩ := x_b1.f4
  go_big_op; refine hK _ _ rfl ?_; clear hK K d0 d1 d2 d3
  refine wpSq_call rfl (by kernel_rfl) fun K hK => ?_
  go_big_op
  go_fit (rfnorm_any (PN.mk' ha1 ha2) (by omega) (by omega) H0.out)
  rintro e w_2 ⟨_, rfl, ⟨n_ga, o_ga, k_ga, c_ga, n_gb, o_gb, k_gb, c_gb, rfl, g1, g2⟩, hb_2⟩
  clear x_b1
  replace ha1 := ha1.bl hb_2; replace ha2 := ha2.bl hb_2; replace hb := hb.trans (hb_2.mono hb.size)
  have Lg1 := hide (g1.lenOf (qN_len (H0.out) (ha1.len)))
  have Lg2 := hide (g2.lenOf (qD_len (H0.out) (ha2.len)))
  refine hK _ _ rfl ?_
  clear hK K hb_2
  refine wpSq_call rfl (by kernel_rfl) fun K hK => ?_
  go_big_op
  clear ha1 ha2
  obtain ⟨p_b2, w_3, eP, eW, x_b2, hn, kb_b2⟩ := newBox w_2 #[.bool false, .slice none 0 0, .bool false, .slice none 0 0] 26 hb.size
  rw [eW, eP]
  clear eW eP
  replace g1 := g1.bl hn; replace g2 := g2.bl hn; replace hb := hb.trans (hn.mono hb.size)
  refine hK _ _ rfl ?_; clear hK K hn
  refine wpSq_call rfl (by kernel_rfl) fun K hK => ?_
  obtain ⟨d0, d1, d2, d3⟩ := x_b2.f4
  have f0 := x_b2.free 0; have f1 := x_b2.free 1; have f2 := x_b2.free 2; have f3 := x_b2.free 3
  go_big_op
  have hnd := x_b2.nod rfl rfl
  obtain ⟨w_4, eW, x_b2', ho⟩ : ∃ w', ((((w_3.setCell ⟨p_b2, 0, none⟩ (.bool n_ga)).setCell ⟨p_b2, 1, none⟩ (.slice o_ga k_ga c_ga)).setCell ⟨p_b2, 2, none⟩ (.bool n_gb)).setCell ⟨p_b2, 3, none⟩ (.slice o_gb k_gb c_gb)) = w' ∧ Bs w' p_b2 #[.bool n_ga, .slice o_ga k_ga c_ga, .bool n_gb, .slice o_gb k_gb c_gb] 26 ∧ Only p_b2 w_3 w' := x_b2.setN [(0, .bool n_ga), (1, .slice o_ga k_ga c_ga), (2, .bool n_gb), (3, .slice o_gb k_gb c_gb)]
  rw [eW]; clear eW d0 d1 d2 d3 f0 f1 f2 f3 x_b2
  have x_b2 := x_b2'; clear x_b2'
  replace g1 := g1.fr hnd ho; replace g2 := g2.fr hnd ho; replace hb := belowOnly hb ho kb_b2
  refine hK _ _ rfl ?_; clear hK K ho hnd
  apply wpSq_end
  refine hK2 _ _ ?_
  refine wp_seq_k ?_
  intro K3 hK3
  refine wp_seq_k ?_
  intro K4 hK4
  refine wp_region_fl2 [(0, false), (1, false), (2, true), (3, true), (4, false)] [] [] (fun _ => default) [99, 0, 99, 99, 99] [] (fun w' => w'.cell? ⟨p_b2, 0, none⟩ = some (.bool n_ga) ∧ w'.cell? ⟨p_b2, 1, none⟩ = some (.slice o_ga k_ga c_ga) ∧ w'.cell? ⟨p_b2, 2, none⟩ = some (.bool n_gb) ∧ w'.cell? ⟨p_b2, 3, none⟩ = some (.slice o_gb k_gb c_gb)) [fun w' => w'.cell? ⟨p_b2, 0, none⟩ = some (.bool n_ga) ∧ w'.cell? ⟨p_b2, 1, none⟩ = some (.slice o_ga k_ga c_ga) ∧ w'.cell? ⟨p_b2, 2, none⟩ = some (.bool n_gb) ∧ w'.cell? ⟨p_b2, 3, none⟩ = some (.slice o_gb k_gb c_gb)] (by kernel_rfl) (by kernel_rfl) (by kernel_rfl) (by kernel_rfl) (by kernel_rfl) (by kernel_rfl) (by kernel_rfl) (by kernel_rfl) (by decide) (by intro j hj; cases hj) (by intro w' o hC; obtain ⟨c0, c1, c2, c3⟩ := hC; exact ⟨cell_alloc c0 o, cell_alloc c1 o, cell_alloc c2 o, cell_alloc c3 o⟩) (by intro w' hC G hG; obtain ⟨c0, c1, c2, c3⟩ := hC; simp only [List.mem_cons, List.not_mem_nil, or_false] at hG; rcases hG with rfl <;> first | exact ⟨c0, c1, c2, c3⟩) ?_
  have lt_b2 := x_b2.lt
  intro w_5 hn
  replace lt_b2 := Nat.lt_of_lt_of_le lt_b2 hn.size
  replace g1 := g1.bl hn; replace g2 := g2.bl hn; replace x_b2 := x_b2.bl hn; replace hb := hb.trans (hn.mono hb.size)
  clear hn
  have kb0 := hb.size
  refine ⟨⟨x_b2.cell 0 rfl, x_b2.cell 1 rfl, x_b2.cell 2 rfl, x_b2.cell 3 rfl⟩, ?_⟩
  apply wpFl_ld rfl rfl; (case h1 => intro w' hC K hK; go_big_op; exact hK); iterate 4 kernel_rfl
  apply wpFl_ld rfl rfl; (case h1 => intro w' hC K hK; obtain ⟨c0, c1, c2, c3⟩ := hC; go_big_op; exact hK); iterate 4 kernel_rfl
  refine wpFl_call rfl (by kernel_rfl) fun w_6 hn hC => ?_; clear hC
  replace g1 := g1.bl hn; replace g2 := g2.bl hn; replace x_b2 := x_b2.bl hn; replace hb := hb.trans (hn.mono hb.size)
  clear hn; intro K hK
  go_big_op
  go_fit (ri_any 1 _ (by decide) (by decide))
  rintro e w_7 ⟨v_g3, rfl, g3, hb_7⟩
  replace g1 := g1.bl hb_7; replace g2 := g2.bl hb_7; replace x_b2 := x_b2.bl hb_7; replace hb := hb.trans (hb_7.mono hb.size)
  replace g3 := g3.rd
  obtain ⟨n_g3, o_g3, k_g3, c_g3, rfl⟩ := g3.open2
  have Lg3 := hide (g3.lenOf (zlen_i (1 : Int) (by decide) (by decide)))
  refine hK _ _ rfl hb_7 ⟨x_b2.cell 0 rfl, x_b2.cell 1 rfl, x_b2.cell 2 rfl, x_b2.cell 3 rfl⟩ ?_
  clear hK K hb_7
  refine wpFl_call rfl (by kernel_rfl) fun w_8 hn hC => ?_; clear hC
  replace g1 := g1.bl hn; replace g2 := g2.bl hn; replace x_b2 := x_b2.bl hn; replace g3 := g3.bl hn; replace hb := hb.trans (hn.mono hb.size)
  clear hn; intro K hK
  go_big_op
  go_fit (rzcmp_any (g2.zn Lg2.out) (g3.zn Lg3.out) (by omega) (by omega) )
  rintro e w_9 ⟨rfl, hb_9⟩
  replace g1 := g1.bl hb_9; replace g2 := g2.bl hb_9; replace x_b2 := x_b2.bl hb_9; replace g3 := g3.bl hb_9; replace hb := hb.trans (hb_9.mono hb.size)
  rw [H1.out]
  refine hK _ _ rfl hb_9 ⟨x_b2.cell 0 rfl, x_b2.cell 1 rfl, x_b2.cell 2 rfl, x_b2.cell 3 rfl⟩ ?_
  clear hK K hb_9
  apply wpFl_ld rfl rfl; (case h1 => intro w' hC K hK; go_big_op; exact hK); iterate 4 kernel_rfl
  apply wpFl_end
  case ha => intro pt; simp only [putF]; rfl
  case h =>
  intro w_10 pt hn hC hF hD
  clear hC
  clear g3
  replace g1 := g1.bl hn; replace g2 := g2.bl hn; replace x_b2 := x_b2.bl hn; replace hb := hb.trans (hn.mono hb.size)
  clear hn
  clear hF hD
  clear pt
  clear kb0 lt_b2
  apply wpTail_end
  refine hK4 _ _ ?_
  refine wp_cond_true (congrArg Value.bool (show _ = true from (by first | rfl | assumption | (simp; done) | exact decide_eq_true (by omega) | omega))) ?_
  refine wp_seq_k ?_
  intro K5 hK5
  refine wp_region_sq [0, 1, 2, 3] (by kernel_rfl) ?_
  refine wpSq_call rfl (by kernel_rfl) fun K hK => ?_
  go_big_op; refine hK _ _ rfl ?_; clear hK K
  refine wpSq_call rfl (by kernel_rfl) fun K hK => ?_
  obtain ⟨d0, d1, d2, d3⟩ := x_b2.f4
  go_big_op; refine hK _ _ rfl ?_; clear hK K d0 d1 d2 d3
  refine wpSq_call rfl (by kernel_rfl) fun K hK => ?_
  go_big_op
  go_fit (rztext_s (g1.zn Lg1.out) (by omega))
  rintro e w_11 ⟨rfl, hb_11⟩
  replace g1 := g1.bl hb_11; replace g2 := g2.bl hb_11; replace x_b2 := x_b2.bl hb_11; replace hb := hb.trans (hb_11.mono hb.size)
  rw [HS.out]
  refine hK _ _ rfl ?_
  clear hK K hb_11
  refine wpSq_call rfl (by kernel_rfl) fun K hK => ?_
  go_big_move; refine hK _ _ rfl ?_; clear hK K
  apply wpSq_end
  refine hK5 _ _ ?_
  refine wp_ret ?_
  try dsimp only [Exit.then, Exit.inBlock]
  refine bodyPost_ret (v := (.string S)) (by simp [results, Tryz.results50, go_sem]) rfl ?_
  exact ⟨rfl, hb⟩
set_option maxHeartbeats 4000000 in
set_option maxRecDepth 20000 in
theorem rfText_two (ha : PN w va x l y m) (hl : l ≤ 10000000) (hm : m ≤ 10000000) (h0 : y ≠ 0) (h1 : qD x y ≠ 1) :
    Calls Tryz.prog 50 #[va] w fun e w' => e = .returned (.string (zts (qN x y) ++ (⟨#[47]⟩ ++ zts (qD x y)))) ∧ Below w.heap.size w w' := by
  have H0 := hide h0
  have H1 := hide (show zcmp (qD x y) 1 = 1 from zcmp_gt (by have := qD_pos (x := x) h0; omega))
  have hs := zts_size (qN_len h0 ha.len1)
  have ht := zts_size (qD_len (x := x) h0 ha.len2)
  obtain ⟨S, hS⟩ : ∃ S, zts (qN x y) = S := ⟨_, rfl⟩
  obtain ⟨T, hT⟩ : ∃ T, zts (qD x y) = T := ⟨_, rfl⟩
  have HS := hide hS
  have HT := hide hT
  rw [hS] at hs ⊢
  rw [hT] at ht ⊢
  have HA := hide (ByteArray.append_assoc (a := S) (b := ⟨#[47]⟩) (c := T))
  rw [← HA.out]
  have hz : (S ++ ⟨#[47]⟩ : ByteArray).size ≤ 10 * l + 12 := by rw [ByteArray.size_append]; have : (⟨#[47]⟩ : ByteArray).size = 1 := rfl; omega
  clear h0 h1 hS hT
  obtain ⟨n_0a, o_0a, k_0a, c_0a, n_0b, o_0b, k_0b, c_0b, rfl, ha1, ha2⟩ := ha
  go_enter Tryz.func50, Tryz.ntmps50
  have hb := Below.refl w.heap.size w
  refine wp_seq_k ?_
  intro K1 hK1
  refine wp_region_sq [0, 1] (by kernel_rfl) ?_
  refine wpSq_call rfl (by kernel_rfl) fun K hK => ?_
  go_big_op
  obtain ⟨p_b1, w_1, eP, eW, x_b1, hn, kb_b1⟩ := newBox w #[.bool n_0a, .slice o_0a k_0a c_0a, .bool n_0b, .slice o_0b k_0b c_0b] 26 hb.size
  rw [eW, eP]
  clear eW eP
  replace ha1 := ha1.bl hn; replace ha2 := ha2.bl hn; replace hb := hb.trans (hn.mono hb.size)
  refine hK _ _ rfl ?_; clear hK K hn
  refine wpSq_call rfl (by kernel_rfl) fun K hK => ?_
  go_big_move; refine hK _ _ rfl ?_; clear hK K
  apply wpSq_end
  refine hK1 _ _ ?_
  refine wp_seq_k ?_
  intro K2 hK2
  refine wp_region_sq [0, 1, 2, 3] (by kernel_rfl) ?_
  refine wpSq_call rfl (by kernel_rfl) fun K hK => ?_
  obtain ⟨d0, d1, d2, d3⟩ := x_b1.f4
  go_big_op; refine hK _ _ rfl ?_; clear hK K d0 d1 d2 d3
  refine wpSq_call rfl (by kernel_rfl) fun K hK => ?_
  go_big_op
  go_fit (rfnorm_any (PN.mk' ha1 ha2) (by omega) (by omega) H0.out)
  rintro e w_2 ⟨_, rfl, ⟨n_ga, o_ga, k_ga, c_ga, n_gb, o_gb, k_gb, c_gb, rfl, g1, g2⟩, hb_2⟩
  clear x_b1
  replace ha1 := ha1.bl hb_2; replace ha2 := ha2.bl hb_2; replace hb := hb.trans (hb_2.mono hb.size)
  have Lg1 := hide (g1.lenOf (qN_len (H0.out) (ha1.len)))
  have Lg2 := hide (g2.lenOf (qD_len (H0.out) (ha2.len)))
  refine hK _ _ rfl ?_
  clear hK K hb_2
  refine wpSq_call rfl (by kernel_rfl) fun K hK => ?_
  go_big_op
  clear ha1 ha2
  obtain ⟨p_b2, w_3, eP, eW, x_b2, hn, kb_b2⟩ := newBox w_2 #[.bool false, .slice none 0 0, .bool false, .slice none 0 0] 26 hb.size
  rw [eW, eP]
  clear eW eP
  replace g1 := g1.bl hn; replace g2 := g2.bl hn; replace hb := hb.trans (hn.mono hb.size)
  refine hK _ _ rfl ?_; clear hK K hn
  refine wpSq_call rfl (by kernel_rfl) fun K hK => ?_
  obtain ⟨d0, d1, d2, d3⟩ := x_b2.f4
  have f0 := x_b2.free 0; have f1 := x_b2.free 1; have f2 := x_b2.free 2; have f3 := x_b2.free 3
  go_big_op
  have hnd := x_b2.nod rfl rfl
  obtain ⟨w_4, eW, x_b2', ho⟩ : ∃ w', ((((w_3.setCell ⟨p_b2, 0, none⟩ (.bool n_ga)).setCell ⟨p_b2, 1, none⟩ (.slice o_ga k_ga c_ga)).setCell ⟨p_b2, 2, none⟩ (.bool n_gb)).setCell ⟨p_b2, 3, none⟩ (.slice o_gb k_gb c_gb)) = w' ∧ Bs w' p_b2 #[.bool n_ga, .slice o_ga k_ga c_ga, .bool n_gb, .slice o_gb k_gb c_gb] 26 ∧ Only p_b2 w_3 w' := x_b2.setN [(0, .bool n_ga), (1, .slice o_ga k_ga c_ga), (2, .bool n_gb), (3, .slice o_gb k_gb c_gb)]
  rw [eW]; clear eW d0 d1 d2 d3 f0 f1 f2 f3 x_b2
  have x_b2 := x_b2'; clear x_b2'
  replace g1 := g1.fr hnd ho; replace g2 := g2.fr hnd ho; replace hb := belowOnly hb ho kb_b2
  refine hK _ _ rfl ?_; clear hK K ho hnd
  apply wpSq_end
  refine hK2 _ _ ?_
  refine wp_seq_k ?_
  intro K3 hK3
  refine wp_seq_k ?_
  intro K4 hK4
  refine wp_region_fl2 [(0, false), (1, false), (2, true), (3, true), (4, false)] [] [] (fun _ => default) [99, 0, 99, 99, 99] [] (fun w' => w'.cell? ⟨p_b2, 0, none⟩ = some (.bool n_ga) ∧ w'.cell? ⟨p_b2, 1, none⟩ = some (.slice o_ga k_ga c_ga) ∧ w'.cell? ⟨p_b2, 2, none⟩ = some (.bool n_gb) ∧ w'.cell? ⟨p_b2, 3, none⟩ = some (.slice o_gb k_gb c_gb)) [fun w' => w'.cell? ⟨p_b2, 0, none⟩ = some (.bool n_ga) ∧ w'.cell? ⟨p_b2, 1, none⟩ = some (.slice o_ga k_ga c_ga) ∧ w'.cell? ⟨p_b2, 2, none⟩ = some (.bool n_gb) ∧ w'.cell? ⟨p_b2, 3, none⟩ = some (.slice o_gb k_gb c_gb)] (by kernel_rfl) (by kernel_rfl) (by kernel_rfl) (by kernel_rfl) (by kernel_rfl) (by kernel_rfl) (by kernel_rfl) (by kernel_rfl) (by decide) (by intro j hj; cases hj) (by intro w' o hC; obtain ⟨c0, c1, c2, c3⟩ := hC; exact ⟨cell_alloc c0 o, cell_alloc c1 o, cell_alloc c2 o, cell_alloc c3 o⟩) (by intro w' hC G hG; obtain ⟨c0, c1, c2, c3⟩ := hC; simp only [List.mem_cons, List.not_mem_nil, or_false] at hG; rcases hG with rfl <;> first | exact ⟨c0, c1, c2, c3⟩) ?_
  have lt_b2 := x_b2.lt
  intro w_5 hn
  replace lt_b2 := Nat.lt_of_lt_of_le lt_b2 hn.size
  replace g1 := g1.bl hn; replace g2 := g2.bl hn; replace x_b2 := x_b2.bl hn; replace hb := hb.trans (hn.mono hb.size)
  clear hn
  have kb0 := hb.size
  refine ⟨⟨x_b2.cell 0 rfl, x_b2.cell 1 rfl, x_b2.cell 2 rfl, x_b2.cell 3 rfl⟩, ?_⟩
  apply wpFl_ld rfl rfl; (case h1 => intro w' hC K hK; go_big_op; exact hK); iterate 4 kernel_rfl
  apply wpFl_ld rfl rfl; (case h1 => intro w' hC K hK; obtain ⟨c0, c1, c2, c3⟩ := hC; go_big_op; exact hK); iterate 4 kernel_rfl
  refine wpFl_call rfl (by kernel_rfl) fun w_6 hn hC => ?_; clear hC
  replace g1 := g1.bl hn; replace g2 := g2.bl hn; replace x_b2 := x_b2.bl hn; replace hb := hb.trans (hn.mono hb.size)
  clear hn; intro K hK
  go_big_op
  go_fit (ri_any 1 _ (by decide) (by decide))
  rintro e w_7 ⟨v_g3, rfl, g3, hb_7⟩
  replace g1 := g1.bl hb_7; replace g2 := g2.bl hb_7; replace x_b2 := x_b2.bl hb_7; replace hb := hb.trans (hb_7.mono hb.size)
  replace g3 := g3.rd
  obtain ⟨n_g3, o_g3, k_g3, c_g3, rfl⟩ := g3.open2
  have Lg3 := hide (g3.lenOf (zlen_i (1 : Int) (by decide) (by decide)))
  refine hK _ _ rfl hb_7 ⟨x_b2.cell 0 rfl, x_b2.cell 1 rfl, x_b2.cell 2 rfl, x_b2.cell 3 rfl⟩ ?_
  clear hK K hb_7
  refine wpFl_call rfl (by kernel_rfl) fun w_8 hn hC => ?_; clear hC
  replace g1 := g1.bl hn; replace g2 := g2.bl hn; replace x_b2 := x_b2.bl hn; replace g3 := g3.bl hn; replace hb := hb.trans (hn.mono hb.size)
  clear hn; intro K hK
  go_big_op
  go_fit (rzcmp_any (g2.zn Lg2.out) (g3.zn Lg3.out) (by omega) (by omega) )
  rintro e w_9 ⟨rfl, hb_9⟩
  replace g1 := g1.bl hb_9; replace g2 := g2.bl hb_9; replace x_b2 := x_b2.bl hb_9; replace g3 := g3.bl hb_9; replace hb := hb.trans (hb_9.mono hb.size)
  rw [H1.out]
  refine hK _ _ rfl hb_9 ⟨x_b2.cell 0 rfl, x_b2.cell 1 rfl, x_b2.cell 2 rfl, x_b2.cell 3 rfl⟩ ?_
  clear hK K hb_9
  apply wpFl_ld rfl rfl; (case h1 => intro w' hC K hK; go_big_op; exact hK); iterate 4 kernel_rfl
  apply wpFl_end
  case ha => intro pt; simp only [putF]; rfl
  case h =>
  intro w_10 pt hn hC hF hD
  clear hC
  clear g3
  replace g1 := g1.bl hn; replace g2 := g2.bl hn; replace x_b2 := x_b2.bl hn; replace hb := hb.trans (hn.mono hb.size)
  clear hn
  clear hF hD
  clear pt
  clear kb0 lt_b2
  apply wpTail_end
  refine hK4 _ _ ?_
  refine wp_cond_false (congrArg Value.bool (show _ = false from (by first | rfl | assumption | (simp; done) | exact decide_eq_false (by omega) | omega))) ?_
  refine wp_skip ?_
  refine hK3 _ _ ?_
  refine wp_seq_k ?_
  intro K5 hK5
  refine wp_region_fl2 [(0, false), (1, false), (4, false), (5, false), (2, true), (3, false), (6, true), (7, false), (8, false)] [] [] (fun _ => default) [99, 0, 99, 99, 99, 0, 99, 99, 99] [] (fun w' => w'.cell? ⟨p_b2, 0, none⟩ = some (.bool n_ga) ∧ w'.cell? ⟨p_b2, 1, none⟩ = some (.slice o_ga k_ga c_ga) ∧ w'.cell? ⟨p_b2, 2, none⟩ = some (.bool n_gb) ∧ w'.cell? ⟨p_b2, 3, none⟩ = some (.slice o_gb k_gb c_gb)) [fun w' => w'.cell? ⟨p_b2, 0, none⟩ = some (.bool n_ga) ∧ w'.cell? ⟨p_b2, 1, none⟩ = some (.slice o_ga k_ga c_ga) ∧ w'.cell? ⟨p_b2, 2, none⟩ = some (.bool n_gb) ∧ w'.cell? ⟨p_b2, 3, none⟩ = some (.slice o_gb k_gb c_gb)] (by kernel_rfl) (by kernel_rfl) (by kernel_rfl) (by kernel_rfl) (by kernel_rfl) (by kernel_rfl) (by kernel_rfl) (by kernel_rfl) (by decide) (by intro j hj; cases hj) (by intro w' o hC; obtain ⟨c0, c1, c2, c3⟩ := hC; exact ⟨cell_alloc c0 o, cell_alloc c1 o, cell_alloc c2 o, cell_alloc c3 o⟩) (by intro w' hC G hG; obtain ⟨c0, c1, c2, c3⟩ := hC; simp only [List.mem_cons, List.not_mem_nil, or_false] at hG; rcases hG with rfl <;> first | exact ⟨c0, c1, c2, c3⟩) ?_
  have lt_b2 := x_b2.lt
  intro w_11 hn
  replace lt_b2 := Nat.lt_of_lt_of_le lt_b2 hn.size
  replace g1 := g1.bl hn; replace g2 := g2.bl hn; replace x_b2 := x_b2.bl hn; replace hb := hb.trans (hn.mono hb.size)
  clear hn
  have kb0 := hb.size
  refine ⟨⟨x_b2.cell 0 rfl, x_b2.cell 1 rfl, x_b2.cell 2 rfl, x_b2.cell 3 rfl⟩, ?_⟩
  apply wpFl_ld rfl rfl; (case h1 => intro w' hC K hK; go_big_op; exact hK); iterate 4 kernel_rfl
  apply wpFl_ld rfl rfl; (case h1 => intro w' hC K hK; obtain ⟨c0, c1, c2, c3⟩ := hC; go_big_op; exact hK); iterate 4 kernel_rfl
  apply wpFl_ld rfl rfl; (case h1 => intro w' hC K hK; go_big_op; exact hK); iterate 4 kernel_rfl
  apply wpFl_ld rfl rfl; (case h1 => intro w' hC K hK; obtain ⟨c0, c1, c2, c3⟩ := hC; go_big_op; exact hK); iterate 4 kernel_rfl
  refine wpFl_call rfl (by kernel_rfl) fun w_12 hn hC => ?_; clear hC
  replace g1 := g1.bl hn; replace g2 := g2.bl hn; replace x_b2 := x_b2.bl hn; replace hb := hb.trans (hn.mono hb.size)
  clear hn; intro K hK
  go_big_op
  go_fit (rztext_s (g1.zn Lg1.out) (by omega))
  rintro e w_13 ⟨rfl, hb_13⟩
  replace g1 := g1.bl hb_13; replace g2 := g2.bl hb_13; replace x_b2 := x_b2.bl hb_13; replace hb := hb.trans (hb_13.mono hb.size)
  rw [HS.out]
  refine hK _ _ rfl hb_13 ⟨x_b2.cell 0 rfl, x_b2.cell 1 rfl, x_b2.cell 2 rfl, x_b2.cell 3 rfl⟩ ?_
  clear hK K hb_13
  apply wpFl_ld rfl rfl; (case h1 => intro w' hC K hK; go_big_op; exact hK); iterate 4 kernel_rfl
  refine wpFl_call rfl (by kernel_rfl) fun w_14 hn hC => ?_; clear hC
  replace g1 := g1.bl hn; replace g2 := g2.bl hn; replace x_b2 := x_b2.bl hn; replace hb := hb.trans (hn.mono hb.size)
  clear hn; intro K hK
  go_big_op
  go_fit (rztext_s (g2.zn Lg2.out) (by omega))
  rintro e w_15 ⟨rfl, hb_15⟩
  replace g1 := g1.bl hb_15; replace g2 := g2.bl hb_15; replace x_b2 := x_b2.bl hb_15; replace hb := hb.trans (hb_15.mono hb.size)
  rw [HT.out]
  refine hK _ _ rfl hb_15 ⟨x_b2.cell 0 rfl, x_b2.cell 1 rfl, x_b2.cell 2 rfl, x_b2.cell 3 rfl⟩ ?_
  clear hK K hb_15
  apply wpFl_ld rfl rfl; (case h1 => intro w' hC K hK; go_big_op; exact hK); iterate 4 kernel_rfl
  apply wpFl_ld rfl rfl; (case h1 => intro w' hC K hK; go_big_move; exact hK); iterate 4 kernel_rfl
  apply wpFl_end
  case ha => intro pt; simp only [putF]; rfl
  case h =>
  intro w_16 pt hn hC hF hD
  clear hC
  replace g1 := g1.bl hn; replace g2 := g2.bl hn; replace x_b2 := x_b2.bl hn; replace hb := hb.trans (hn.mono hb.size)
  clear hn
  clear hF hD
  clear pt
  clear kb0 lt_b2
  apply wpTail_end
  refine hK5 _ _ ?_
  refine wp_ret ?_
  try dsimp only [Exit.then, Exit.inBlock]
  refine bodyPost_ret (v := (.string (S ++ ⟨#[47]⟩ ++ T))) (by simp [results, Tryz.results50, go_sem]) rfl ?_
  exact ⟨rfl, hb⟩
theorem rfText_any (ha : PN w va x l y m) (hl : l ≤ 10000000) (hm : m ≤ 10000000) (h0 : y ≠ 0) :
    Calls Tryz.prog 50 #[va] w fun e w' => e = .returned (.string (qts x y)) ∧ Below w.heap.size w w' := by
  by_cases h1 : qD x y = 1
  · unfold qts; rw [if_pos h1]; exact rfText_one ha hl hm h0 h1
  · unfold qts; rw [if_neg h1]; exact rfText_two ha hl hm h0 h1
end

def zeroQ : Value := .agg #[.bool false, .slice none 0 0, .bool false, .slice none 0 0]
/-- Both refuse a text alike, or both read the same. -/
def Both (s : ByteArray) : Prop :=
  (∃ f : Int, f ≠ 0 ∧ (∀ w, Calls Tryz.prog 48 #[.string s] w fun e w' => e = .returned (.tuple #[.agg #[.bool false, .slice none 0 0, .bool false, .slice none 0 0], .int .i64 f]) ∧ Below w.heap.size w w') ∧
    ∀ w, Calls Tryz.prog 49 #[.string s] w fun e w' => e = .returned (.tuple #[.agg #[.bool false, .slice none 0 0, .bool false, .slice none 0 0], .int .i64 f]) ∧ Below w.heap.size w w') ∨
  ∃ p q : Int, low p q ∧ (dig p.natAbs).length ≤ 8192 ∧ (dig q.natAbs).length ≤ 8192 ∧ (∀ w, Calls Tryz.prog 48 #[.string s] w fun e w' => ∃ r, e = .returned (.tuple #[r, .int .i64 0]) ∧ PC w' r p q ∧ Below w.heap.size w w') ∧
    ∀ w, Calls Tryz.prog 49 #[.string s] w fun e w' => ∃ r, e = .returned (.tuple #[r, .int .i64 0]) ∧ PC w' r p q ∧ Below w.heap.size w w'
theorem both_any (s : ByteArray) : Both s := by
  by_cases hs : 65536 < s.size
  · exact .inl ⟨12, by decide, fun w => fParse_long s w hs, fun w => rParse_long w hs⟩
  have hs : s.size ≤ 65536 := by omega
  obtain ⟨k, hk, hi⟩ := slash_of s
  by_cases hks : k < s.size
  · rw [if_pos hks] at hi
    have hT : (s.extract 0 k).size ≤ 65536 := by rw [ByteArray.size_extract]; omega
    have hB : (s.extract (k + 1) s.size).size ≤ 65536 := by rw [ByteArray.size_extract]; omega
    cases h : zok (s.extract 0 k) with
    | false => exact .inl ⟨7, by decide, fun w => fParse_t0 w hs hks hi _ _ rfl rfl hT h, fun w => rParse_t0 w hs hk hks _ _ rfl rfl hT h⟩
    | true =>
      cases h2 : digitsB (s.extract (k + 1) s.size).data.toList with
      | false =>
        refine .inl ⟨7, by decide, fun w => fParse_b0 w hs hks hi _ _ rfl rfl hT h (fun w => ?_), fun w => rParse_b0 w hs hk hks _ _ rfl rfl hT h hB h2⟩
        cases hm : minusB (s.extract (k + 1) s.size) with
        | true => exact parseDen_minus _ w hm
        | false => exact parseDen_no _ w hB hm (zok_no hm h2)
      | true =>
        have hz := (zok_digits h2).1
        have hm := minus_no h2
        by_cases h0 : zvl (s.extract (k + 1) s.size) = 0
        · exact .inl ⟨5, by decide, fun w => fParse_z w hs hks hi _ _ rfl rfl hT h hB hm hz h0, fun w => rParse_z w hs hk hks _ _ rfl rfl hT h hB h2 h0⟩
        · exact .inr ⟨_, _, low_q h0, qN_len h0 (zvl_len hT h), qD_len h0 (zvl_len hB hz), fun w => fParse_ok w hs hks hi _ _ rfl rfl hT h hB hm hz h0, fun w => rParse_ok w hs hk hks _ _ rfl rfl hT h hB h2 h0⟩
  · rw [if_neg hks] at hi
    have hke : k = s.size := by have := hk.1; omega
    cases h : zok s with
    | false => exact .inl ⟨7, by decide, fun w => fParse_w0 s w hs hi h, fun w => rParse_w0 w hs hk hke h⟩
    | true => exact .inr ⟨_, _, ⟨by decide, Int.gcd_one_right _⟩, zvl_len hs h, by decide, fun w => fParse_w1 s w hs hi h, fun w => rParse_w1 w hs hk hke h⟩
end Go.Proofs.YtkgbfnmlpajblaaGreatDoor
