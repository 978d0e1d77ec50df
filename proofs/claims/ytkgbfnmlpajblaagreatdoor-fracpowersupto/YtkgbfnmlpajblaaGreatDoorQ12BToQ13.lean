/- The reference's Pow: Q12B. -/
import Derived.Test.YtkgbfnmlpajblaaGreatDoorQ11ToQ12A

namespace Go.Proofs.YtkgbfnmlpajblaaGreatDoor
open Go Go.RowKit Dig
set_option linter.unusedVariables false
section
variable {w : World} {va vb : Value} {x y u v : Int} {l m k n : Nat}
set_option maxHeartbeats 8000000 in
set_option maxRecDepth 20000 in
theorem rPow_sb_odd (N : Nat) (ha : PN w va x l y m) (hl : l ≤ 1048576) (hm : m ≤ 1048576) (h0 : y ≠ 0) (hN : N ≤ 9223372036854775807) (h1 : bitsN (qN x y).natAbs ≤ 1) (h2 : 1 < bitsN (qD x y).natAbs ∧ N ≤ 65536 / bitsN (qD x y).natAbs) (hs : qN x y < 0) (hN2 : N % 2 = 1) (l1 : (dig ((qN x y).natAbs ^ N)).length ≤ 1048576) (l2 : (dig ((qD x y).natAbs ^ N)).length ≤ 1048576) :
    Calls Tryz.prog 47 #[va, .int .i64 N] w fun e w' => ∃ r, e = .returned (.tuple #[r, .bool true]) ∧ PC w' r (qN x y ^ N) (qD x y ^ N) ∧ Below w.heap.size w w' := by
  have H0 := hide h0
  have ED := hide (show (((qD x y).natAbs ^ N : Nat) : Int) = qD x y ^ N from pow_pos' (Int.le_of_lt (qD_pos (x := x) h0)))
  have EN := hide (pow_odd hs hN2)
  have HSG := hide (show decide (qN x y < 0) = true from decide_eq_true hs)
  obtain ⟨hp2, hp3⟩ := mod2_odd hN2
  clear hN2
  have L1 := hide l1
  have L2 := hide l2
  clear h0 hs l1 l2
  obtain ⟨b, hb⟩ : ∃ b, bitsN (qN x y).natAbs = b := ⟨_, rfl⟩
  rw [hb] at h1
  have Hb := hide hb
  have hgb : (1 < (b : Int)) = False := eq_false (by omega)
  clear hb h1
  obtain ⟨c, hc⟩ : ∃ c, bitsN (qD x y).natAbs = c := ⟨_, rfl⟩
  rw [hc] at h2
  have Hc := hide hc
  obtain ⟨hgc, h0c⟩ := q_gt h2.1
  have hdc : ((65536 : Int) / (c : Int)) = ((65536 / c : Nat) : Int) := rfl
  have hddc : Int.tdiv 65536 (c : Int) = ((65536 / c : Nat) : Int) := rfl
  have hq65c : 65536 / c ≤ 65536 := Nat.div_le_self _ _
  generalize 65536 / c = qc at *
  have hwc := q_wrap hq65c
  have hqbc := q_no h2.2
  clear hc h2
  obtain ⟨n_0a, o_0a, k_0a, c_0a, n_0b, o_0b, k_0b, c_0b, rfl, ha1, ha2⟩ := ha
  go_enter Tryz.func47, Tryz.ntmps47
  have hb := Below.refl w.heap.size w
  refine wp_seq_k ?_
  intro K1 hK1
  refine wp_region_sq [0, 1, 2] (by kernel_rfl) ?_
  refine wpSq_call rfl (by kernel_rfl) fun K hK => ?_
  go_big_op
  obtain ⟨p_b1, w_1, eP, eW, x_b1, hn, kb_b1⟩ := newBox w #[.bool n_0a, .slice o_0a k_0a c_0a, .bool n_0b, .slice o_0b k_0b c_0b] 26 hb.size
  rw [eW, eP]
  clear eW eP
  replace ha1 := ha1.bl hn; replace ha2 := ha2.bl hn; replace hb := hb.trans (hn.mono hb.size)
  refine hK _ _ rfl ?_; clear hK K hn
  refine wpSq_call rfl (by kernel_rfl) fun K hK => ?_
  go_big_op
  have lt_b1 := x_b1.lt
  obtain ⟨p_b2, w_2, eP, eW, x_b2, hn, kb_b2⟩ := newBox w_1 #[.bool false, .slice none 0 0, .bool false, .slice none 0 0] 26 hb.size
  have ne_b1_b2 : Hid (p_b1 ≠ p_b2) := Nat.ne_of_lt (eP ▸ lt_b1)
  rw [eW, eP]
  clear eW eP lt_b1
  replace ha1 := ha1.bl hn; replace ha2 := ha2.bl hn; replace x_b1 := x_b1.bl hn; replace hb := hb.trans (hn.mono hb.size)
  refine hK _ _ rfl ?_; clear hK K hn
  refine wpSq_call rfl (by kernel_rfl) fun K hK => ?_
  go_big_move; refine hK _ _ rfl ?_; clear hK K
  apply wpSq_end
  refine hK1 _ _ ?_
  refine wp_seq_k ?_
  intro K2 hK2
  refine wp_region_sq [0, 1, 2, 3] (by kernel_rfl) ?_
  refine wpSq_call rfl (by kernel_rfl) fun K hK => ?_
  obtain ⟨d0, d1, d2, d3⟩ := x_b1.f4
  go_big_op; refine hK _ _ rfl ?_; clear hK K d0 d1 d2 d3
  refine wpSq_call rfl (by kernel_rfl) fun K hK => ?_
  go_big_op
  go_fit (rfnorm_any (PN.mk' ha1 ha2) (by omega) (by omega) H0.out)
  rintro e w_3 ⟨_, rfl, ⟨n_ga, o_ga, k_ga, c_ga, n_gb, o_gb, k_gb, c_gb, rfl, g1, g2⟩, hb_3⟩
  clear x_b1
  replace ha1 := ha1.bl hb_3; replace ha2 := ha2.bl hb_3; replace x_b2 := x_b2.bl hb_3; replace hb := hb.trans (hb_3.mono hb.size)
  have Lg1 := hide (g1.lenOf (qN_len (H0.out) (ha1.len)))
  have Lg2 := hide (g2.lenOf (qD_len (H0.out) (ha2.len)))
  have en := g1.neg.trans HSG.out
  subst en
  refine hK _ _ rfl ?_
  clear hK K hb_3
  refine wpSq_call rfl (by kernel_rfl) fun K hK => ?_
  go_big_op
  clear ha1 ha2
  have lt_b2 := x_b2.lt
  obtain ⟨p_b3, w_4, eP, eW, x_b3, hn, kb_b3⟩ := newBox w_3 #[.bool false, .slice none 0 0, .bool false, .slice none 0 0] 26 hb.size
  have ne_b2_b3 : Hid (p_b2 ≠ p_b3) := Nat.ne_of_lt (eP ▸ lt_b2)
  rw [eW, eP]
  clear eW eP lt_b2
  replace x_b2 := x_b2.bl hn; replace g1 := g1.bl hn; replace g2 := g2.bl hn; replace hb := hb.trans (hn.mono hb.size)
  refine hK _ _ rfl ?_; clear hK K hn
  refine wpSq_call rfl (by kernel_rfl) fun K hK => ?_
  obtain ⟨d0, d1, d2, d3⟩ := x_b3.f4
  have f0 := x_b3.free 0; have f1 := x_b3.free 1; have f2 := x_b3.free 2; have f3 := x_b3.free 3
  go_big_op
  have hnd := x_b3.nod rfl rfl
  obtain ⟨w_5, eW, x_b3', ho⟩ : ∃ w', ((((w_4.setCell ⟨p_b3, 0, none⟩ (.bool true)).setCell ⟨p_b3, 1, none⟩ (.slice o_ga k_ga c_ga)).setCell ⟨p_b3, 2, none⟩ (.bool n_gb)).setCell ⟨p_b3, 3, none⟩ (.slice o_gb k_gb c_gb)) = w' ∧ Bs w' p_b3 #[.bool true, .slice o_ga k_ga c_ga, .bool n_gb, .slice o_gb k_gb c_gb] 26 ∧ Only p_b3 w_4 w' := x_b3.setN [(0, .bool true), (1, .slice o_ga k_ga c_ga), (2, .bool n_gb), (3, .slice o_gb k_gb c_gb)]
  rw [eW]; clear eW d0 d1 d2 d3 f0 f1 f2 f3 x_b3
  have x_b3 := x_b3'; clear x_b3'
  replace x_b2 := x_b2.frame ho ne_b2_b3; replace g1 := g1.fr hnd ho; replace g2 := g2.fr hnd ho; replace hb := belowOnly hb ho kb_b3
  refine hK _ _ rfl ?_; clear hK K ho hnd
  apply wpSq_end
  refine hK2 _ _ ?_
  refine wp_seq_k ?_
  intro K3 hK3
  refine wp_region_sq [0, 1, 2, 3, 4] (by kernel_rfl) ?_
  refine wpSq_call rfl (by kernel_rfl) fun K hK => ?_
  go_big_op; refine hK _ _ rfl ?_; clear hK K
  refine wpSq_call rfl (by kernel_rfl) fun K hK => ?_
  go_big_op; refine hK _ _ rfl ?_; clear hK K
  refine wpSq_call rfl (by kernel_rfl) fun K hK => ?_
  obtain ⟨d0, d1, d2, d3⟩ := x_b3.f4
  go_big_op; refine hK _ _ rfl ?_; clear hK K d0 d1 d2 d3
  refine wpSq_call rfl (by kernel_rfl) fun K hK => ?_
  go_big_op
  go_fit (rbits_rd' g1.mag (Nat.le_trans Lg1.out (by omega)))
  rintro e w_6 ⟨rfl, hb_6⟩
  replace x_b2 := x_b2.bl hb_6; replace g1 := g1.bl hb_6; replace g2 := g2.bl hb_6; replace x_b3 := x_b3.bl hb_6; replace hb := hb.trans (hb_6.mono hb.size)
  rw [val_dig, Hb.out]
  refine hK _ _ rfl ?_
  clear hK K hb_6
  refine wpSq_call rfl (by kernel_rfl) fun K hK => ?_
  go_big_move; refine hK _ _ rfl ?_; clear hK K
  apply wpSq_end
  refine hK3 _ _ ?_
  refine wp_seq_k ?_
  intro K4 hK4
  refine wp_region_sq [0, 1, 2, 3, 4] (by kernel_rfl) ?_
  refine wpSq_call rfl (by kernel_rfl) fun K hK => ?_
  go_big_op; refine hK _ _ rfl ?_; clear hK K
  refine wpSq_call rfl (by kernel_rfl) fun K hK => ?_
  go_big_op; refine hK _ _ rfl ?_; clear hK K
  refine wpSq_call rfl (by kernel_rfl) fun K hK => ?_
  obtain ⟨d0, d1, d2, d3⟩ := x_b3.f4
  go_big_op; refine hK _ _ rfl ?_; clear hK K d0 d1 d2 d3
  refine wpSq_call rfl (by kernel_rfl) fun K hK => ?_
  go_big_op
  go_fit (rbits_rd' g2.mag (Nat.le_trans Lg2.out (by omega)))
  rintro e w_7 ⟨rfl, hb_7⟩
  replace x_b2 := x_b2.bl hb_7; replace g1 := g1.bl hb_7; replace g2 := g2.bl hb_7; replace x_b3 := x_b3.bl hb_7; replace hb := hb.trans (hb_7.mono hb.size)
  rw [val_dig, Hc.out]
  refine hK _ _ rfl ?_
  clear hK K hb_7
  refine wpSq_call rfl (by kernel_rfl) fun K hK => ?_
  go_big_move; refine hK _ _ rfl ?_; clear hK K
  apply wpSq_end
  refine hK4 _ _ ?_
  refine wp_seq_k ?_
  intro K5 hK5
  refine wp_seq_k ?_
  intro K6 hK6
  refine wp_region_sq [0, 1, 2, 3, 4, 5, 6, 7, 8, 9, 10, 11, 12, 13, 14, 15, 16, 17] (by kernel_rfl) ?_
  refine wpSq_call rfl (by kernel_rfl) fun K hK => ?_
  go_big_move; refine hK _ _ rfl ?_; clear hK K
  refine wpSq_call rfl (by kernel_rfl) fun K hK => ?_
  go_big_op; refine hK _ _ rfl ?_; clear hK K
  refine wpSq_call rfl (by kernel_rfl) fun K hK => ?_
  go_big_move; refine hK _ _ rfl ?_; clear hK K
  apply wpSq_skip
  case hi => rfl
  case hw => kernel_rfl
  case hp => unfold Act.put; simp only [List.setIfInBounds_toArray, List.set_cons_succ, List.set_cons_zero]; rfl
  apply wpSq_skip
  case hi => rfl
  case hw => kernel_rfl
  case hp => unfold Act.put; simp only [List.setIfInBounds_toArray, List.set_cons_succ, List.set_cons_zero]; rfl
  apply wpSq_skip
  case hi => rfl
  case hw => kernel_rfl
  case hp => unfold Act.put; simp only [List.setIfInBounds_toArray, List.set_cons_succ, List.set_cons_zero]; rfl
  apply wpSq_skip
  case hi => rfl
  case hw => kernel_rfl
  case hp => unfold Act.put; simp only [List.setIfInBounds_toArray, List.set_cons_succ, List.set_cons_zero]; rfl
  refine wpSq_call rfl (by kernel_rfl) fun K hK => ?_
  go_big_op; refine hK _ _ rfl ?_; clear hK K
  refine wpSq_call rfl (by kernel_rfl) fun K hK => ?_
  go_big_move; refine hK _ _ rfl ?_; clear hK K
  refine wpSq_call rfl (by kernel_rfl) fun K hK => ?_
  go_big_move; refine hK _ _ rfl ?_; clear hK K
  refine wpSq_call rfl (by kernel_rfl) fun K hK => ?_
  go_big_op; refine hK _ _ rfl ?_; clear hK K
  refine wpSq_call rfl (by kernel_rfl) fun K hK => ?_
  go_big_move; refine hK _ _ rfl ?_; clear hK K
  refine wpSq_call rfl (by kernel_rfl) fun K hK => ?_
  go_big_move; refine hK _ _ rfl ?_; clear hK K
  refine wpSq_call rfl (by kernel_rfl) fun K hK => ?_
  go_big_move; refine hK _ _ rfl ?_; clear hK K
  refine wpSq_call rfl (by kernel_rfl) fun K hK => ?_
  go_big_op; refine hK _ _ rfl ?_; clear hK K
  refine wpSq_call rfl (by kernel_rfl) fun K hK => ?_
  go_big_op; refine hK _ _ rfl ?_; clear hK K
  refine wpSq_call rfl (by kernel_rfl) fun K hK => ?_
  go_big_op; refine hK _ _ rfl ?_; clear hK K
  refine wpSq_call rfl (by kernel_rfl) fun K hK => ?_
  go_big_op; refine hK _ _ rfl ?_; clear hK K
  apply wpSq_end
  refine hK6 _ _ ?_
  refine wp_cond_false (congrArg Value.bool (show _ = false from (by first | rfl | assumption | (simp; done) | exact decide_eq_false (by omega) | omega))) ?_
  refine wp_skip ?_
  refine hK5 _ _ ?_
  refine wp_seq_k ?_
  intro K7 hK7
  refine wp_region_sq [0, 1, 2, 3, 4, 5, 6, 7, 8, 9, 10, 11, 12, 13, 14, 15] (by kernel_rfl) ?_
  refine wpSq_call rfl (by kernel_rfl) fun K hK => ?_
  go_big_op; refine hK _ _ rfl ?_; clear hK K
  refine wpSq_call rfl (by kernel_rfl) fun K hK => ?_
  go_big_op; refine hK _ _ rfl ?_; clear hK K
  refine wpSq_call rfl (by kernel_rfl) fun K hK => ?_
  obtain ⟨d0, d1, d2, d3⟩ := x_b3.f4
  go_big_op; refine hK _ _ rfl ?_; clear hK K d0 d1 d2 d3
  refine wpSq_call rfl (by kernel_rfl) fun K hK => ?_
  go_big_move; refine hK _ _ rfl ?_; clear hK K
  refine wpSq_call rfl (by kernel_rfl) fun K hK => ?_
  go_big_move; refine hK _ _ rfl ?_; clear hK K
  refine wpSq_call rfl (by kernel_rfl) fun K hK => ?_
  go_big_op; refine hK _ _ rfl ?_; clear hK K
  refine wpSq_call rfl (by kernel_rfl) fun K hK => ?_
  go_big_op; refine hK _ _ rfl ?_; clear hK K
  refine wpSq_call rfl (by kernel_rfl) fun K hK => ?_
  go_big_op; refine hK _ _ rfl ?_; clear hK K
  refine wpSq_call rfl (by kernel_rfl) fun K hK => ?_
  go_big_op; refine hK _ _ rfl ?_; clear hK K
  refine wpSq_call rfl (by kernel_rfl) fun K hK => ?_
  go_big_op; refine hK _ _ rfl ?_; clear hK K
  refine wpSq_call rfl (by kernel_rfl) fun K hK => ?_
  obtain ⟨d0, d1, d2, d3⟩ := x_b3.f4
  go_big_op; refine hK _ _ rfl ?_; clear hK K d0 d1 d2 d3
  refine wpSq_call rfl (by kernel_rfl) fun K hK => ?_
  go_big_move; refine hK _ _ rfl ?_; clear hK K
  refine wpSq_call rfl (by kernel_rfl) fun K hK => ?_
  go_big_op
  go_fit (rpow_rd N g1.mag (Nat.le_trans Lg1.out (by omega)) hN (by rw [val_dig]; exact L1.out))
  rintro e w_8 ⟨r1, rfl, hr1, hb_8⟩
  replace x_b2 := x_b2.bl hb_8; replace g1 := g1.bl hb_8; replace g2 := g2.bl hb_8; replace x_b3 := x_b3.bl hb_8; replace hb := hb.trans (hb_8.mono hb.size)
  rw [val_dig] at hr1
  refine hK _ _ rfl ?_
  clear hK K hb_8
  refine wpSq_call rfl (by kernel_rfl) fun K hK => ?_
  go_big_op
  go_fit (make_any true (qN x y ^ N) hr1 (Nat.le_trans L1.out (by decide)) (by rw [val_dig, if_pos rfl]; exact EN.out))
  rintro e w_9 ⟨v_g3, rfl, g3, hb_9⟩
  replace x_b2 := x_b2.bl hb_9; replace g1 := g1.bl hb_9; replace g2 := g2.bl hb_9; replace x_b3 := x_b3.bl hb_9; replace hr1 := hr1.bl hb_9; replace hb := hb.trans (hb_9.mono hb.size)
  replace g3 := g3.rd
  obtain ⟨n_g3, o_g3, k_g3, c_g3, rfl⟩ := g3.open2
  refine hK _ _ rfl ?_
  clear hK K hb_9
  refine wpSq_call rfl (by kernel_rfl) fun K hK => ?_
  go_big_op
  clear hr1
  have lt_b2 := x_b2.lt
  have lt_b3 := x_b3.lt
  obtain ⟨p_b4, w_10, eP, eW, x_b4, hn, kb_b4⟩ := newBox w_9 #[.bool false, .slice none 0 0] 24 hb.size
  have ne_b2_b4 : Hid (p_b2 ≠ p_b4) := Nat.ne_of_lt (eP ▸ lt_b2)
  have ne_b3_b4 : Hid (p_b3 ≠ p_b4) := Nat.ne_of_lt (eP ▸ lt_b3)
  rw [eW, eP]
  clear eW eP lt_b2 lt_b3
  replace x_b2 := x_b2.bl hn; replace g1 := g1.bl hn; replace g2 := g2.bl hn; replace x_b3 := x_b3.bl hn; replace g3 := g3.bl hn; replace hb := hb.trans (hn.mono hb.size)
  refine hK _ _ rfl ?_; clear hK K hn
  refine wpSq_call rfl (by kernel_rfl) fun K hK => ?_
  obtain ⟨d0, d1⟩ := x_b4.f2
  have f0 := x_b4.free 0; have f1 := x_b4.free 1
  go_big_op
  have hnd := x_b4.nod rfl rfl
  obtain ⟨w_11, eW, x_b4', ho⟩ : ∃ w', ((w_10.setCell ⟨p_b4, 0, none⟩ (.bool n_g3)).setCell ⟨p_b4, 1, none⟩ (.slice o_g3 k_g3 c_g3)) = w' ∧ Bs w' p_b4 #[.bool n_g3, .slice o_g3 k_g3 c_g3] 24 ∧ Only p_b4 w_10 w' := x_b4.setN [(0, .bool n_g3), (1, .slice o_g3 k_g3 c_g3)]
  rw [eW]; clear eW d0 d1 f0 f1 x_b4
  have x_b4 := x_b4'; clear x_b4'
  replace x_b2 := x_b2.frame ho ne_b2_b4; replace g1 := g1.fr hnd ho; replace g2 := g2.fr hnd ho; replace x_b3 := x_b3.frame ho ne_b3_b4; replace g3 := g3.fr hnd ho; replace hb := belowOnly hb ho kb_b4
  refine hK _ _ rfl ?_; clear hK K ho hnd
  apply wpSq_end
  refine hK7 _ _ ?_
  refine wp_seq_k ?_
  intro K8 hK8
  refine wp_region_fl2 [(0, false), (1, false), (2, false), (3, false), (4, false), (5, true), (6, true), (7, false)] [8, 9] [] (fun _ => default) [0, 99, 99, 1, 99, 99, 99, 99, 99, 99] [] (fun w' => w'.cell? ⟨p_b4, 0, none⟩ = some (.bool n_g3) ∧ w'.cell? ⟨p_b4, 1, none⟩ = some (.slice o_g3 k_g3 c_g3) ∧ w'.cell? ⟨p_b3, 0, none⟩ = some (.bool true) ∧ w'.cell? ⟨p_b3, 1, none⟩ = some (.slice o_ga k_ga c_ga) ∧ w'.cell? ⟨p_b3, 2, none⟩ = some (.bool n_gb) ∧ w'.cell? ⟨p_b3, 3, none⟩ = some (.slice o_gb k_gb c_gb)) [fun w' => w'.cell? ⟨p_b4, 0, none⟩ = some (.bool n_g3) ∧ w'.cell? ⟨p_b4, 1, none⟩ = some (.slice o_g3 k_g3 c_g3), fun w' => w'.cell? ⟨p_b3, 0, none⟩ = some (.bool true) ∧ w'.cell? ⟨p_b3, 1, none⟩ = some (.slice o_ga k_ga c_ga) ∧ w'.cell? ⟨p_b3, 2, none⟩ = some (.bool n_gb) ∧ w'.cell? ⟨p_b3, 3, none⟩ = some (.slice o_gb k_gb c_gb)] (by kernel_rfl) (by kernel_rfl) (by kernel_rfl) (by kernel_rfl) (by kernel_rfl) (by kernel_rfl) (by kernel_rfl) (by kernel_rfl) (by decide) (by intro j hj; cases hj) (by intro w' o hC; obtain ⟨c0, c1, c2, c3, c4, c5⟩ := hC; exact ⟨cell_alloc c0 o, cell_alloc c1 o, cell_alloc c2 o, cell_alloc c3 o, cell_alloc c4 o, cell_alloc c5 o⟩) (by intro w' hC G hG; obtain ⟨c0, c1, c2, c3, c4, c5⟩ := hC; simp only [List.mem_cons, List.not_mem_nil, or_false] at hG; rcases hG with rfl | rfl <;> first | exact ⟨c0, c1⟩ | exact ⟨c2, c3, c4, c5⟩) ?_
  have lt_b2 := x_b2.lt
  have lt_b3 := x_b3.lt
  have lt_b4 := x_b4.lt
  intro w_12 hn
  replace lt_b2 := Nat.lt_of_lt_of_le lt_b2 hn.size
  replace lt_b3 := Nat.lt_of_lt_of_le lt_b3 hn.size
  replace lt_b4 := Nat.lt_of_lt_of_le lt_b4 hn.size
  replace x_b2 := x_b2.bl hn; replace g1 := g1.bl hn; replace g2 := g2.bl hn; replace x_b3 := x_b3.bl hn; replace g3 := g3.bl hn; replace x_b4 := x_b4.bl hn; replace hb := hb.trans (hn.mono hb.size)
  clear hn
  have kb0 := hb.size
  refine ⟨⟨x_b4.cell 0 rfl, x_b4.cell 1 rfl, x_b3.cell 0 rfl, x_b3.cell 1 rfl, x_b3.cell 2 rfl, x_b3.cell 3 rfl⟩, ?_⟩
  apply wpFl_ld rfl rfl; (case h1 => intro w' hC K hK; obtain ⟨c0, c1⟩ := hC; go_big_op; exact hK); iterate 4 kernel_rfl
  apply wpFl_ld rfl rfl; (case h1 => intro w' hC K hK; go_big_op; exact hK); iterate 4 kernel_rfl
  apply wpFl_ld rfl rfl; (case h1 => intro w' hC K hK; go_big_op; exact hK); iterate 4 kernel_rfl
  apply wpFl_ld rfl rfl; (case h1 => intro w' hC K hK; obtain ⟨c0, c1, c2, c3⟩ := hC; go_big_op; exact hK); iterate 4 kernel_rfl
  apply wpFl_ld rfl rfl; (case h1 => intro w' hC K hK; go_big_move; exact hK); iterate 4 kernel_rfl
  refine wpFl_call rfl (by kernel_rfl) fun w_13 hn hC => ?_; clear hC
  replace x_b2 := x_b2.bl hn; replace g1 := g1.bl hn; replace g2 := g2.bl hn; replace x_b3 := x_b3.bl hn; replace g3 := g3.bl hn; replace x_b4 := x_b4.bl hn; replace hb := hb.trans (hn.mono hb.size)
  clear hn; intro K hK
  go_big_op
  go_fit (rpow_rd N g2.mag (Nat.le_trans Lg2.out (by omega)) hN (by rw [val_dig]; exact L2.out))
  rintro e w_14 ⟨r2, rfl, hr2, hb_14⟩
  replace x_b2 := x_b2.bl hb_14; replace g1 := g1.bl hb_14; replace g2 := g2.bl hb_14; replace x_b3 := x_b3.bl hb_14; replace g3 := g3.bl hb_14; replace x_b4 := x_b4.bl hb_14; replace hb := hb.trans (hb_14.mono hb.size)
  rw [val_dig] at hr2
  refine hK _ _ rfl hb_14 ⟨x_b4.cell 0 rfl, x_b4.cell 1 rfl, x_b3.cell 0 rfl, x_b3.cell 1 rfl, x_b3.cell 2 rfl, x_b3.cell 3 rfl⟩ ?_
  clear hK K hb_14
  refine wpFl_call rfl (by kernel_rfl) fun w_15 hn hC => ?_; clear hC
  replace x_b2 := x_b2.bl hn; replace g1 := g1.bl hn; replace g2 := g2.bl hn; replace x_b3 := x_b3.bl hn; replace g3 := g3.bl hn; replace x_b4 := x_b4.bl hn; replace hr2 := hr2.bl hn; replace hb := hb.trans (hn.mono hb.size)
  clear hn; intro K hK
  go_big_op
  go_fit (make_any false (qD x y ^ N) hr2 (Nat.le_trans L2.out (by decide)) (by rw [val_dig, if_neg Bool.false_ne_true]; exact ED.out))
  rintro e w_16 ⟨v_g4, rfl, g4, hb_16⟩
  replace x_b2 := x_b2.bl hb_16; replace g1 := g1.bl hb_16; replace g2 := g2.bl hb_16; replace x_b3 := x_b3.bl hb_16; replace g3 := g3.bl hb_16; replace x_b4 := x_b4.bl hb_16; replace hr2 := hr2.bl hb_16; replace hb := hb.trans (hb_16.mono hb.size)
  replace g4 := g4.rd
  obtain ⟨n_g4, o_g4, k_g4, c_g4, rfl⟩ := g4.open2
  refine hK _ _ rfl hb_16 ⟨x_b4.cell 0 rfl, x_b4.cell 1 rfl, x_b3.cell 0 rfl, x_b3.cell 1 rfl, x_b3.cell 2 rfl, x_b3.cell 3 rfl⟩ ?_
  clear hK K hb_16
  apply wpFl_ld rfl rfl; (case h1 => intro w' hC K hK; go_big_op; exact hK); iterate 4 kernel_rfl
  apply wpFl_end
  case ha => intro pt; simp only [putF]; rfl
  case h =>
  intro w_17 pt hn hC hF hD
  clear hC
  clear hr2
  replace x_b2 := x_b2.bl hn; replace g1 := g1.bl hn; replace g2 := g2.bl hn; replace x_b3 := x_b3.bl hn; replace g3 := g3.bl hn; replace x_b4 := x_b4.bl hn; replace g4 := g4.bl hn; replace hb := hb.trans (hn.mono hb.size)
  clear hn
  clear hF hD
  clear pt
  clear kb0 lt_b2 lt_b3 lt_b4
  refine wpTail_call rfl (by kernel_rfl) fun K hK => ?_
  obtain ⟨d0, d1, d2, d3⟩ := x_b2.f4
  have f0 := x_b2.free 0; have f1 := x_b2.free 1; have f2 := x_b2.free 2; have f3 := x_b2.free 3
  go_big_op
  have hnd := x_b2.nod rfl rfl
  obtain ⟨w_18, eW, x_b2', ho⟩ : ∃ w', ((((w_17.setCell ⟨p_b2, 0, none⟩ (.bool n_g3)).setCell ⟨p_b2, 1, none⟩ (.slice o_g3 k_g3 c_g3)).setCell ⟨p_b2, 2, none⟩ (.bool n_g4)).setCell ⟨p_b2, 3, none⟩ (.slice o_g4 k_g4 c_g4)) = w' ∧ Bs w' p_b2 #[.bool n_g3, .slice o_g3 k_g3 c_g3, .bool n_g4, .slice o_g4 k_g4 c_g4] 26 ∧ Only p_b2 w_17 w' := x_b2.setN [(0, .bool n_g3), (1, .slice o_g3 k_g3 c_g3), (2, .bool n_g4), (3, .slice o_g4 k_g4 c_g4)]
  rw [eW]; clear eW d0 d1 d2 d3 f0 f1 f2 f3 x_b2
  have x_b2 := x_b2'; clear x_b2'
  replace g1 := g1.fr hnd ho; replace g2 := g2.fr hnd ho; replace x_b3 := x_b3.frame ho ne_b2_b3.symm; replace g3 := g3.fr hnd ho; replace x_b4 := x_b4.frame ho ne_b2_b4.symm; replace g4 := g4.fr hnd ho; replace hb := belowOnly hb ho kb_b2
  refine hK _ _ rfl (And.intro ⟨x_b4.cell 0 rfl, x_b4.cell 1 rfl⟩ (And.intro ⟨x_b3.cell 0 rfl, x_b3.cell 1 rfl, x_b3.cell 2 rfl, x_b3.cell 3 rfl⟩ True.intro)) ?_; clear hK K ho hnd
  refine wpTail_call rfl (by kernel_rfl) fun K hK => ?_
  go_big_move; refine hK _ _ rfl (And.intro ⟨x_b4.cell 0 rfl, x_b4.cell 1 rfl⟩ (And.intro ⟨x_b3.cell 0 rfl, x_b3.cell 1 rfl, x_b3.cell 2 rfl, x_b3.cell 3 rfl⟩ True.intro)) ?_; clear hK K
  apply wpTail_end
  refine hK8 _ _ ?_
  refine wp_ret ?_
  try dsimp only [Exit.then, Exit.inBlock]
  obtain ⟨r0_0, r0_1, r0_2, r0_3⟩ := x_b2.f4
  refine bodyPost_ret (v := (.tuple #[(.agg #[.bool n_g3, .slice o_g3 k_g3 c_g3, .bool n_g4, .slice o_g4 k_g4 c_g4]), (.bool true)])) (by simp [results, Tryz.results47, go_sem, r0_0, r0_1, r0_2, r0_3]) rfl ?_
  exact ⟨_, rfl, .mk' g3 g4, hb⟩
set_option maxHeartbeats 8000000 in
set_option maxRecDepth 20000 in
theorem rPow_sb_even (N : Nat) (ha : PN w va x l y m) (hl : l ≤ 1048576) (hm : m ≤ 1048576) (h0 : y ≠ 0) (hN : N ≤ 9223372036854775807) (h1 : bitsN (qN x y).natAbs ≤ 1) (h2 : 1 < bitsN (qD x y).natAbs ∧ N ≤ 65536 / bitsN (qD x y).natAbs) (hs : qN x y < 0) (hN2 : N % 2 = 0) (l1 : (dig ((qN x y).natAbs ^ N)).length ≤ 1048576) (l2 : (dig ((qD x y).natAbs ^ N)).length ≤ 1048576) :
    Calls Tryz.prog 47 #[va, .int .i64 N] w fun e w' => ∃ r, e = .returned (.tuple #[r, .bool true]) ∧ PC w' r (qN x y ^ N) (qD x y ^ N) ∧ Below w.heap.size w w' := by
  have H0 := hide h0
  have ED := hide (show (((qD x y).natAbs ^ N : Nat) : Int) = qD x y ^ N from pow_pos' (Int.le_of_lt (qD_pos (x := x) h0)))
  have EN := hide (pow_even (x := qN x y) hN2)
  have HSG := hide (show decide (qN x y < 0) = true from decide_eq_true hs)
  obtain ⟨hp2, hp3⟩ := mod2_even hN2
  clear hN2
  have L1 := hide l1
  have L2 := hide l2
  clear h0 hs l1 l2
  obtain ⟨b, hb⟩ : ∃ b, bitsN (qN x y).natAbs = b := ⟨_, rfl⟩
  rw [hb] at h1
  have Hb := hide hb
  have hgb : (1 < (b : Int)) = False := eq_false (by omega)
  clear hb h1
  obtain ⟨c, hc⟩ : ∃ c, bitsN (qD x y).natAbs = c := ⟨_, rfl⟩
  rw [hc] at h2
  have Hc := hide hc
  obtain ⟨hgc, h0c⟩ := q_gt h2.1
  have hdc : ((65536 : Int) / (c : Int)) = ((65536 / c : Nat) : Int) := rfl
  have hddc : Int.tdiv 65536 (c : Int) = ((65536 / c : Nat) : Int) := rfl
  have hq65c : 65536 / c ≤ 65536 := Nat.div_le_self _ _
  generalize 65536 / c = qc at *
  have hwc := q_wrap hq65c
  have hqbc := q_no h2.2
  clear hc h2
  obtain ⟨n_0a, o_0a, k_0a, c_0a, n_0b, o_0b, k_0b, c_0b, rfl, ha1, ha2⟩ := ha
  go_enter Tryz.func47, Tryz.ntmps47
  have hb := Below.refl w.heap.size w
  refine wp_seq_k ?_
  intro K1 hK1
  refine wp_region_sq [0, 1, 2] (by kernel_rfl) ?_
  refine wpSq_call rfl (by kernel_rfl) fun K hK => ?_
  go_big_op
  obtain ⟨p_b1, w_1, eP, eW, x_b1, hn, kb_b1⟩ := newBox w #[.bool n_0a, .slice o_0a k_0a c_0a, .bool n_0b, .slice o_0b k_0b c_0b] 26 hb.size
  rw [eW, eP]
  clear eW eP
  replace ha1 := ha1.bl hn; replace ha2 := ha2.bl hn; replace hb := hb.trans (hn.mono hb.size)
  refine hK _ _ rfl ?_; clear hK K hn
  refine wpSq_call rfl (by kernel_rfl) fun K hK => ?_
  go_big_op
  have lt_b1 := x_b1.lt
  obtain ⟨p_b2, w_2, eP, eW, x_b2, hn, kb_b2⟩ := newBox w_1 #[.bool false, .slice none 0 0, .bool false, .slice none 0 0] 26 hb.size
  have ne_b1_b2 : Hid (p_b1 ≠ p_b2) := Nat.ne_of_lt (eP ▸ lt_b1)
  rw [eW, eP]
  clear eW eP lt_b1
  replace ha1 := ha1.bl hn; replace ha2 := ha2.bl hn; replace x_b1 := x_b1.bl hn; replace hb := hb.trans (hn.mono hb.size)
  refine hK _ _ rfl ?_; clear hK K hn
  refine wpSq_call rfl (by kernel_rfl) fun K hK => ?_
  go_big_move; refine hK _ _ rfl ?_; clear hK K
  apply wpSq_end
  refine hK1 _ _ ?_
  refine wp_seq_k ?_
  intro K2 hK2
  refine wp_region_sq [0, 1, 2, 3] (by kernel_rfl) ?_
  refine wpSq_call rfl (by kernel_rfl) fun K hK => ?_
  obtain ⟨d0, d1, d2, d3⟩ := x_b1.f4
  go_big_op; refine hK _ _ rfl ?_; clear hK K d0 d1 d2 d3
  refine wpSq_call rfl (by kernel_rfl) fun K hK => ?_
  go_big_op
  go_fit (rfnorm_any (PN.mk' ha1 ha2) (by omega) (by omega) H0.out)
  rintro e w_3 ⟨_, rfl, ⟨n_ga, o_ga, k_ga, c_ga, n_gb, o_gb, k_gb, c_gb, rfl, g1, g2⟩, hb_3⟩
  clear x_b1
  replace ha1 := ha1.bl hb_3; replace ha2 := ha2.bl hb_3; replace x_b2 := x_b2.bl hb_3; replace hb := hb.trans (hb_3.mono hb.size)
  have Lg1 := hide (g1.lenOf (qN_len (H0.out) (ha1.len)))
  have Lg2 := hide (g2.lenOf (qD_len (H0.out) (ha2.len)))
  have en := g1.neg.trans HSG.out
  subst en
  refine hK _ _ rfl ?_
  clear hK K hb_3
  refine wpSq_call rfl (by kernel_rfl) fun K hK => ?_
  go_big_op
  clear ha1 ha2
  have lt_b2 := x_b2.lt
  obtain ⟨p_b3, w_4, eP, eW, x_b3, hn, kb_b3⟩ := newBox w_3 #[.bool false, .slice none 0 0, .bool false, .slice none 0 0] 26 hb.size
  have ne_b2_b3 : Hid (p_b2 ≠ p_b3) := Nat.ne_of_lt (eP ▸ lt_b2)
  rw [eW, eP]
  clear eW eP lt_b2
  replace x_b2 := x_b2.bl hn; replace g1 := g1.bl hn; replace g2 := g2.bl hn; replace hb := hb.trans (hn.mono hb.size)
  refine hK _ _ rfl ?_; clear hK K hn
  refine wpSq_call rfl (by kernel_rfl) fun K hK => ?_
  obtain ⟨d0, d1, d2, d3⟩ := x_b3.f4
  have f0 := x_b3.free 0; have f1 := x_b3.free 1; have f2 := x_b3.free 2; have f3 := x_b3.free 3
  go_big_op
  have hnd := x_b3.nod rfl rfl
  obtain ⟨w_5, eW, x_b3', ho⟩ : ∃ w', ((((w_4.setCell ⟨p_b3, 0, none⟩ (.bool true)).setCell ⟨p_b3, 1, none⟩ (.slice o_ga k_ga c_ga)).setCell ⟨p_b3, 2, none⟩ (.bool n_gb)).setCell ⟨p_b3, 3, none⟩ (.slice o_gb k_gb c_gb)) = w' ∧ Bs w' p_b3 #[.bool true, .slice o_ga k_ga c_ga, .bool n_gb, .slice o_gb k_gb c_gb] 26 ∧ Only p_b3 w_4 w' := x_b3.setN [(0, .bool true), (1, .slice o_ga k_ga c_ga), (2, .bool n_gb), (3, .slice o_gb k_gb c_gb)]
  rw [eW]; clear eW d0 d1 d2 d3 f0 f1 f2 f3 x_b3
  have x_b3 := x_b3'; clear x_b3'
  replace x_b2 := x_b2.frame ho ne_b2_b3; replace g1 := g1.fr hnd ho; replace g2 := g2.fr hnd ho; replace hb := belowOnly hb ho kb_b3
  refine hK _ _ rfl ?_; clear hK K ho hnd
  apply wpSq_end
  refine hK2 _ _ ?_
  refine wp_seq_k ?_
  intro K3 hK3
  refine wp_region_sq [0, 1, 2, 3, 4] (by kernel_rfl) ?_
  refine wpSq_call rfl (by kernel_rfl) fun K hK => ?_
  go_big_op; refine hK _ _ rfl ?_; clear hK K
  refine wpSq_call rfl (by kernel_rfl) fun K hK => ?_
  go_big_op; refine hK _ _ rfl ?_; clear hK K
  refine wpSq_call rfl (by kernel_rfl) fun K hK => ?_
  obtain ⟨d0, d1, d2, d3⟩ := x_b3.f4
  go_big_op; refine hK _ _ rfl ?_; clear hK K d0 d1 d2 d3
  refine wpSq_call rfl (by kernel_rfl) fun K hK => ?_
  go_big_op
  go_fit (rbits_rd' g1.mag (Nat.le_trans Lg1.out (by omega)))
  rintro e w_6 ⟨rfl, hb_6⟩
  replace x_b2 := x_b2.bl hb_6; replace g1 := g1.bl hb_6; replace g2 := g2.bl hb_6; replace x_b3 := x_b3.bl hb_6; replace hb := hb.trans (hb_6.mono hb.size)
  rw [val_dig, Hb.out]
  refine hK _ _ rfl ?_
  clear hK K hb_6
  refine wpSq_call rfl (by kernel_rfl) fun K hK => ?_
  go_big_move; refine hK _ _ rfl ?_; clear hK K
  apply wpSq_end
  refine hK3 _ _ ?_
  refine wp_seq_k ?_
  intro K4 hK4
  refine wp_region_sq [0, 1, 2, 3, 4] (by kernel_rfl) ?_
  refine wpSq_call rfl (by kernel_rfl) fun K hK => ?_
  go_big_op; refine hK _ _ rfl ?_; clear hK K
  refine wpSq_call rfl (by kernel_rfl) fun K hK => ?_
  go_big_op; refine hK _ _ rfl ?_; clear hK K
  refine wpSq_call rfl (by kernel_rfl) fun K hK => ?_
  obtain ⟨d0, d1, d2, d3⟩ := x_b3.f4
  go_big_op; refine hK _ _ rfl ?_; clear hK K d0 d1 d2 d3
  refine wpSq_call rfl (by kernel_rfl) fun K hK => ?_
  go_big_op
  go_fit (rbits_rd' g2.mag (Nat.le_trans Lg2.out (by omega)))
  rintro e w_7 ⟨rfl, hb_7⟩
  replace x_b2 := x_b2.bl hb_7; replace g1 := g1.bl hb_7; replace g2 := g2.bl hb_7; replace x_b3 := x_b3.bl hb_7; replace hb := hb.trans (hb_7.mono hb.size)
  rw [val_dig, Hc.out]
  refine hK _ _ rfl ?_
  clear hK K hb_7
  refine wpSq_call rfl (by kernel_rfl) fun K hK => ?_
  go_big_move; refine hK _ _ rfl ?_; clear hK K
  apply wpSq_end
  refine hK4 _ _ ?_
  refine wp_seq_k ?_
  intro K5 hK5
  refine wp_seq_k ?_
  intro K6 hK6
  refine wp_region_sq [0, 1, 2, 3, 4, 5, 6, 7, 8, 9, 10, 11, 12, 13, 14, 15, 16, 17] (by kernel_rfl) ?_
  refine wpSq_call rfl (by kernel_rfl) fun K hK => ?_
  go_big_move; refine hK _ _ rfl ?_; clear hK K
  refine wpSq_call rfl (by kernel_rfl) fun K hK => ?_
  go_big_op; refine hK _ _ rfl ?_; clear hK K
  refine wpSq_call rfl (by kernel_rfl) fun K hK => ?_
  go_big_move; refine hK _ _ rfl ?_; clear hK K
  apply wpSq_skip
  case hi => rfl
  case hw => kernel_rfl
  case hp => unfold Act.put; simp only [List.setIfInBounds_toArray, List.set_cons_succ, List.set_cons_zero]; rfl
  apply wpSq_skip
  case hi => rfl
  case hw => kernel_rfl
  case hp => unfold Act.put; simp only [List.setIfInBounds_toArray, List.set_cons_succ, List.set_cons_zero]; rfl
  apply wpSq_skip
  case hi => rfl
  case hw => kernel_rfl
  case hp => unfold Act.put; simp only [List.setIfInBounds_toArray, List.set_cons_succ, List.set_cons_zero]; rfl
  apply wpSq_skip
  case hi => rfl
  case hw => kernel_rfl
  case hp => unfold Act.put; simp only [List.setIfInBounds_toArray, List.set_cons_succ, List.set_cons_zero]; rfl
  refine wpSq_call rfl (by kernel_rfl) fun K hK => ?_
  go_big_op; refine hK _ _ rfl ?_; clear hK K
  refine wpSq_call rfl (by kernel_rfl) fun K hK => ?_
  go_big_move; refine hK _ _ rfl ?_; clear hK K
  refine wpSq_call rfl (by kernel_rfl) fun K hK => ?_
  go_big_move; refine hK _ _ rfl ?_; clear hK K
  refine wpSq_call rfl (by kernel_rfl) fun K hK => ?_
  go_big_op; refine hK _ _ rfl ?_; clear hK K
  refine wpSq_call rfl (by kernel_rfl) fun K hK => ?_
  go_big_move; refine hK _ _ rfl ?_; clear hK K
  refine wpSq_call rfl (by kernel_rfl) fun K hK => ?_
  go_big_move; refine hK _ _ rfl ?_; clear hK K
  refine wpSq_call rfl (by kernel_rfl) fun K hK => ?_
  go_big_move; refine hK _ _ rfl ?_; clear hK K
  refine wpSq_call rfl (by kernel_rfl) fun K hK => ?_
  go_big_op; refine hK _ _ rfl ?_; clear hK K
  refine wpSq_call rfl (by kernel_rfl) fun K hK => ?_
  go_big_op; refine hK _ _ rfl ?_; clear hK K
  refine wpSq_call rfl (by kernel_rfl) fun K hK => ?_
  go_big_op; refine hK _ _ rfl ?_; clear hK K
  refine wpSq_call rfl (by kernel_rfl) fun K hK => ?_
  go_big_op; refine hK _ _ rfl ?_; clear hK K
  apply wpSq_end
  refine hK6 _ _ ?_
  refine wp_cond_false (congrArg Value.bool (show _ = false from (by first | rfl | assumption | (simp; done) | exact decide_eq_false (by omega) | omega))) ?_
  refine wp_skip ?_
  refine hK5 _ _ ?_
  refine wp_seq_k ?_
  intro K7 hK7
  refine wp_region_sq [0, 1, 2, 3, 4, 5, 6, 7, 8, 9, 10, 11, 12, 13, 14, 15] (by kernel_rfl) ?_
  refine wpSq_call rfl (by kernel_rfl) fun K hK => ?_
  go_big_op; refine hK _ _ rfl ?_; clear hK K
  refine wpSq_call rfl (by kernel_rfl) fun K hK => ?_
  go_big_op; refine hK _ _ rfl ?_; clear hK K
  refine wpSq_call rfl (by kernel_rfl) fun K hK => ?_
  obtain ⟨d0, d1, d2, d3⟩ := x_b3.f4
  go_big_op; refine hK _ _ rfl ?_; clear hK K d0 d1 d2 d3
  refine wpSq_call rfl (by kernel_rfl) fun K hK => ?_
  go_big_move; refine hK _ _ rfl ?_; clear hK K
  refine wpSq_call rfl (by kernel_rfl) fun K hK => ?_
  go_big_move; refine hK _ _ rfl ?_; clear hK K
  refine wpSq_call rfl (by kernel_rfl) fun K hK => ?_
  go_big_op; refine hK _ _ rfl ?_; clear hK K
  refine wpSq_call rfl (by kernel_rfl) fun K hK => ?_
  go_big_op; refine hK _ _ rfl ?_; clear hK K
  refine wpSq_call rfl (by kernel_rfl) fun K hK => ?_
  go_big_op; refine hK _ _ rfl ?_; clear hK K
  refine wpSq_call rfl (by kernel_rfl) fun K hK => ?_
  go_big_op; refine hK _ _ rfl ?_; clear hK K
  refine wpSq_call rfl (by kernel_rfl) fun K hK => ?_
  go_big_op; refine hK _ _ rfl ?_; clear hK K
  refine wpSq_call rfl (by kernel_rfl) fun K hK => ?_
  obtain ⟨d0, d1, d2, d3⟩ := x_b3.f4
  go_big_op; refine hK _ _ rfl ?_; clear hK K d0 d1 d2 d3
  refine wpSq_call rfl (by kernel_rfl) fun K hK => ?_
  go_big_move; refine hK _ _ rfl ?_; clear hK K
  refine wpSq_call rfl (by kernel_rfl) fun K hK => ?_
  go_big_op
  go_fit (rpow_rd N g1.mag (Nat.le_trans Lg1.out (by omega)) hN (by rw [val_dig]; exact L1.out))
  rintro e w_8 ⟨r1, rfl, hr1, hb_8⟩
  replace x_b2 := x_b2.bl hb_8; replace g1 := g1.bl hb_8; replace g2 := g2.bl hb_8; replace x_b3 := x_b3.bl hb_8; replace hb := hb.trans (hb_8.mono hb.size)
  rw [val_dig] at hr1
  refine hK _ _ rfl ?_
  clear hK K hb_8
  refine wpSq_call rfl (by kernel_rfl) fun K hK => ?_
  go_big_op
  go_fit (make_any false (qN x y ^ N) hr1 (Nat.le_trans L1.out (by decide)) (by rw [val_dig, if_neg Bool.false_ne_true]; exact EN.out))
  rintro e w_9 ⟨v_g3, rfl, g3, hb_9⟩
  replace x_b2 := x_b2.bl hb_9; replace g1 := g1.bl hb_9; replace g2 := g2.bl hb_9; replace x_b3 := x_b3.bl hb_9; replace hr1 := hr1.bl hb_9; replace hb := hb.trans (hb_9.mono hb.size)
  replace g3 := g3.rd
  obtain ⟨n_g3, o_g3, k_g3, c_g3, rfl⟩ := g3.open2
  refine hK _ _ rfl ?_
  clear hK K hb_9
  refine wpSq_call rfl (by kernel_rfl) fun K hK => ?_
  go_big_op
  clear hr1
  have lt_b2 := x_b2.lt
  have lt_b3 := x_b3.lt
  obtain ⟨p_b4, w_10, eP, eW, x_b4, hn, kb_b4⟩ := newBox w_9 #[.bool false, .slice none 0 0] 24 hb.size
  have ne_b2_b4 : Hid (p_b2 ≠ p_b4) := Nat.ne_of_lt (eP ▸ lt_b2)
  have ne_b3_b4 : Hid (p_b3 ≠ p_b4) := Nat.ne_of_lt (eP ▸ lt_b3)
  rw [eW, eP]
  clear eW eP lt_b2 lt_b3
  replace x_b2 := x_b2.bl hn; replace g1 := g1.bl hn; replace g2 := g2.bl hn; replace x_b3 := x_b3.bl hn; replace g3 := g3.bl hn; replace hb := hb.trans (hn.mono hb.size)
  refine hK _ _ rfl ?_; clear hK K hn
  refine wpSq_call rfl (by kernel_rfl) fun K hK => ?_
  obtain ⟨d0, d1⟩ := x_b4.f2
  have f0 := x_b4.free 0; have f1 := x_b4.free 1
  go_big_op
  have hnd := x_b4.nod rfl rfl
  obtain ⟨w_11, eW, x_b4', ho⟩ : ∃ w', ((w_10.setCell ⟨p_b4, 0, none⟩ (.bool n_g3)).setCell ⟨p_b4, 1, none⟩ (.slice o_g3 k_g3 c_g3)) = w' ∧ Bs w' p_b4 #[.bool n_g3, .slice o_g3 k_g3 c_g3] 24 ∧ Only p_b4 w_10 w' := x_b4.setN [(0, .bool n_g3), (1, .slice o_g3 k_g3 c_g3)]
  rw [eW]; clear eW d0 d1 f0 f1 x_b4
  have x_b4 := x_b4'; clear x_b4'
  replace x_b2 := x_b2.frame ho ne_b2_b4; replace g1 := g1.fr hnd ho; replace g2 := g2.fr hnd ho; replace x_b3 := x_b3.frame ho ne_b3_b4; replace g3 := g3.fr hnd ho; replace hb := belowOnly hb ho kb_b4
  refine hK _ _ rfl ?_; clear hK K ho hnd
  apply wpSq_end
  refine hK7 _ _ ?_
  refine wp_seq_k ?_
  intro K8 hK8
  refine wp_region_fl2 [(0, false), (1, false), (2, false), (3, false), (4, false), (5, true), (6, true), (7, false)] [8, 9] [] (fun _ => default) [0, 99, 99, 1, 99, 99, 99, 99, 99, 99] [] (fun w' => w'.cell? ⟨p_b4, 0, none⟩ = some (.bool n_g3) ∧ w'.cell? ⟨p_b4, 1, none⟩ = some (.slice o_g3 k_g3 c_g3) ∧ w'.cell? ⟨p_b3, 0, none⟩ = some (.bool true) ∧ w'.cell? ⟨p_b3, 1, none⟩ = some (.slice o_ga k_ga c_ga) ∧ w'.cell? ⟨p_b3, 2, none⟩ = some (.bool n_gb) ∧ w'.cell? ⟨p_b3, 3, none⟩ = some (.slice o_gb k_gb c_gb)) [fun w' => w'.cell? ⟨p_b4, 0, none⟩ = some (.bool n_g3) ∧ w'.cell? ⟨p_b4, 1, none⟩ = some (.slice o_g3 k_g3 c_g3), fun w' => w'.cell? ⟨p_b3, 0, none⟩ = some (.bool true) ∧ w'.cell? ⟨p_b3, 1, none⟩ = some (.slice o_ga k_ga c_ga) ∧ w'.cell? ⟨p_b3, 2, none⟩ = some (.bool n_gb) ∧ w'.cell? ⟨p_b3, 3, none⟩ = some (.slice o_gb k_gb c_gb)] (by kernel_rfl) (by kernel_rfl) (by kernel_rfl) (by kernel_rfl) (by kernel_rfl) (by kernel_rfl) (by kernel_rfl) (by kernel_rfl) (by decide) (by intro j hj; cases hj) (by intro w' o hC; obtain ⟨c0, c1, c2, c3, c4, c5⟩ := hC; exact ⟨cell_alloc c0 o, cell_alloc c1 o, cell_alloc c2 o, cell_alloc c3 o, cell_alloc c4 o, cell_alloc c5 o⟩) (by intro w' hC G hG; obtain ⟨c0, c1, c2, c3, c4, c5⟩ := hC; simp only [List.mem_cons, List.not_mem_nil, or_false] at hG; rcases hG with rfl | rfl <;> first | exact ⟨c0, c1⟩ | exact ⟨c2, c3, c4, c5⟩) ?_
  have lt_b2 := x_b2.lt
  have lt_b3 := x_b3.lt
  have lt_b4 := x_b4.lt
  intro w_12 hn
  replace lt_b2 := Nat.lt_of_lt_of_le lt_b2 hn.size
  replace lt_b3 := Nat.lt_of_lt_of_le lt_b3 hn.size
  replace lt_b4 := Nat.lt_of_lt_of_le lt_b4 hn.size
  replace x_b2 := x_b2.bl hn; replace g1 := g1.bl hn; replace g2 := g2.bl hn; replace x_b3 := x_b3.bl hn; replace g3 := g3.bl hn; replace x_b4 := x_b4.bl hn; replace hb := hb.trans (hn.mono hb.size)
  clear hn
  have kb0 := hb.size
  refine ⟨⟨x_b4.cell 0 rfl, x_b4.cell 1 rfl, x_b3.cell 0 rfl, x_b3.cell 1 rfl, x_b3.cell 2 rfl, x_b3.cell 3 rfl⟩, ?_⟩
  apply wpFl_ld rfl rfl; (case h1 => intro w' hC K hK; obtain ⟨c0, c1⟩ := hC; go_big_op; exact hK); iterate 4 kernel_rfl
  apply wpFl_ld rfl rfl; (case h1 => intro w' hC K hK; go_big_op; exact hK); iterate 4 kernel_rfl
  apply wpFl_ld rfl rfl; (case h1 => intro w' hC K hK; go_big_op; exact hK); iterate 4 kernel_rfl
  apply wpFl_ld rfl rfl; (case h1 => intro w' hC K hK; obtain ⟨c0, c1, c2, c3⟩ := hC; go_big_op; exact hK); iterate 4 kernel_rfl
  apply wpFl_ld rfl rfl; (case h1 => intro w' hC K hK; go_big_move; exact hK); iterate 4 kernel_rfl
  refine wpFl_call rfl (by kernel_rfl) fun w_13 hn hC => ?_; clear hC
  replace x_b2 := x_b2.bl hn; replace g1 := g1.bl hn; replace g2 := g2.bl hn; replace x_b3 := x_b3.bl hn; replace g3 := g3.bl hn; replace x_b4 := x_b4.bl hn; replace hb := hb.trans (hn.mono hb.size)
  clear hn; intro K hK
  go_big_op
  go_fit (rpow_rd N g2.mag (Nat.le_trans Lg2.out (by omega)) hN (by rw [val_dig]; exact L2.out))
  rintro e w_14 ⟨r2, rfl, hr2, hb_14⟩
  replace x_b2 := x_b2.bl hb_14; replace g1 := g1.bl hb_14; replace g2 := g2.bl hb_14; replace x_b3 := x_b3.bl hb_14; replace g3 := g3.bl hb_14; replace x_b4 := x_b4.bl hb_14; replace hb := hb.trans (hb_14.mono hb.size)
  rw [val_dig] at hr2
  refine hK _ _ rfl hb_14 ⟨x_b4.cell 0 rfl, x_b4.cell 1 rfl, x_b3.cell 0 rfl, x_b3.cell 1 rfl, x_b3.cell 2 rfl, x_b3.cell 3 rfl⟩ ?_
  clear hK K hb_14
  refine wpFl_call rfl (by kernel_rfl) fun w_15 hn hC => ?_; clear hC
  replace x_b2 := x_b2.bl hn; replace g1 := g1.bl hn; replace g2 := g2.bl hn; replace x_b3 := x_b3.bl hn; replace g3 := g3.bl hn; replace x_b4 := x_b4.bl hn; replace hr2 := hr2.bl hn; replace hb := hb.trans (hn.mono hb.size)
  clear hn; intro K hK
  go_big_op
  go_fit (make_any false (qD x y ^ N) hr2 (Nat.le_trans L2.out (by decide)) (by rw [val_dig, if_neg Bool.false_ne_true]; exact ED.out))
  rintro e w_16 ⟨v_g4, rfl, g4, hb_16⟩
  replace x_b2 := x_b2.bl hb_16; replace g1 := g1.bl hb_16; replace g2 := g2.bl hb_16; replace x_b3 := x_b3.bl hb_16; replace g3 := g3.bl hb_16; replace x_b4 := x_b4.bl hb_16; replace hr2 := hr2.bl hb_16; replace hb := hb.trans (hb_16.mono hb.size)
  replace g4 := g4.rd
  obtain ⟨n_g4, o_g4, k_g4, c_g4, rfl⟩ := g4.open2
  refine hK _ _ rfl hb_16 ⟨x_b4.cell 0 rfl, x_b4.cell 1 rfl, x_b3.cell 0 rfl, x_b3.cell 1 rfl, x_b3.cell 2 rfl, x_b3.cell 3 rfl⟩ ?_
  clear hK K hb_16
  apply wpFl_ld rfl rfl; (case h1 => intro w' hC K hK; go_big_op; exact hK); iterate 4 kernel_rfl
  apply wpFl_end
  case ha => intro pt; simp only [putF]; rfl
  case h =>
  intro w_17 pt hn hC hF hD
  clear hC
  clear hr2
  replace x_b2 := x_b2.bl hn; replace g1 := g1.bl hn; replace g2 := g2.bl hn; replace x_b3 := x_b3.bl hn; replace g3 := g3.bl hn; replace x_b4 := x_b4.bl hn; replace g4 := g4.bl hn; replace hb := hb.trans (hn.mono hb.size)
  clear hn
  clear hF hD
  clear pt
  clear kb0 lt_b2 lt_b3 lt_b4
  refine wpTail_call rfl (by kernel_rfl) fun K hK => ?_
  obtain ⟨d0, d1, d2, d3⟩ := x_b2.f4
  have f0 := x_b2.free 0; have f1 := x_b2.free 1; have f2 := x_b2.free 2; have f3 := x_b2.free 3
  go_big_op
  have hnd := x_b2.nod rfl rfl
  obtain ⟨w_18, eW, x_b2', ho⟩ : ∃ w', ((((w_17.setCell ⟨p_b2, 0, none⟩ (.bool n_g3)).setCell ⟨p_b2, 1, none⟩ (.slice o_g3 k_g3 c_g3)).setCell ⟨p_b2, 2, none⟩ (.bool n_g4)).setCell ⟨p_b2, 3, none⟩ (.slice o_g4 k_g4 c_g4)) = w' ∧ Bs w' p_b2 #[.bool n_g3, .slice o_g3 k_g3 c_g3, .bool n_g4, .slice o_g4 k_g4 c_g4] 26 ∧ Only p_b2 w_17 w' := x_b2.setN [(0, .bool n_g3), (1, .slice o_g3 k_g3 c_g3), (2, .bool n_g4), (3, .slice o_g4 k_g4 c_g4)]
  rw [eW]; clear eW d0 d1 d2 d3 f0 f1 f2 f3 x_b2
  have x_b2 := x_b2'; clear x_b2'
  replace g1 := g1.fr hnd ho; replace g2 := g2.fr hnd ho; replace x_b3 := x_b3.frame ho ne_b2_b3.symm; replace g3 := g3.fr hnd ho; replace x_b4 := x_b4.frame ho ne_b2_b4.symm; replace g4 := g4.fr hnd ho; replace hb := belowOnly hb ho kb_b2
  refine hK _ _ rfl (And.intro ⟨x_b4.cell 0 rfl, x_b4.cell 1 rfl⟩ (And.intro ⟨x_b3.cell 0 rfl, x_b3.cell 1 rfl, x_b3.cell 2 rfl, x_b3.cell 3 rfl⟩ True.intro)) ?_; clear hK K ho hnd
  refine wpTail_call rfl (by kernel_rfl) fun K hK => ?_
  go_big_move; refine hK _ _ rfl (And.intro ⟨x_b4.cell 0 rfl, x_b4.cell 1 rfl⟩ (And.intro ⟨x_b3.cell 0 rfl, x_b3.cell 1 rfl, x_b3.cell 2 rfl, x_b3.cell 3 rfl⟩ True.intro)) ?_; clear hK K
  apply wpTail_end
  refine hK8 _ _ ?_
  refine wp_ret ?_
  try dsimp only [Exit.then, Exit.inBlock]
  obtain ⟨r0_0, r0_1, r0_2, r0_3⟩ := x_b2.f4
  refine bodyPost_ret (v := (.tuple #[(.agg #[.bool n_g3, .slice o_g3 k_g3 c_g3, .bool n_g4, .slice o_g4 k_g4 c_g4]), (.bool true)])) (by simp [results, Tryz.results47, go_sem, r0_0, r0_1, r0_2, r0_3]) rfl ?_
  exact ⟨_, rfl, .mk' g3 g4, hb⟩
set_option maxHeartbeats 8000000 in
set_option maxRecDepth 20000 in
theorem rPow_sb_pos (N : Nat) (ha : PN w va x l y m) (hl : l ≤ 1048576) (hm : m ≤ 1048576) (h0 : y ≠ 0) (hN : N ≤ 9223372036854775807) (h1 : bitsN (qN x y).natAbs ≤ 1) (h2 : 1 < bitsN (qD x y).natAbs ∧ N ≤ 65536 / bitsN (qD x y).natAbs) (hs : 0 ≤ qN x y) (l1 : (dig ((qN x y).natAbs ^ N)).length ≤ 1048576) (l2 : (dig ((qD x y).natAbs ^ N)).length ≤ 1048576) :
    Calls Tryz.prog 47 #[va, .int .i64 N] w fun e w' => ∃ r, e = .returned (.tuple #[r, .bool true]) ∧ PC w' r (qN x y ^ N) (qD x y ^ N) ∧ Below w.heap.size w w' := by
  have H0 := hide h0
  have ED := hide (show (((qD x y).natAbs ^ N : Nat) : Int) = qD x y ^ N from pow_pos' (Int.le_of_lt (qD_pos (x := x) h0)))
  have EN := hide (pow_pos' (N := N) hs)
  have HSG := hide (show decide (qN x y < 0) = false from decide_eq_false (by omega))
  have L1 := hide l1
  have L2 := hide l2
  clear h0 hs l1 l2
  obtain ⟨b, hb⟩ : ∃ b, bitsN (qN x y).natAbs = b := ⟨_, rfl⟩
  rw [hb] at h1
  have Hb := hide hb
  have hgb : (1 < (b : Int)) = False := eq_false (by omega)
  clear hb h1
  obtain ⟨c, hc⟩ : ∃ c, bitsN (qD x y).natAbs = c := ⟨_, rfl⟩
  rw [hc] at h2
  have Hc := hide hc
  obtain ⟨hgc, h0c⟩ := q_gt h2.1
  have hdc : ((65536 : Int) / (c : Int)) = ((65536 / c : Nat) : Int) := rfl
  have hddc : Int.tdiv 65536 (c : Int) = ((65536 / c : Nat) : Int) := rfl
  have hq65c : 65536 / c ≤ 65536 := Nat.div_le_self _ _
  generalize 65536 / c = qc at *
  have hwc := q_wrap hq65c
  have hqbc := q_no h2.2
  clear hc h2
  obtain ⟨n_0a, o_0a, k_0a, c_0a, n_0b, o_0b, k_0b, c_0b, rfl, ha1, ha2⟩ := ha
  go_enter Tryz.func47, Tryz.ntmps47
  have hb := Below.refl w.heap.size w
  refine wp_seq_k ?_
  intro K1 hK1
  refine wp_region_sq [0, 1, 2] (by kernel_rfl) ?_
  refine wpSq_call rfl (by kernel_rfl) fun K hK => ?_
  go_big_op
  obtain ⟨p_b1, w_1, eP, eW, x_b1, hn, kb_b1⟩ := newBox w #[.bool n_0a, .slice o_0a k_0a c_0a, .bool n_0b, .slice o_0b k_0b c_0b] 26 hb.size
  rw [eW, eP]
  clear eW eP
  replace ha1 := ha1.bl hn; replace ha2 := ha2.bl hn; replace hb := hb.trans (hn.mono hb.size)
  refine hK _ _ rfl ?_; clear hK K hn
  refine wpSq_call rfl (by kernel_rfl) fun K hK => ?_
  go_big_op
  have lt_b1 := x_b1.lt
  obtain ⟨p_b2, w_2, eP, eW, x_b2, hn, kb_b2⟩ := newBox w_1 #[.bool false, .slice none 0 0, .bool false, .slice none 0 0] 26 hb.size
  have ne_b1_b2 : Hid (p_b1 ≠ p_b2) := Nat.ne_of_lt (eP ▸ lt_b1)
  rw [eW, eP]
  clear eW eP lt_b1
  replace ha1 := ha1.bl hn; replace ha2 := ha2.bl hn; replace x_b1 := x_b1.bl hn; replace hb := hb.trans (hn.mono hb.size)
  refine hK _ _ rfl ?_; clear hK K hn
  refine wpSq_call rfl (by kernel_rfl) fun K hK => ?_
  go_big_move; refine hK _ _ rfl ?_; clear hK K
  apply wpSq_end
  refine hK1 _ _ ?_
  refine wp_seq_k ?_
  intro K2 hK2
  refine wp_region_sq [0, 1, 2, 3] (by kernel_rfl) ?_
  refine wpSq_call rfl (by kernel_rfl) fun K hK => ?_
  obtain ⟨d0, d1, d2, d3⟩ := x_b1.f4
  go_big_op; refine hK _ _ rfl ?_; clear hK K d0 d1 d2 d3
  refine wpSq_call rfl (by kernel_rfl) fun K hK => ?_
  go_big_op
  go_fit (rfnorm_any (PN.mk' ha1 ha2) (by omega) (by omega) H0.out)
  rintro e w_3 ⟨_, rfl, ⟨n_ga, o_ga, k_ga, c_ga, n_gb, o_gb, k_gb, c_gb, rfl, g1, g2⟩, hb_3⟩
  clear x_b1
  replace ha1 := ha1.bl hb_3; replace ha2 := ha2.bl hb_3; replace x_b2 := x_b2.bl hb_3; replace hb := hb.trans (hb_3.mono hb.size)
  have Lg1 := hide (g1.lenOf (qN_len (H0.out) (ha1.len)))
  have Lg2 := hide (g2.lenOf (qD_len (H0.out) (ha2.len)))
  have en := g1.neg.trans HSG.out
  subst en
  refine hK _ _ rfl ?_
  clear hK K hb_3
  refine wpSq_call rfl (by kernel_rfl) fun K hK => ?_
  go_big_op
  clear ha1 ha2
  have lt_b2 := x_b2.lt
  obtain ⟨p_b3, w_4, eP, eW, x_b3, hn, kb_b3⟩ := newBox w_3 #[.bool false, .slice none 0 0, .bool false, .slice none 0 0] 26 hb.size
  have ne_b2_b3 : Hid (p_b2 ≠ p_b3) := Nat.ne_of_lt (eP ▸ lt_b2)
  rw [eW, eP]
  clear eW eP lt_b2
  replace x_b2 := x_b2.bl hn; replace g1 := g1.bl hn; replace g2 := g2.bl hn; replace hb := hb.trans (hn.mono hb.size)
  refine hK _ _ rfl ?_; clear hK K hn
  refine wpSq_call rfl (by kernel_rfl) fun K hK => ?_
  obtain ⟨d0, d1, d2, d3⟩ := x_b3.f4
  have f0 := x_b3.free 0; have f1 := x_b3.free 1; have f2 := x_b3.free 2; have f3 := x_b3.free 3
  go_big_op
  have hnd := x_b3.nod rfl rfl
  obtain ⟨w_5, eW, x_b3', ho⟩ : ∃ w', ((((w_4.setCell ⟨p_b3, 0, none⟩ (.bool false)).setCell ⟨p_b3, 1, none⟩ (.slice o_ga k_ga c_ga)).setCell ⟨p_b3, 2, none⟩ (.bool n_gb)).setCell ⟨p_b3, 3, none⟩ (.slice o_gb k_gb c_gb)) = w' ∧ Bs w' p_b3 #[.bool false, .slice o_ga k_ga c_ga, .bool n_gb, .slice o_gb k_gb c_gb] 26 ∧ Only p_b3 w_4 w' := x_b3.setN [(0, .bool false), (1, .slice o_ga k_ga c_ga), (2, .bool n_gb), (3, .slice o_gb k_gb c_gb)]
  rw [eW]; clear eW d0 d1 d2 d3 f0 f1 f2 f3 x_b3
  have x_b3 := x_b3'; clear x_b3'
  replace x_b2 := x_b2.frame ho ne_b2_b3; replace g1 := g1.fr hnd ho; replace g2 := g2.fr hnd ho; replace hb := belowOnly hb ho kb_b3
  refine hK _ _ rfl ?_; clear hK K ho hnd
  apply wpSq_end
  refine hK2 _ _ ?_
  refine wp_seq_k ?_
  intro K3 hK3
  refine wp_region_sq [0, 1, 2, 3, 4] (by kernel_rfl) ?_
  refine wpSq_call rfl (by kernel_rfl) fun K hK => ?_
  go_big_op; refine hK _ _ rfl ?_; clear hK K
  refine wpSq_call rfl (by kernel_rfl) fun K hK => ?_
  go_big_op; refine hK _ _ rfl ?_; clear hK K
  refine wpSq_call rfl (by kernel_rfl) fun K hK => ?_
  obtain ⟨d0, d1, d2, d3⟩ := x_b3.f4
  go_big_op; refine hK _ _ rfl ?_; clear hK K d0 d1 d2 d3
  refine wpSq_call rfl (by kernel_rfl) fun K hK => ?_
  go_big_op
  go_fit (rbits_rd' g1.mag (Nat.le_trans Lg1.out (by omega)))
  rintro e w_6 ⟨rfl, hb_6⟩
  replace x_b2 := x_b2.bl hb_6; replace g1 := g1.bl hb_6; replace g2 := g2.bl hb_6; replace x_b3 := x_b3.bl hb_6; replace hb := hb.trans (hb_6.mono hb.size)
  rw [val_dig, Hb.out]
  refine hK _ _ rfl ?_
  clear hK K hb_6
  refine wpSq_call rfl (by kernel_rfl) fun K hK => ?_
  go_big_move; refine hK _ _ rfl ?_; clear hK K
  apply wpSq_end
  refine hK3 _ _ ?_
  refine wp_seq_k ?_
  intro K4 hK4
  refine wp_region_sq [0, 1, 2, 3, 4] (by kernel_rfl) ?_
  refine wpSq_call rfl (by kernel_rfl) fun K hK => ?_
  go_big_op; refine hK _ _ rfl ?_; clear hK K
  refine wpSq_call rfl (by kernel_rfl) fun K hK => ?_
  go_big_op; refine hK _ _ rfl ?_; clear hK K
  refine wpSq_call rfl (by kernel_rfl) fun K hK => ?_
  obtain ⟨d0, d1, d2, d3⟩ := x_b3.f4
  go_big_op; refine hK _ _ rfl ?_; clear hK K d0 d1 d2 d3
  refine wpSq_call rfl (by kernel_rfl) fun K hK => ?_
  go_big_op
  go_fit (rbits_rd' g2.mag (Nat.le_trans Lg2.out (by omega)))
  rintro e w_7 ⟨rfl, hb_7⟩
  replace x_b2 := x_b2.bl hb_7; replace g1 := g1.bl hb_7; replace g2 := g2.bl hb_7; replace x_b3 := x_b3.bl hb_7; replace hb := hb.trans (hb_7.mono hb.size)
  rw [val_dig, Hc.out]
  refine hK _ _ rfl ?_
  clear hK K hb_7
  refine wpSq_call rfl (by kernel_rfl) fun K hK => ?_
  go_big_move; refine hK _ _ rfl ?_; clear hK K
  apply wpSq_end
  refine hK4 _ _ ?_
  refine wp_seq_k ?_
  intro K5 hK5
  refine wp_seq_k ?_
  intro K6 hK6
  refine wp_region_sq [0, 1, 2, 3, 4, 5, 6, 7, 8, 9, 10, 11, 12, 13, 14, 15, 16, 17] (by kernel_rfl) ?_
  refine wpSq_call rfl (by kernel_rfl) fun K hK => ?_
  go_big_move; refine hK _ _ rfl ?_; clear hK K
  refine wpSq_call rfl (by kernel_rfl) fun K hK => ?_
  go_big_op; refine hK _ _ rfl ?_; clear hK K
  refine wpSq_call rfl (by kernel_rfl) fun K hK => ?_
  go_big_move; refine hK _ _ rfl ?_; clear hK K
  apply wpSq_skip
  case hi => rfl
  case hw => kernel_rfl
  case hp => unfold Act.put; simp only [List.setIfInBounds_toArray, List.set_cons_succ, List.set_cons_zero]; rfl
  apply wpSq_skip
  case hi => rfl
  case hw => kernel_rfl
  case hp => unfold Act.put; simp only [List.setIfInBounds_toArray, List.set_cons_succ, List.set_cons_zero]; rfl
  apply wpSq_skip
  case hi => rfl
  case hw => kernel_rfl
  case hp => unfold Act.put; simp only [List.setIfInBounds_toArray, List.set_cons_succ, List.set_cons_zero]; rfl
  apply wpSq_skip
  case hi => rfl
  case hw => kernel_rfl
  case hp => unfold Act.put; simp only [List.setIfInBounds_toArray, List.set_cons_succ, List.set_cons_zero]; rfl
  refine wpSq_call rfl (by kernel_rfl) fun K hK => ?_
  go_big_op; refine hK _ _ rfl ?_; clear hK K
  refine wpSq_call rfl (by kernel_rfl) fun K hK => ?_
  go_big_move; refine hK _ _ rfl ?_; clear hK K
  refine wpSq_call rfl (by kernel_rfl) fun K hK => ?_
  go_big_move; refine hK _ _ rfl ?_; clear hK K
  refine wpSq_call rfl (by kernel_rfl) fun K hK => ?_
  go_big_op; refine hK _ _ rfl ?_; clear hK K
  refine wpSq_call rfl (by kernel_rfl) fun K hK => ?_
  go_big_move; refine hK _ _ rfl ?_; clear hK K
  refine wpSq_call rfl (by kernel_rfl) fun K hK => ?_
  go_big_move; refine hK _ _ rfl ?_; clear hK K
  refine wpSq_call rfl (by kernel_rfl) fun K hK => ?_
  go_big_move; refine hK _ _ rfl ?_; clear hK K
  refine wpSq_call rfl (by kernel_rfl) fun K hK => ?_
  go_big_op; refine hK _ _ rfl ?_; clear hK K
  refine wpSq_call rfl (by kernel_rfl) fun K hK => ?_
  go_big_op; refine hK _ _ rfl ?_; clear hK K
  refine wpSq_call rfl (by kernel_rfl) fun K hK => ?_
  go_big_op; refine hK _ _ rfl ?_; clear hK K
  refine wpSq_call rfl (by kernel_rfl) fun K hK => ?_
  go_big_op; refine hK _ _ rfl ?_; clear hK K
  apply wpSq_end
  refine hK6 _ _ ?_
  refine wp_cond_false (congrArg Value.bool (show _ = false from (by first | rfl | assumption | (simp; done) | exact decide_eq_false (by omega) | omega))) ?_
  refine wp_skip ?_
  refine hK5 _ _ ?_
  refine wp_seq_k ?_
  intro K7 hK7
  refine wp_region_sq [0, 1, 2, 3, 4, 5, 6, 7, 8, 9, 10, 11, 12, 13, 14, 15] (by kernel_rfl) ?_
  refine wpSq_call rfl (by kernel_rfl) fun K hK => ?_
  go_big_op; refine hK _ _ rfl ?_; clear hK K
  refine wpSq_call rfl (by kernel_rfl) fun K hK => ?_
  go_big_op; refine hK _ _ rfl ?_; clear hK K
  refine wpSq_call rfl (by kernel_rfl) fun K hK => ?_
  obtain ⟨d0, d1, d2, d3⟩ := x_b3.f4
  go_big_op; refine hK _ _ rfl ?_; clear hK K d0 d1 d2 d3
  refine wpSq_call rfl (by kernel_rfl) fun K hK => ?_
  go_big_move; refine hK _ _ rfl ?_; clear hK K
  apply wpSq_skip
  case hi => rfl
  case hw => kernel_rfl
  case hp => unfold Act.put; simp only [List.setIfInBounds_toArray, List.set_cons_succ, List.set_cons_zero]; rfl
  apply wpSq_skip
  case hi => rfl
  case hw => kernel_rfl
  case hp => unfold Act.put; simp only [List.setIfInBounds_toArray, List.set_cons_succ, List.set_cons_zero]; rfl
  apply wpSq_skip
  case hi => rfl
  case hw => kernel_rfl
  case hp => unfold Act.put; simp only [List.setIfInBounds_toArray, List.set_cons_succ, List.set_cons_zero]; rfl
  refine wpSq_call rfl (by kernel_rfl) fun K hK => ?_
  go_big_op; refine hK _ _ rfl ?_; clear hK K
  refine wpSq_call rfl (by kernel_rfl) fun K hK => ?_
  go_big_op; refine hK _ _ rfl ?_; clear hK K
  refine wpSq_call rfl (by kernel_rfl) fun K hK => ?_
  go_big_op; refine hK _ _ rfl ?_; clear hK K
  refine wpSq_call rfl (by kernel_rfl) fun K hK => ?_
  obtain ⟨d0, d1, d2, d3⟩ := x_b3.f4
  go_big_op; refine hK _ _ rfl ?_; clear hK K d0 d1 d2 d3
  refine wpSq_call rfl (by kernel_rfl) fun K hK => ?_
  go_big_move; refine hK _ _ rfl ?_; clear hK K
  refine wpSq_call rfl (by kernel_rfl) fun K hK => ?_
  go_big_op
  go_fit (rpow_rd N g1.mag (Nat.le_trans Lg1.out (by omega)) hN (by rw [val_dig]; exact L1.out))
  rintro e w_8 ⟨r1, rfl, hr1, hb_8⟩
  replace x_b2 := x_b2.bl hb_8; replace g1 := g1.bl hb_8; replace g2 := g2.bl hb_8; replace x_b3 := x_b3.bl hb_8; replace hb := hb.trans (hb_8.mono hb.size)
  rw [val_dig] at hr1
  refine hK _ _ rfl ?_
  clear hK K hb_8
  refine wpSq_call rfl (by kernel_rfl) fun K hK => ?_
  go_big_op
  go_fit (make_any false (qN x y ^ N) hr1 (Nat.le_trans L1.out (by decide)) (by rw [val_dig, if_neg Bool.false_ne_true]; exact EN.out))
  rintro e w_9 ⟨v_g3, rfl, g3, hb_9⟩
  replace x_b2 := x_b2.bl hb_9; replace g1 := g1.bl hb_9; replace g2 := g2.bl hb_9; replace x_b3 := x_b3.bl hb_9; replace hr1 := hr1.bl hb_9; replace hb := hb.trans (hb_9.mono hb.size)
  replace g3 := g3.rd
  obtain ⟨n_g3, o_g3, k_g3, c_g3, rfl⟩ := g3.open2
  refine hK _ _ rfl ?_
  clear hK K hb_9
  refine wpSq_call rfl (by kernel_rfl) fun K hK => ?_
  go_big_op
  clear hr1
  have lt_b2 := x_b2.lt
  have lt_b3 := x_b3.lt
  obtain ⟨p_b4, w_10, eP, eW, x_b4, hn, kb_b4⟩ := newBox w_9 #[.bool false, .slice none 0 0] 24 hb.size
  have ne_b2_b4 : Hid (p_b2 ≠ p_b4) := Nat.ne_of_lt (eP ▸ lt_b2)
  have ne_b3_b4 : Hid (p_b3 ≠ p_b4) := Nat.ne_of_lt (eP ▸ lt_b3)
  rw [eW, eP]
  clear eW eP lt_b2 lt_b3
  replace x_b2 := x_b2.bl hn; replace g1 := g1.bl hn; replace g2 := g2.bl hn; replace x_b3 := x_b3.bl hn; replace g3 := g3.bl hn; replace hb := hb.trans (hn.mono hb.size)
  refine hK _ _ rfl ?_; clear hK K hn
  refine wpSq_call rfl (by kernel_rfl) fun K hK => ?_
  obtain ⟨d0, d1⟩ := x_b4.f2
  have f0 := x_b4.free 0; have f1 := x_b4.free 1
  go_big_op
  have hnd := x_b4.nod rfl rfl
  obtain ⟨w_11, eW, x_b4', ho⟩ : ∃ w', ((w_10.setCell ⟨p_b4, 0, none⟩ (.bool n_g3)).setCell ⟨p_b4, 1, none⟩ (.slice o_g3 k_g3 c_g3)) = w' ∧ Bs w' p_b4 #[.bool n_g3, .slice o_g3 k_g3 c_g3] 24 ∧ Only p_b4 w_10 w' := x_b4.setN [(0, .bool n_g3), (1, .slice o_g3 k_g3 c_g3)]
  rw [eW]; clear eW d0 d1 f0 f1 x_b4
  have x_b4 := x_b4'; clear x_b4'
  replace x_b2 := x_b2.frame ho ne_b2_b4; replace g1 := g1.fr hnd ho; replace g2 := g2.fr hnd ho; replace x_b3 := x_b3.frame ho ne_b3_b4; replace g3 := g3.fr hnd ho; replace hb := belowOnly hb ho kb_b4
  refine hK _ _ rfl ?_; clear hK K ho hnd
  apply wpSq_end
  refine hK7 _ _ ?_
  refine wp_seq_k ?_
  intro K8 hK8
  refine wp_region_fl2 [(0, false), (1, false), (2, false), (3, false), (4, false), (5, true), (6, true), (7, false)] [8, 9] [] (fun _ => default) [0, 99, 99, 1, 99, 99, 99, 99, 99, 99] [] (fun w' => w'.cell? ⟨p_b4, 0, none⟩ = some (.bool n_g3) ∧ w'.cell? ⟨p_b4, 1, none⟩ = some (.slice o_g3 k_g3 c_g3) ∧ w'.cell? ⟨p_b3, 0, none⟩ = some (.bool false) ∧ w'.cell? ⟨p_b3, 1, none⟩ = some (.slice o_ga k_ga c_ga) ∧ w'.cell? ⟨p_b3, 2, none⟩ = some (.bool n_gb) ∧ w'.cell? ⟨p_b3, 3, none⟩ = some (.slice o_gb k_gb c_gb)) [fun w' => w'.cell? ⟨p_b4, 0, none⟩ = some (.bool n_g3) ∧ w'.cell? ⟨p_b4, 1, none⟩ = some (.slice o_g3 k_g3 c_g3), fun w' => w'.cell? ⟨p_b3, 0, none⟩ = some (.bool false) ∧ w'.cell? ⟨p_b3, 1, none⟩ = some (.slice o_ga k_ga c_ga) ∧ w'.cell? ⟨p_b3, 2, none⟩ = some (.bool n_gb) ∧ w'.cell? ⟨p_b3, 3, none⟩ = some (.slice o_gb k_gb c_gb)] (by kernel_rfl) (by kernel_rfl) (by kernel_rfl) (by kernel_rfl) (by kernel_rfl) (by kernel_rfl) (by kernel_rfl) (by kernel_rfl) (by decide) (by intro j hj; cases hj) (by intro w' o hC; obtain ⟨c0, c1, c2, c3, c4, c5⟩ := hC; exact ⟨cell_alloc c0 o, cell_alloc c1 o, cell_alloc c2 o, cell_alloc c3 o, cell_alloc c4 o, cell_alloc c5 o⟩) (by intro w' hC G hG; obtain ⟨c0, c1, c2, c3, c4, c5⟩ := hC; simp only [List.mem_cons, List.not_mem_nil, or_false] at hG; rcases hG with rfl | rfl <;> first | exact ⟨c0, c1⟩ | exact ⟨c2, c3, c4, c5⟩) ?_
  have lt_b2 := x_b2.lt
  have lt_b3 := x_b3.lt
  have lt_b4 := x_b4.lt
  intro w_12 hn
  replace lt_b2 := Nat.lt_of_lt_of_le lt_b2 hn.size
  replace lt_b3 := Nat.lt_of_lt_of_le lt_b3 hn.size
  replace lt_b4 := Nat.lt_of_lt_of_le lt_b4 hn.size
  replace x_b2 := x_b2.bl hn; replace g1 := g1.bl hn; replace g2 := g2.bl hn; replace x_b3 := x_b3.bl hn; replace g3 := g3.bl hn; replace x_b4 := x_b4.bl hn; replace hb := hb.trans (hn.mono hb.size)
  clear hn
  have kb0 := hb.size
  refine ⟨⟨x_b4.cell 0 rfl, x_b4.cell 1 rfl, x_b3.cell 0 rfl, x_b3.cell 1 rfl, x_b3.cell 2 rfl, x_b3.cell 3 rfl⟩, ?_⟩
  apply wpFl_ld rfl rfl; (case h1 => intro w' hC K hK; obtain ⟨c0, c1⟩ := hC; go_big_op; exact hK); iterate 4 kernel_rfl
  apply wpFl_ld rfl rfl; (case h1 => intro w' hC K hK; go_big_op; exact hK); iterate 4 kernel_rfl
  apply wpFl_ld rfl rfl; (case h1 => intro w' hC K hK; go_big_op; exact hK); iterate 4 kernel_rfl
  apply wpFl_ld rfl rfl; (case h1 => intro w' hC K hK; obtain ⟨c0, c1, c2, c3⟩ := hC; go_big_op; exact hK); iterate 4 kernel_rfl
  apply wpFl_ld rfl rfl; (case h1 => intro w' hC K hK; go_big_move; exact hK); iterate 4 kernel_rfl
  refine wpFl_call rfl (by kernel_rfl) fun w_13 hn hC => ?_; clear hC
  replace x_b2 := x_b2.bl hn; replace g1 := g1.bl hn; replace g2 := g2.bl hn; replace x_b3 := x_b3.bl hn; replace g3 := g3.bl hn; replace x_b4 := x_b4.bl hn; replace hb := hb.trans (hn.mono hb.size)
  clear hn; intro K hK
  go_big_op
  go_fit (rpow_rd N g2.mag (Nat.le_trans Lg2.out (by omega)) hN (by rw [val_dig]; exact L2.out))
  rintro e w_14 ⟨r2, rfl, hr2, hb_14⟩
  replace x_b2 := x_b2.bl hb_14; replace g1 := g1.bl hb_14; replace g2 := g2.bl hb_14; replace x_b3 := x_b3.bl hb_14; replace g3 := g3.bl hb_14; replace x_b4 := x_b4.bl hb_14; replace hb := hb.trans (hb_14.mono hb.size)
  rw [val_dig] at hr2
  refine hK _ _ rfl hb_14 ⟨x_b4.cell 0 rfl, x_b4.cell 1 rfl, x_b3.cell 0 rfl, x_b3.cell 1 rfl, x_b3.cell 2 rfl, x_b3.cell 3 rfl⟩ ?_
  clear hK K hb_14
  refine wpFl_call rfl (by kernel_rfl) fun w_15 hn hC => ?_; clear hC
  replace x_b2 := x_b2.bl hn; replace g1 := g1.bl hn; replace g2 := g2.bl hn; replace x_b3 := x_b3.bl hn; replace g3 := g3.bl hn; replace x_b4 := x_b4.bl hn; replace hr2 := hr2.bl hn; replace hb := hb.trans (hn.mono hb.size)
  clear hn; intro K hK
  go_big_op
  go_fit (make_any false (qD x y ^ N) hr2 (Nat.le_trans L2.out (by decide)) (by rw [val_dig, if_neg Bool.false_ne_true]; exact ED.out))
  rintro e w_16 ⟨v_g4, rfl, g4, hb_16⟩
  replace x_b2 := x_b2.bl hb_16; replace g1 := g1.bl hb_16; replace g2 := g2.bl hb_16; replace x_b3 := x_b3.bl hb_16; replace g3 := g3.bl hb_16; replace x_b4 := x_b4.bl hb_16; replace hr2 := hr2.bl hb_16; replace hb := hb.trans (hb_16.mono hb.size)
  replace g4 := g4.rd
  obtain ⟨n_g4, o_g4, k_g4, c_g4, rfl⟩ := g4.open2
  refine hK _ _ rfl hb_16 ⟨x_b4.cell 0 rfl, x_b4.cell 1 rfl, x_b3.cell 0 rfl, x_b3.cell 1 rfl, x_b3.cell 2 rfl, x_b3.cell 3 rfl⟩ ?_
  clear hK K hb_16
  apply wpFl_ld rfl rfl; (case h1 => intro w' hC K hK; go_big_op; exact hK); iterate 4 kernel_rfl
  apply wpFl_end
  case ha => intro pt; simp only [putF]; rfl
  case h =>
  intro w_17 pt hn hC hF hD
  clear hC
  clear hr2
  replace x_b2 := x_b2.bl hn; replace g1 := g1.bl hn; replace g2 := g2.bl hn; replace x_b3 := x_b3.bl hn; replace g3 := g3.bl hn; replace x_b4 := x_b4.bl hn; replace g4 := g4.bl hn; replace hb := hb.trans (hn.mono hb.size)
  clear hn
  clear hF hD
  clear pt
  clear kb0 lt_b2 lt_b3 lt_b4
  refine wpTail_call rfl (by kernel_rfl) fun K hK => ?_
  obtain ⟨d0, d1, d2, d3⟩ := x_b2.f4
  have f0 := x_b2.free 0; have f1 := x_b2.free 1; have f2 := x_b2.free 2; have f3 := x_b2.free 3
  go_big_op
  have hnd := x_b2.nod rfl rfl
  obtain ⟨w_18, eW, x_b2', ho⟩ : ∃ w', ((((w_17.setCell ⟨p_b2, 0, none⟩ (.bool n_g3)).setCell ⟨p_b2, 1, none⟩ (.slice o_g3 k_g3 c_g3)).setCell ⟨p_b2, 2, none⟩ (.bool n_g4)).setCell ⟨p_b2, 3, none⟩ (.slice o_g4 k_g4 c_g4)) = w' ∧ Bs w' p_b2 #[.bool n_g3, .slice o_g3 k_g3 c_g3, .bool n_g4, .slice o_g4 k_g4 c_g4] 26 ∧ Only p_b2 w_17 w' := x_b2.setN [(0, .bool n_g3), (1, .slice o_g3 k_g3 c_g3), (2, .bool n_g4), (3, .slice o_g4 k_g4 c_g4)]
  rw [eW]; clear eW d0 d1 d2 d3 f0 f1 f2 f3 x_b2
  have x_b2 := x_b2'; clear x_b2'
  replace g1 := g1.fr hnd ho; replace g2 := g2.fr hnd ho; replace x_b3 := x_b3.frame ho ne_b2_b3.symm; replace g3 := g3.fr hnd ho; replace x_b4 := x_b4.frame ho ne_b2_b4.symm; replace g4 := g4.fr hnd ho; replace hb := belowOnly hb ho kb_b2
  refine hK _ _ rfl (And.intro ⟨x_b4.cell 0 rfl, x_b4.cell 1 rfl⟩ (And.intro ⟨x_b3.cell 0 rfl, x_b3.cell 1 rfl, x_b3.cell 2 rfl, x_b3.cell 3 rfl⟩ True.intro)) ?_; clear hK K ho hnd
  refine wpTail_call rfl (by kernel_rfl) fun K hK => ?_
  go_big_move; refine hK _ _ rfl (And.intro ⟨x_b4.cell 0 rfl, x_b4.cell 1 rfl⟩ (And.intro ⟨x_b3.cell 0 rfl, x_b3.cell 1 rfl, x_b3.cell 2 rfl, x_b3.cell 3 rfl⟩ True.intro)) ?_; clear hK K
  apply wpTail_end
  refine hK8 _ _ ?_
  refine wp_ret ?_
  try dsimp only [Exit.then, Exit.inBlock]
  obtain ⟨r0_0, r0_1, r0_2, r0_3⟩ := x_b2.f4
  refine bodyPost_ret (v := (.tuple #[(.agg #[.bool n_g3, .slice o_g3 k_g3 c_g3, .bool n_g4, .slice o_g4 k_g4 c_g4]), (.bool true)])) (by simp [results, Tryz.results47, go_sem, r0_0, r0_1, r0_2, r0_3]) rfl ?_
  exact ⟨_, rfl, .mk' g3 g4, hb⟩
end
end Go.Proofs.YtkgbfnmlpajblaaGreatDoor

/- The reference's Pow: Q12C. -/
namespace Go.Proofs.YtkgbfnmlpajblaaGreatDoor
open Go Go.RowKit Dig
set_option linter.unusedVariables false
section
variable {w : World} {va vb : Value} {x y u v : Int} {l m k n : Nat}
set_option maxHeartbeats 8000000 in
set_option maxRecDepth 20000 in
theorem rPow_bs_odd (N : Nat) (ha : PN w va x l y m) (hl : l ≤ 1048576) (hm : m ≤ 1048576) (h0 : y ≠ 0) (hN : N ≤ 9223372036854775807) (h1 : 1 < bitsN (qN x y).natAbs ∧ N ≤ 65536 / bitsN (qN x y).natAbs) (h2 : bitsN (qD x y).natAbs ≤ 1) (hs : qN x y < 0) (hN2 : N % 2 = 1) (l1 : (dig ((qN x y).natAbs ^ N)).length ≤ 1048576) (l2 : (dig ((qD x y).natAbs ^ N)).length ≤ 1048576) :
    Calls Tryz.prog 47 #[va, .int .i64 N] w fun e w' => ∃ r, e = .returned (.tuple #[r, .bool true]) ∧ PC w' r (qN x y ^ N) (qD x y ^ N) ∧ Below w.heap.size w w' := by
  have H0 := hide h0
  have ED := hide (show (((qD x y).natAbs ^ N : Nat) : Int) = qD x y ^ N from pow_pos' (Int.le_of_lt (qD_pos (x := x) h0)))
  have EN := hide (pow_odd hs hN2)
  have HSG := hide (show decide (qN x y < 0) = true from decide_eq_true hs)
  obtain ⟨hp2, hp3⟩ := mod2_odd hN2
  clear hN2
  have L1 := hide l1
  have L2 := hide l2
  clear h0 hs l1 l2
  obtain ⟨b, hb⟩ : ∃ b, bitsN (qN x y).natAbs = b := ⟨_, rfl⟩
  rw [hb] at h1
  have Hb := hide hb
  obtain ⟨hgb, h0b⟩ := q_gt h1.1
  have hdb : ((65536 : Int) / (b : Int)) = ((65536 / b : Nat) : Int) := rfl
  have hddb : Int.tdiv 65536 (b : Int) = ((65536 / b : Nat) : Int) := rfl
  have hq65b : 65536 / b ≤ 65536 := Nat.div_le_self _ _
  generalize 65536 / b = qb at *
  have hwb := q_wrap hq65b
  have hqbb := q_no h1.2
  clear hb h1
  obtain ⟨c, hc⟩ : ∃ c, bitsN (qD x y).natAbs = c := ⟨_, rfl⟩
  rw [hc] at h2
  have Hc := hide hc
  have hgc : (1 < (c : Int)) = False := eq_false (by omega)
  clear hc h2
  obtain ⟨n_0a, o_0a, k_0a, c_0a, n_0b, o_0b, k_0b, c_0b, rfl, ha1, ha2⟩ := ha
  go_enter Tryz.func47, Tryz.ntmps47
  have hb := Below.refl w.heap.size w
  refine wp_seq_k ?_
  intro K1 hK1
  refine wp_region_sq [0, 1, 2] (by kernel_rfl) ?_
  refine wpSq_call rfl (by kernel_rfl) fun K hK => ?_
  go_big_op
  obtain ⟨p_b1, w_1, eP, eW, x_b1, hn, kb_b1⟩ := newBox w #[.bool n_0a, .slice o_0a k_0a c_0a, .bool n_0b, .slice o_0b k_0b c_0b] 26 hb.size
  rw [eW, eP]
  clear eW eP
  replace ha1 := ha1.bl hn; replace ha2 := ha2.bl hn; replace hb := hb.trans (hn.mono hb.size)
  refine hK _ _ rfl ?_; clear hK K hn
  refine wpSq_call rfl (by kernel_rfl) fun K hK => ?_
  go_big_op
  have lt_b1 := x_b1.lt
  obtain ⟨p_b2, w_2, eP, eW, x_b2, hn, kb_b2⟩ := newBox w_1 #[.bool false, .slice none 0 0, .bool false, .slice none 0 0] 26 hb.size
  have ne_b1_b2 : Hid (p_b1 ≠ p_b2) := Nat.ne_of_lt (eP ▸ lt_b1)
  rw [eW, eP]
  clear eW eP lt_b1
  replace ha1 := ha1.bl hn; replace ha2 := ha2.bl hn; replace x_b1 := x_b1.bl hn; replace hb := hb.trans (hn.mono hb.size)
  refine hK _ _ rfl ?_; clear hK K hn
  refine wpSq_call rfl (by kernel_rfl) fun K hK => ?_
  go_big_move; refine hK _ _ rfl ?_; clear hK K
  apply wpSq_end
  refine hK1 _ _ ?_
  refine wp_seq_k ?_
  intro K2 hK2
  refine wp_region_sq [0, 1, 2, 3] (by kernel_rfl) ?_
  refine wpSq_call rfl (by kernel_rfl) fun K hK => ?_
  obtain ⟨d0, d1, d2, d3⟩ := x_b1.f4
  go_big_op; refine hK _ _ rfl ?_; clear hK K d0 d1 d2 d3
  refine wpSq_call rfl (by kernel_rfl) fun K hK => ?_
  go_big_op
  go_fit (rfnorm_any (PN.mk' ha1 ha2) (by omega) (by omega) H0.out)
  rintro e w_3 ⟨_, rfl, ⟨n_ga, o_ga, k_ga, c_ga, n_gb, o_gb, k_gb, c_gb, rfl, g1, g2⟩, hb_3⟩
  clear x_b1
  replace ha1 := ha1.bl hb_3; replace ha2 := ha2.bl hb_3; replace x_b2 := x_b2.bl hb_3; replace hb := hb.trans (hb_3.mono hb.size)
  have Lg1 := hide (g1.lenOf (qN_len (H0.out) (ha1.len)))
  have Lg2 := hide (g2.lenOf (qD_len (H0.out) (ha2.len)))
  have en := g1.neg.trans HSG.out
  subst en
  refine hK _ _ rfl ?_
  clear hK K hb_3
  refine wpSq_call rfl (by kernel_rfl) fun K hK => ?_
  go_big_op
  clear ha1 ha2
  have lt_b2 := x_b2.lt
  obtain ⟨p_b3, w_4, eP, eW, x_b3, hn, kb_b3⟩ := newBox w_3 #[.bool false, .slice none 0 0, .bool false, .slice none 0 0] 26 hb.size
  have ne_b2_b3 : Hid (p_b2 ≠ p_b3) := Nat.ne_of_lt (eP ▸ lt_b2)
  rw [eW, eP]
  clear eW eP lt_b2
  replace x_b2 := x_b2.bl hn; replace g1 := g1.bl hn; replace g2 := g2.bl hn; replace hb := hb.trans (hn.mono hb.size)
  refine hK _ _ rfl ?_; clear hK K hn
  refine wpSq_call rfl (by kernel_rfl) fun K hK => ?_
  obtain ⟨d0, d1, d2, d3⟩ := x_b3.f4
  have f0 := x_b3.free 0; have f1 := x_b3.free 1; have f2 := x_b3.free 2; have f3 := x_b3.free 3
  go_big_op
  have hnd := x_b3.nod rfl rfl
  obtain ⟨w_5, eW, x_b3', ho⟩ : ∃ w', ((((w_4.setCell ⟨p_b3, 0, none⟩ (.bool true)).setCell ⟨p_b3, 1, none⟩ (.slice o_ga k_ga c_ga)).setCell ⟨p_b3, 2, none⟩ (.bool n_gb)).setCell ⟨p_b3, 3, none⟩ (.slice o_gb k_gb c_gb)) = w' ∧ Bs w' p_b3 #[.bool true, .slice o_ga k_ga c_ga, .bool n_gb, .slice o_gb k_gb c_gb] 26 ∧ Only p_b3 w_4 w' := x_b3.setN [(0, .bool true), (1, .slice o_ga k_ga c_ga), (2, .bool n_gb), (3, .slice o_gb k_gb c_gb)]
  rw [eW]; clear eW d0 d1 d2 d3 f0 f1 f2 f3 x_b3
  have x_b3 := x_b3'; clear x_b3'
  replace x_b2 := x_b2.frame ho ne_b2_b3; replace g1 := g1.fr hnd ho; replace g2 := g2.fr hnd ho; replace hb := belowOnly hb ho kb_b3
  refine hK _ _ rfl ?_; clear hK K ho hnd
  apply wpSq_end
  refine hK2 _ _ ?_
  refine wp_seq_k ?_
  intro K3 hK3
  refine wp_region_sq [0, 1, 2, 3, 4] (by kernel_rfl) ?_
  refine wpSq_call rfl (by kernel_rfl) fun K hK => ?_
  go_big_op; refine hK _ _ rfl ?_; clear hK K
  refine wpSq_call rfl (by kernel_rfl) fun K hK => ?_
  go_big_op; refine hK _ _ rfl ?_; clear hK K
  refine wpSq_call rfl (by kernel_rfl) fun K hK => ?_
  obtain ⟨d0, d1, d2, d3⟩ := x_b3.f4
  go_big_op; refine hK _ _ rfl ?_; clear hK K d0 d1 d2 d3
  refine wpSq_call rfl (by kernel_rfl) fun K hK => ?_
  go_big_op
  go_fit (rbits_rd' g1.mag (Nat.le_trans Lg1.out (by omega)))
  rintro e w_6 ⟨rfl, hb_6⟩
  replace x_b2 := x_b2.bl hb_6; replace g1 := g1.bl hb_6; replace g2 := g2.bl hb_6; replace x_b3 := x_b3.bl hb_6; replace hb := hb.trans (hb_6.mono hb.size)
  rw [val_dig, Hb.out]
  refine hK _ _ rfl ?_
  clear hK K hb_6
  refine wpSq_call rfl (by kernel_rfl) fun K hK => ?_
  go_big_move; refine hK _ _ rfl ?_; clear hK K
  apply wpSq_end
  refine hK3 _ _ ?_
  refine wp_seq_k ?_
  intro K4 hK4
  refine wp_region_sq [0, 1, 2, 3, 4] (by kernel_rfl) ?_
  refine wpSq_call rfl (by kernel_rfl) fun K hK => ?_
  go_big_op; refine hK _ _ rfl ?_; clear hK K
  refine wpSq_call rfl (by kernel_rfl) fun K hK => ?_
  go_big_op; refine hK _ _ rfl ?_; clear hK K
  refine wpSq_call rfl (by kernel_rfl) fun K hK => ?_
  obtain ⟨d0, d1, d2, d3⟩ := x_b3.f4
  go_big_op; refine hK _ _ rfl ?_; clear hK K d0 d1 d2 d3
  refine wpSq_call rfl (by kernel_rfl) fun K hK => ?_
  go_big_op
  go_fit (rbits_rd' g2.mag (Nat.le_trans Lg2.out (by omega)))
  rintro e w_7 ⟨rfl, hb_7⟩
  replace x_b2 := x_b2.bl hb_7; replace g1 := g1.bl hb_7; replace g2 := g2.bl hb_7; replace x_b3 := x_b3.bl hb_7; replace hb := hb.trans (hb_7.mono hb.size)
  rw [val_dig, Hc.out]
  refine hK _ _ rfl ?_
  clear hK K hb_7
  refine wpSq_call rfl (by kernel_rfl) fun K hK => ?_
  go_big_move; refine hK _ _ rfl ?_; clear hK K
  apply wpSq_end
  refine hK4 _ _ ?_
  refine wp_seq_k ?_
  intro K5 hK5
  refine wp_seq_k ?_
  intro K6 hK6
  refine wp_region_sq [0, 1, 2, 3, 4, 5, 6, 7, 8, 9, 10, 11, 12, 13, 14, 15, 16, 17] (by kernel_rfl) ?_
  refine wpSq_call rfl (by kernel_rfl) fun K hK => ?_
  go_big_move; refine hK _ _ rfl ?_; clear hK K
  refine wpSq_call rfl (by kernel_rfl) fun K hK => ?_
  go_big_op; refine hK _ _ rfl ?_; clear hK K
  refine wpSq_call rfl (by kernel_rfl) fun K hK => ?_
  go_big_move; refine hK _ _ rfl ?_; clear hK K
  refine wpSq_call rfl (by kernel_rfl) fun K hK => ?_
  go_big_move; refine hK _ _ rfl ?_; clear hK K
  refine wpSq_call rfl (by kernel_rfl) fun K hK => ?_
  go_big_move; refine hK _ _ rfl ?_; clear hK K
  refine wpSq_call rfl (by kernel_rfl) fun K hK => ?_
  go_big_op; refine hK _ _ rfl ?_; clear hK K
  refine wpSq_call rfl (by kernel_rfl) fun K hK => ?_
  go_big_op; refine hK _ _ rfl ?_; clear hK K
  refine wpSq_call rfl (by kernel_rfl) fun K hK => ?_
  go_big_op; refine hK _ _ rfl ?_; clear hK K
  refine wpSq_call rfl (by kernel_rfl) fun K hK => ?_
  go_big_move; refine hK _ _ rfl ?_; clear hK K
  refine wpSq_call rfl (by kernel_rfl) fun K hK => ?_
  go_big_move; refine hK _ _ rfl ?_; clear hK K
  refine wpSq_call rfl (by kernel_rfl) fun K hK => ?_
  go_big_op; refine hK _ _ rfl ?_; clear hK K
  refine wpSq_call rfl (by kernel_rfl) fun K hK => ?_
  go_big_move; refine hK _ _ rfl ?_; clear hK K
  apply wpSq_skip
  case hi => rfl
  case hw => kernel_rfl
  case hp => unfold Act.put; simp only [List.setIfInBounds_toArray, List.set_cons_succ, List.set_cons_zero]; rfl
  apply wpSq_skip
  case hi => rfl
  case hw => kernel_rfl
  case hp => unfold Act.put; simp only [List.setIfInBounds_toArray, List.set_cons_succ, List.set_cons_zero]; rfl
  apply wpSq_skip
  case hi => rfl
  case hw => kernel_rfl
  case hp => unfold Act.put; simp only [List.setIfInBounds_toArray, List.set_cons_succ, List.set_cons_zero]; rfl
  apply wpSq_skip
  case hi => rfl
  case hw => kernel_rfl
  case hp => unfold Act.put; simp only [List.setIfInBounds_toArray, List.set_cons_succ, List.set_cons_zero]; rfl
  refine wpSq_call rfl (by kernel_rfl) fun K hK => ?_
  go_big_op; refine hK _ _ rfl ?_; clear hK K
  refine wpSq_call rfl (by kernel_rfl) fun K hK => ?_
  go_big_op; refine hK _ _ rfl ?_; clear hK K
  apply wpSq_end
  refine hK6 _ _ ?_
  refine wp_cond_false (congrArg Value.bool (show _ = false from (by first | rfl | assumption | (simp; done) | exact decide_eq_false (by omega) | omega))) ?_
  refine wp_skip ?_
  refine hK5 _ _ ?_
  refine wp_seq_k ?_
  intro K7 hK7
  refine wp_region_sq [0, 1, 2, 3, 4, 5, 6, 7, 8, 9, 10, 11, 12, 13, 14, 15] (by kernel_rfl) ?_
  refine wpSq_call rfl (by kernel_rfl) fun K hK => ?_
  go_big_op; refine hK _ _ rfl ?_; clear hK K
  refine wpSq_call rfl (by kernel_rfl) fun K hK => ?_
  go_big_op; refine hK _ _ rfl ?_; clear hK K
  refine wpSq_call rfl (by kernel_rfl) fun K hK => ?_
  obtain ⟨d0, d1, d2, d3⟩ := x_b3.f4
  go_big_op; refine hK _ _ rfl ?_; clear hK K d0 d1 d2 d3
  refine wpSq_call rfl (by kernel_rfl) fun K hK => ?_
  go_big_move; refine hK _ _ rfl ?_; clear hK K
  refine wpSq_call rfl (by kernel_rfl) fun K hK => ?_
  go_big_move; refine hK _ _ rfl ?_; clear hK K
  refine wpSq_call rfl (by kernel_rfl) fun K hK => ?_
  go_big_op; refine hK _ _ rfl ?_; clear hK K
  refine wpSq_call rfl (by kernel_rfl) fun K hK => ?_
  go_big_op; refine hK _ _ rfl ?_; clear hK K
  refine wpSq_call rfl (by kernel_rfl) fun K hK => ?_
  go_big_op; refine hK _ _ rfl ?_; clear hK K
  refine wpSq_call rfl (by kernel_rfl) fun K hK => ?_
  go_big_op; refine hK _ _ rfl ?_; clear hK K
  refine wpSq_call rfl (by kernel_rfl) fun K hK => ?_
  go_big_op; refine hK _ _ rfl ?_; clear hK K
  refine wpSq_call rfl (by kernel_rfl) fun K hK => ?_
  obtain ⟨d0, d1, d2, d3⟩ := x_b3.f4
  go_big_op; refine hK _ _ rfl ?_; clear hK K d0 d1 d2 d3
  refine wpSq_call rfl (by kernel_rfl) fun K hK => ?_
  go_big_move; refine hK _ _ rfl ?_; clear hK K
  refine wpSq_call rfl (by kernel_rfl) fun K hK => ?_
  go_big_op
  go_fit (rpow_rd N g1.mag (Nat.le_trans Lg1.out (by omega)) hN (by rw [val_dig]; exact L1.out))
  rintro e w_8 ⟨r1, rfl, hr1, hb_8⟩
  replace x_b2 := x_b2.bl hb_8; replace g1 := g1.bl hb_8; replace g2 := g2.bl hb_8; replace x_b3 := x_b3.bl hb_8; replace hb := hb.trans (hb_8.mono hb.size)
  rw [val_dig] at hr1
  refine hK _ _ rfl ?_
  clear hK K hb_8
  refine wpSq_call rfl (by kernel_rfl) fun K hK => ?_
  go_big_op
  go_fit (make_any true (qN x y ^ N) hr1 (Nat.le_trans L1.out (by decide)) (by rw [val_dig, if_pos rfl]; exact EN.out))
  rintro e w_9 ⟨v_g3, rfl, g3, hb_9⟩
  replace x_b2 := x_b2.bl hb_9; replace g1 := g1.bl hb_9; replace g2 := g2.bl hb_9; replace x_b3 := x_b3.bl hb_9; replace hr1 := hr1.bl hb_9; replace hb := hb.trans (hb_9.mono hb.size)
  replace g3 := g3.rd
  obtain ⟨n_g3, o_g3, k_g3, c_g3, rfl⟩ := g3.open2
  refine hK _ _ rfl ?_
  clear hK K hb_9
  refine wpSq_call rfl (by kernel_rfl) fun K hK => ?_
  go_big_op
  clear hr1
  have lt_b2 := x_b2.lt
  have lt_b3 := x_b3.lt
  obtain ⟨p_b4, w_10, eP, eW, x_b4, hn, kb_b4⟩ := newBox w_9 #[.bool false, .slice none 0 0] 24 hb.size
  have ne_b2_b4 : Hid (p_b2 ≠ p_b4) := Nat.ne_of_lt (eP ▸ lt_b2)
  have ne_b3_b4 : Hid (p_b3 ≠ p_b4) := Nat.ne_of_lt (eP ▸ lt_b3)
  rw [eW, eP]
  clear eW eP lt_b2 lt_b3
  replace x_b2 := x_b2.bl hn; replace g1 := g1.bl hn; replace g2 := g2.bl hn; replace x_b3 := x_b3.bl hn; replace g3 := g3.bl hn; replace hb := hb.trans (hn.mono hb.size)
  refine hK _ _ rfl ?_; clear hK K hn
  refine wpSq_call rfl (by kernel_rfl) fun K hK => ?_
  obtain ⟨d0, d1⟩ := x_b4.f2
  have f0 := x_b4.free 0; have f1 := x_b4.free 1
  go_big_op
  have hnd := x_b4.nod rfl rfl
  obtain ⟨w_11, eW, x_b4', ho⟩ : ∃ w', ((w_10.setCell ⟨p_b4, 0, none⟩ (.bool n_g3)).setCell ⟨p_b4, 1, none⟩ (.slice o_g3 k_g3 c_g3)) = w' ∧ Bs w' p_b4 #[.bool n_g3, .slice o_g3 k_g3 c_g3] 24 ∧ Only p_b4 w_10 w' := x_b4.setN [(0, .bool n_g3), (1, .slice o_g3 k_g3 c_g3)]
  rw [eW]; clear eW d0 d1 f0 f1 x_b4
  have x_b4 := x_b4'; clear x_b4'
  replace x_b2 := x_b2.frame ho ne_b2_b4; replace g1 := g1.fr hnd ho; replace g2 := g2.fr hnd ho; replace x_b3 := x_b3.frame ho ne_b3_b4; replace g3 := g3.fr hnd ho; replace hb := belowOnly hb ho kb_b4
  refine hK _ _ rfl ?_; clear hK K ho hnd
  apply wpSq_end
  refine hK7 _ _ ?_
  refine wp_seq_k ?_
  intro K8 hK8
  refine wp_region_fl2 [(0, false), (1, false), (2, false), (3, false), (4, false), (5, true), (6, true), (7, false)] [8, 9] [] (fun _ => default) [0, 99, 99, 1, 99, 99, 99, 99, 99, 99] [] (fun w' => w'.cell? ⟨p_b4, 0, none⟩ = some (.bool n_g3) ∧ w'.cell? ⟨p_b4, 1, none⟩ = some (.slice o_g3 k_g3 c_g3) ∧ w'.cell? ⟨p_b3, 0, none⟩ = some (.bool true) ∧ w'.cell? ⟨p_b3, 1, none⟩ = some (.slice o_ga k_ga c_ga) ∧ w'.cell? ⟨p_b3, 2, none⟩ = some (.bool n_gb) ∧ w'.cell? ⟨p_b3, 3, none⟩ = some (.slice o_gb k_gb c_gb)) [fun w' => w'.cell? ⟨p_b4, 0, none⟩ = some (.bool n_g3) ∧ w'.cell? ⟨p_b4, 1, none⟩ = some (.slice o_g3 k_g3 c_g3), fun w' => w'.cell? ⟨p_b3, 0, none⟩ = some (.bool true) ∧ w'.cell? ⟨p_b3, 1, none⟩ = some (.slice o_ga k_ga c_ga) ∧ w'.cell? ⟨p_b3, 2, none⟩ = some (.bool n_gb) ∧ w'.cell? ⟨p_b3, 3, none⟩ = some (.slice o_gb k_gb c_gb)] (by kernel_rfl) (by kernel_rfl) (by kernel_rfl) (by kernel_rfl) (by kernel_rfl) (by kernel_rfl) (by kernel_rfl) (by kernel_rfl) (by decide) (by intro j hj; cases hj) (by intro w' o hC; obtain ⟨c0, c1, c2, c3, c4, c5⟩ := hC; exact ⟨cell_alloc c0 o, cell_alloc c1 o, cell_alloc c2 o, cell_alloc c3 o, cell_alloc c4 o, cell_alloc c5 o⟩) (by intro w' hC G hG; obtain ⟨c0, c1, c2, c3, c4, c5⟩ := hC; simp only [List.mem_cons, List.not_mem_nil, or_false] at hG; rcases hG with rfl | rfl <;> first | exact ⟨c0, c1⟩ | exact ⟨c2, c3, c4, c5⟩) ?_
  have lt_b2 := x_b2.lt
  have lt_b3 := x_b3.lt
  have lt_b4 := x_b4.lt
  intro w_12 hn
  replace lt_b2 := Nat.lt_of_lt_of_le lt_b2 hn.size
  replace lt_b3 := Nat.lt_of_lt_of_le lt_b3 hn.size
  replace lt_b4 := Nat.lt_of_lt_of_le lt_b4 hn.size
  replace x_b2 := x_b2.bl hn; replace g1 := g1.bl hn; replace g2 := g2.bl hn; replace x_b3 := x_b3.bl hn; replace g3 := g3.bl hn; replace x_b4 := x_b4.bl hn; replace hb := hb.trans (hn.mono hb.size)
  clear hn
  have kb0 := hb.size
  refine ⟨⟨x_b4.cell 0 rfl, x_b4.cell 1 rfl, x_b3.cell 0 rfl, x_b3.cell 1 rfl, x_b3.cell 2 rfl, x_b3.cell 3 rfl⟩, ?_⟩
  apply wpFl_ld rfl rfl; (case h1 => intro w' hC K hK; obtain ⟨c0, c1⟩ := hC; go_big_op; exact hK); iterate 4 kernel_rfl
  apply wpFl_ld rfl rfl; (case h1 => intro w' hC K hK; go_big_op; exact hK); iterate 4 kernel_rfl
  apply wpFl_ld rfl rfl; (case h1 => intro w' hC K hK; go_big_op; exact hK); iterate 4 kernel_rfl
  apply wpFl_ld rfl rfl; (case h1 => intro w' hC K hK; obtain ⟨c0, c1, c2, c3⟩ := hC; go_big_op; exact hK); iterate 4 kernel_rfl
  apply wpFl_ld rfl rfl; (case h1 => intro w' hC K hK; go_big_move; exact hK); iterate 4 kernel_rfl
  refine wpFl_call rfl (by kernel_rfl) fun w_13 hn hC => ?_; clear hC
  replace x_b2 := x_b2.bl hn; replace g1 := g1.bl hn; replace g2 := g2.bl hn; replace x_b3 := x_b3.bl hn; replace g3 := g3.bl hn; replace x_b4 := x_b4.bl hn; replace hb := hb.trans (hn.mono hb.size)
  clear hn; intro K hK
  go_big_op
  go_fit (rpow_rd N g2.mag (Nat.le_trans Lg2.out (by omega)) hN (by rw [val_dig]; exact L2.out))
  rintro e w_14 ⟨r2, rfl, hr2, hb_14⟩
  replace x_b2 := x_b2.bl hb_14; replace g1 := g1.bl hb_14; replace g2 := g2.bl hb_14; replace x_b3 := x_b3.bl hb_14; replace g3 := g3.bl hb_14; replace x_b4 := x_b4.bl hb_14; replace hb := hb.trans (hb_14.mono hb.size)
  rw [val_dig] at hr2
  refine hK _ _ rfl hb_14 ⟨x_b4.cell 0 rfl, x_b4.cell 1 rfl, x_b3.cell 0 rfl, x_b3.cell 1 rfl, x_b3.cell 2 rfl, x_b3.cell 3 rfl⟩ ?_
  clear hK K hb_14
  refine wpFl_call rfl (by kernel_rfl) fun w_15 hn hC => ?_; clear hC
  replace x_b2 := x_b2.bl hn; replace g1 := g1.bl hn; replace g2 := g2.bl hn; replace x_b3 := x_b3.bl hn; replace g3 := g3.bl hn; replace x_b4 := x_b4.bl hn; replace hr2 := hr2.bl hn; replace hb := hb.trans (hn.mono hb.size)
  clear hn; intro K hK
  go_big_op
  go_fit (make_any false (qD x y ^ N) hr2 (Nat.le_trans L2.out (by decide)) (by rw [val_dig, if_neg Bool.false_ne_true]; exact ED.out))
  rintro e w_16 ⟨v_g4, rfl, g4, hb_16⟩
  replace x_b2 := x_b2.bl hb_16; replace g1 := g1.bl hb_16; replace g2 := g2.bl hb_16; replace x_b3 := x_b3.bl hb_16; replace g3 := g3.bl hb_16; replace x_b4 := x_b4.bl hb_16; replace hr2 := hr2.bl hb_16; replace hb := hb.trans (hb_16.mono hb.size)
  replace g4 := g4.rd
  obtain ⟨n_g4, o_g4, k_g4, c_g4, rfl⟩ := g4.open2
  refine hK _ _ rfl hb_16 ⟨x_b4.cell 0 rfl, x_b4.cell 1 rfl, x_b3.cell 0 rfl, x_b3.cell 1 rfl, x_b3.cell 2 rfl, x_b3.cell 3 rfl⟩ ?_
  clear hK K hb_16
  apply wpFl_ld rfl rfl; (case h1 => intro w' hC K hK; go_big_op; exact hK); iterate 4 kernel_rfl
  apply wpFl_end
  case ha => intro pt; simp only [putF]; rfl
  case h =>
  intro w_17 pt hn hC hF hD
  clear hC
  clear hr2
  replace x_b2 := x_b2.bl hn; replace g1 := g1.bl hn; replace g2 := g2.bl hn; replace x_b3 := x_b3.bl hn; replace g3 := g3.bl hn; replace x_b4 := x_b4.bl hn; replace g4 := g4.bl hn; replace hb := hb.trans (hn.mono hb.size)
  clear hn
  clear hF hD
  clear pt
  clear kb0 lt_b2 lt_b3 lt_b4
  refine wpTail_call rfl (by kernel_rfl) fun K hK => ?_
  obtain ⟨d0, d1, d2, d3⟩ := x_b2.f4
  have f0 := x_b2.free 0; have f1 := x_b2.free 1; have f2 := x_b2.free 2; have f3 := x_b2.free 3
  go_big_op
  have hnd := x_b2.nod rfl rfl
  obtain ⟨w_18, eW, x_b2', ho⟩ : ∃ w', ((((w_17.setCell ⟨p_b2, 0, none⟩ (.bool n_g3)).setCell ⟨p_b2, 1, none⟩ (.slice o_g3 k_g3 c_g3)).setCell ⟨p_b2, 2, none⟩ (.bool n_g4)).setCell ⟨p_b2, 3, none⟩ (.slice o_g4 k_g4 c_g4)) = w' ∧ Bs w' p_b2 #[.bool n_g3, .slice o_g3 k_g3 c_g3, .bool n_g4, .slice o_g4 k_g4 c_g4] 26 ∧ Only p_b2 w_17 w' := x_b2.setN [(0, .bool n_g3), (1, .slice o_g3 k_g3 c_g3), (2, .bool n_g4), (3, .slice o_g4 k_g4 c_g4)]
  rw [eW]; clear eW d0 d1 d2 d3 f0 f1 f2 f3 x_b2
  have x_b2 := x_b2'; clear x_b2'
  replace g1 := g1.fr hnd ho; replace g2 := g2.fr hnd ho; replace x_b3 := x_b3.frame ho ne_b2_b3.symm; replace g3 := g3.fr hnd ho; replace x_b4 := x_b4.frame ho ne_b2_b4.symm; replace g4 := g4.fr hnd ho; replace hb := belowOnly hb ho kb_b2
  refine hK _ _ rfl (And.intro ⟨x_b4.cell 0 rfl, x_b4.cell 1 rfl⟩ (And.intro ⟨x_b3.cell 0 rfl, x_b3.cell 1 rfl, x_b3.cell 2 rfl, x_b3.cell 3 rfl⟩ True.intro)) ?_; clear hK K ho hnd
  refine wpTail_call rfl (by kernel_rfl) fun K hK => ?_
  go_big_move; refine hK _ _ rfl (And.intro ⟨x_b4.cell 0 rfl, x_b4.cell 1 rfl⟩ (And.intro ⟨x_b3.cell 0 rfl, x_b3.cell 1 rfl, x_b3.cell 2 rfl, x_b3.cell 3 rfl⟩ True.intro)) ?_; clear hK K
  apply wpTail_end
  refine hK8 _ _ ?_
  refine wp_ret ?_
  try dsimp only [Exit.then, Exit.inBlock]
  obtain ⟨r0_0, r0_1, r0_2, r0_3⟩ := x_b2.f4
  refine bodyPost_ret (v := (.tuple #[(.agg #[.bool n_g3, .slice o_g3 k_g3 c_g3, .bool n_g4, .slice o_g4 k_g4 c_g4]), (.bool true)])) (by simp [results, Tryz.results47, go_sem, r0_0, r0_1, r0_2, r0_3]) rfl ?_
  exact ⟨_, rfl, .mk' g3 g4, hb⟩
set_option maxHeartbeats 8000000 in
set_option maxRecDepth 20000 in
theorem rPow_bs_even (N : Nat) (ha : PN w va x l y m) (hl : l ≤ 1048576) (hm : m ≤ 1048576) (h0 : y ≠ 0) (hN : N ≤ 9223372036854775807) (h1 : 1 < bitsN (qN x y).natAbs ∧ N ≤ 65536 / bitsN (qN x y).natAbs) (h2 : bitsN (qD x y).natAbs ≤ 1) (hs : qN x y < 0) (hN2 : N % 2 = 0) (l1 : (dig ((qN x y).natAbs ^ N)).length ≤ 1048576) (l2 : (dig ((qD x y).natAbs ^ N)).length ≤ 1048576) :
    Calls Tryz.prog 47 #[va, .int .i64 N] w fun e w' => ∃ r, e = .returned (.tuple #[r, .bool true]) ∧ PC w' r (qN x y ^ N) (qD x y ^ N) ∧ Below w.heap.size w w' := by
  have H0 := hide h0
  have ED := hide (show (((qD x y).natAbs ^ N : Nat) : Int) = qD x y ^ N from pow_pos' (Int.le_of_lt (qD_pos (x := x) h0)))
  have EN := hide (pow_even (x := qN x y) hN2)
  have HSG := hide (show decide (qN x y < 0) = true from decide_eq_true hs)
  obtain ⟨hp2, hp3⟩ := mod2_even hN2
  clear hN2
  have L1 := hide l1
  have L2 := hide l2
  clear h0 hs l1 l2
  obtain ⟨b, hb⟩ : ∃ b, bitsN (qN x y).natAbs = b := ⟨_, rfl⟩
  rw [hb] at h1
  have Hb := hide hb
  obtain ⟨hgb, h0b⟩ := q_gt h1.1
  have hdb : ((65536 : Int) / (b : Int)) = ((65536 / b : Nat) : Int) := rfl
  have hddb : Int.tdiv 65536 (b : Int) = ((65536 / b : Nat) : Int) := rfl
  have hq65b : 65536 / b ≤ 65536 := Nat.div_le_self _ _
  generalize 65536 / b = qb at *
  have hwb := q_wrap hq65b
  have hqbb := q_no h1.2
  clear hb h1
  obtain ⟨c, hc⟩ : ∃ c, bitsN (qD x y).natAbs = c := ⟨_, rfl⟩
  rw [hc] at h2
  have Hc := hide hc
  have hgc : (1 < (c : Int)) = False := eq_false (by omega)
  clear hc h2
  obtain ⟨n_0a, o_0a, k_0a, c_0a, n_0b, o_0b, k_0b, c_0b, rfl, ha1, ha2⟩ := ha
  go_enter Tryz.func47, Tryz.ntmps47
  have hb := Below.refl w.heap.size w
  refine wp_seq_k ?_
  intro K1 hK1
  refine wp_region_sq [0, 1, 2] (by kernel_rfl) ?_
  refine wpSq_call rfl (by kernel_rfl) fun K hK => ?_
  go_big_op
  obtain ⟨p_b1, w_1, eP, eW, x_b1, hn, kb_b1⟩ := newBox w #[.bool n_0a, .slice o_0a k_0a c_0a, .bool n_0b, .slice o_0b k_0b c_0b] 26 hb.size
  rw [eW, eP]
  clear eW eP
  replace ha1 := ha1.bl hn; replace ha2 := ha2.bl hn; replace hb := hb.trans (hn.mono hb.size)
  refine hK _ _ rfl ?_; clear hK K hn
  refine wpSq_call rfl (by kernel_rfl) fun K hK => ?_
  go_big_op
  have lt_b1 := x_b1.lt
  obtain ⟨p_b2, w_2, eP, eW, x_b2, hn, kb_b2⟩ := newBox w_1 #[.bool false, .slice none 0 0, .bool false, .slice none 0 0] 26 hb.size
  have ne_b1_b2 : Hid (p_b1 ≠ p_b2) := Nat.ne_of_lt (eP ▸ lt_b1)
  rw [eW, eP]
  clear eW eP lt_b1
  replace ha1 := ha1.bl hn; replace ha2 := ha2.bl hn; replace x_b1 := x_b1.bl hn; replace hb := hb.trans (hn.mono hb.size)
  refine hK _ _ rfl ?_; clear hK K hn
  refine wpSq_call rfl (by kernel_rfl) fun K hK => ?_
  go_big_move; refine hK _ _ rfl ?_; clear hK K
  apply wpSq_end
  refine hK1 _ _ ?_
  refine wp_seq_k ?_
  intro K2 hK2
  refine wp_region_sq [0, 1, 2, 3] (by kernel_rfl) ?_
  refine wpSq_call rfl (by kernel_rfl) fun K hK => ?_
  obtain ⟨d0, d1, d2, d3⟩ := x_b1.f4
  go_big_op; refine hK _ _ rfl ?_; clear hK K d0 d1 d2 d3
  refine wpSq_call rfl (by kernel_rfl) fun K hK => ?_
  go_big_op
  go_fit (rfnorm_any (PN.mk' ha1 ha2) (by omega) (by omega) H0.out)
  rintro e w_3 ⟨_, rfl, ⟨n_ga, o_ga, k_ga, c_ga, n_gb, o_gb, k_gb, c_gb, rfl, g1, g2⟩, hb_3⟩
  clear x_b1
  replace ha1 := ha1.bl hb_3; replace ha2 := ha2.bl hb_3; replace x_b2 := x_b2.bl hb_3; replace hb := hb.trans (hb_3.mono hb.size)
  have Lg1 := hide (g1.lenOf (qN_len (H0.out) (ha1.len)))
  have Lg2 := hide (g2.lenOf (qD_len (H0.out) (ha2.len)))
  have en := g1.neg.trans HSG.out
  subst en
  refine hK _ _ rfl ?_
  clear hK K hb_3
  refine wpSq_call rfl (by kernel_rfl) fun K hK => ?_
  go_big_op
  clear ha1 ha2
  have lt_b2 := x_b2.lt
  obtain ⟨p_b3, w_4, eP, eW, x_b3, hn, kb_b3⟩ := newBox w_3 #[.bool false, .slice none 0 0, .bool false, .slice none 0 0] 26 hb.size
  have ne_b2_b3 : Hid (p_b2 ≠ p_b3) := Nat.ne_of_lt (eP ▸ lt_b2)
  rw [eW, eP]
  clear eW eP lt_b2
  replace x_b2 := x_b2.bl hn; replace g1 := g1.bl hn; replace g2 := g2.bl hn; replace hb := hb.trans (hn.mono hb.size)
  refine hK _ _ rfl ?_; clear hK K hn
  refine wpSq_call rfl (by kernel_rfl) fun K hK => ?_
  obtain ⟨d0, d1, d2, d3⟩ := x_b3.f4
  have f0 := x_b3.free 0; have f1 := x_b3.free 1; have f2 := x_b3.free 2; have f3 := x_b3.free 3
  go_big_op
  have hnd := x_b3.nod rfl rfl
  obtain ⟨w_5, eW, x_b3', ho⟩ : ∃ w', ((((w_4.setCell ⟨p_b3, 0, none⟩ (.bool true)).setCell ⟨p_b3, 1, none⟩ (.slice o_ga k_ga c_ga)).setCell ⟨p_b3, 2, none⟩ (.bool n_gb)).setCell ⟨p_b3, 3, none⟩ (.slice o_gb k_gb c_gb)) = w' ∧ Bs w' p_b3 #[.bool true, .slice o_ga k_ga c_ga, .bool n_gb, .slice o_gb k_gb c_gb] 26 ∧ Only p_b3 w_4 w' := x_b3.setN [(0, .bool true), (1, .slice o_ga k_ga c_ga), (2, .bool n_gb), (3, .slice o_gb k_gb c_gb)]
  rw [eW]; clear eW d0 d1 d2 d3 f0 f1 f2 f3 x_b3
  have x_b3 := x_b3'; clear x_b3'
  replace x_b2 := x_b2.frame ho ne_b2_b3; replace g1 := g1.fr hnd ho; replace g2 := g2.fr hnd ho; replace hb := belowOnly hb ho kb_b3
  refine hK _ _ rfl ?_; clear hK K ho hnd
  apply wpSq_end
  refine hK2 _ _ ?_
  refine wp_seq_k ?_
  intro K3 hK3
  refine wp_region_sq [0, 1, 2, 3, 4] (by kernel_rfl) ?_
  refine wpSq_call rfl (by kernel_rfl) fun K hK => ?_
  go_big_op; refine hK _ _ rfl ?_; clear hK K
  refine wpSq_call rfl (by kernel_rfl) fun K hK => ?_
  go_big_op; refine hK _ _ rfl ?_; clear hK K
  refine wpSq_call rfl (by kernel_rfl) fun K hK => ?_
  obtain ⟨d0, d1, d2, d3⟩ := x_b3.f4
  go_big_op; refine hK _ _ rfl ?_; clear hK K d0 d1 d2 d3
  refine wpSq_call rfl (by kernel_rfl) fun K hK => ?_
  go_big_op
  go_fit (rbits_rd' g1.mag (Nat.le_trans Lg1.out (by omega)))
  rintro e w_6 ⟨rfl, hb_6⟩
  replace x_b2 := x_b2.bl hb_6; replace g1 := g1.bl hb_6; replace g2 := g2.bl hb_6; replace x_b3 := x_b3.bl hb_6; replace hb := hb.trans (hb_6.mono hb.size)
  rw [val_dig, Hb.out]
  refine hK _ _ rfl ?_
  clear hK K hb_6
  refine wpSq_call rfl (by kernel_rfl) fun K hK => ?_
  go_big_move; refine hK _ _ rfl ?_; clear hK K
  apply wpSq_end
  refine hK3 _ _ ?_
  refine wp_seq_k ?_
  intro K4 hK4
  refine wp_region_sq [0, 1, 2, 3, 4] (by kernel_rfl) ?_
  refine wpSq_call rfl (by kernel_rfl) fun K hK => ?_
  go_big_op; refine hK _ _ rfl ?_; clear hK K
  refine wpSq_call rfl (by kernel_rfl) fun K hK => ?_
  go_big_op; refine hK _ _ rfl ?_; clear hK K
  refine wpSq_call rfl (by kernel_rfl) fun K hK => ?_
  obtain ⟨d0, d1, d2, d3⟩ := x_b3.f4
  go_big_op; refine hK _ _ rfl ?_; clear hK K d0 d1 d2 d3
  refine wpSq_call rfl (by kernel_rfl) fun K hK => ?_
  go_big_op
  go_fit (rbits_rd' g2.mag (Nat.le_trans Lg2.out (by omega)))
  rintro e w_7 ⟨rfl, hb_7⟩
  replace x_b2 := x_b2.bl hb_7; replace g1 := g1.bl hb_7; replace g2 := g2.bl hb_7; replace x_b3 := x_b3.bl hb_7; replace hb := hb.trans (hb_7.mono hb.size)
  rw [val_dig, Hc.out]
  refine hK _ _ rfl ?_
  clear hK K hb_7
  refine wpSq_call rfl (by kernel_rfl) fun K hK => ?_
  go_big_move; refine hK _ _ rfl ?_; clear hK K
  apply wpSq_end
  refine hK4 _ _ ?_
  refine wp_seq_k ?_
  intro K5 hK5
  refine wp_seq_k ?_
  intro K6 hK6
  refine wp_region_sq [0, 1, 2, 3, 4, 5, 6, 7, 8, 9, 10, 11, 12, 13, 14, 15, 16, 17] (by kernel_rfl) ?_
  refine wpSq_call rfl (by kernel_rfl) fun K hK => ?_
  go_big_move; refine hK _ _ rfl ?_; clear hK K
  refine wpSq_call rfl (by kernel_rfl) fun K hK => ?_
  go_big_op; refine hK _ _ rfl ?_; clear hK K
  refine wpSq_call rfl (by kernel_rfl) fun K hK => ?_
  go_big_move; refine hK _ _ rfl ?_; clear hK K
  refine wpSq_call rfl (by kernel_rfl) fun K hK => ?_
  go_big_move; refine hK _ _ rfl ?_; clear hK K
  refine wpSq_call rfl (by kernel_rfl) fun K hK => ?_
  go_big_move; refine hK _ _ rfl ?_; clear hK K
  refine wpSq_call rfl (by kernel_rfl) fun K hK => ?_
  go_big_op; refine hK _ _ rfl ?_; clear hK K
  refine wpSq_call rfl (by kernel_rfl) fun K hK => ?_
  go_big_op; refine hK _ _ rfl ?_; clear hK K
  refine wpSq_call rfl (by kernel_rfl) fun K hK => ?_
  go_big_op; refine hK _ _ rfl ?_; clear hK K
  refine wpSq_call rfl (by kernel_rfl) fun K hK => ?_
  go_big_move; refine hK _ _ rfl ?_; clear hK K
  refine wpSq_call rfl (by kernel_rfl) fun K hK => ?_
  go_big_move; refine hK _ _ rfl ?_; clear hK K
  refine wpSq_call rfl (by kernel_rfl) fun K hK => ?_
  go_big_op; refine hK _ _ rfl ?_; clear hK K
  refine wpSq_call rfl (by kernel_rfl) fun K hK => ?_
  go_big_move; refine hK _ _ rfl ?_; clear hK K
  apply wpSq_skip
  case hi => rfl
  case hw => kernel_rfl
  case hp => unfold Act.put; simp only [List.setIfInBounds_toArray, List.set_cons_succ, List.set_cons_zero]; rfl
  apply wpSq_skip
  case hi => rfl
  case hw => kernel_rfl
  case hp => unfold Act.put; simp only [List.setIfInBounds_toArray, List.set_cons_succ, List.set_cons_zero]; rfl
  apply wpSq_skip
  case hi => rfl
  case hw => kernel_rfl
  case hp => unfold Act.put; simp only [List.setIfInBounds_toArray, List.set_cons_succ, List.set_cons_zero]; rfl
  apply wpSq_skip
  case hi => rfl
  case hw => kernel_rfl
  case hp => unfold Act.put; simp only [List.setIfInBounds_toArray, List.set_cons_succ, List.set_cons_zero]; rfl
  refine wpSq_call rfl (by kernel_rfl) fun K hK => ?_
  go_big_op; refine hK _ _ rfl ?_; clear hK K
  refine wpSq_call rfl (by kernel_rfl) fun K hK => ?_
  go_big_op; refine hK _ _ rfl ?_; clear hK K
  apply wpSq_end
  refine hK6 _ _ ?_
  refine wp_cond_false (congrArg Value.bool (show _ = false from (by first | rfl | assumption | (simp; done) | exact decide_eq_false (by omega) | omega))) ?_
  refine wp_skip ?_
  refine hK5 _ _ ?_
  refine wp_seq_k ?_
  intro K7 hK7
  refine wp_region_sq [0, 1, 2, 3, 4, 5, 6, 7, 8, 9, 10, 11, 12, 13, 14, 15] (by kernel_rfl) ?_
  refine wpSq_call rfl (by kernel_rfl) fun K hK => ?_
  go_big_op; refine hK _ _ rfl ?_; clear hK K
  refine wpSq_call rfl (by kernel_rfl) fun K hK => ?_
  go_big_op; refine hK _ _ rfl ?_; clear hK K
  refine wpSq_call rfl (by kernel_rfl) fun K hK => ?_
  obtain ⟨d0, d1, d2, d3⟩ := x_b3.f4
  go_big_op; refine hK _ _ rfl ?_; clear hK K d0 d1 d2 d3
  refine wpSq_call rfl (by kernel_rfl) fun K hK => ?_
  go_big_move; refine hK _ _ rfl ?_; clear hK K
  refine wpSq_call rfl (by kernel_rfl) fun K hK => ?_
  go_big_move; refine hK _ _ rfl ?_; clear hK K
  refine wpSq_call rfl (by kernel_rfl) fun K hK => ?_
  go_big_op; refine hK _ _ rfl ?_; clear hK K
  refine wpSq_call rfl (by kernel_rfl) fun K hK => ?_
  go_big_op; refine hK _ _ rfl ?_; clear hK K
  refine wpSq_call rfl (by kernel_rfl) fun K hK => ?_
  go_big_op; refine hK _ _ rfl ?_; clear hK K
  refine wpSq_call rfl (by kernel_rfl) fun K hK => ?_
  go_big_op; refine hK _ _ rfl ?_; clear hK K
  refine wpSq_call rfl (by kernel_rfl) fun K hK => ?_
  go_big_op; refine hK _ _ rfl ?_; clear hK K
  refine wpSq_call rfl (by kernel_rfl) fun K hK => ?_
  obtain ⟨d0, d1, d2, d3⟩ := x_b3.f4
  go_big_op; refine hK _ _ rfl ?_; clear hK K d0 d1 d2 d3
  refine wpSq_call rfl (by kernel_rfl) fun K hK => ?_
  go_big_move; refine hK _ _ rfl ?_; clear hK K
  refine wpSq_call rfl (by kernel_rfl) fun K hK => ?_
  go_big_op
  go_fit (rpow_rd N g1.mag (Nat.le_trans Lg1.out (by omega)) hN (by rw [val_dig]; exact L1.out))
  rintro e w_8 ⟨r1, rfl, hr1, hb_8⟩
  replace x_b2 := x_b2.bl hb_8; replace g1 := g1.bl hb_8; replace g2 := g2.bl hb_8; replace x_b3 := x_b3.bl hb_8; replace hb := hb.trans (hb_8.mono hb.size)
  rw [val_dig] at hr1
  refine hK _ _ rfl ?_
  clear hK K hb_8
  refine wpSq_call rfl (by kernel_rfl) fun K hK => ?_
  go_big_op
  go_fit (make_any false (qN x y ^ N) hr1 (Nat.le_trans L1.out (by decide)) (by rw [val_dig, if_neg Bool.false_ne_true]; exact EN.out))
  rintro e w_9 ⟨v_g3, rfl, g3, hb_9⟩
  replace x_b2 := x_b2.bl hb_9; replace g1 := g1.bl hb_9; replace g2 := g2.bl hb_9; replace x_b3 := x_b3.bl hb_9; replace hr1 := hr1.bl hb_9; replace hb := hb.trans (hb_9.mono hb.size)
  replace g3 := g3.rd
  obtain ⟨n_g3, o_g3, k_g3, c_g3, rfl⟩ := g3.open2
  refine hK _ _ rfl ?_
  clear hK K hb_9
  refine wpSq_call rfl (by kernel_rfl) fun K hK => ?_
  go_big_op
  clear hr1
  have lt_b2 := x_b2.lt
  have lt_b3 := x_b3.lt
  obtain ⟨p_b4, w_10, eP, eW, x_b4, hn, kb_b4⟩ := newBox w_9 #[.bool false, .slice none 0 0] 24 hb.size
  have ne_b2_b4 : Hid (p_b2 ≠ p_b4) := Nat.ne_of_lt (eP ▸ lt_b2)
  have ne_b3_b4 : Hid (p_b3 ≠ p_b4) := Nat.ne_of_lt (eP ▸ lt_b3)
  rw [eW, eP]
  clear eW eP lt_b2 lt_b3
  replace x_b2 := x_b2.bl hn; replace g1 := g1.bl hn; replace g2 := g2.bl hn; replace x_b3 := x_b3.bl hn; replace g3 := g3.bl hn; replace hb := hb.trans (hn.mono hb.size)
  refine hK _ _ rfl ?_; clear hK K hn
  refine wpSq_call rfl (by kernel_rfl) fun K hK => ?_
  obtain ⟨d0, d1⟩ := x_b4.f2
  have f0 := x_b4.free 0; have f1 := x_b4.free 1
  go_big_op
  have hnd := x_b4.nod rfl rfl
  obtain ⟨w_11, eW, x_b4', ho⟩ : ∃ w', ((w_10.setCell ⟨p_b4, 0, none⟩ (.bool n_g3)).setCell ⟨p_b4, 1, none⟩ (.slice o_g3 k_g3 c_g3)) = w' ∧ Bs w' p_b4 #[.bool n_g3, .slice o_g3 k_g3 c_g3] 24 ∧ Only p_b4 w_10 w' := x_b4.setN [(0, .bool n_g3), (1, .slice o_g3 k_g3 c_g3)]
  rw [eW]; clear eW d0 d1 f0 f1 x_b4
  have x_b4 := x_b4'; clear x_b4'
  replace x_b2 := x_b2.frame ho ne_b2_b4; replace g1 := g1.fr hnd ho; replace g2 := g2.fr hnd ho; replace x_b3 := x_b3.frame ho ne_b3_b4; replace g3 := g3.fr hnd ho; replace hb := belowOnly hb ho kb_b4
  refine hK _ _ rfl ?_; clear hK K ho hnd
  apply wpSq_end
  refine hK7 _ _ ?_
  refine wp_seq_k ?_
  intro K8 hK8
  refine wp_region_fl2 [(0, false), (1, false), (2, false), (3, false), (4, false), (5, true), (6, true), (7, false)] [8, 9] [] (fun _ => default) [0, 99, 99, 1, 99, 99, 99, 99, 99, 99] [] (fun w' => w'.cell? ⟨p_b4, 0, none⟩ = some (.bool n_g3) ∧ w'.cell? ⟨p_b4, 1, none⟩ = some (.slice o_g3 k_g3 c_g3) ∧ w'.cell? ⟨p_b3, 0, none⟩ = some (.bool true) ∧ w'.cell? ⟨p_b3, 1, none⟩ = some (.slice o_ga k_ga c_ga) ∧ w'.cell? ⟨p_b3, 2, none⟩ = some (.bool n_gb) ∧ w'.cell? ⟨p_b3, 3, none⟩ = some (.slice o_gb k_gb c_gb)) [fun w' => w'.cell? ⟨p_b4, 0, none⟩ = some (.bool n_g3) ∧ w'.cell? ⟨p_b4, 1, none⟩ = some (.slice o_g3 k_g3 c_g3), fun w' => w'.cell? ⟨p_b3, 0, none⟩ = some (.bool true) ∧ w'.cell? ⟨p_b3, 1, none⟩ = some (.slice o_ga k_ga c_ga) ∧ w'.cell? ⟨p_b3, 2, none⟩ = some (.bool n_gb) ∧ w'.cell? ⟨p_b3, 3, none⟩ = some (.slice o_gb k_gb c_gb)] (by kernel_rfl) (by kernel_rfl) (by kernel_rfl) (by kernel_rfl) (by kernel_rfl) (by kernel_rfl) (by kernel_rfl) (by kernel_rfl) (by decide) (by intro j hj; cases hj) (by intro w' o hC; obtain ⟨c0, c1, c2, c3, c4, c5⟩ := hC; exact ⟨cell_alloc c0 o, cell_alloc c1 o, cell_alloc c2 o, cell_alloc c3 o, cell_alloc c4 o, cell_alloc c5 o⟩) (by intro w' hC G hG; obtain ⟨c0, c1, c2, c3, c4, c5⟩ := hC; simp only [List.mem_cons, List.not_mem_nil, or_false] at hG; rcases hG with rfl | rfl <;> first | exact ⟨c0, c1⟩ | exact ⟨c2, c3, c4, c5⟩) ?_
  have lt_b2 := x_b2.lt
  have lt_b3 := x_b3.lt
  have lt_b4 := x_b4.lt
  intro w_12 hn
  replace lt_b2 := Nat.lt_of_lt_of_le lt_b2 hn.size
  replace lt_b3 := Nat.lt_of_lt_of_le lt_b3 hn.size
  replace lt_b4 := Nat.lt_of_lt_of_le lt_b4 hn.size
  replace x_b2 := x_b2.bl hn; replace g1 := g1.bl hn; replace g2 := g2.bl hn; replace x_b3 := x_b3.bl hn; replace g3 := g3.bl hn; replace x_b4 := x_b4.bl hn; replace hb := hb.trans (hn.mono hb.size)
  clear hn
  have kb0 := hb.size
  refine ⟨⟨x_b4.cell 0 rfl, x_b4.cell 1 rfl, x_b3.cell 0 rfl, x_b3.cell 1 rfl, x_b3.cell 2 rfl, x_b3.cell 3 rfl⟩, ?_⟩
  apply wpFl_ld rfl rfl; (case h1 => intro w' hC K hK; obtain ⟨c0, c1⟩ := hC; go_big_op; exact hK); iterate 4 kernel_rfl
  apply wpFl_ld rfl rfl; (case h1 => intro w' hC K hK; go_big_op; exact hK); iterate 4 kernel_rfl
  apply wpFl_ld rfl rfl; (case h1 => intro w' hC K hK; go_big_op; exact hK); iterate 4 kernel_rfl
  apply wpFl_ld rfl rfl; (case h1 => intro w' hC K hK; obtain ⟨c0, c1, c2, c3⟩ := hC; go_big_op; exact hK); iterate 4 kernel_rfl
  apply wpFl_ld rfl rfl; (case h1 => intro w' hC K hK; go_big_move; exact hK); iterate 4 kernel_rfl
  refine wpFl_call rfl (by kernel_rfl) fun w_13 hn hC => ?_; clear hC
  replace x_b2 := x_b2.bl hn; replace g1 := g1.bl hn; replace g2 := g2.bl hn; replace x_b3 := x_b3.bl hn; replace g3 := g3.bl hn; replace x_b4 := x_b4.bl hn; replace hb := hb.trans (hn.mono hb.size)
  clear hn; intro K hK
  go_big_op
  go_fit (rpow_rd N g2.mag (Nat.le_trans Lg2.out (by omega)) hN (by rw [val_dig]; exact L2.out))
  rintro e w_14 ⟨r2, rfl, hr2, hb_14⟩
  replace x_b2 := x_b2.bl hb_14; replace g1 := g1.bl hb_14; replace g2 := g2.bl hb_14; replace x_b3 := x_b3.bl hb_14; replace g3 := g3.bl hb_14; replace x_b4 := x_b4.bl hb_14; replace hb := hb.trans (hb_14.mono hb.size)
  rw [val_dig] at hr2
  refine hK _ _ rfl hb_14 ⟨x_b4.cell 0 rfl, x_b4.cell 1 rfl, x_b3.cell 0 rfl, x_b3.cell 1 rfl, x_b3.cell 2 rfl, x_b3.cell 3 rfl⟩ ?_
  clear hK K hb_14
  refine wpFl_call rfl (by kernel_rfl) fun w_15 hn hC => ?_; clear hC
  replace x_b2 := x_b2.bl hn; replace g1 := g1.bl hn; replace g2 := g2.bl hn; replace x_b3 := x_b3.bl hn; replace g3 := g3.bl hn; replace x_b4 := x_b4.bl hn; replace hr2 := hr2.bl hn; replace hb := hb.trans (hn.mono hb.size)
  clear hn; intro K hK
  go_big_op
  go_fit (make_any false (qD x y ^ N) hr2 (Nat.le_trans L2.out (by decide)) (by rw [val_dig, if_neg Bool.false_ne_true]; exact ED.out))
  rintro e w_16 ⟨v_g4, rfl, g4, hb_16⟩
  replace x_b2 := x_b2.bl hb_16; replace g1 := g1.bl hb_16; replace g2 := g2.bl hb_16; replace x_b3 := x_b3.bl hb_16; replace g3 := g3.bl hb_16; replace x_b4 := x_b4.bl hb_16; replace hr2 := hr2.bl hb_16; replace hb := hb.trans (hb_16.mono hb.size)
  replace g4 := g4.rd
  obtain ⟨n_g4, o_g4, k_g4, c_g4, rfl⟩ := g4.open2
  refine hK _ _ rfl hb_16 ⟨x_b4.cell 0 rfl, x_b4.cell 1 rfl, x_b3.cell 0 rfl, x_b3.cell 1 rfl, x_b3.cell 2 rfl, x_b3.cell 3 rfl⟩ ?_
  clear hK K hb_16
  apply wpFl_ld rfl rfl; (case h1 => intro w' hC K hK; go_big_op; exact hK); iterate 4 kernel_rfl
  apply wpFl_end
  case ha => intro pt; simp only [putF]; rfl
  case h =>
  intro w_17 pt hn hC hF hD
  clear hC
  clear hr2
  replace x_b2 := x_b2.bl hn; replace g1 := g1.bl hn; replace g2 := g2.bl hn; replace x_b3 := x_b3.bl hn; replace g3 := g3.bl hn; replace x_b4 := x_b4.bl hn; replace g4 := g4.bl hn; replace hb := hb.trans (hn.mono hb.size)
  clear hn
  clear hF hD
  clear pt
  clear kb0 lt_b2 lt_b3 lt_b4
  refine wpTail_call rfl (by kernel_rfl) fun K hK => ?_
  obtain ⟨d0, d1, d2, d3⟩ := x_b2.f4
  have f0 := x_b2.free 0; have f1 := x_b2.free 1; have f2 := x_b2.free 2; have f3 := x_b2.free 3
  go_big_op
  have hnd := x_b2.nod rfl rfl
  obtain ⟨w_18, eW, x_b2', ho⟩ : ∃ w', ((((w_17.setCell ⟨p_b2, 0, none⟩ (.bool n_g3)).setCell ⟨p_b2, 1, none⟩ (.slice o_g3 k_g3 c_g3)).setCell ⟨p_b2, 2, none⟩ (.bool n_g4)).setCell ⟨p_b2, 3, none⟩ (.slice o_g4 k_g4 c_g4)) = w' ∧ Bs w' p_b2 #[.bool n_g3, .slice o_g3 k_g3 c_g3, .bool n_g4, .slice o_g4 k_g4 c_g4] 26 ∧ Only p_b2 w_17 w' := x_b2.setN [(0, .bool n_g3), (1, .slice o_g3 k_g3 c_g3), (2, .bool n_g4), (3, .slice o_g4 k_g4 c_g4)]
  rw [eW]; clear eW d0 d1 d2 d3 f0 f1 f2 f3 x_b2
  have x_b2 := x_b2'; clear x_b2'
  replace g1 := g1.fr hnd ho; replace g2 := g2.fr hnd ho; replace x_b3 := x_b3.frame ho ne_b2_b3.symm; replace g3 := g3.fr hnd ho; replace x_b4 := x_b4.frame ho ne_b2_b4.symm; replace g4 := g4.fr hnd ho; replace hb := belowOnly hb ho kb_b2
  refine hK _ _ rfl (And.intro ⟨x_b4.cell 0 rfl, x_b4.cell 1 rfl⟩ (And.intro ⟨x_b3.cell 0 rfl, x_b3.cell 1 rfl, x_b3.cell 2 rfl, x_b3.cell 3 rfl⟩ True.intro)) ?_; clear hK K ho hnd
  refine wpTail_call rfl (by kernel_rfl) fun K hK => ?_
  go_big_move; refine hK _ _ rfl (And.intro ⟨x_b4.cell 0 rfl, x_b4.cell 1 rfl⟩ (And.intro ⟨x_b3.cell 0 rfl, x_b3.cell 1 rfl, x_b3.cell 2 rfl, x_b3.cell 3 rfl⟩ True.intro)) ?_; clear hK K
  apply wpTail_end
  refine hK8 _ _ ?_
  refine wp_ret ?_
  try dsimp only [Exit.then, Exit.inBlock]
  obtain ⟨r0_0, r0_1, r0_2, r0_3⟩ := x_b2.f4
  refine bodyPost_ret (v := (.tuple #[(.agg #[.bool n_g3, .slice o_g3 k_g3 c_g3, .bool n_g4, .slice o_g4 k_g4 c_g4]), (.bool true)])) (by simp [results, Tryz.results47, go_sem, r0_0, r0_1, r0_2, r0_3]) rfl ?_
  exact ⟨_, rfl, .mk' g3 g4, hb⟩
set_option maxHeartbeats 8000000 in
set_option maxRecDepth 20000 in
theorem rPow_bs_pos (N : Nat) (ha : PN w va x l y m) (hl : l ≤ 1048576) (hm : m ≤ 1048576) (h0 : y ≠ 0) (hN : N ≤ 9223372036854775807) (h1 : 1 < bitsN (qN x y).natAbs ∧ N ≤ 65536 / bitsN (qN x y).natAbs) (h2 : bitsN (qD x y).natAbs ≤ 1) (hs : 0 ≤ qN x y) (l1 : (dig ((qN x y).natAbs ^ N)).length ≤ 1048576) (l2 : (dig ((qD x y).natAbs ^ N)).length ≤ 1048576) :
    Calls Tryz.prog 47 #[va, .int .i64 N] w fun e w' => ∃ r, e = .returned (.tuple #[r, .bool true]) ∧ PC w' r (qN x y ^ N) (qD x y ^ N) ∧ Below w.heap.size w w' := by
  have H0 := hide h0
  have ED := hide (show (((qD x y).natAbs ^ N : Nat) : Int) = qD x y ^ N from pow_pos' (Int.le_of_lt (qD_pos (x := x) h0)))
  have EN := hide (pow_pos' (N := N) hs)
  have HSG := hide (show decide (qN x y < 0) = false from decide_eq_false (by omega))
  have L1 := hide l1
  have L2 := hide l2
  clear h0 hs l1 l2
  obtain ⟨b, hb⟩ : ∃ b, bitsN (qN x y).natAbs = b := ⟨_, rfl⟩
  rw [hb] at h1
  have Hb := hide hb
  obtain ⟨hgb, h0b⟩ := q_gt h1.1
  have hdb : ((65536 : Int) / (b : Int)) = ((65536 / b : Nat) : Int) := rfl
  have hddb : Int.tdiv 65536 (b : Int) = ((65536 / b : Nat) : Int) := rfl
  have hq65b : 65536 / b ≤ 65536 := Nat.div_le_self _ _
  generalize 65536 / b = qb at *
  have hwb := q_wrap hq65b
  have hqbb := q_no h1.2
  clear hb h1
  obtain ⟨c, hc⟩ : ∃ c, bitsN (qD x y).natAbs = c := ⟨_, rfl⟩
  rw [hc] at h2
  have Hc := hide hc
  have hgc : (1 < (c : Int)) = False := eq_false (by omega)
  clear hc h2
  obtain ⟨n_0a, o_0a, k_0a, c_0a, n_0b, o_0b, k_0b, c_0b, rfl, ha1, ha2⟩ := ha
  go_enter Tryz.func47, Tryz.ntmps47
  have hb := Below.refl w.heap.size w
  refine wp_seq_k ?_
  intro K1 hK1
  refine wp_region_sq [0, 1, 2] (by kernel_rfl) ?_
  refine wpSq_call rfl (by kernel_rfl) fun K hK => ?_
  go_big_op
  obtain ⟨p_b1, w_1, eP, eW, x_b1, hn, kb_b1⟩ := newBox w #[.bool n_0a, .slice o_0a k_0a c_0a, .bool n_0b, .slice o_0b k_0b c_0b] 26 hb.size
  rw [eW, eP]
  clear eW eP
  replace ha1 := ha1.bl hn; replace ha2 := ha2.bl hn; replace hb := hb.trans (hn.mono hb.size)
  refine hK _ _ rfl ?_; clear hK K hn
  refine wpSq_call rfl (by kernel_rfl) fun K hK => ?_
  go_big_op
  have lt_b1 := x_b1.lt
  obtain ⟨p_b2, w_2, eP, eW, x_b2, hn, kb_b2⟩ := newBox w_1 #[.bool false, .slice none 0 0, .bool false, .slice none 0 0] 26 hb.size
  have ne_b1_b2 : Hid (p_b1 ≠ p_b2) := Nat.ne_of_lt (eP ▸ lt_b1)
  rw [eW, eP]
  clear eW eP lt_b1
  replace ha1 := ha1.bl hn; replace ha2 := ha2.bl hn; replace x_b1 := x_b1.bl hn; replace hb := hb.trans (hn.mono hb.size)
  refine hK _ _ rfl ?_; clear hK K hn
  refine wpSq_call rfl (by kernel_rfl) fun K hK => ?_
  go_big_move; refine hK _ _ rfl ?_; clear hK K
  apply wpSq_end
  refine hK1 _ _ ?_
  refine wp_seq_k ?_
  intro K2 hK2
  refine wp_region_sq [0, 1, 2, 3] (by kernel_rfl) ?_
  refine wpSq_call rfl (by kernel_rfl) fun K hK => ?_
  obtain ⟨d0, d1, d2, d3⟩ := x_b1.f4
  go_big_op; refine hK _ _ rfl ?_; clear hK K d0 d1 d2 d3
  refine wpSq_call rfl (by kernel_rfl) fun K hK => ?_
  go_big_op
  go_fit (rfnorm_any (PN.mk' ha1 ha2) (by omega) (by omega) H0.out)
  rintro e w_3 ⟨_, rfl, ⟨n_ga, o_ga, k_ga, c_ga, n_gb, o_gb, k_gb, c_gb, rfl, g1, g2⟩, hb_3⟩
  clear x_b1
  replace ha1 := ha1.bl hb_3; replace ha2 := ha2.bl hb_3; replace x_b2 := x_b2.bl hb_3; replace hb := hb.trans (hb_3.mono hb.size)
  have Lg1 := hide (g1.lenOf (qN_len (H0.out) (ha1.len)))
  have Lg2 := hide (g2.lenOf (qD_len (H0.out) (ha2.len)))
  have en := g1.neg.trans HSG.out
  subst en
  refine hK _ _ rfl ?_
  clear hK K hb_3
  refine wpSq_call rfl (by kernel_rfl) fun K hK => ?_
  go_big_op
  clear ha1 ha2
  have lt_b2 := x_b2.lt
  obtain ⟨p_b3, w_4, eP, eW, x_b3, hn, kb_b3⟩ := newBox w_3 #[.bool false, .slice none 0 0, .bool false, .slice none 0 0] 26 hb.size
  have ne_b2_b3 : Hid (p_b2 ≠ p_b3) := Nat.ne_of_lt (eP ▸ lt_b2)
  rw [eW, eP]
  clear eW eP lt_b2
  replace x_b2 := x_b2.bl hn; replace g1 := g1.bl hn; replace g2 := g2.bl hn; replace hb := hb.trans (hn.mono hb.size)
  refine hK _ _ rfl ?_; clear hK K hn
  refine wpSq_call rfl (by kernel_rfl) fun K hK => ?_
  obtain ⟨d0, d1, d2, d3⟩ := x_b3.f4
  have f0 := x_b3.free 0; have f1 := x_b3.free 1; have f2 := x_b3.free 2; have f3 := x_b3.free 3
  go_big_op
  have hnd := x_b3.nod rfl rfl
  obtain ⟨w_5, eW, x_b3', ho⟩ : ∃ w', ((((w_4.setCell ⟨p_b3, 0, none⟩ (.bool false)).setCell ⟨p_b3, 1, none⟩ (.slice o_ga k_ga c_ga)).setCell ⟨p_b3, 2, none⟩ (.bool n_gb)).setCell ⟨p_b3, 3, none⟩ (.slice o_gb k_gb c_gb)) = w' ∧ Bs w' p_b3 #[.bool false, .slice o_ga k_ga c_ga, .bool n_gb, .slice o_gb k_gb c_gb] 26 ∧ Only p_b3 w_4 w' := x_b3.setN [(0, .bool false), (1, .slice o_ga k_ga c_ga), (2, .bool n_gb), (3, .slice o_gb k_gb c_gb)]
  rw [eW]; clear eW d0 d1 d2 d3 f0 f1 f2 f3 x_b3
  have x_b3 := x_b3'; clear x_b3'
  replace x_b2 := x_b2.frame ho ne_b2_b3; replace g1 := g1.fr hnd ho; replace g2 := g2.fr hnd ho; replace hb := belowOnly hb ho kb_b3
  refine hK _ _ rfl ?_; clear hK K ho hnd
  apply wpSq_end
  refine hK2 _ _ ?_
  refine wp_seq_k ?_
  intro K3 hK3
  refine wp_region_sq [0, 1, 2, 3, 4] (by kernel_rfl) ?_
  refine wpSq_call rfl (by kernel_rfl) fun K hK => ?_
  go_big_op; refine hK _ _ rfl ?_; clear hK K
  refine wpSq_call rfl (by kernel_rfl) fun K hK => ?_
  go_big_op; refine hK _ _ rfl ?_; clear hK K
  refine wpSq_call rfl (by kernel_rfl) fun K hK => ?_
  obtain ⟨d0, d1, d2, d3⟩ := x_b3.f4
  go_big_op; refine hK _ _ rfl ?_; clear hK K d0 d1 d2 d3
  refine wpSq_call rfl (by kernel_rfl) fun K hK => ?_
  go_big_op
  go_fit (rbits_rd' g1.mag (Nat.le_trans Lg1.out (by omega)))
  rintro e w_6 ⟨rfl, hb_6⟩
  replace x_b2 := x_b2.bl hb_6; replace g1 := g1.bl hb_6; replace g2 := g2.bl hb_6; replace x_b3 := x_b3.bl hb_6; replace hb := hb.trans (hb_6.mono hb.size)
  rw [val_dig, Hb.out]
  refine hK _ _ rfl ?_
  clear hK K hb_6
  refine wpSq_call rfl (by kernel_rfl) fun K hK => ?_
  go_big_move; refine hK _ _ rfl ?_; clear hK K
  apply wpSq_end
  refine hK3 _ _ ?_
  refine wp_seq_k ?_
  intro K4 hK4
  refine wp_region_sq [0, 1, 2, 3, 4] (by kernel_rfl) ?_
  refine wpSq_call rfl (by kernel_rfl) fun K hK => ?_
  go_big_op; refine hK _ _ rfl ?_; clear hK K
  refine wpSq_call rfl (by kernel_rfl) fun K hK => ?_
  go_big_op; refine hK _ _ rfl ?_; clear hK K
  refine wpSq_call rfl (by kernel_rfl) fun K hK => ?_
  obtain ⟨d0, d1, d2, d3⟩ := x_b3.f4
  go_big_op; refine hK _ _ rfl ?_; clear hK K d0 d1 d2 d3
  refine wpSq_call rfl (by kernel_rfl) fun K hK => ?_
  go_big_op
  go_fit (rbits_rd' g2.mag (Nat.le_trans Lg2.out (by omega)))
  rintro e w_7 ⟨rfl, hb_7⟩
  replace x_b2 := x_b2.bl hb_7; replace g1 := g1.bl hb_7; replace g2 := g2.bl hb_7; replace x_b3 := x_b3.bl hb_7; replace hb := hb.trans (hb_7.mono hb.size)
  rw [val_dig, Hc.out]
  refine hK _ _ rfl ?_
  clear hK K hb_7
  refine wpSq_call rfl (by kernel_rfl) fun K hK => ?_
  go_big_move; refine hK _ _ rfl ?_; clear hK K
  apply wpSq_end
  refine hK4 _ _ ?_
  refine wp_seq_k ?_
  intro K5 hK5
  refine wp_seq_k ?_
  intro K6 hK6
  refine wp_region_sq [0, 1, 2, 3, 4, 5, 6, 7, 8, 9, 10, 11, 12, 13, 14, 15, 16, 17] (by kernel_rfl) ?_
  refine wpSq_call rfl (by kernel_rfl) fun K hK => ?_
  go_big_move; refine hK _ _ rfl ?_; clear hK K
  refine wpSq_call rfl (by kernel_rfl) fun K hK => ?_
  go_big_op; refine hK _ _ rfl ?_; clear hK K
  refine wpSq_call rfl (by kernel_rfl) fun K hK => ?_
  go_big_move; refine hK _ _ rfl ?_; clear hK K
  refine wpSq_call rfl (by kernel_rfl) fun K hK => ?_
  go_big_move; refine hK _ _ rfl ?_; clear hK K
  refine wpSq_call rfl (by kernel_rfl) fun K hK => ?_
  go_big_move; refine hK _ _ rfl ?_; clear hK K
  refine wpSq_call rfl (by kernel_rfl) fun K hK => ?_
  go_big_op; refine hK _ _ rfl ?_; clear hK K
  refine wpSq_call rfl (by kernel_rfl) fun K hK => ?_
  go_big_op; refine hK _ _ rfl ?_; clear hK K
  refine wpSq_call rfl (by kernel_rfl) fun K hK => ?_
  go_big_op; refine hK _ _ rfl ?_; clear hK K
  refine wpSq_call rfl (by kernel_rfl) fun K hK => ?_
  go_big_move; refine hK _ _ rfl ?_; clear hK K
  refine wpSq_call rfl (by kernel_rfl) fun K hK => ?_
  go_big_move; refine hK _ _ rfl ?_; clear hK K
  refine wpSq_call rfl (by kernel_rfl) fun K hK => ?_
  go_big_op; refine hK _ _ rfl ?_; clear hK K
  refine wpSq_call rfl (by kernel_rfl) fun K hK => ?_
  go_big_move; refine hK _ _ rfl ?_; clear hK K
  apply wpSq_skip
  case hi => rfl
  case hw => kernel_rfl
  case hp => unfold Act.put; simp only [List.setIfInBounds_toArray, List.set_cons_succ, List.set_cons_zero]; rfl
  apply wpSq_skip
  case hi => rfl
  case hw => kernel_rfl
  case hp => unfold Act.put; simp only [List.setIfInBounds_toArray, List.set_cons_succ, List.set_cons_zero]; rfl
  apply wpSq_skip
  case hi => rfl
  case hw => kernel_rfl
  case hp => unfold Act.put; simp only [List.setIfInBounds_toArray, List.set_cons_succ, List.set_cons_zero]; rfl
  apply wpSq_skip
  case hi => rfl
  case hw => kernel_rfl
  case hp => unfold Act.put; simp only [List.setIfInBounds_toArray, List.set_cons_succ, List.set_cons_zero]; rfl
  refine wpSq_call rfl (by kernel_rfl) fun K hK => ?_
  go_big_op; refine hK _ _ rfl ?_; clear hK K
  refine wpSq_call rfl (by kernel_rfl) fun K hK => ?_
  go_big_op; refine hK _ _ rfl ?_; clear hK K
  apply wpSq_end
  refine hK6 _ _ ?_
  refine wp_cond_false (congrArg Value.bool (show _ = false from (by first | rfl | assumption | (simp; done) | exact decide_eq_false (by omega) | omega))) ?_
  refine wp_skip ?_
  refine hK5 _ _ ?_
  refine wp_seq_k ?_
  intro K7 hK7
  refine wp_region_sq [0, 1, 2, 3, 4, 5, 6, 7, 8, 9, 10, 11, 12, 13, 14, 15] (by kernel_rfl) ?_
  refine wpSq_call rfl (by kernel_rfl) fun K hK => ?_
  go_big_op; refine hK _ _ rfl ?_; clear hK K
  refine wpSq_call rfl (by kernel_rfl) fun K hK => ?_
  go_big_op; refine hK _ _ rfl ?_; clear hK K
  refine wpSq_call rfl (by kernel_rfl) fun K hK => ?_
  obtain ⟨d0, d1, d2, d3⟩ := x_b3.f4
  go_big_op; refine hK _ _ rfl ?_; clear hK K d0 d1 d2 d3
  refine wpSq_call rfl (by kernel_rfl) fun K hK => ?_
  go_big_move; refine hK _ _ rfl ?_; clear hK K
  apply wpSq_skip
  case hi => rfl
  case hw => kernel_rfl
  case hp => unfold Act.put; simp only [List.setIfInBounds_toArray, List.set_cons_succ, List.set_cons_zero]; rfl
  apply wpSq_skip
  case hi => rfl
  case hw => kernel_rfl
  case hp => unfold Act.put; simp only [List.setIfInBounds_toArray, List.set_cons_succ, List.set_cons_zero]; rfl
  apply wpSq_skip
  case hi => rfl
  case hw => kernel_rfl
  case hp => unfold Act.put; simp only [List.setIfInBounds_toArray, List.set_cons_succ, List.set_cons_zero]; rfl
  refine wpSq_call rfl (by kernel_rfl) fun K hK => ?_
  go_big_op; refine hK _ _ rfl ?_; clear hK K
  refine wpSq_call rfl (by kernel_rfl) fun K hK => ?_
  go_big_op; refine hK _ _ rfl ?_; clear hK K
  refine wpSq_call rfl (by kernel_rfl) fun K hK => ?_
  go_big_op; refine hK _ _ rfl ?_; clear hK K
  refine wpSq_call rfl (by kernel_rfl) fun K hK => ?_
  obtain ⟨d0, d1, d2, d3⟩ := x_b3.f4
  go_big_op; refine hK _ _ rfl ?_; clear hK K d0 d1 d2 d3
  refine wpSq_call rfl (by kernel_rfl) fun K hK => ?_
  go_big_move; refine hK _ _ rfl ?_; clear hK K
  refine wpSq_call rfl (by kernel_rfl) fun K hK => ?_
  go_big_op
  go_fit (rpow_rd N g1.mag (Nat.le_trans Lg1.out (by omega)) hN (by rw [val_dig]; exact L1.out))
  rintro e w_8 ⟨r1, rfl, hr1, hb_8⟩
  replace x_b2 := x_b2.bl hb_8; replace g1 := g1.bl hb_8; replace g2 := g2.bl hb_8; replace x_b3 := x_b3.bl hb_8; replace hb := hb.trans (hb_8.mono hb.size)
  rw [val_dig] at hr1
  refine hK _ _ rfl ?_
  clear hK K hb_8
  refine wpSq_call rfl (by kernel_rfl) fun K hK => ?_
  go_big_op
  go_fit (make_any false (qN x y ^ N) hr1 (Nat.le_trans L1.out (by decide)) (by rw [val_dig, if_neg Bool.false_ne_true]; exact EN.out))
  rintro e w_9 ⟨v_g3, rfl, g3, hb_9⟩
  replace x_b2 := x_b2.bl hb_9; replace g1 := g1.bl hb_9; replace g2 := g2.bl hb_9; replace x_b3 := x_b3.bl hb_9; replace hr1 := hr1.bl hb_9; replace hb := hb.trans (hb_9.mono hb.size)
  replace g3 := g3.rd
  obtain ⟨n_g3, o_g3, k_g3, c_g3, rfl⟩ := g3.open2
  refine hK _ _ rfl ?_
  clear hK K hb_9
  refine wpSq_call rfl (by kernel_rfl) fun K hK => ?_
  go_big_op
  clear hr1
  have lt_b2 := x_b2.lt
  have lt_b3 := x_b3.lt
  obtain ⟨p_b4, w_10, eP, eW, x_b4, hn, kb_b4⟩ := newBox w_9 #[.bool false, .slice none 0 0] 24 hb.size
  have ne_b2_b4 : Hid (p_b2 ≠ p_b4) := Nat.ne_of_lt (eP ▸ lt_b2)
  have ne_b3_b4 : Hid (p_b3 ≠ p_b4) := Nat.ne_of_lt (eP ▸ lt_b3)
  rw [eW, eP]
  clear eW eP lt_b2 lt_b3
  replace x_b2 := x_b2.bl hn; replace g1 := g1.bl hn; replace g2 := g2.bl hn; replace x_b3 := x_b3.bl hn; replace g3 := g3.bl hn; replace hb := hb.trans (hn.mono hb.size)
  refine hK _ _ rfl ?_; clear hK K hn
  refine wpSq_call rfl (by kernel_rfl) fun K hK => ?_
  obtain ⟨d0, d1⟩ := x_b4.f2
  have f0 := x_b4.free 0; have f1 := x_b4.free 1
  go_big_op
  have hnd := x_b4.nod rfl rfl
  obtain ⟨w_11, eW, x_b4', ho⟩ : ∃ w', ((w_10.setCell ⟨p_b4, 0, none⟩ (.bool n_g3)).setCell ⟨p_b4, 1, none⟩ (.slice o_g3 k_g3 c_g3)) = w' ∧ Bs w' p_b4 #[.bool n_g3, .slice o_g3 k_g3 c_g3] 24 ∧ Only p_b4 w_10 w' := x_b4.setN [(0, .bool n_g3), (1, .slice o_g3 k_g3 c_g3)]
  rw [eW]; clear eW d0 d1 f0 f1 x_b4
  have x_b4 := x_b4'; clear x_b4'
  replace x_b2 := x_b2.frame ho ne_b2_b4; replace g1 := g1.fr hnd ho; replace g2 := g2.fr hnd ho; replace x_b3 := x_b3.frame ho ne_b3_b4; replace g3 := g3.fr hnd ho; replace hb := belowOnly hb ho kb_b4
  refine hK _ _ rfl ?_; clear hK K ho hnd
  apply wpSq_end
  refine hK7 _ _ ?_
  refine wp_seq_k ?_
  intro K8 hK8
  refine wp_region_fl2 [(0, false), (1, false), (2, false), (3, false), (4, false), (5, true), (6, true), (7, false)] [8, 9] [] (fun _ => default) [0, 99, 99, 1, 99, 99, 99, 99, 99, 99] [] (fun w' => w'.cell? ⟨p_b4, 0, none⟩ = some (.bool n_g3) ∧ w'.cell? ⟨p_b4, 1, none⟩ = some (.slice o_g3 k_g3 c_g3) ∧ w'.cell? ⟨p_b3, 0, none⟩ = some (.bool false) ∧ w'.cell? ⟨p_b3, 1, none⟩ = some (.slice o_ga k_ga c_ga) ∧ w'.cell? ⟨p_b3, 2, none⟩ = some (.bool n_gb) ∧ w'.cell? ⟨p_b3, 3, none⟩ = some (.slice o_gb k_gb c_gb)) [fun w' => w'.cell? ⟨p_b4, 0, none⟩ = some (.bool n_g3) ∧ w'.cell? ⟨p_b4, 1, none⟩ = some (.slice o_g3 k_g3 c_g3), fun w' => w'.cell? ⟨p_b3, 0, none⟩ = some (.bool false) ∧ w'.cell? ⟨p_b3, 1, none⟩ = some (.slice o_ga k_ga c_ga) ∧ w'.cell? ⟨p_b3, 2, none⟩ = some (.bool n_gb) ∧ w'.cell? ⟨p_b3, 3, none⟩ = some (.slice o_gb k_gb c_gb)] (by kernel_rfl) (by kernel_rfl) (by kernel_rfl) (by kernel_rfl) (by kernel_rfl) (by kernel_rfl) (by kernel_rfl) (by kernel_rfl) (by decide) (by intro j hj; cases hj) (by intro w' o hC; obtain ⟨c0, c1, c2, c3, c4, c5⟩ := hC; exact ⟨cell_alloc c0 o, cell_alloc c1 o, cell_alloc c2 o, cell_alloc c3 o, cell_alloc c4 o, cell_alloc c5 o⟩) (by intro w' hC G hG; obtain ⟨c0, c1, c2, c3, c4, c5⟩ := hC; simp only [List.mem_cons, List.not_mem_nil, or_false] at hG; rcases hG with rfl | rfl <;> first | exact ⟨c0, c1⟩ | exact ⟨c2, c3, c4, c5⟩) ?_
  have lt_b2 := x_b2.lt
  have lt_b3 := x_b3.lt
  have lt_b4 := x_b4.lt
  intro w_12 hn
  replace lt_b2 := Nat.lt_of_lt_of_le lt_b2 hn.size
  replace lt_b3 := Nat.lt_of_lt_of_le lt_b3 hn.size
  replace lt_b4 := Nat.lt_of_lt_of_le lt_b4 hn.size
  replace x_b2 := x_b2.bl hn; replace g1 := g1.bl hn; replace g2 := g2.bl hn; replace x_b3 := x_b3.bl hn; replace g3 := g3.bl hn; replace x_b4 := x_b4.bl hn; replace hb := hb.trans (hn.mono hb.size)
  clear hn
  have kb0 := hb.size
  refine ⟨⟨x_b4.cell 0 rfl, x_b4.cell 1 rfl, x_b3.cell 0 rfl, x_b3.cell 1 rfl, x_b3.cell 2 rfl, x_b3.cell 3 rfl⟩, ?_⟩
  apply wpFl_ld rfl rfl; (case h1 => intro w' hC K hK; obtain ⟨c0, c1⟩ := hC; go_big_op; exact hK); iterate 4 kernel_rfl
  apply wpFl_ld rfl rfl; (case h1 => intro w' hC K hK; go_big_op; exact hK); iterate 4 kernel_rfl
  apply wpFl_ld rfl rfl; (case h1 => intro w' hC K hK; go_big_op; exact hK); iterate 4 kernel_rfl
  apply wpFl_ld rfl rfl; (case h1 => intro w' hC K hK; obtain ⟨c0, c1, c2, c3⟩ := hC; go_big_op; exact hK); iterate 4 kernel_rfl
  apply wpFl_ld rfl rfl; (case h1 => intro w' hC K hK; go_big_move; exact hK); iterate 4 kernel_rfl
  refine wpFl_call rfl (by kernel_rfl) fun w_13 hn hC => ?_; clear hC
  replace x_b2 := x_b2.bl hn; replace g1 := g1.bl hn; replace g2 := g2.bl hn; replace x_b3 := x_b3.bl hn; replace g3 := g3.bl hn; replace x_b4 := x_b4.bl hn; replace hb := hb.trans (hn.mono hb.size)
  clear hn; intro K hK
  go_big_op
  go_fit (rpow_rd N g2.mag (Nat.le_trans Lg2.out (by omega)) hN (by rw [val_dig]; exact L2.out))
  rintro e w_14 ⟨r2, rfl, hr2, hb_14⟩
  replace x_b2 := x_b2.bl hb_14; replace g1 := g1.bl hb_14; replace g2 := g2.bl hb_14; replace x_b3 := x_b3.bl hb_14; replace g3 := g3.bl hb_14; replace x_b4 := x_b4.bl hb_14; replace hb := hb.trans (hb_14.mono hb.size)
  rw [val_dig] at hr2
  refine hK _ _ rfl hb_14 ⟨x_b4.cell 0 rfl, x_b4.cell 1 rfl, x_b3.cell 0 rfl, x_b3.cell 1 rfl, x_b3.cell 2 rfl, x_b3.cell 3 rfl⟩ ?_
  clear hK K hb_14
  refine wpFl_call rfl (by kernel_rfl) fun w_15 hn hC => ?_; clear hC
  replace x_b2 := x_b2.bl hn; replace g1 := g1.bl hn; replace g2 := g2.bl hn; replace x_b3 := x_b3.bl hn; replace g3 := g3.bl hn; replace x_b4 := x_b4.bl hn; replace hr2 := hr2.bl hn; replace hb := hb.trans (hn.mono hb.size)
  clear hn; intro K hK
  go_big_op
  go_fit (make_any false (qD x y ^ N) hr2 (Nat.le_trans L2.out (by decide)) (by rw [val_dig, if_neg Bool.false_ne_true]; exact ED.out))
  rintro e w_16 ⟨v_g4, rfl, g4, hb_16⟩
  replace x_b2 := x_b2.bl hb_16; replace g1 := g1.bl hb_16; replace g2 := g2.bl hb_16; replace x_b3 := x_b3.bl hb_16; replace g3 := g3.bl hb_16; replace x_b4 := x_b4.bl hb_16; replace hr2 := hr2.bl hb_16; replace hb := hb.trans (hb_16.mono hb.size)
  replace g4 := g4.rd
  obtain ⟨n_g4, o_g4, k_g4, c_g4, rfl⟩ := g4.open2
  refine hK _ _ rfl hb_16 ⟨x_b4.cell 0 rfl, x_b4.cell 1 rfl, x_b3.cell 0 rfl, x_b3.cell 1 rfl, x_b3.cell 2 rfl, x_b3.cell 3 rfl⟩ ?_
  clear hK K hb_16
  apply wpFl_ld rfl rfl; (case h1 => intro w' hC K hK; go_big_op; exact hK); iterate 4 kernel_rfl
  apply wpFl_end
  case ha => intro pt; simp only [putF]; rfl
  case h =>
  intro w_17 pt hn hC hF hD
  clear hC
  clear hr2
  replace x_b2 := x_b2.bl hn; replace g1 := g1.bl hn; replace g2 := g2.bl hn; replace x_b3 := x_b3.bl hn; replace g3 := g3.bl hn; replace x_b4 := x_b4.bl hn; replace g4 := g4.bl hn; replace hb := hb.trans (hn.mono hb.size)
  clear hn
  clear hF hD
  clear pt
  clear kb0 lt_b2 lt_b3 lt_b4
  refine wpTail_call rfl (by kernel_rfl) fun K hK => ?_
  obtain ⟨d0, d1, d2, d3⟩ := x_b2.f4
  have f0 := x_b2.free 0; have f1 := x_b2.free 1; have f2 := x_b2.free 2; have f3 := x_b2.free 3
  go_big_op
  have hnd := x_b2.nod rfl rfl
  obtain ⟨w_18, eW, x_b2', ho⟩ : ∃ w', ((((w_17.setCell ⟨p_b2, 0, none⟩ (.bool n_g3)).setCell ⟨p_b2, 1, none⟩ (.slice o_g3 k_g3 c_g3)).setCell ⟨p_b2, 2, none⟩ (.bool n_g4)).setCell ⟨p_b2, 3, none⟩ (.slice o_g4 k_g4 c_g4)) = w' ∧ Bs w' p_b2 #[.bool n_g3, .slice o_g3 k_g3 c_g3, .bool n_g4, .slice o_g4 k_g4 c_g4] 26 ∧ Only p_b2 w_17 w' := x_b2.setN [(0, .bool n_g3), (1, .slice o_g3 k_g3 c_g3), (2, .bool n_g4), (3, .slice o_g4 k_g4 c_g4)]
  rw [eW]; clear eW d0 d1 d2 d3 f0 f1 f2 f3 x_b2
  have x_b2 := x_b2'; clear x_b2'
  replace g1 := g1.fr hnd ho; replace g2 := g2.fr hnd ho; replace x_b3 := x_b3.frame ho ne_b2_b3.symm; replace g3 := g3.fr hnd ho; replace x_b4 := x_b4.frame ho ne_b2_b4.symm; replace g4 := g4.fr hnd ho; replace hb := belowOnly hb ho kb_b2
  refine hK _ _ rfl (And.intro ⟨x_b4.cell 0 rfl, x_b4.cell 1 rfl⟩ (And.intro ⟨x_b3.cell 0 rfl, x_b3.cell 1 rfl, x_b3.cell 2 rfl, x_b3.cell 3 rfl⟩ True.intro)) ?_; clear hK K ho hnd
  refine wpTail_call rfl (by kernel_rfl) fun K hK => ?_
  go_big_move; refine hK _ _ rfl (And.intro ⟨x_b4.cell 0 rfl, x_b4.cell 1 rfl⟩ (And.intro ⟨x_b3.cell 0 rfl, x_b3.cell 1 rfl, x_b3.cell 2 rfl, x_b3.cell 3 rfl⟩ True.intro)) ?_; clear hK K
  apply wpTail_end
  refine hK8 _ _ ?_
  refine wp_ret ?_
  try dsimp only [Exit.then, Exit.inBlock]
  obtain ⟨r0_0, r0_1, r0_2, r0_3⟩ := x_b2.f4
  refine bodyPost_ret (v := (.tuple #[(.agg #[.bool n_g3, .slice o_g3 k_g3 c_g3, .bool n_g4, .slice o_g4 k_g4 c_g4]), (.bool true)])) (by simp [results, Tryz.results47, go_sem, r0_0, r0_1, r0_2, r0_3]) rfl ?_
  exact ⟨_, rfl, .mk' g3 g4, hb⟩
end
end Go.Proofs.YtkgbfnmlpajblaaGreatDoor

/- The reference's Pow: Q12D. -/
namespace Go.Proofs.YtkgbfnmlpajblaaGreatDoor
open Go Go.RowKit Dig
set_option linter.unusedVariables false
section
variable {w : World} {va vb : Value} {x y u v : Int} {l m k n : Nat}
set_option maxHeartbeats 8000000 in
set_option maxRecDepth 20000 in
theorem rPow_bb_odd (N : Nat) (ha : PN w va x l y m) (hl : l ≤ 1048576) (hm : m ≤ 1048576) (h0 : y ≠ 0) (hN : N ≤ 9223372036854775807) (h1 : 1 < bitsN (qN x y).natAbs ∧ N ≤ 65536 / bitsN (qN x y).natAbs) (h2 : 1 < bitsN (qD x y).natAbs ∧ N ≤ 65536 / bitsN (qD x y).natAbs) (hs : qN x y < 0) (hN2 : N % 2 = 1) (l1 : (dig ((qN x y).natAbs ^ N)).length ≤ 1048576) (l2 : (dig ((qD x y).natAbs ^ N)).length ≤ 1048576) :
    Calls Tryz.prog 47 #[va, .int .i64 N] w fun e w' => ∃ r, e = .returned (.tuple #[r, .bool true]) ∧ PC w' r (qN x y ^ N) (qD x y ^ N) ∧ Below w.heap.size w w' := by
  have H0 := hide h0
  have ED := hide (show (((qD x y).natAbs ^ N : Nat) : Int) = qD x y ^ N from pow_pos' (Int.le_of_lt (qD_pos (x := x) h0)))
  have EN := hide (pow_odd hs hN2)
  have HSG := hide (show decide (qN x y < 0) = true from decide_eq_true hs)
  obtain ⟨hp2, hp3⟩ := mod2_odd hN2
  clear hN2
  have L1 := hide l1
  have L2 := hide l2
  clear h0 hs l1 l2
  obtain ⟨b, hb⟩ : ∃ b, bitsN (qN x y).natAbs = b := ⟨_, rfl⟩
  rw [hb] at h1
  have Hb := hide hb
  obtain ⟨hgb, h0b⟩ := q_gt h1.1
  have hdb : ((65536 : Int) / (b : Int)) = ((65536 / b : Nat) : Int) := rfl
  have hddb : Int.tdiv 65536 (b : Int) = ((65536 / b : Nat) : Int) := rfl
  have hq65b : 65536 / b ≤ 65536 := Nat.div_le_self _ _
  generalize 65536 / b = qb at *
  have hwb := q_wrap hq65b
  have hqbb := q_no h1.2
  clear hb h1
  obtain ⟨c, hc⟩ : ∃ c, bitsN (qD x y).natAbs = c := ⟨_, rfl⟩
  rw [hc] at h2
  have Hc := hide hc
  obtain ⟨hgc, h0c⟩ := q_gt h2.1
  have hdc : ((65536 : Int) / (c : Int)) = ((65536 / c : Nat) : Int) := rfl
  have hddc : Int.tdiv 65536 (c : Int) = ((65536 / c : Nat) : Int) := rfl
  have hq65c : 65536 / c ≤ 65536 := Nat.div_le_self _ _
  generalize 65536 / c = qc at *
  have hwc := q_wrap hq65c
  have hqbc := q_no h2.2
  clear hc h2
  obtain ⟨n_0a, o_0a, k_0a, c_0a, n_0b, o_0b, k_0b, c_0b, rfl, ha1, ha2⟩ := ha
  go_enter Tryz.func47, Tryz.ntmps47
  have hb := Below.refl w.heap.size w
  refine wp_seq_k ?_
  intro K1 hK1
  refine wp_region_sq [0, 1, 2] (by kernel_rfl) ?_
  refine wpSq_call rfl (by kernel_rfl) fun K hK => ?_
  go_big_op
  obtain ⟨p_b1, w_1, eP, eW, x_b1, hn, kb_b1⟩ := newBox w #[.bool n_0a, .slice o_0a k_0a c_0a, .bool n_0b, .slice o_0b k_0b c_0b] 26 hb.size
  rw [eW, eP]
  clear eW eP
  replace ha1 := ha1.bl hn; replace ha2 := ha2.bl hn; replace hb := hb.trans (hn.mono hb.size)
  refine hK _ _ rfl ?_; clear hK K hn
  refine wpSq_call rfl (by kernel_rfl) fun K hK => ?_
  go_big_op
  have lt_b1 := x_b1.lt
  obtain ⟨p_b2, w_2, eP, eW, x_b2, hn, kb_b2⟩ := newBox w_1 #[.bool false, .slice none 0 0, .bool false, .slice none 0 0] 26 hb.size
  have ne_b1_b2 : Hid (p_b1 ≠ p_b2) := Nat.ne_of_lt (eP ▸ lt_b1)
  rw [eW, eP]
  clear eW eP lt_b1
  replace ha1 := ha1.bl hn; replace ha2 := ha2.bl hn; replace x_b1 := x_b1.bl hn; replace hb := hb.trans (hn.mono hb.size)
  refine hK _ _ rfl ?_; clear hK K hn
  refine wpSq_call rfl (by kernel_rfl) fun K hK => ?_
  go_big_move; refine hK _ _ rfl ?_; clear hK K
  apply wpSq_end
  refine hK1 _ _ ?_
  refine wp_seq_k ?_
  intro K2 hK2
  refine wp_region_sq [0, 1, 2, 3] (by kernel_rfl) ?_
  refine wpSq_call rfl (by kernel_rfl) fun K hK => ?_
  obtain ⟨d0, d1, d2, d3⟩ := x_b1.f4
  go_big_op; refine hK _ _ rfl ?_; clear hK K d0 d1 d2 d3
  refine wpSq_call rfl (by kernel_rfl) fun K hK => ?_
  go_big_op
  go_fit (rfnorm_any (PN.mk' ha1 ha2) (by omega) (by omega) H0.out)
  rintro e w_3 ⟨_, rfl, ⟨n_ga, o_ga, k_ga, c_ga, n_gb, o_gb, k_gb, c_gb, rfl, g1, g2⟩, hb_3⟩
  clear x_b1
  replace ha1 := ha1.bl hb_3; replace ha2 := ha2.bl hb_3; replace x_b2 := x_b2.bl hb_3; replace hb := hb.trans (hb_3.mono hb.size)
  have Lg1 := hide (g1.lenOf (qN_len (H0.out) (ha1.len)))
  have Lg2 := hide (g2.lenOf (qD_len (H0.out) (ha2.len)))
  have en := g1.neg.trans HSG.out
  subst en
  refine hK _ _ rfl ?_
  clear hK K hb_3
  refine wpSq_call rfl (by kernel_rfl) fun K hK => ?_
  go_big_op
  clear ha1 ha2
  have lt_b2 := x_b2.lt
  obtain ⟨p_b3, w_4, eP, eW, x_b3, hn, kb_b3⟩ := newBox w_3 #[.bool false, .slice none 0 0, .bool false, .slice none 0 0] 26 hb.size
  have ne_b2_b3 : Hid (p_b2 ≠ p_b3) := Nat.ne_of_lt (eP ▸ lt_b2)
  rw [eW, eP]
  clear eW eP lt_b2
  replace x_b2 := x_b2.bl hn; replace g1 := g1.bl hn; replace g2 := g2.bl hn; replace hb := hb.trans (hn.mono hb.size)
  refine hK _ _ rfl ?_; clear hK K hn
  refine wpSq_call rfl (by kernel_rfl) fun K hK => ?_
  obtain ⟨d0, d1, d2, d3⟩ := x_b3.f4
  have f0 := x_b3.free 0; have f1 := x_b3.free 1; have f2 := x_b3.free 2; have f3 := x_b3.free 3
  go_big_op
  have hnd := x_b3.nod rfl rfl
  obtain ⟨w_5, eW, x_b3', ho⟩ : ∃ w', ((((w_4.setCell ⟨p_b3, 0, none⟩ (.bool true)).setCell ⟨p_b3, 1, none⟩ (.slice o_ga k_ga c_ga)).setCell ⟨p_b3, 2, none⟩ (.bool n_gb)).setCell ⟨p_b3, 3, none⟩ (.slice o_gb k_gb c_gb)) = w' ∧ Bs w' p_b3 #[.bool true, .slice o_ga k_ga c_ga, .bool n_gb, .slice o_gb k_gb c_gb] 26 ∧ Only p_b3 w_4 w' := x_b3.setN [(0, .bool true), (1, .slice o_ga k_ga c_ga), (2, .bool n_gb), (3, .slice o_gb k_gb c_gb)]
  rw [eW]; clear eW d0 d1 d2 d3 f0 f1 f2 f3 x_b3
  have x_b3 := x_b3'; clear x_b3'
  replace x_b2 := x_b2.frame ho ne_b2_b3; replace g1 := g1.fr hnd ho; replace g2 := g2.fr hnd ho; replace hb := belowOnly hb ho kb_b3
  refine hK _ _ rfl ?_; clear hK K ho hnd
  apply wpSq_end
  refine hK2 _ _ ?_
  refine wp_seq_k ?_
  intro K3 hK3
  refine wp_region_sq [0, 1, 2, 3, 4] (by kernel_rfl) ?_
  refine wpSq_call rfl (by kernel_rfl) fun K hK => ?_
  go_big_op; refine hK _ _ rfl ?_; clear hK K
  refine wpSq_call rfl (by kernel_rfl) fun K hK => ?_
  go_big_op; refine hK _ _ rfl ?_; clear hK K
  refine wpSq_call rfl (by kernel_rfl) fun K hK => ?_
  obtain ⟨d0, d1, d2, d3⟩ := x_b3.f4
  go_big_op; refine hK _ _ rfl ?_; clear hK K d0 d1 d2 d3
  refine wpSq_call rfl (by kernel_rfl) fun K hK => ?_
  go_big_op
  go_fit (rbits_rd' g1.mag (Nat.le_trans Lg1.out (by omega)))
  rintro e w_6 ⟨rfl, hb_6⟩
  replace x_b2 := x_b2.bl hb_6; replace g1 := g1.bl hb_6; replace g2 := g2.bl hb_6; replace x_b3 := x_b3.bl hb_6; replace hb := hb.trans (hb_6.mono hb.size)
  rw [val_dig, Hb.out]
  refine hK _ _ rfl ?_
  clear hK K hb_6
  refine wpSq_call rfl (by kernel_rfl) fun K hK => ?_
  go_big_move; refine hK _ _ rfl ?_; clear hK K
  apply wpSq_end
  refine hK3 _ _ ?_
  refine wp_seq_k ?_
  intro K4 hK4
  refine wp_region_sq [0, 1, 2, 3, 4] (by kernel_rfl) ?_
  refine wpSq_call rfl (by kernel_rfl) fun K hK => ?_
  go_big_op; refine hK _ _ rfl ?_; clear hK K
  refine wpSq_call rfl (by kernel_rfl) fun K hK => ?_
  go_big_op; refine hK _ _ rfl ?_; clear hK K
  refine wpSq_call rfl (by kernel_rfl) fun K hK => ?_
  obtain ⟨d0, d1, d2, d3⟩ := x_b3.f4
  go_big_op; refine hK _ _ rfl ?_; clear hK K d0 d1 d2 d3
  refine wpSq_call rfl (by kernel_rfl) fun K hK => ?_
  go_big_op
  go_fit (rbits_rd' g2.mag (Nat.le_trans Lg2.out (by omega)))
  rintro e w_7 ⟨rfl, hb_7⟩
  replace x_b2 := x_b2.bl hb_7; replace g1 := g1.bl hb_7; replace g2 := g2.bl hb_7; replace x_b3 := x_b3.bl hb_7; replace hb := hb.trans (hb_7.mono hb.size)
  rw [val_dig, Hc.out]
  refine hK _ _ rfl ?_
  clear hK K hb_7
  refine wpSq_call rfl (by kernel_rfl) fun K hK => ?_
  go_big_move; refine hK _ _ rfl ?_; clear hK K
  apply wpSq_end
  refine hK4 _ _ ?_
  refine wp_seq_k ?_
  intro K5 hK5
  refine wp_seq_k ?_
  intro K6 hK6
  refine wp_region_sq [0, 1, 2, 3, 4, 5, 6, 7, 8, 9, 10, 11, 12, 13, 14, 15, 16, 17] (by kernel_rfl) ?_
  refine wpSq_call rfl (by kernel_rfl) fun K hK => ?_
  go_big_move; refine hK _ _ rfl ?_; clear hK K
  refine wpSq_call rfl (by kernel_rfl) fun K hK => ?_
  go_big_op; refine hK _ _ rfl ?_; clear hK K
  refine wpSq_call rfl (by kernel_rfl) fun K hK => ?_
  go_big_move; refine hK _ _ rfl ?_; clear hK K
  refine wpSq_call rfl (by kernel_rfl) fun K hK => ?_
  go_big_move; refine hK _ _ rfl ?_; clear hK K
  refine wpSq_call rfl (by kernel_rfl) fun K hK => ?_
  go_big_move; refine hK _ _ rfl ?_; clear hK K
  refine wpSq_call rfl (by kernel_rfl) fun K hK => ?_
  go_big_op; refine hK _ _ rfl ?_; clear hK K
  refine wpSq_call rfl (by kernel_rfl) fun K hK => ?_
  go_big_op; refine hK _ _ rfl ?_; clear hK K
  refine wpSq_call rfl (by kernel_rfl) fun K hK => ?_
  go_big_op; refine hK _ _ rfl ?_; clear hK K
  refine wpSq_call rfl (by kernel_rfl) fun K hK => ?_
  go_big_move; refine hK _ _ rfl ?_; clear hK K
  refine wpSq_call rfl (by kernel_rfl) fun K hK => ?_
  go_big_move; refine hK _ _ rfl ?_; clear hK K
  refine wpSq_call rfl (by kernel_rfl) fun K hK => ?_
  go_big_op; refine hK _ _ rfl ?_; clear hK K
  refine wpSq_call rfl (by kernel_rfl) fun K hK => ?_
  go_big_move; refine hK _ _ rfl ?_; clear hK K
  refine wpSq_call rfl (by kernel_rfl) fun K hK => ?_
  go_big_move; refine hK _ _ rfl ?_; clear hK K
  refine wpSq_call rfl (by kernel_rfl) fun K hK => ?_
  go_big_move; refine hK _ _ rfl ?_; clear hK K
  refine wpSq_call rfl (by kernel_rfl) fun K hK => ?_
  go_big_op; refine hK _ _ rfl ?_; clear hK K
  refine wpSq_call rfl (by kernel_rfl) fun K hK => ?_
  go_big_op; refine hK _ _ rfl ?_; clear hK K
  refine wpSq_call rfl (by kernel_rfl) fun K hK => ?_
  go_big_op; refine hK _ _ rfl ?_; clear hK K
  refine wpSq_call rfl (by kernel_rfl) fun K hK => ?_
  go_big_op; refine hK _ _ rfl ?_; clear hK K
  apply wpSq_end
  refine hK6 _ _ ?_
  refine wp_cond_false (congrArg Value.bool (show _ = false from (by first | rfl | assumption | (simp; done) | exact decide_eq_false (by omega) | omega))) ?_
  refine wp_skip ?_
  refine hK5 _ _ ?_
  refine wp_seq_k ?_
  intro K7 hK7
  refine wp_region_sq [0, 1, 2, 3, 4, 5, 6, 7, 8, 9, 10, 11, 12, 13, 14, 15] (by kernel_rfl) ?_
  refine wpSq_call rfl (by kernel_rfl) fun K hK => ?_
  go_big_op; refine hK _ _ rfl ?_; clear hK K
  refine wpSq_call rfl (by kernel_rfl) fun K hK => ?_
  go_big_op; refine hK _ _ rfl ?_; clear hK K
  refine wpSq_call rfl (by kernel_rfl) fun K hK => ?_
  obtain ⟨d0, d1, d2, d3⟩ := x_b3.f4
  go_big_op; refine hK _ _ rfl ?_; clear hK K d0 d1 d2 d3
  refine wpSq_call rfl (by kernel_rfl) fun K hK => ?_
  go_big_move; refine hK _ _ rfl ?_; clear hK K
  refine wpSq_call rfl (by kernel_rfl) fun K hK => ?_
  go_big_move; refine hK _ _ rfl ?_; clear hK K
  refine wpSq_call rfl (by kernel_rfl) fun K hK => ?_
  go_big_op; refine hK _ _ rfl ?_; clear hK K
  refine wpSq_call rfl (by kernel_rfl) fun K hK => ?_
  go_big_op; refine hK _ _ rfl ?_; clear hK K
  refine wpSq_call rfl (by kernel_rfl) fun K hK => ?_
  go_big_op; refine hK _ _ rfl ?_; clear hK K
  refine wpSq_call rfl (by kernel_rfl) fun K hK => ?_
  go_big_op; refine hK _ _ rfl ?_; clear hK K
  refine wpSq_call rfl (by kernel_rfl) fun K hK => ?_
  go_big_op; refine hK _ _ rfl ?_; clear hK K
  refine wpSq_call rfl (by kernel_rfl) fun K hK => ?_
  obtain ⟨d0, d1, d2, d3⟩ := x_b3.f4
  go_big_op; refine hK _ _ rfl ?_; clear hK K d0 d1 d2 d3
  refine wpSq_call rfl (by kernel_rfl) fun K hK => ?_
  go_big_move; refine hK _ _ rfl ?_; clear hK K
  refine wpSq_call rfl (by kernel_rfl) fun K hK => ?_
  go_big_op
  go_fit (rpow_rd N g1.mag (Nat.le_trans Lg1.out (by omega)) hN (by rw [val_dig]; exact L1.out))
  rintro e w_8 ⟨r1, rfl, hr1, hb_8⟩
  replace x_b2 := x_b2.bl hb_8; replace g1 := g1.bl hb_8; replace g2 := g2.bl hb_8; replace x_b3 := x_b3.bl hb_8; replace hb := hb.trans (hb_8.mono hb.size)
  rw [val_dig] at hr1
  refine hK _ _ rfl ?_
  clear hK K hb_8
  refine wpSq_call rfl (by kernel_rfl) fun K hK => ?_
  go_big_op
  go_fit (make_any true (qN x y ^ N) hr1 (Nat.le_trans L1.out (by decide)) (by rw [val_dig, if_pos rfl]; exact EN.out))
  rintro e w_9 ⟨v_g3, rfl, g3, hb_9⟩
  replace x_b2 := x_b2.bl hb_9; replace g1 := g1.bl hb_9; replace g2 := g2.bl hb_9; replace x_b3 := x_b3.bl hb_9; replace hr1 := hr1.bl hb_9; replace hb := hb.trans (hb_9.mono hb.size)
  replace g3 := g3.rd
  obtain ⟨n_g3, o_g3, k_g3, c_g3, rfl⟩ := g3.open2
  refine hK _ _ rfl ?_
  clear hK K hb_9
  refine wpSq_call rfl (by kernel_rfl) fun K hK => ?_
  go_big_op
  clear hr1
  have lt_b2 := x_b2.lt
  have lt_b3 := x_b3.lt
  obtain ⟨p_b4, w_10, eP, eW, x_b4, hn, kb_b4⟩ := newBox w_9 #[.bool false, .slice none 0 0] 24 hb.size
  have ne_b2_b4 : Hid (p_b2 ≠ p_b4) := Nat.ne_of_lt (eP ▸ lt_b2)
  have ne_b3_b4 : Hid (p_b3 ≠ p_b4) := Nat.ne_of_lt (eP ▸ lt_b3)
  rw [eW, eP]
  clear eW eP lt_b2 lt_b3
  replace x_b2 := x_b2.bl hn; replace g1 := g1.bl hn; replace g2 := g2.bl hn; replace x_b3 := x_b3.bl hn; replace g3 := g3.bl hn; replace hb := hb.trans (hn.mono hb.size)
  refine hK _ _ rfl ?_; clear hK K hn
  refine wpSq_call rfl (by kernel_rfl) fun K hK => ?_
  obtain ⟨d0, d1⟩ := x_b4.f2
  have f0 := x_b4.free 0; have f1 := x_b4.free 1
  go_big_op
  have hnd := x_b4.nod rfl rfl
  obtain ⟨w_11, eW, x_b4', ho⟩ : ∃ w', ((w_10.setCell ⟨p_b4, 0, none⟩ (.bool n_g3)).setCell ⟨p_b4, 1, none⟩ (.slice o_g3 k_g3 c_g3)) = w' ∧ Bs w' p_b4 #[.bool n_g3, .slice o_g3 k_g3 c_g3] 24 ∧ Only p_b4 w_10 w' := x_b4.setN [(0, .bool n_g3), (1, .slice o_g3 k_g3 c_g3)]
  rw [eW]; clear eW d0 d1 f0 f1 x_b4
  have x_b4 := x_b4'; clear x_b4'
  replace x_b2 := x_b2.frame ho ne_b2_b4; replace g1 := g1.fr hnd ho; replace g2 := g2.fr hnd ho; replace x_b3 := x_b3.frame ho ne_b3_b4; replace g3 := g3.fr hnd ho; replace hb := belowOnly hb ho kb_b4
  refine hK _ _ rfl ?_; clear hK K ho hnd
  apply wpSq_end
  refine hK7 _ _ ?_
  refine wp_seq_k ?_
  intro K8 hK8
  refine wp_region_fl2 [(0, false), (1, false), (2, false), (3, false), (4, false), (5, true), (6, true), (7, false)] [8, 9] [] (fun _ => default) [0, 99, 99, 1, 99, 99, 99, 99, 99, 99] [] (fun w' => w'.cell? ⟨p_b4, 0, none⟩ = some (.bool n_g3) ∧ w'.cell? ⟨p_b4, 1, none⟩ = some (.slice o_g3 k_g3 c_g3) ∧ w'.cell? ⟨p_b3, 0, none⟩ = some (.bool true) ∧ w'.cell? ⟨p_b3, 1, none⟩ = some (.slice o_ga k_ga c_ga) ∧ w'.cell? ⟨p_b3, 2, none⟩ = some (.bool n_gb) ∧ w'.cell? ⟨p_b3, 3, none⟩ = some (.slice o_gb k_gb c_gb)) [fun w' => w'.cell? ⟨p_b4, 0, none⟩ = some (.bool n_g3) ∧ w'.cell? ⟨p_b4, 1, none⟩ = some (.slice o_g3 k_g3 c_g3), fun w' => w'.cell? ⟨p_b3, 0, none⟩ = some (.bool true) ∧ w'.cell? ⟨p_b3, 1, none⟩ = some (.slice o_ga k_ga c_ga) ∧ w'.cell? ⟨p_b3, 2, none⟩ = some (.bool n_gb) ∧ w'.cell? ⟨p_b3, 3, none⟩ = some (.slice o_gb k_gb c_gb)] (by kernel_rfl) (by kernel_rfl) (by kernel_rfl) (by kernel_rfl) (by kernel_rfl) (by kernel_rfl) (by kernel_rfl) (by kernel_rfl) (by decide) (by intro j hj; cases hj) (by intro w' o hC; obtain ⟨c0, c1, c2, c3, c4, c5⟩ := hC; exact ⟨cell_alloc c0 o, cell_alloc c1 o, cell_alloc c2 o, cell_alloc c3 o, cell_alloc c4 o, cell_alloc c5 o⟩) (by intro w' hC G hG; obtain ⟨c0, c1, c2, c3, c4, c5⟩ := hC; simp only [List.mem_cons, List.not_mem_nil, or_false] at hG; rcases hG with rfl | rfl <;> first | exact ⟨c0, c1⟩ | exact ⟨c2, c3, c4, c5⟩) ?_
  have lt_b2 := x_b2.lt
  have lt_b3 := x_b3.lt
  have lt_b4 := x_b4.lt
  intro w_12 hn
  replace lt_b2 := Nat.lt_of_lt_of_le lt_b2 hn.size
  replace lt_b3 := Nat.lt_of_lt_of_le lt_b3 hn.size
  replace lt_b4 := Nat.lt_of_lt_of_le lt_b4 hn.size
  replace x_b2 := x_b2.bl hn; replace g1 := g1.bl hn; replace g2 := g2.bl hn; replace x_b3 := x_b3.bl hn; replace g3 := g3.bl hn; replace x_b4 := x_b4.bl hn; replace hb := hb.trans (hn.mono hb.size)
  clear hn
  have kb0 := hb.size
  refine ⟨⟨x_b4.cell 0 rfl, x_b4.cell 1 rfl, x_b3.cell 0 rfl, x_b3.cell 1 rfl, x_b3.cell 2 rfl, x_b3.cell 3 rfl⟩, ?_⟩
  apply wpFl_ld rfl rfl; (case h1 => intro w' hC K hK; obtain ⟨c0, c1⟩ := hC; go_big_op; exact hK); iterate 4 kernel_rfl
  apply wpFl_ld rfl rfl; (case h1 => intro w' hC K hK; go_big_op; exact hK); iterate 4 kernel_rfl
  apply wpFl_ld rfl rfl; (case h1 => intro w' hC K hK; go_big_op; exact hK); iterate 4 kernel_rfl
  apply wpFl_ld rfl rfl; (case h1 => intro w' hC K hK; obtain ⟨c0, c1, c2, c3⟩ := hC; go_big_op; exact hK); iterate 4 kernel_rfl
  apply wpFl_ld rfl rfl; (case h1 => intro w' hC K hK; go_big_move; exact hK); iterate 4 kernel_rfl
  refine wpFl_call rfl (by kernel_rfl) fun w_13 hn hC => ?_; clear hC
  replace x_b2 := x_b2.bl hn; replace g1 := g1.bl hn; replace g2 := g2.bl hn; replace x_b3 := x_b3.bl hn; replace g3 := g3.bl hn; replace x_b4 := x_b4.bl hn; replace hb := hb.trans (hn.mono hb.size)
  clear hn; intro K hK
  go_big_op
  go_fit (rpow_rd N g2.mag (Nat.le_trans Lg2.out (by omega)) hN (by rw [val_dig]; exact L2.out))
  rintro e w_14 ⟨r2, rfl, hr2, hb_14⟩
  replace x_b2 := x_b2.bl hb_14; replace g1 := g1.bl hb_14; replace g2 := g2.bl hb_14; replace x_b3 := x_b3.bl hb_14; replace g3 := g3.bl hb_14; replace x_b4 := x_b4.bl hb_14; replace hb := hb.trans (hb_14.mono hb.size)
  rw [val_dig] at hr2
  refine hK _ _ rfl hb_14 ⟨x_b4.cell 0 rfl, x_b4.cell 1 rfl, x_b3.cell 0 rfl, x_b3.cell 1 rfl, x_b3.cell 2 rfl, x_b3.cell 3 rfl⟩ ?_
  clear hK K hb_14
  refine wpFl_call rfl (by kernel_rfl) fun w_15 hn hC => ?_; clear hC
  replace x_b2 := x_b2.bl hn; replace g1 := g1.bl hn; replace g2 := g2.bl hn; replace x_b3 := x_b3.bl hn; replace g3 := g3.bl hn; replace x_b4 := x_b4.bl hn; replace hr2 := hr2.bl hn; replace hb := hb.trans (hn.mono hb.size)
  clear hn; intro K hK
  go_big_op
  go_fit (make_any false (qD x y ^ N) hr2 (Nat.le_trans L2.out (by decide)) (by rw [val_dig, if_neg Bool.false_ne_true]; exact ED.out))
  rintro e w_16 ⟨v_g4, rfl, g4, hb_16⟩
  replace x_b2 := x_b2.bl hb_16; replace g1 := g1.bl hb_16; replace g2 := g2.bl hb_16; replace x_b3 := x_b3.bl hb_16; replace g3 := g3.bl hb_16; replace x_b4 := x_b4.bl hb_16; replace hr2 := hr2.bl hb_16; replace hb := hb.trans (hb_16.mono hb.size)
  replace g4 := g4.rd
  obtain ⟨n_g4, o_g4, k_g4, c_g4, rfl⟩ := g4.open2
  refine hK _ _ rfl hb_16 ⟨x_b4.cell 0 rfl, x_b4.cell 1 rfl, x_b3.cell 0 rfl, x_b3.cell 1 rfl, x_b3.cell 2 rfl, x_b3.cell 3 rfl⟩ ?_
  clear hK K hb_16
  apply wpFl_ld rfl rfl; (case h1 => intro w' hC K hK; go_big_op; exact hK); iterate 4 kernel_rfl
  apply wpFl_end
  case ha => intro pt; simp only [putF]; rfl
  case h =>
  intro w_17 pt hn hC hF hD
  clear hC
  clear hr2
  replace x_b2 := x_b2.bl hn; replace g1 := g1.bl hn; replace g2 := g2.bl hn; replace x_b3 := x_b3.bl hn; replace g3 := g3.bl hn; replace x_b4 := x_b4.bl hn; replace g4 := g4.bl hn; replace hb := hb.trans (hn.mono hb.size)
  clear hn
  clear hF hD
  clear pt
  clear kb0 lt_b2 lt_b3 lt_b4
  refine wpTail_call rfl (by kernel_rfl) fun K hK => ?_
  obtain ⟨d0, d1, d2, d3⟩ := x_b2.f4
  have f0 := x_b2.free 0; have f1 := x_b2.free 1; have f2 := x_b2.free 2; have f3 := x_b2.free 3
  go_big_op
  have hnd := x_b2.nod rfl rfl
  obtain ⟨w_18, eW, x_b2', ho⟩ : ∃ w', ((((w_17.setCell ⟨p_b2, 0, none⟩ (.bool n_g3)).setCell ⟨p_b2, 1, none⟩ (.slice o_g3 k_g3 c_g3)).setCell ⟨p_b2, 2, none⟩ (.bool n_g4)).setCell ⟨p_b2, 3, none⟩ (.slice o_g4 k_g4 c_g4)) = w' ∧ Bs w' p_b2 #[.bool n_g3, .slice o_g3 k_g3 c_g3, .bool n_g4, .slice o_g4 k_g4 c_g4] 26 ∧ Only p_b2 w_17 w' := x_b2.setN [(0, .bool n_g3), (1, .slice o_g3 k_g3 c_g3), (2, .bool n_g4), (3, .slice o_g4 k_g4 c_g4)]
  rw [eW]; clear eW d0 d1 d2 d3 f0 f1 f2 f3 x_b2
  have x_b2 := x_b2'; clear x_b2'
  replace g1 := g1.fr hnd ho; replace g2 := g2.fr hnd ho; replace x_b3 := x_b3.frame ho ne_b2_b3.symm; replace g3 := g3.fr hnd ho; replace x_b4 := x_b4.frame ho ne_b2_b4.symm; replace g4 := g4.fr hnd ho; replace hb := belowOnly hb ho kb_b2
  refine hK _ _ rfl (And.intro ⟨x_b4.cell 0 rfl, x_b4.cell 1 rfl⟩ (And.intro ⟨x_b3.cell 0 rfl, x_b3.cell 1 rfl, x_b3.cell 2 rfl, x_b3.cell 3 rfl⟩ True.intro)) ?_; clear hK K ho hnd
  refine wpTail_call rfl (by kernel_rfl) fun K hK => ?_
  go_big_move; refine hK _ _ rfl (And.intro ⟨x_b4.cell 0 rfl, x_b4.cell 1 rfl⟩ (And.intro ⟨x_b3.cell 0 rfl, x_b3.cell 1 rfl, x_b3.cell 2 rfl, x_b3.cell 3 rfl⟩ True.intro)) ?_; clear hK K
  apply wpTail_end
  refine hK8 _ _ ?_
  refine wp_ret ?_
  try dsimp only [Exit.then, Exit.inBlock]
  obtain ⟨r0_0, r0_1, r0_2, r0_3⟩ := x_b2.f4
  refine bodyPost_ret (v := (.tuple #[(.agg #[.bool n_g3, .slice o_g3 k_g3 c_g3, .bool n_g4, .slice o_g4 k_g4 c_g4]), (.bool true)])) (by simp [results, Tryz.results47, go_sem, r0_0, r0_1, r0_2, r0_3]) rfl ?_
  exact ⟨_, rfl, .mk' g3 g4, hb⟩
set_option maxHeartbeats 8000000 in
set_option maxRecDepth 20000 in
theorem rPow_bb_even (N : Nat) (ha : PN w va x l y m) (hl : l ≤ 1048576) (hm : m ≤ 1048576) (h0 : y ≠ 0) (hN : N ≤ 9223372036854775807) (h1 : 1 < bitsN (qN x y).natAbs ∧ N ≤ 65536 / bitsN (qN x y).natAbs) (h2 : 1 < bitsN (qD x y).natAbs ∧ N ≤ 65536 / bitsN (qD x y).natAbs) (hs : qN x y < 0) (hN2 : N % 2 = 0) (l1 : (dig ((qN x y).natAbs ^ N)).length ≤ 1048576) (l2 : (dig ((qD x y).natAbs ^ N)).length ≤ 1048576) :
    Calls Tryz.prog 47 #[va, .int .i64 N] w fun e w' => ∃ r, e = .returned (.tuple #[r, .bool true]) ∧ PC w' r (qN x y ^ N) (qD x y ^ N) ∧ Below w.heap.size w w' := by
  have H0 := hide h0
  have ED := hide (show (((qD x y).natAbs ^ N : Nat) : Int) = qD x y ^ N from pow_pos' (Int.le_of_lt (qD_pos (x := x) h0)))
  have EN := hide (pow_even (x := qN x y) hN2)
  have HSG := hide (show decide (qN x y < 0) = true from decide_eq_true hs)
  obtain ⟨hp2, hp3⟩ := mod2_even hN2
  clear hN2
  have L1 := hide l1
  have L2 := hide l2
  clear h0 hs l1 l2
  obtain ⟨b, hb⟩ : ∃ b, bitsN (qN x y).natAbs = b := ⟨_, rfl⟩
  rw [hb] at h1
  have Hb := hide hb
  obtain ⟨hgb, h0b⟩ := q_gt h1.1
  have hdb : ((65536 : Int) / (b : Int)) = ((65536 / b : Nat) : Int) := rfl
  have hddb : Int.tdiv 65536 (b : Int) = ((65536 / b : Nat) : Int) := rfl
  have hq65b : 65536 / b ≤ 65536 := Nat.div_le_self _ _
  generalize 65536 / b = qb at *
  have hwb := q_wrap hq65b
  have hqbb := q_no h1.2
  clear hb h1
  obtain ⟨c, hc⟩ : ∃ c, bitsN (qD x y).natAbs = c := ⟨_, rfl⟩
  rw [hc] at h2
  have Hc := hide hc
  obtain ⟨hgc, h0c⟩ := q_gt h2.1
  have hdc : ((65536 : Int) / (c : Int)) = ((65536 / c : Nat) : Int) := rfl
  have hddc : Int.tdiv 65536 (c : Int) = ((65536 / c : Nat) : Int) := rfl
  have hq65c : 65536 / c ≤ 65536 := Nat.div_le_self _ _
  generalize 65536 / c = qc at *
  have hwc := q_wrap hq65c
  have hqbc := q_no h2.2
  clear hc h2
  obtain ⟨n_0a, o_0a, k_0a, c_0a, n_0b, o_0b, k_0b, c_0b, rfl, ha1, ha2⟩ := ha
  go_enter Tryz.func47, Tryz.ntmps47
  have hb := Below.refl w.heap.size w
  refine wp_seq_k ?_
  intro K1 hK1
  refine wp_region_sq [0, 1, 2] (by kernel_rfl) ?_
  refine wpSq_call rfl (by kernel_rfl) fun K hK => ?_
  go_big_op
  obtain ⟨p_b1, w_1, eP, eW, x_b1, hn, kb_b1⟩ := newBox w #[.bool n_0a, .slice o_0a k_0a c_0a, .bool n_0b, .slice o_0b k_0b c_0b] 26 hb.size
  rw [eW, eP]
  clear eW eP
  replace ha1 := ha1.bl hn; replace ha2 := ha2.bl hn; replace hb := hb.trans (hn.mono hb.size)
  refine hK _ _ rfl ?_; clear hK K hn
  refine wpSq_call rfl (by kernel_rfl) fun K hK => ?_
  go_big_op
  have lt_b1 := x_b1.lt
  obtain ⟨p_b2, w_2, eP, eW, x_b2, hn, kb_b2⟩ := newBox w_1 #[.bool false, .slice none 0 0, .bool false, .slice none 0 0] 26 hb.size
  have ne_b1_b2 : Hid (p_b1 ≠ p_b2) := Nat.ne_of_lt (eP ▸ lt_b1)
  rw [eW, eP]
  clear eW eP lt_b1
  replace ha1 := ha1.bl hn; replace ha2 := ha2.bl hn; replace x_b1 := x_b1.bl hn; replace hb := hb.trans (hn.mono hb.size)
  refine hK _ _ rfl ?_; clear hK K hn
  refine wpSq_call rfl (by kernel_rfl) fun K hK => ?_
  go_big_move; refine hK _ _ rfl ?_; clear hK K
  apply wpSq_end
  refine hK1 _ _ ?_
  refine wp_seq_k ?_
  intro K2 hK2
  refine wp_region_sq [0, 1, 2, 3] (by kernel_rfl) ?_
  refine wpSq_call rfl (by kernel_rfl) fun K hK => ?_
  obtain ⟨d0, d1, d2, d3⟩ := x_b1.f4
  go_big_op; refine hK _ _ rfl ?_; clear hK K d0 d1 d2 d3
  refine wpSq_call rfl (by kernel_rfl) fun K hK => ?_
  go_big_op
  go_fit (rfnorm_any (PN.mk' ha1 ha2) (by omega) (by omega) H0.out)
  rintro e w_3 ⟨_, rfl, ⟨n_ga, o_ga, k_ga, c_ga, n_gb, o_gb, k_gb, c_gb, rfl, g1, g2⟩, hb_3⟩
  clear x_b1
  replace ha1 := ha1.bl hb_3; replace ha2 := ha2.bl hb_3; replace x_b2 := x_b2.bl hb_3; replace hb := hb.trans (hb_3.mono hb.size)
  have Lg1 := hide (g1.lenOf (qN_len (H0.out) (ha1.len)))
  have Lg2 := hide (g2.lenOf (qD_len (H0.out) (ha2.len)))
  have en := g1.neg.trans HSG.out
  subst en
  refine hK _ _ rfl ?_
  clear hK K hb_3
  refine wpSq_call rfl (by kernel_rfl) fun K hK => ?_
  go_big_op
  clear ha1 ha2
  have lt_b2 := x_b2.lt
  obtain ⟨p_b3, w_4, eP, eW, x_b3, hn, kb_b3⟩ := newBox w_3 #[.bool false, .slice none 0 0, .bool false, .slice none 0 0] 26 hb.size
  have ne_b2_b3 : Hid (p_b2 ≠ p_b3) := Nat.ne_of_lt (eP ▸ lt_b2)
  rw [eW, eP]
  clear eW eP lt_b2
  replace x_b2 := x_b2.bl hn; replace g1 := g1.bl hn; replace g2 := g2.bl hn; replace hb := hb.trans (hn.mono hb.size)
  refine hK _ _ rfl ?_; clear hK K hn
  refine wpSq_call rfl (by kernel_rfl) fun K hK => ?_
  obtain ⟨d0, d1, d2, d3⟩ := x_b3.f4
  have f0 := x_b3.free 0; have f1 := x_b3.free 1; have f2 := x_b3.free 2; have f3 := x_b3.free 3
  go_big_op
  have hnd := x_b3.nod rfl rfl
  obtain ⟨w_5, eW, x_b3', ho⟩ : ∃ w', ((((w_4.setCell ⟨p_b3, 0, none⟩ (.bool true)).setCell ⟨p_b3, 1, none⟩ (.slice o_ga k_ga c_ga)).setCell ⟨p_b3, 2, none⟩ (.bool n_gb)).setCell ⟨p_b3, 3, none⟩ (.slice o_gb k_gb c_gb)) = w' ∧ Bs w' p_b3 #[.bool true, .slice o_ga k_ga c_ga, .bool n_gb, .slice o_gb k_gb c_gb] 26 ∧ Only p_b3 w_4 w' := x_b3.setN [(0, .bool true), (1, .slice o_ga k_ga c_ga), (2, .bool n_gb), (3, .slice o_gb k_gb c_gb)]
  rw [eW]; clear eW d0 d1 d2 d3 f0 f1 f2 f3 x_b3
  have x_b3 := x_b3'; clear x_b3'
  replace x_b2 := x_b2.frame ho ne_b2_b3; replace g1 := g1.fr hnd ho; replace g2 := g2.fr hnd ho; replace hb := belowOnly hb ho kb_b3
  refine hK _ _ rfl ?_; clear hK K ho hnd
  apply wpSq_end
  refine hK2 _ _ ?_
  refine wp_seq_k ?_
  intro K3 hK3
  refine wp_region_sq [0, 1, 2, 3, 4] (by kernel_rfl) ?_
  refine wpSq_call rfl (by kernel_rfl) fun K hK => ?_
  go_big_op; refine hK _ _ rfl ?_; clear hK K
  refine wpSq_call rfl (by kernel_rfl) fun K hK => ?_
  go_big_op; refine hK _ _ rfl ?_; clear hK K
  refine wpSq_call rfl (by kernel_rfl) fun K hK => ?_
  obtain ⟨d0, d1, d2, d3⟩ := x_b3.f4
  go_big_op; refine hK _ _ rfl ?_; clear hK K d0 d1 d2 d3
  refine wpSq_call rfl (by kernel_rfl) fun K hK => ?_
  go_big_op
  go_fit (rbits_rd' g1.mag (Nat.le_trans Lg1.out (by omega)))
  rintro e w_6 ⟨rfl, hb_6⟩
  replace x_b2 := x_b2.bl hb_6; replace g1 := g1.bl hb_6; replace g2 := g2.bl hb_6; replace x_b3 := x_b3.bl hb_6; replace hb := hb.trans (hb_6.mono hb.size)
  rw [val_dig, Hb.out]
  refine hK _ _ rfl ?_
  clear hK K hb_6
  refine wpSq_call rfl (by kernel_rfl) fun K hK => ?_
  go_big_move; refine hK _ _ rfl ?_; clear hK K
  apply wpSq_end
  refine hK3 _ _ ?_
  refine wp_seq_k ?_
  intro K4 hK4
  refine wp_region_sq [0, 1, 2, 3, 4] (by kernel_rfl) ?_
  refine wpSq_call rfl (by kernel_rfl) fun K hK => ?_
  go_big_op; refine hK _ _ rfl ?_; clear hK K
  refine wpSq_call rfl (by kernel_rfl) fun K hK => ?_
  go_big_op; refine hK _ _ rfl ?_; clear hK K
  refine wpSq_call rfl (by kernel_rfl) fun K hK => ?_
  obtain ⟨d0, d1, d2, d3⟩ := x_b3.f4
  go_big_op; refine hK _ _ rfl ?_; clear hK K d0 d1 d2 d3
  refine wpSq_call rfl (by kernel_rfl) fun K hK => ?_
  go_big_op
  go_fit (rbits_rd' g2.mag (Nat.le_trans Lg2.out (by omega)))
  rintro e w_7 ⟨rfl, hb_7⟩
  replace x_b2 := x_b2.bl hb_7; replace g1 := g1.bl hb_7; replace g2 := g2.bl hb_7; replace x_b3 := x_b3.bl hb_7; replace hb := hb.trans (hb_7.mono hb.size)
  rw [val_dig, Hc.out]
  refine hK _ _ rfl ?_
  clear hK K hb_7
  refine wpSq_call rfl (by kernel_rfl) fun K hK => ?_
  go_big_move; refine hK _ _ rfl ?_; clear hK K
  apply wpSq_end
  refine hK4 _ _ ?_
  refine wp_seq_k ?_
  intro K5 hK5
  refine wp_seq_k ?_
  intro K6 hK6
  refine wp_region_sq [0, 1, 2, 3, 4, 5, 6, 7, 8, 9, 10, 11, 12, 13, 14, 15, 16, 17] (by kernel_rfl) ?_
  refine wpSq_call rfl (by kernel_rfl) fun K hK => ?_
  go_big_move; refine hK _ _ rfl ?_; clear hK K
  refine wpSq_call rfl (by kernel_rfl) fun K hK => ?_
  go_big_op; refine hK _ _ rfl ?_; clear hK K
  refine wpSq_call rfl (by kernel_rfl) fun K hK => ?_
  go_big_move; refine hK _ _ rfl ?_; clear hK K
  refine wpSq_call rfl (by kernel_rfl) fun K hK => ?_
  go_big_move; refine hK _ _ rfl ?_; clear hK K
  refine wpSq_call rfl (by kernel_rfl) fun K hK => ?_
  go_big_move; refine hK _ _ rfl ?_; clear hK K
  refine wpSq_call rfl (by kernel_rfl) fun K hK => ?_
  go_big_op; refine hK _ _ rfl ?_; clear hK K
  refine wpSq_call rfl (by kernel_rfl) fun K hK => ?_
  go_big_op; refine hK _ _ rfl ?_; clear hK K
  refine wpSq_call rfl (by kernel_rfl) fun K hK => ?_
  go_big_op; refine hK _ _ rfl ?_; clear hK K
  refine wpSq_call rfl (by kernel_rfl) fun K hK => ?_
  go_big_move; refine hK _ _ rfl ?_; clear hK K
  refine wpSq_call rfl (by kernel_rfl) fun K hK => ?_
  go_big_move; refine hK _ _ rfl ?_; clear hK K
  refine wpSq_call rfl (by kernel_rfl) fun K hK => ?_
  go_big_op; refine hK _ _ rfl ?_; clear hK K
  refine wpSq_call rfl (by kernel_rfl) fun K hK => ?_
  go_big_move; refine hK _ _ rfl ?_; clear hK K
  refine wpSq_call rfl (by kernel_rfl) fun K hK => ?_
  go_big_move; refine hK _ _ rfl ?_; clear hK K
  refine wpSq_call rfl (by kernel_rfl) fun K hK => ?_
  go_big_move; refine hK _ _ rfl ?_; clear hK K
  refine wpSq_call rfl (by kernel_rfl) fun K hK => ?_
  go_big_op; refine hK _ _ rfl ?_; clear hK K
  refine wpSq_call rfl (by kernel_rfl) fun K hK => ?_
  go_big_op; refine hK _ _ rfl ?_; clear hK K
  refine wpSq_call rfl (by kernel_rfl) fun K hK => ?_
  go_big_op; refine hK _ _ rfl ?_; clear hK K
  refine wpSq_call rfl (by kernel_rfl) fun K hK => ?_
  go_big_op; refine hK _ _ rfl ?_; clear hK K
  apply wpSq_end
  refine hK6 _ _ ?_
  refine wp_cond_false (congrArg Value.bool (show _ = false from (by first | rfl | assumption | (simp; done) | exact decide_eq_false (by omega) | omega))) ?_
  refine wp_skip ?_
  refine hK5 _ _ ?_
  refine wp_seq_k ?_
  intro K7 hK7
  refine wp_region_sq [0, 1, 2, 3, 4, 5, 6, 7, 8, 9, 10, 11, 12, 13, 14, 15] (by kernel_rfl) ?_
  refine wpSq_call rfl (by kernel_rfl) fun K hK => ?_
  go_big_op; refine hK _ _ rfl ?_; clear hK K
  refine wpSq_call rfl (by kernel_rfl) fun K hK => ?_
  go_big_op; refine hK _ _ rfl ?_; clear hK K
  refine wpSq_call rfl (by kernel_rfl) fun K hK => ?_
  obtain ⟨d0, d1, d2, d3⟩ := x_b3.f4
  go_big_op; refine hK _ _ rfl ?_; clear hK K d0 d1 d2 d3
  refine wpSq_call rfl (by kernel_rfl) fun K hK => ?_
  go_big_move; refine hK _ _ rfl ?_; clear hK K
  refine wpSq_call rfl (by kernel_rfl) fun K hK => ?_
  go_big_move; refine hK _ _ rfl ?_; clear hK K
  refine wpSq_call rfl (by kernel_rfl) fun K hK => ?_
  go_big_op; refine hK _ _ rfl ?_; clear hK K
  refine wpSq_call rfl (by kernel_rfl) fun K hK => ?_
  go_big_op; refine hK _ _ rfl ?_; clear hK K
  refine wpSq_call rfl (by kernel_rfl) fun K hK => ?_
  go_big_op; refine hK _ _ rfl ?_; clear hK K
  refine wpSq_call rfl (by kernel_rfl) fun K hK => ?_
  go_big_op; refine hK _ _ rfl ?_; clear hK K
  refine wpSq_call rfl (by kernel_rfl) fun K hK => ?_
  go_big_op; refine hK _ _ rfl ?_; clear hK K
  refine wpSq_call rfl (by kernel_rfl) fun K hK => ?_
  obtain ⟨d0, d1, d2, d3⟩ := x_b3.f4
  go_big_op; refine hK _ _ rfl ?_; clear hK K d0 d1 d2 d3
  refine wpSq_call rfl (by kernel_rfl) fun K hK => ?_
  go_big_move; refine hK _ _ rfl ?_; clear hK K
  refine wpSq_call rfl (by kernel_rfl) fun K hK => ?_
  go_big_op
  go_fit (rpow_rd N g1.mag (Nat.le_trans Lg1.out (by omega)) hN (by rw [val_dig]; exact L1.out))
  rintro e w_8 ⟨r1, rfl, hr1, hb_8⟩
  replace x_b2 := x_b2.bl hb_8; replace g1 := g1.bl hb_8; replace g2 := g2.bl hb_8; replace x_b3 := x_b3.bl hb_8; replace hb := hb.trans (hb_8.mono hb.size)
  rw [val_dig] at hr1
  refine hK _ _ rfl ?_
  clear hK K hb_8
  refine wpSq_call rfl (by kernel_rfl) fun K hK => ?_
  go_big_op
  go_fit (make_any false (qN x y ^ N) hr1 (Nat.le_trans L1.out (by decide)) (by rw [val_dig, if_neg Bool.false_ne_true]; exact EN.out))
  rintro e w_9 ⟨v_g3, rfl, g3, hb_9⟩
  replace x_b2 := x_b2.bl hb_9; replace g1 := g1.bl hb_9; replace g2 := g2.bl hb_9; replace x_b3 := x_b3.bl hb_9; replace hr1 := hr1.bl hb_9; replace hb := hb.trans (hb_9.mono hb.size)
  replace g3 := g3.rd
  obtain ⟨n_g3, o_g3, k_g3, c_g3, rfl⟩ := g3.open2
  refine hK _ _ rfl ?_
  clear hK K hb_9
  refine wpSq_call rfl (by kernel_rfl) fun K hK => ?_
  go_big_op
  clear hr1
  have lt_b2 := x_b2.lt
  have lt_b3 := x_b3.lt
  obtain ⟨p_b4, w_10, eP, eW, x_b4, hn, kb_b4⟩ := newBox w_9 #[.bool false, .slice none 0 0] 24 hb.size
  have ne_b2_b4 : Hid (p_b2 ≠ p_b4) := Nat.ne_of_lt (eP ▸ lt_b2)
  have ne_b3_b4 : Hid (p_b3 ≠ p_b4) := Nat.ne_of_lt (eP ▸ lt_b3)
  rw [eW, eP]
  clear eW eP lt_b2 lt_b3
  replace x_b2 := x_b2.bl hn; replace g1 := g1.bl hn; replace g2 := g2.bl hn; replace x_b3 := x_b3.bl hn; replace g3 := g3.bl hn; replace hb := hb.trans (hn.mono hb.size)
  refine hK _ _ rfl ?_; clear hK K hn
  refine wpSq_call rfl (by kernel_rfl) fun K hK => ?_
  obtain ⟨d0, d1⟩ := x_b4.f2
  have f0 := x_b4.free 0; have f1 := x_b4.free 1
  go_big_op
  have hnd := x_b4.nod rfl rfl
  obtain ⟨w_11, eW, x_b4', ho⟩ : ∃ w', ((w_10.setCell ⟨p_b4, 0, none⟩ (.bool n_g3)).setCell ⟨p_b4, 1, none⟩ (.slice o_g3 k_g3 c_g3)) = w' ∧ Bs w' p_b4 #[.bool n_g3, .slice o_g3 k_g3 c_g3] 24 ∧ Only p_b4 w_10 w' := x_b4.setN [(0, .bool n_g3), (1, .slice o_g3 k_g3 c_g3)]
  rw [eW]; clear eW d0 d1 f0 f1 x_b4
  have x_b4 := x_b4'; clear x_b4'
  replace x_b2 := x_b2.frame ho ne_b2_b4; replace g1 := g1.fr hnd ho; replace g2 := g2.fr hnd ho; replace x_b3 := x_b3.frame ho ne_b3_b4; replace g3 := g3.fr hnd ho; replace hb := belowOnly hb ho kb_b4
  refine hK _ _ rfl ?_; clear hK K ho hnd
  apply wpSq_end
  refine hK7 _ _ ?_
  refine wp_seq_k ?_
  intro K8 hK8
  refine wp_region_fl2 [(0, false), (1, false), (2, false), (3, false), (4, false), (5, true), (6, true), (7, false)] [8, 9] [] (fun _ => default) [0, 99, 99, 1, 99, 99, 99, 99, 99, 99] [] (fun w' => w'.cell? ⟨p_b4, 0, none⟩ = some (.bool n_g3) ∧ w'.cell? ⟨p_b4, 1, none⟩ = some (.slice o_g3 k_g3 c_g3) ∧ w'.cell? ⟨p_b3, 0, none⟩ = some (.bool true) ∧ w'.cell? ⟨p_b3, 1, none⟩ = some (.slice o_ga k_ga c_ga) ∧ w'.cell? ⟨p_b3, 2, none⟩ = some (.bool n_gb) ∧ w'.cell? ⟨p_b3, 3, none⟩ = some (.slice o_gb k_gb c_gb)) [fun w' => w'.cell? ⟨p_b4, 0, none⟩ = some (.bool n_g3) ∧ w'.cell? ⟨p_b4, 1, none⟩ = some (.slice o_g3 k_g3 c_g3), fun w' => w'.cell? ⟨p_b3, 0, none⟩ = some (.bool true) ∧ w'.cell? ⟨p_b3, 1, none⟩ = some (.slice o_ga k_ga c_ga) ∧ w'.cell? ⟨p_b3, 2, none⟩ = some (.bool n_gb) ∧ w'.cell? ⟨p_b3, 3, none⟩ = some (.slice o_gb k_gb c_gb)] (by kernel_rfl) (by kernel_rfl) (by kernel_rfl) (by kernel_rfl) (by kernel_rfl) (by kernel_rfl) (by kernel_rfl) (by kernel_rfl) (by decide) (by intro j hj; cases hj) (by intro w' o hC; obtain ⟨c0, c1, c2, c3, c4, c5⟩ := hC; exact ⟨cell_alloc c0 o, cell_alloc c1 o, cell_alloc c2 o, cell_alloc c3 o, cell_alloc c4 o, cell_alloc c5 o⟩) (by intro w' hC G hG; obtain ⟨c0, c1, c2, c3, c4, c5⟩ := hC; simp only [List.mem_cons, List.not_mem_nil, or_false] at hG; rcases hG with rfl | rfl <;> first | exact ⟨c0, c1⟩ | exact ⟨c2, c3, c4, c5⟩) ?_
  have lt_b2 := x_b2.lt
  have lt_b3 := x_b3.lt
  have lt_b4 := x_b4.lt
  intro w_12 hn
  replace lt_b2 := Nat.lt_of_lt_of_le lt_b2 hn.size
  replace lt_b3 := Nat.lt_of_lt_of_le lt_b3 hn.size
  replace lt_b4 := Nat.lt_of_lt_of_le lt_b4 hn.size
  replace x_b2 := x_b2.bl hn; replace g1 := g1.bl hn; replace g2 := g2.bl hn; replace x_b3 := x_b3.bl hn; replace g3 := g3.bl hn; replace x_b4 := x_b4.bl hn; replace hb := hb.trans (hn.mono hb.size)
  clear hn
  have kb0 := hb.size
  refine ⟨⟨x_b4.cell 0 rfl, x_b4.cell 1 rfl, x_b3.cell 0 rfl, x_b3.cell 1 rfl, x_b3.cell 2 rfl, x_b3.cell 3 rfl⟩, ?_⟩
  apply wpFl_ld rfl rfl; (case h1 => intro w' hC K hK; obtain ⟨c0, c1⟩ := hC; go_big_op; exact hK); iterate 4 kernel_rfl
  apply wpFl_ld rfl rfl; (case h1 => intro w' hC K hK; go_big_op; exact hK); iterate 4 kernel_rfl
  apply wpFl_ld rfl rfl; (case h1 => intro w' hC K hK; go_big_op; exact hK); iterate 4 kernel_rfl
  apply wpFl_ld rfl rfl; (case h1 => intro w' hC K hK; obtain ⟨c0, c1, c2, c3⟩ := hC; go_big_op; exact hK); iterate 4 kernel_rfl
  apply wpFl_ld rfl rfl; (case h1 => intro w' hC K hK; go_big_move; exact hK); iterate 4 kernel_rfl
  refine wpFl_call rfl (by kernel_rfl) fun w_13 hn hC => ?_; clear hC
  replace x_b2 := x_b2.bl hn; replace g1 := g1.bl hn; replace g2 := g2.bl hn; replace x_b3 := x_b3.bl hn; replace g3 := g3.bl hn; replace x_b4 := x_b4.bl hn; replace hb := hb.trans (hn.mono hb.size)
  clear hn; intro K hK
  go_big_op
  go_fit (rpow_rd N g2.mag (Nat.le_trans Lg2.out (by omega)) hN (by rw [val_dig]; exact L2.out))
  rintro e w_14 ⟨r2, rfl, hr2, hb_14⟩
  replace x_b2 := x_b2.bl hb_14; replace g1 := g1.bl hb_14; replace g2 := g2.bl hb_14; replace x_b3 := x_b3.bl hb_14; replace g3 := g3.bl hb_14; replace x_b4 := x_b4.bl hb_14; replace hb := hb.trans (hb_14.mono hb.size)
  rw [val_dig] at hr2
  refine hK _ _ rfl hb_14 ⟨x_b4.cell 0 rfl, x_b4.cell 1 rfl, x_b3.cell 0 rfl, x_b3.cell 1 rfl, x_b3.cell 2 rfl, x_b3.cell 3 rfl⟩ ?_
  clear hK K hb_14
  refine wpFl_call rfl (by kernel_rfl) fun w_15 hn hC => ?_; clear hC
  replace x_b2 := x_b2.bl hn; replace g1 := g1.bl hn; replace g2 := g2.bl hn; replace x_b3 := x_b3.bl hn; replace g3 := g3.bl hn; replace x_b4 := x_b4.bl hn; replace hr2 := hr2.bl hn; replace hb := hb.trans (hn.mono hb.size)
  clear hn; intro K hK
  go_big_op
  go_fit (make_any false (qD x y ^ N) hr2 (Nat.le_trans L2.out (by decide)) (by rw [val_dig, if_neg Bool.false_ne_true]; exact ED.out))
  rintro e w_16 ⟨v_g4, rfl, g4, hb_16⟩
  replace x_b2 := x_b2.bl hb_16; replace g1 := g1.bl hb_16; replace g2 := g2.bl hb_16; replace x_b3 := x_b3.bl hb_16; replace g3 := g3.bl hb_16; replace x_b4 := x_b4.bl hb_16; replace hr2 := hr2.bl hb_16; replace hb := hb.trans (hb_16.mono hb.size)
  replace g4 := g4.rd
  obtain ⟨n_g4, o_g4, k_g4, c_g4, rfl⟩ := g4.open2
  refine hK _ _ rfl hb_16 ⟨x_b4.cell 0 rfl, x_b4.cell 1 rfl, x_b3.cell 0 rfl, x_b3.cell 1 rfl, x_b3.cell 2 rfl, x_b3.cell 3 rfl⟩ ?_
  clear hK K hb_16
  apply wpFl_ld rfl rfl; (case h1 => intro w' hC K hK; go_big_op; exact hK); iterate 4 kernel_rfl
  apply wpFl_end
  case ha => intro pt; simp only [putF]; rfl
  case h =>
  intro w_17 pt hn hC hF hD
  clear hC
  clear hr2
  replace x_b2 := x_b2.bl hn; replace g1 := g1.bl hn; replace g2 := g2.bl hn; replace x_b3 := x_b3.bl hn; replace g3 := g3.bl hn; replace x_b4 := x_b4.bl hn; replace g4 := g4.bl hn; replace hb := hb.trans (hn.mono hb.size)
  clear hn
  clear hF hD
  clear pt
  clear kb0 lt_b2 lt_b3 lt_b4
  refine wpTail_call rfl (by kernel_rfl) fun K hK => ?_
  obtain ⟨d0, d1, d2, d3⟩ := x_b2.f4
  have f0 := x_b2.free 0; have f1 := x_b2.free 1; have f2 := x_b2.free 2; have f3 := x_b2.free 3
  go_big_op
  have hnd := x_b2.nod rfl rfl
  obtain ⟨w_18, eW, x_b2', ho⟩ : ∃ w', ((((w_17.setCell ⟨p_b2, 0, none⟩ (.bool n_g3)).setCell ⟨p_b2, 1, none⟩ (.slice o_g3 k_g3 c_g3)).setCell ⟨p_b2, 2, none⟩ (.bool n_g4)).setCell ⟨p_b2, 3, none⟩ (.slice o_g4 k_g4 c_g4)) = w' ∧ Bs w' p_b2 #[.bool n_g3, .slice o_g3 k_g3 c_g3, .bool n_g4, .slice o_g4 k_g4 c_g4] 26 ∧ Only p_b2 w_17 w' := x_b2.setN [(0, .bool n_g3), (1, .slice o_g3 k_g3 c_g3), (2, .bool n_g4), (3, .slice o_g4 k_g4 c_g4)]
  rw [eW]; clear eW d0 d1 d2 d3 f0 f1 f2 f3 x_b2
  have x_b2 := x_b2'; clear x_b2'
  replace g1 := g1.fr hnd ho; replace g2 := g2.fr hnd ho; replace x_b3 := x_b3.frame ho ne_b2_b3.symm; replace g3 := g3.fr hnd ho; replace x_b4 := x_b4.frame ho ne_b2_b4.symm; replace g4 := g4.fr hnd ho; replace hb := belowOnly hb ho kb_b2
  refine hK _ _ rfl (And.intro ⟨x_b4.cell 0 rfl, x_b4.cell 1 rfl⟩ (And.intro ⟨x_b3.cell 0 rfl, x_b3.cell 1 rfl, x_b3.cell 2 rfl, x_b3.cell 3 rfl⟩ True.intro)) ?_; clear hK K ho hnd
  refine wpTail_call rfl (by kernel_rfl) fun K hK => ?_
  go_big_move; refine hK _ _ rfl (And.intro ⟨x_b4.cell 0 rfl, x_b4.cell 1 rfl⟩ (And.intro ⟨x_b3.cell 0 rfl, x_b3.cell 1 rfl, x_b3.cell 2 rfl, x_b3.cell 3 rfl⟩ True.intro)) ?_; clear hK K
  apply wpTail_end
  refine hK8 _ _ ?_
  refine wp_ret ?_
  try dsimp only [Exit.then, Exit.inBlock]
  obtain ⟨r0_0, r0_1, r0_2, r0_3⟩ := x_b2.f4
  refine bodyPost_ret (v := (.tuple #[(.agg #[.bool n_g3, .slice o_g3 k_g3 c_g3, .bool n_g4, .slice o_g4 k_g4 c_g4]), (.bool true)])) (by simp [results, Tryz.results47, go_sem, r0_0, r0_1, r0_2, r0_3]) rfl ?_
  exact ⟨_, rfl, .mk' g3 g4, hb⟩
end
end Go.Proofs.YtkgbfnmlpajblaaGreatDoor

/- The reference's Pow: Q12E. -/
namespace Go.Proofs.YtkgbfnmlpajblaaGreatDoor
open Go Go.RowKit Dig
set_option linter.unusedVariables false
section
variable {w : World} {va vb : Value} {x y u v : Int} {l m k n : Nat}
set_option maxHeartbeats 8000000 in
set_option maxRecDepth 20000 in
theorem rPow_bb_pos (N : Nat) (ha : PN w va x l y m) (hl : l ≤ 1048576) (hm : m ≤ 1048576) (h0 : y ≠ 0) (hN : N ≤ 9223372036854775807) (h1 : 1 < bitsN (qN x y).natAbs ∧ N ≤ 65536 / bitsN (qN x y).natAbs) (h2 : 1 < bitsN (qD x y).natAbs ∧ N ≤ 65536 / bitsN (qD x y).natAbs) (hs : 0 ≤ qN x y) (l1 : (dig ((qN x y).natAbs ^ N)).length ≤ 1048576) (l2 : (dig ((qD x y).natAbs ^ N)).length ≤ 1048576) :
    Calls Tryz.prog 47 #[va, .int .i64 N] w fun e w' => ∃ r, e = .returned (.tuple #[r, .bool true]) ∧ PC w' r (qN x y ^ N) (qD x y ^ N) ∧ Below w.heap.size w w' := by
  have H0 := hide h0
  have ED := hide (show (((qD x y).natAbs ^ N : Nat) : Int) = qD x y ^ N from pow_pos' (Int.le_of_lt (qD_pos (x := x) h0)))
  have EN := hide (pow_pos' (N := N) hs)
  have HSG := hide (show decide (qN x y < 0) = false from decide_eq_false (by omega))
  have L1 := hide l1
  have L2 := hide l2
  clear h0 hs l1 l2
  obtain ⟨b, hb⟩ : ∃ b, bitsN (qN x y).natAbs = b := ⟨_, rfl⟩
  rw [hb] at h1
  have Hb := hide hb
  obtain ⟨hgb, h0b⟩ := q_gt h1.1
  have hdb : ((65536 : Int) / (b : Int)) = ((65536 / b : Nat) : Int) := rfl
  have hddb : Int.tdiv 65536 (b : Int) = ((65536 / b : Nat) : Int) := rfl
  have hq65b : 65536 / b ≤ 65536 := Nat.div_le_self _ _
  generalize 65536 / b = qb at *
  have hwb := q_wrap hq65b
  have hqbb := q_no h1.2
  clear hb h1
  obtain ⟨c, hc⟩ : ∃ c, bitsN (qD x y).natAbs = c := ⟨_, rfl⟩
  rw [hc] at h2
  have Hc := hide hc
  obtain ⟨hgc, h0c⟩ := q_gt h2.1
  have hdc : ((65536 : Int) / (c : Int)) = ((65536 / c : Nat) : Int) := rfl
  have hddc : Int.tdiv 65536 (c : Int) = ((65536 / c : Nat) : Int) := rfl
  have hq65c : 65536 / c ≤ 65536 := Nat.div_le_self _ _
  generalize 65536 / c = qc at *
  have hwc := q_wrap hq65c
  have hqbc := q_no h2.2
  clear hc h2
  obtain ⟨n_0a, o_0a, k_0a, c_0a, n_0b, o_0b, k_0b, c_0b, rfl, ha1, ha2⟩ := ha
  go_enter Tryz.func47, Tryz.ntmps47
  have hb := Below.refl w.heap.size w
  refine wp_seq_k ?_
  intro K1 hK1
  refine wp_region_sq [0, 1, 2] (by kernel_rfl) ?_
  refine wpSq_call rfl (by kernel_rfl) fun K hK => ?_
  go_big_op
  obtain ⟨p_b1, w_1, eP, eW, x_b1, hn, kb_b1⟩ := newBox w #[.bool n_0a, .slice o_0a k_0a c_0a, .bool n_0b, .slice o_0b k_0b c_0b] 26 hb.size
  rw [eW, eP]
  clear eW eP
  replace ha1 := ha1.bl hn; replace ha2 := ha2.bl hn; replace hb := hb.trans (hn.mono hb.size)
  refine hK _ _ rfl ?_; clear hK K hn
  refine wpSq_call rfl (by kernel_rfl) fun K hK => ?_
  go_big_op
  have lt_b1 := x_b1.lt
  obtain ⟨p_b2, w_2, eP, eW, x_b2, hn, kb_b2⟩ := newBox w_1 #[.bool false, .slice none 0 0, .bool false, .slice none 0 0] 26 hb.size
  have ne_b1_b2 : Hid (p_b1 ≠ p_b2) := Nat.ne_of_lt (eP ▸ lt_b1)
  rw [eW, eP]
  clear eW eP lt_b1
  replace ha1 := ha1.bl hn; replace ha2 := ha2.bl hn; replace x_b1 := x_b1.bl hn; replace hb := hb.trans (hn.mono hb.size)
  refine hK _ _ rfl ?_; clear hK K hn
  refine wpSq_call rfl (by kernel_rfl) fun K hK => ?_
  go_big_move; refine hK _ _ rfl ?_; clear hK K
  apply wpSq_end
  refine hK1 _ _ ?_
  refine wp_seq_k ?_
  intro K2 hK2
  refine wp_region_sq [0, 1, 2, 3] (by kernel_rfl) ?_
  refine wpSq_call rfl (by kernel_rfl) fun K hK => ?_
  obtain ⟨d0, d1, d2, d3⟩ := x_b1.f4
  go_big_op; refine hK _ _ rfl ?_; clear hK K d0 d1 d2 d3
  refine wpSq_call rfl (by kernel_rfl) fun K hK => ?_
  go_big_op
  go_fit (rfnorm_any (PN.mk' ha1 ha2) (by omega) (by omega) H0.out)
  rintro e w_3 ⟨_, rfl, ⟨n_ga, o_ga, k_ga, c_ga, n_gb, o_gb, k_gb, c_gb, rfl, g1, g2⟩, hb_3⟩
  clear x_b1
  replace ha1 := ha1.bl hb_3; replace ha2 := ha2.bl hb_3; replace x_b2 := x_b2.bl hb_3; replace hb := hb.trans (hb_3.mono hb.size)
  have Lg1 := hide (g1.lenOf (qN_len (H0.out) (ha1.len)))
  have Lg2 := hide (g2.lenOf (qD_len (H0.out) (ha2.len)))
  have en := g1.neg.trans HSG.out
  subst en
  refine hK _ _ rfl ?_
  clear hK K hb_3
  refine wpSq_call rfl (by kernel_rfl) fun K hK => ?_
  go_big_op
  clear ha1 ha2
  have lt_b2 := x_b2.lt
  obtain ⟨p_b3, w_4, eP, eW, x_b3, hn, kb_b3⟩ := newBox w_3 #[.bool false, .slice none 0 0, .bool false, .slice none 0 0] 26 hb.size
  have ne_b2_b3 : Hid (p_b2 ≠ p_b3) := Nat.ne_of_lt (eP ▸ lt_b2)
  rw [eW, eP]
  clear eW eP lt_b2
  replace x_b2 := x_b2.bl hn; replace g1 := g1.bl hn; replace g2 := g2.bl hn; replace hb := hb.trans (hn.mono hb.size)
  refine hK _ _ rfl ?_; clear hK K hn
  refine wpSq_call rfl (by kernel_rfl) fun K hK => ?_
  obtain ⟨d0, d1, d2, d3⟩ := x_b3.f4
  have f0 := x_b3.free 0; have f1 := x_b3.free 1; have f2 := x_b3.free 2; have f3 := x_b3.free 3
  go_big_op
  have hnd := x_b3.nod rfl rfl
  obtain ⟨w_5, eW, x_b3', ho⟩ : ∃ w', ((((w_4.setCell ⟨p_b3, 0, none⟩ (.bool false)).setCell ⟨p_b3, 1, none⟩ (.slice o_ga k_ga c_ga)).setCell ⟨p_b3, 2, none⟩ (.bool n_gb)).setCell ⟨p_b3, 3, none⟩ (.slice o_gb k_gb c_gb)) = w' ∧ Bs w' p_b3 #[.bool false, .slice o_ga k_ga c_ga, .bool n_gb, .slice o_gb k_gb c_gb] 26 ∧ Only p_b3 w_4 w' := x_b3.setN [(0, .bool false), (1, .slice o_ga k_ga c_ga), (2, .bool n_gb), (3, .slice o_gb k_gb c_gb)]
  rw [eW]; clear eW d0 d1 d2 d3 f0 f1 f2 f3 x_b3
  have x_b3 := x_b3'; clear x_b3'
  replace x_b2 := x_b2.frame ho ne_b2_b3; replace g1 := g1.fr hnd ho; replace g2 := g2.fr hnd ho; replace hb := belowOnly hb ho kb_b3
  refine hK _ _ rfl ?_; clear hK K ho hnd
  apply wpSq_end
  refine hK2 _ _ ?_
  refine wp_seq_k ?_
  intro K3 hK3
  refine wp_region_sq [0, 1, 2, 3, 4] (by kernel_rfl) ?_
  refine wpSq_call rfl (by kernel_rfl) fun K hK => ?_
  go_big_op; refine hK _ _ rfl ?_; clear hK K
  refine wpSq_call rfl (by kernel_rfl) fun K hK => ?_
  go_big_op; refine hK _ _ rfl ?_; clear hK K
  refine wpSq_call rfl (by kernel_rfl) fun K hK => ?_
  obtain ⟨d0, d1, d2, d3⟩ := x_b3.f4
  go_big_op; refine hK _ _ rfl ?_; clear hK K d0 d1 d2 d3
  refine wpSq_call rfl (by kernel_rfl) fun K hK => ?_
  go_big_op
  go_fit (rbits_rd' g1.mag (Nat.le_trans Lg1.out (by omega)))
  rintro e w_6 ⟨rfl, hb_6⟩
  replace x_b2 := x_b2.bl hb_6; replace g1 := g1.bl hb_6; replace g2 := g2.bl hb_6; replace x_b3 := x_b3.bl hb_6; replace hb := hb.trans (hb_6.mono hb.size)
  rw [val_dig, Hb.out]
  refine hK _ _ rfl ?_
  clear hK K hb_6
  refine wpSq_call rfl (by kernel_rfl) fun K hK => ?_
  go_big_move; refine hK _ _ rfl ?_; clear hK K
  apply wpSq_end
  refine hK3 _ _ ?_
  refine wp_seq_k ?_
  intro K4 hK4
  refine wp_region_sq [0, 1, 2, 3, 4] (by kernel_rfl) ?_
  refine wpSq_call rfl (by kernel_rfl) fun K hK => ?_
  go_big_op; refine hK _ _ rfl ?_; clear hK K
  refine wpSq_call rfl (by kernel_rfl) fun K hK => ?_
  go_big_op; refine hK _ _ rfl ?_; clear hK K
  refine wpSq_call rfl (by kernel_rfl) fun K hK => ?_
  obtain ⟨d0, d1, d2, d3⟩ := x_b3.f4
  go_big_op; refine hK _ _ rfl ?_; clear hK K d0 d1 d2 d3
  refine wpSq_call rfl (by kernel_rfl) fun K hK => ?_
  go_big_op
  go_fit (rbits_rd' g2.mag (Nat.le_trans Lg2.out (by omega)))
  rintro e w_7 ⟨rfl, hb_7⟩
  replace x_b2 := x_b2.bl hb_7; replace g1 := g1.bl hb_7; replace g2 := g2.bl hb_7; replace x_b3 := x_b3.bl hb_7; replace hb := hb.trans (hb_7.mono hb.size)
  rw [val_dig, Hc.out]
  refine hK _ _ rfl ?_
  clear hK K hb_7
  refine wpSq_call rfl (by kernel_rfl) fun K hK => ?_
  go_big_move; refine hK _ _ rfl ?_; clear hK K
  apply wpSq_end
  refine hK4 _ _ ?_
  refine wp_seq_k ?_
  intro K5 hK5
  refine wp_seq_k ?_
  intro K6 hK6
  refine wp_region_sq [0, 1, 2, 3, 4, 5, 6, 7, 8, 9, 10, 11, 12, 13, 14, 15, 16, 17] (by kernel_rfl) ?_
  refine wpSq_call rfl (by kernel_rfl) fun K hK => ?_
  go_big_move; refine hK _ _ rfl ?_; clear hK K
  refine wpSq_call rfl (by kernel_rfl) fun K hK => ?_
  go_big_op; refine hK _ _ rfl ?_; clear hK K
  refine wpSq_call rfl (by kernel_rfl) fun K hK => ?_
  go_big_move; refine hK _ _ rfl ?_; clear hK K
  refine wpSq_call rfl (by kernel_rfl) fun K hK => ?_
  go_big_move; refine hK _ _ rfl ?_; clear hK K
  refine wpSq_call rfl (by kernel_rfl) fun K hK => ?_
  go_big_move; refine hK _ _ rfl ?_; clear hK K
  refine wpSq_call rfl (by kernel_rfl) fun K hK => ?_
  go_big_op; refine hK _ _ rfl ?_; clear hK K
  refine wpSq_call rfl (by kernel_rfl) fun K hK => ?_
  go_big_op; refine hK _ _ rfl ?_; clear hK K
  refine wpSq_call rfl (by kernel_rfl) fun K hK => ?_
  go_big_op; refine hK _ _ rfl ?_; clear hK K
  refine wpSq_call rfl (by kernel_rfl) fun K hK => ?_
  go_big_move; refine hK _ _ rfl ?_; clear hK K
  refine wpSq_call rfl (by kernel_rfl) fun K hK => ?_
  go_big_move; refine hK _ _ rfl ?_; clear hK K
  refine wpSq_call rfl (by kernel_rfl) fun K hK => ?_
  go_big_op; refine hK _ _ rfl ?_; clear hK K
  refine wpSq_call rfl (by kernel_rfl) fun K hK => ?_
  go_big_move; refine hK _ _ rfl ?_; clear hK K
  refine wpSq_call rfl (by kernel_rfl) fun K hK => ?_
  go_big_move; refine hK _ _ rfl ?_; clear hK K
  refine wpSq_call rfl (by kernel_rfl) fun K hK => ?_
  go_big_move; refine hK _ _ rfl ?_; clear hK K
  refine wpSq_call rfl (by kernel_rfl) fun K hK => ?_
  go_big_op; refine hK _ _ rfl ?_; clear hK K
  refine wpSq_call rfl (by kernel_rfl) fun K hK => ?_
  go_big_op; refine hK _ _ rfl ?_; clear hK K
  refine wpSq_call rfl (by kernel_rfl) fun K hK => ?_
  go_big_op; refine hK _ _ rfl ?_; clear hK K
  refine wpSq_call rfl (by kernel_rfl) fun K hK => ?_
  go_big_op; refine hK _ _ rfl ?_; clear hK K
  apply wpSq_end
  refine hK6 _ _ ?_
  refine wp_cond_false (congrArg Value.bool (show _ = false from (by first | rfl | assumption | (simp; done) | exact decide_eq_false (by omega) | omega))) ?_
  refine wp_skip ?_
  refine hK5 _ _ ?_
  refine wp_seq_k ?_
  intro K7 hK7
  refine wp_region_sq [0, 1, 2, 3, 4, 5, 6, 7, 8, 9, 10, 11, 12, 13, 14, 15] (by kernel_rfl) ?_
  refine wpSq_call rfl (by kernel_rfl) fun K hK => ?_
  go_big_op; refine hK _ _ rfl ?_; clear hK K
  refine wpSq_call rfl (by kernel_rfl) fun K hK => ?_
  go_big_op; refine hK _ _ rfl ?_; clear hK K
  refine wpSq_call rfl (by kernel_rfl) fun K hK => ?_
  obtain ⟨d0, d1, d2, d3⟩ := x_b3.f4
  go_big_op; refine hK _ _ rfl ?_; clear hK K d0 d1 d2 d3
  refine wpSq_call rfl (by kernel_rfl) fun K hK => ?_
  go_big_move; refine hK _ _ rfl ?_; clear hK K
  apply wpSq_skip
  case hi => rfl
  case hw => kernel_rfl
  case hp => unfold Act.put; simp only [List.setIfInBounds_toArray, List.set_cons_succ, List.set_cons_zero]; rfl
  apply wpSq_skip
  case hi => rfl
  case hw => kernel_rfl
  case hp => unfold Act.put; simp only [List.setIfInBounds_toArray, List.set_cons_succ, List.set_cons_zero]; rfl
  apply wpSq_skip
  case hi => rfl
  case hw => kernel_rfl
  case hp => unfold Act.put; simp only [List.setIfInBounds_toArray, List.set_cons_succ, List.set_cons_zero]; rfl
  refine wpSq_call rfl (by kernel_rfl) fun K hK => ?_
  go_big_op; refine hK _ _ rfl ?_; clear hK K
  refine wpSq_call rfl (by kernel_rfl) fun K hK => ?_
  go_big_op; refine hK _ _ rfl ?_; clear hK K
  refine wpSq_call rfl (by kernel_rfl) fun K hK => ?_
  go_big_op; refine hK _ _ rfl ?_; clear hK K
  refine wpSq_call rfl (by kernel_rfl) fun K hK => ?_
  obtain ⟨d0, d1, d2, d3⟩ := x_b3.f4
  go_big_op; refine hK _ _ rfl ?_; clear hK K d0 d1 d2 d3
  refine wpSq_call rfl (by kernel_rfl) fun K hK => ?_
  go_big_move; refine hK _ _ rfl ?_; clear hK K
  refine wpSq_call rfl (by kernel_rfl) fun K hK => ?_
  go_big_op
  go_fit (rpow_rd N g1.mag (Nat.le_trans Lg1.out (by omega)) hN (by rw [val_dig]; exact L1.out))
  rintro e w_8 ⟨r1, rfl, hr1, hb_8⟩
  replace x_b2 := x_b2.bl hb_8; replace g1 := g1.bl hb_8; replace g2 := g2.bl hb_8; replace x_b3 := x_b3.bl hb_8; replace hb := hb.trans (hb_8.mono hb.size)
  rw [val_dig] at hr1
  refine hK _ _ rfl ?_
  clear hK K hb_8
  refine wpSq_call rfl (by kernel_rfl) fun K hK => ?_
  go_big_op
  go_fit (make_any false (qN x y ^ N) hr1 (Nat.le_trans L1.out (by decide)) (by rw [val_dig, if_neg Bool.false_ne_true]; exact EN.out))
  rintro e w_9 ⟨v_g3, rfl, g3, hb_9⟩
  replace x_b2 := x_b2.bl hb_9; replace g1 := g1.bl hb_9; replace g2 := g2.bl hb_9; replace x_b3 := x_b3.bl hb_9; replace hr1 := hr1.bl hb_9; replace hb := hb.trans (hb_9.mono hb.size)
  replace g3 := g3.rd
  obtain ⟨n_g3, o_g3, k_g3, c_g3, rfl⟩ := g3.open2
  refine hK _ _ rfl ?_
  clear hK K hb_9
  refine wpSq_call rfl (by kernel_rfl) fun K hK => ?_
  go_big_op
  clear hr1
  have lt_b2 := x_b2.lt
  have lt_b3 := x_b3.lt
  obtain ⟨p_b4, w_10, eP, eW, x_b4, hn, kb_b4⟩ := newBox w_9 #[.bool false, .slice none 0 0] 24 hb.size
  have ne_b2_b4 : Hid (p_b2 ≠ p_b4) := Nat.ne_of_lt (eP ▸ lt_b2)
  have ne_b3_b4 : Hid (p_b3 ≠ p_b4) := Nat.ne_of_lt (eP ▸ lt_b3)
  rw [eW, eP]
  clear eW eP lt_b2 lt_b3
  replace x_b2 := x_b2.bl hn; replace g1 := g1.bl hn; replace g2 := g2.bl hn; replace x_b3 := x_b3.bl hn; replace g3 := g3.bl hn; replace hb := hb.trans (hn.mono hb.size)
  refine hK _ _ rfl ?_; clear hK K hn
  refine wpSq_call rfl (by kernel_rfl) fun K hK => ?_
  obtain ⟨d0, d1⟩ := x_b4.f2
  have f0 := x_b4.free 0; have f1 := x_b4.free 1
  go_big_op
  have hnd := x_b4.nod rfl rfl
  obtain ⟨w_11, eW, x_b4', ho⟩ : ∃ w', ((w_10.setCell ⟨p_b4, 0, none⟩ (.bool n_g3)).setCell ⟨p_b4, 1, none⟩ (.slice o_g3 k_g3 c_g3)) = w' ∧ Bs w' p_b4 #[.bool n_g3, .slice o_g3 k_g3 c_g3] 24 ∧ Only p_b4 w_10 w' := x_b4.setN [(0, .bool n_g3), (1, .slice o_g3 k_g3 c_g3)]
  rw [eW]; clear eW d0 d1 f0 f1 x_b4
  have x_b4 := x_b4'; clear x_b4'
  replace x_b2 := x_b2.frame ho ne_b2_b4; replace g1 := g1.fr hnd ho; replace g2 := g2.fr hnd ho; replace x_b3 := x_b3.frame ho ne_b3_b4; replace g3 := g3.fr hnd ho; replace hb := belowOnly hb ho kb_b4
  refine hK _ _ rfl ?_; clear hK K ho hnd
  apply wpSq_end
  refine hK7 _ _ ?_
  refine wp_seq_k ?_
  intro K8 hK8
  refine wp_region_fl2 [(0, false), (1, false), (2, false), (3, false), (4, false), (5, true), (6, true), (7, false)] [8, 9] [] (fun _ => default) [0, 99, 99, 1, 99, 99, 99, 99, 99, 99] [] (fun w' => w'.cell? ⟨p_b4, 0, none⟩ = some (.bool n_g3) ∧ w'.cell? ⟨p_b4, 1, none⟩ = some (.slice o_g3 k_g3 c_g3) ∧ w'.cell? ⟨p_b3, 0, none⟩ = some (.bool false) ∧ w'.cell? ⟨p_b3, 1, none⟩ = some (.slice o_ga k_ga c_ga) ∧ w'.cell? ⟨p_b3, 2, none⟩ = some (.bool n_gb) ∧ w'.cell? ⟨p_b3, 3, none⟩ = some (.slice o_gb k_gb c_gb)) [fun w' => w'.cell? ⟨p_b4, 0, none⟩ = some (.bool n_g3) ∧ w'.cell? ⟨p_b4, 1, none⟩ = some (.slice o_g3 k_g3 c_g3), fun w' => w'.cell? ⟨p_b3, 0, none⟩ = some (.bool false) ∧ w'.cell? ⟨p_b3, 1, none⟩ = some (.slice o_ga k_ga c_ga) ∧ w'.cell? ⟨p_b3, 2, none⟩ = some (.bool n_gb) ∧ w'.cell? ⟨p_b3, 3, none⟩ = some (.slice o_gb k_gb c_gb)] (by kernel_rfl) (by kernel_rfl) (by kernel_rfl) (by kernel_rfl) (by kernel_rfl) (by kernel_rfl) (by kernel_rfl) (by kernel_rfl) (by decide) (by intro j hj; cases hj) (by intro w' o hC; obtain ⟨c0, c1, c2, c3, c4, c5⟩ := hC; exact ⟨cell_alloc c0 o, cell_alloc c1 o, cell_alloc c2 o, cell_alloc c3 o, cell_alloc c4 o, cell_alloc c5 o⟩) (by intro w' hC G hG; obtain ⟨c0, c1, c2, c3, c4, c5⟩ := hC; simp only [List.mem_cons, List.not_mem_nil, or_false] at hG; rcases hG with rfl | rfl <;> first | exact ⟨c0, c1⟩ | exact ⟨c2, c3, c4, c5⟩) ?_
  have lt_b2 := x_b2.lt
  have lt_b3 := x_b3.lt
  have lt_b4 := x_b4.lt
  intro w_12 hn
  replace lt_b2 := Nat.lt_of_lt_of_le lt_b2 hn.size
  replace lt_b3 := Nat.lt_of_lt_of_le lt_b3 hn.size
  replace lt_b4 := Nat.lt_of_lt_of_le lt_b4 hn.size
  replace x_b2 := x_b2.bl hn; replace g1 := g1.bl hn; replace g2 := g2.bl hn; replace x_b3 := x_b3.bl hn; replace g3 := g3.bl hn; replace x_b4 := x_b4.bl hn; replace hb := hb.trans (hn.mono hb.size)
  clear hn
  have kb0 := hb.size
  refine ⟨⟨x_b4.cell 0 rfl, x_b4.cell 1 rfl, x_b3.cell 0 rfl, x_b3.cell 1 rfl, x_b3.cell 2 rfl, x_b3.cell 3 rfl⟩, ?_⟩
  apply wpFl_ld rfl rfl; (case h1 => intro w' hC K hK; obtain ⟨c0, c1⟩ := hC; go_big_op; exact hK); iterate 4 kernel_rfl
  apply wpFl_ld rfl rfl; (case h1 => intro w' hC K hK; go_big_op; exact hK); iterate 4 kernel_rfl
  apply wpFl_ld rfl rfl; (case h1 => intro w' hC K hK; go_big_op; exact hK); iterate 4 kernel_rfl
  apply wpFl_ld rfl rfl; (case h1 => intro w' hC K hK; obtain ⟨c0, c1, c2, c3⟩ := hC; go_big_op; exact hK); iterate 4 kernel_rfl
  apply wpFl_ld rfl rfl; (case h1 => intro w' hC K hK; go_big_move; exact hK); iterate 4 kernel_rfl
  refine wpFl_call rfl (by kernel_rfl) fun w_13 hn hC => ?_; clear hC
  replace x_b2 := x_b2.bl hn; replace g1 := g1.bl hn; replace g2 := g2.bl hn; replace x_b3 := x_b3.bl hn; replace g3 := g3.bl hn; replace x_b4 := x_b4.bl hn; replace hb := hb.trans (hn.mono hb.size)
  clear hn; intro K hK
  go_big_op
  go_fit (rpow_rd N g2.mag (Nat.le_trans Lg2.out (by omega)) hN (by rw [val_dig]; exact L2.out))
  rintro e w_14 ⟨r2, rfl, hr2, hb_14⟩
  replace x_b2 := x_b2.bl hb_14; replace g1 := g1.bl hb_14; replace g2 := g2.bl hb_14; replace x_b3 := x_b3.bl hb_14; replace g3 := g3.bl hb_14; replace x_b4 := x_b4.bl hb_14; replace hb := hb.trans (hb_14.mono hb.size)
  rw [val_dig] at hr2
  refine hK _ _ rfl hb_14 ⟨x_b4.cell 0 rfl, x_b4.cell 1 rfl, x_b3.cell 0 rfl, x_b3.cell 1 rfl, x_b3.cell 2 rfl, x_b3.cell 3 rfl⟩ ?_
  clear hK K hb_14
  refine wpFl_call rfl (by kernel_rfl) fun w_15 hn hC => ?_; clear hC
  replace x_b2 := x_b2.bl hn; replace g1 := g1.bl hn; replace g2 := g2.bl hn; replace x_b3 := x_b3.bl hn; replace g3 := g3.bl hn; replace x_b4 := x_b4.bl hn; replace hr2 := hr2.bl hn; replace hb := hb.trans (hn.mono hb.size)
  clear hn; intro K hK
  go_big_op
  go_fit (make_any false (qD x y ^ N) hr2 (Nat.le_trans L2.out (by decide)) (by rw [val_dig, if_neg Bool.false_ne_true]; exact ED.out))
  rintro e w_16 ⟨v_g4, rfl, g4, hb_16⟩
  replace x_b2 := x_b2.bl hb_16; replace g1 := g1.bl hb_16; replace g2 := g2.bl hb_16; replace x_b3 := x_b3.bl hb_16; replace g3 := g3.bl hb_16; replace x_b4 := x_b4.bl hb_16; replace hr2 := hr2.bl hb_16; replace hb := hb.trans (hb_16.mono hb.size)
  replace g4 := g4.rd
  obtain ⟨n_g4, o_g4, k_g4, c_g4, rfl⟩ := g4.open2
  refine hK _ _ rfl hb_16 ⟨x_b4.cell 0 rfl, x_b4.cell 1 rfl, x_b3.cell 0 rfl, x_b3.cell 1 rfl, x_b3.cell 2 rfl, x_b3.cell 3 rfl⟩ ?_
  clear hK K hb_16
  apply wpFl_ld rfl rfl; (case h1 => intro w' hC K hK; go_big_op; exact hK); iterate 4 kernel_rfl
  apply wpFl_end
  case ha => intro pt; simp only [putF]; rfl
  case h =>
  intro w_17 pt hn hC hF hD
  clear hC
  clear hr2
  replace x_b2 := x_b2.bl hn; replace g1 := g1.bl hn; replace g2 := g2.bl hn; replace x_b3 := x_b3.bl hn; replace g3 := g3.bl hn; replace x_b4 := x_b4.bl hn; replace g4 := g4.bl hn; replace hb := hb.trans (hn.mono hb.size)
  clear hn
  clear hF hD
  clear pt
  clear kb0 lt_b2 lt_b3 lt_b4
  refine wpTail_call rfl (by kernel_rfl) fun K hK => ?_
  obtain ⟨d0, d1, d2, d3⟩ := x_b2.f4
  have f0 := x_b2.free 0; have f1 := x_b2.free 1; have f2 := x_b2.free 2; have f3 := x_b2.free 3
  go_big_op
  have hnd := x_b2.nod rfl rfl
  obtain ⟨w_18, eW, x_b2', ho⟩ : ∃ w', ((((w_17.setCell ⟨p_b2, 0, none⟩ (.bool n_g3)).setCell ⟨p_b2, 1, none⟩ (.slice o_g3 k_g3 c_g3)).setCell ⟨p_b2, 2, none⟩ (.bool n_g4)).setCell ⟨p_b2, 3, none⟩ (.slice o_g4 k_g4 c_g4)) = w' ∧ Bs w' p_b2 #[.bool n_g3, .slice o_g3 k_g3 c_g3, .bool n_g4, .slice o_g4 k_g4 c_g4] 26 ∧ Only p_b2 w_17 w' := x_b2.setN [(0, .bool n_g3), (1, .slice o_g3 k_g3 c_g3), (2, .bool n_g4), (3, .slice o_g4 k_g4 c_g4)]
  rw [eW]; clear eW d0 d1 d2 d3 f0 f1 f2 f3 x_b2
  have x_b2 := x_b2'; clear x_b2'
  replace g1 := g1.fr hnd ho; replace g2 := g2.fr hnd ho; replace x_b3 := x_b3.frame ho ne_b2_b3.symm; replace g3 := g3.fr hnd ho; replace x_b4 := x_b4.frame ho ne_b2_b4.symm; replace g4 := g4.fr hnd ho; replace hb := belowOnly hb ho kb_b2
  refine hK _ _ rfl (And.intro ⟨x_b4.cell 0 rfl, x_b4.cell 1 rfl⟩ (And.intro ⟨x_b3.cell 0 rfl, x_b3.cell 1 rfl, x_b3.cell 2 rfl, x_b3.cell 3 rfl⟩ True.intro)) ?_; clear hK K ho hnd
  refine wpTail_call rfl (by kernel_rfl) fun K hK => ?_
  go_big_move; refine hK _ _ rfl (And.intro ⟨x_b4.cell 0 rfl, x_b4.cell 1 rfl⟩ (And.intro ⟨x_b3.cell 0 rfl, x_b3.cell 1 rfl, x_b3.cell 2 rfl, x_b3.cell 3 rfl⟩ True.intro)) ?_; clear hK K
  apply wpTail_end
  refine hK8 _ _ ?_
  refine wp_ret ?_
  try dsimp only [Exit.then, Exit.inBlock]
  obtain ⟨r0_0, r0_1, r0_2, r0_3⟩ := x_b2.f4
  refine bodyPost_ret (v := (.tuple #[(.agg #[.bool n_g3, .slice o_g3 k_g3 c_g3, .bool n_g4, .slice o_g4 k_g4 c_g4]), (.bool true)])) (by simp [results, Tryz.results47, go_sem, r0_0, r0_1, r0_2, r0_3]) rfl ?_
  exact ⟨_, rfl, .mk' g3 g4, hb⟩
set_option maxHeartbeats 8000000 in
set_option maxRecDepth 20000 in
theorem rPow_bh (N : Nat) (ha : PN w va x l y m) (hl : l ≤ 1048576) (hm : m ≤ 1048576) (h0 : y ≠ 0) (hN : N ≤ 9223372036854775807) (h1 : 1 < bitsN (qN x y).natAbs ∧ N ≤ 65536 / bitsN (qN x y).natAbs) (h2 : 1 < bitsN (qD x y).natAbs ∧ 65536 / bitsN (qD x y).natAbs < N) :
    Calls Tryz.prog 47 #[va, .int .i64 N] w fun e w' => e = .returned (.tuple #[.agg #[.bool false, .slice none 0 0, .bool false, .slice none 0 0], .bool false]) ∧ Below w.heap.size w w' := by
  have H0 := hide h0
  clear h0
  obtain ⟨b, hb⟩ : ∃ b, bitsN (qN x y).natAbs = b := ⟨_, rfl⟩
  rw [hb] at h1
  have Hb := hide hb
  obtain ⟨hgb, h0b⟩ := q_gt h1.1
  have hdb : ((65536 : Int) / (b : Int)) = ((65536 / b : Nat) : Int) := rfl
  have hddb : Int.tdiv 65536 (b : Int) = ((65536 / b : Nat) : Int) := rfl
  have hq65b : 65536 / b ≤ 65536 := Nat.div_le_self _ _
  generalize 65536 / b = qb at *
  have hwb := q_wrap hq65b
  have hqbb := q_no h1.2
  clear hb h1
  obtain ⟨c, hc⟩ : ∃ c, bitsN (qD x y).natAbs = c := ⟨_, rfl⟩
  rw [hc] at h2
  have Hc := hide hc
  obtain ⟨hgc, h0c⟩ := q_gt h2.1
  have hdc : ((65536 : Int) / (c : Int)) = ((65536 / c : Nat) : Int) := rfl
  have hddc : Int.tdiv 65536 (c : Int) = ((65536 / c : Nat) : Int) := rfl
  have hq65c : 65536 / c ≤ 65536 := Nat.div_le_self _ _
  generalize 65536 / c = qc at *
  have hwc := q_wrap hq65c
  have hqbc := q_yes h2.2
  clear hc h2
  obtain ⟨n_0a, o_0a, k_0a, c_0a, n_0b, o_0b, k_0b, c_0b, rfl, ha1, ha2⟩ := ha
  go_enter Tryz.func47, Tryz.ntmps47
  have hb := Below.refl w.heap.size w
  refine wp_seq_k ?_
  intro K1 hK1
  refine wp_region_sq [0, 1, 2] (by kernel_rfl) ?_
  refine wpSq_call rfl (by kernel_rfl) fun K hK => ?_
  go_big_op
  obtain ⟨p_b1, w_1, eP, eW, x_b1, hn, kb_b1⟩ := newBox w #[.bool n_0a, .slice o_0a k_0a c_0a, .bool n_0b, .slice o_0b k_0b c_0b] 26 hb.size
  rw [eW, eP]
  clear eW eP
  replace ha1 := ha1.bl hn; replace ha2 := ha2.bl hn; replace hb := hb.trans (hn.mono hb.size)
  refine hK _ _ rfl ?_; clear hK K hn
  refine wpSq_call rfl (by kernel_rfl) fun K hK => ?_
  go_big_op
  have lt_b1 := x_b1.lt
  obtain ⟨p_b2, w_2, eP, eW, x_b2, hn, kb_b2⟩ := newBox w_1 #[.bool false, .slice none 0 0, .bool false, .slice none 0 0] 26 hb.size
  have ne_b1_b2 : Hid (p_b1 ≠ p_b2) := Nat.ne_of_lt (eP ▸ lt_b1)
  rw [eW, eP]
  clear eW eP lt_b1
  replace ha1 := ha1.bl hn; replace ha2 := ha2.bl hn; replace x_b1 := x_b1.bl hn; replace hb := hb.trans (hn.mono hb.size)
  refine hK _ _ rfl ?_; clear hK K hn
  refine wpSq_call rfl (by kernel_rfl) fun K hK => ?_
  go_big_move; refine hK _ _ rfl ?_; clear hK K
  apply wpSq_end
  refine hK1 _ _ ?_
  refine wp_seq_k ?_
  intro K2 hK2
  refine wp_region_sq [0, 1, 2, 3] (by kernel_rfl) ?_
  refine wpSq_call rfl (by kernel_rfl) fun K hK => ?_
  obtain ⟨d0, d1, d2, d3⟩ := x_b1.f4
  go_big_op; refine hK _ _ rfl ?_; clear hK K d0 d1 d2 d3
  refine wpSq_call rfl (by kernel_rfl) fun K hK => ?_
  go_big_op
  go_fit (rfnorm_any (PN.mk' ha1 ha2) (by omega) (by omega) H0.out)
  rintro e w_3 ⟨_, rfl, ⟨n_ga, o_ga, k_ga, c_ga, n_gb, o_gb, k_gb, c_gb, rfl, g1, g2⟩, hb_3⟩
  clear x_b1
  replace ha1 := ha1.bl hb_3; replace ha2 := ha2.bl hb_3; replace x_b2 := x_b2.bl hb_3; replace hb := hb.trans (hb_3.mono hb.size)
  have Lg1 := hide (g1.lenOf (qN_len (H0.out) (ha1.len)))
  have Lg2 := hide (g2.lenOf (qD_len (H0.out) (ha2.len)))
  refine hK _ _ rfl ?_
  clear hK K hb_3
  refine wpSq_call rfl (by kernel_rfl) fun K hK => ?_
  go_big_op
  clear ha1 ha2
  have lt_b2 := x_b2.lt
  obtain ⟨p_b3, w_4, eP, eW, x_b3, hn, kb_b3⟩ := newBox w_3 #[.bool false, .slice none 0 0, .bool false, .slice none 0 0] 26 hb.size
  have ne_b2_b3 : Hid (p_b2 ≠ p_b3) := Nat.ne_of_lt (eP ▸ lt_b2)
  rw [eW, eP]
  clear eW eP lt_b2
  replace x_b2 := x_b2.bl hn; replace g1 := g1.bl hn; replace g2 := g2.bl hn; replace hb := hb.trans (hn.mono hb.size)
  refine hK _ _ rfl ?_; clear hK K hn
  refine wpSq_call rfl (by kernel_rfl) fun K hK => ?_
  obtain ⟨d0, d1, d2, d3⟩ := x_b3.f4
  have f0 := x_b3.free 0; have f1 := x_b3.free 1; have f2 := x_b3.free 2; have f3 := x_b3.free 3
  go_big_op
  have hnd := x_b3.nod rfl rfl
  obtain ⟨w_5, eW, x_b3', ho⟩ : ∃ w', ((((w_4.setCell ⟨p_b3, 0, none⟩ (.bool n_ga)).setCell ⟨p_b3, 1, none⟩ (.slice o_ga k_ga c_ga)).setCell ⟨p_b3, 2, none⟩ (.bool n_gb)).setCell ⟨p_b3, 3, none⟩ (.slice o_gb k_gb c_gb)) = w' ∧ Bs w' p_b3 #[.bool n_ga, .slice o_ga k_ga c_ga, .bool n_gb, .slice o_gb k_gb c_gb] 26 ∧ Only p_b3 w_4 w' := x_b3.setN [(0, .bool n_ga), (1, .slice o_ga k_ga c_ga), (2, .bool n_gb), (3, .slice o_gb k_gb c_gb)]
  rw [eW]; clear eW d0 d1 d2 d3 f0 f1 f2 f3 x_b3
  have x_b3 := x_b3'; clear x_b3'
  replace x_b2 := x_b2.frame ho ne_b2_b3; replace g1 := g1.fr hnd ho; replace g2 := g2.fr hnd ho; replace hb := belowOnly hb ho kb_b3
  refine hK _ _ rfl ?_; clear hK K ho hnd
  apply wpSq_end
  refine hK2 _ _ ?_
  refine wp_seq_k ?_
  intro K3 hK3
  refine wp_region_sq [0, 1, 2, 3, 4] (by kernel_rfl) ?_
  refine wpSq_call rfl (by kernel_rfl) fun K hK => ?_
  go_big_op; refine hK _ _ rfl ?_; clear hK K
  refine wpSq_call rfl (by kernel_rfl) fun K hK => ?_
  go_big_op; refine hK _ _ rfl ?_; clear hK K
  refine wpSq_call rfl (by kernel_rfl) fun K hK => ?_
  obtain ⟨d0, d1, d2, d3⟩ := x_b3.f4
  go_big_op; refine hK _ _ rfl ?_; clear hK K d0 d1 d2 d3
  refine wpSq_call rfl (by kernel_rfl) fun K hK => ?_
  go_big_op
  go_fit (rbits_rd' g1.mag (Nat.le_trans Lg1.out (by omega)))
  rintro e w_6 ⟨rfl, hb_6⟩
  replace x_b2 := x_b2.bl hb_6; replace g1 := g1.bl hb_6; replace g2 := g2.bl hb_6; replace x_b3 := x_b3.bl hb_6; replace hb := hb.trans (hb_6.mono hb.size)
  rw [val_dig, Hb.out]
  refine hK _ _ rfl ?_
  clear hK K hb_6
  refine wpSq_call rfl (by kernel_rfl) fun K hK => ?_
  go_big_move; refine hK _ _ rfl ?_; clear hK K
  apply wpSq_end
  refine hK3 _ _ ?_
  refine wp_seq_k ?_
  intro K4 hK4
  refine wp_region_sq [0, 1, 2, 3, 4] (by kernel_rfl) ?_
  refine wpSq_call rfl (by kernel_rfl) fun K hK => ?_
  go_big_op; refine hK _ _ rfl ?_; clear hK K
  refine wpSq_call rfl (by kernel_rfl) fun K hK => ?_
  go_big_op; refine hK _ _ rfl ?_; clear hK K
  refine wpSq_call rfl (by kernel_rfl) fun K hK => ?_
  obtain ⟨d0, d1, d2, d3⟩ := x_b3.f4
  go_big_op; refine hK _ _ rfl ?_; clear hK K d0 d1 d2 d3
  refine wpSq_call rfl (by kernel_rfl) fun K hK => ?_
  go_big_op
  go_fit (rbits_rd' g2.mag (Nat.le_trans Lg2.out (by omega)))
  rintro e w_7 ⟨rfl, hb_7⟩
  replace x_b2 := x_b2.bl hb_7; replace g1 := g1.bl hb_7; replace g2 := g2.bl hb_7; replace x_b3 := x_b3.bl hb_7; replace hb := hb.trans (hb_7.mono hb.size)
  rw [val_dig, Hc.out]
  refine hK _ _ rfl ?_
  clear hK K hb_7
  refine wpSq_call rfl (by kernel_rfl) fun K hK => ?_
  go_big_move; refine hK _ _ rfl ?_; clear hK K
  apply wpSq_end
  refine hK4 _ _ ?_
  refine wp_seq_k ?_
  intro K5 hK5
  refine wp_seq_k ?_
  intro K6 hK6
  refine wp_region_sq [0, 1, 2, 3, 4, 5, 6, 7, 8, 9, 10, 11, 12, 13, 14, 15, 16, 17] (by kernel_rfl) ?_
  refine wpSq_call rfl (by kernel_rfl) fun K hK => ?_
  go_big_move; refine hK _ _ rfl ?_; clear hK K
  refine wpSq_call rfl (by kernel_rfl) fun K hK => ?_
  go_big_op; refine hK _ _ rfl ?_; clear hK K
  refine wpSq_call rfl (by kernel_rfl) fun K hK => ?_
  go_big_move; refine hK _ _ rfl ?_; clear hK K
  refine wpSq_call rfl (by kernel_rfl) fun K hK => ?_
  go_big_move; refine hK _ _ rfl ?_; clear hK K
  refine wpSq_call rfl (by kernel_rfl) fun K hK => ?_
  go_big_move; refine hK _ _ rfl ?_; clear hK K
  refine wpSq_call rfl (by kernel_rfl) fun K hK => ?_
  go_big_op; refine hK _ _ rfl ?_; clear hK K
  refine wpSq_call rfl (by kernel_rfl) fun K hK => ?_
  go_big_op; refine hK _ _ rfl ?_; clear hK K
  refine wpSq_call rfl (by kernel_rfl) fun K hK => ?_
  go_big_op; refine hK _ _ rfl ?_; clear hK K
  refine wpSq_call rfl (by kernel_rfl) fun K hK => ?_
  go_big_move; refine hK _ _ rfl ?_; clear hK K
  refine wpSq_call rfl (by kernel_rfl) fun K hK => ?_
  go_big_move; refine hK _ _ rfl ?_; clear hK K
  refine wpSq_call rfl (by kernel_rfl) fun K hK => ?_
  go_big_op; refine hK _ _ rfl ?_; clear hK K
  refine wpSq_call rfl (by kernel_rfl) fun K hK => ?_
  go_big_move; refine hK _ _ rfl ?_; clear hK K
  refine wpSq_call rfl (by kernel_rfl) fun K hK => ?_
  go_big_move; refine hK _ _ rfl ?_; clear hK K
  refine wpSq_call rfl (by kernel_rfl) fun K hK => ?_
  go_big_move; refine hK _ _ rfl ?_; clear hK K
  refine wpSq_call rfl (by kernel_rfl) fun K hK => ?_
  go_big_op; refine hK _ _ rfl ?_; clear hK K
  refine wpSq_call rfl (by kernel_rfl) fun K hK => ?_
  go_big_op; refine hK _ _ rfl ?_; clear hK K
  refine wpSq_call rfl (by kernel_rfl) fun K hK => ?_
  go_big_op; refine hK _ _ rfl ?_; clear hK K
  refine wpSq_call rfl (by kernel_rfl) fun K hK => ?_
  go_big_op; refine hK _ _ rfl ?_; clear hK K
  apply wpSq_end
  refine hK6 _ _ ?_
  refine wp_cond_true (congrArg Value.bool (show _ = true from (by first | rfl | assumption | (simp; done) | exact decide_eq_true (by omega) | omega))) ?_
  refine wp_seq_k ?_
  intro K7 hK7
  refine wp_region_sq [0, 1, 2] (by kernel_rfl) ?_
  refine wpSq_call rfl (by kernel_rfl) fun K hK => ?_
  go_big_op; refine hK _ _ rfl ?_; clear hK K
  refine wpSq_call rfl (by kernel_rfl) fun K hK => ?_
  obtain ⟨d0, d1, d2, d3⟩ := x_b2.f4
  have f0 := x_b2.free 0; have f1 := x_b2.free 1; have f2 := x_b2.free 2; have f3 := x_b2.free 3
  go_big_op
  have hnd := x_b2.nod rfl rfl
  obtain ⟨w_8, eW, x_b2', ho⟩ : ∃ w', ((((w_7.setCell ⟨p_b2, 0, none⟩ (.bool false)).setCell ⟨p_b2, 1, none⟩ (.slice none 0 0)).setCell ⟨p_b2, 2, none⟩ (.bool false)).setCell ⟨p_b2, 3, none⟩ (.slice none 0 0)) = w' ∧ Bs w' p_b2 #[.bool false, .slice none 0 0, .bool false, .slice none 0 0] 26 ∧ Only p_b2 w_7 w' := x_b2.setN [(0, .bool false), (1, .slice none 0 0), (2, .bool false), (3, .slice none 0 0)]
  rw [eW]; clear eW d0 d1 d2 d3 f0 f1 f2 f3 x_b2
  have x_b2 := x_b2'; clear x_b2'
  replace g1 := g1.fr hnd ho; replace g2 := g2.fr hnd ho; replace x_b3 := x_b3.frame ho ne_b2_b3.symm; replace hb := belowOnly hb ho kb_b2
  refine hK _ _ rfl ?_; clear hK K ho hnd
  refine wpSq_call rfl (by kernel_rfl) fun K hK => ?_
  go_big_move; refine hK _ _ rfl ?_; clear hK K
  apply wpSq_end
  refine hK7 _ _ ?_
  refine wp_ret ?_
  try dsimp only [Exit.then, Exit.inBlock]
  obtain ⟨r0_0, r0_1, r0_2, r0_3⟩ := x_b2.f4
  refine bodyPost_ret (v := (.tuple #[(.agg #[.bool false, .slice none 0 0, .bool false, .slice none 0 0]), (.bool false)])) (by simp [results, Tryz.results47, go_sem, r0_0, r0_1, r0_2, r0_3]) rfl ?_
  exact ⟨rfl, hb⟩
end
end Go.Proofs.YtkgbfnmlpajblaaGreatDoor

/- The reference's Pow, in one piece. -/
namespace Go.Proofs.YtkgbfnmlpajblaaGreatDoor
open Go Go.RowKit Dig
set_option linter.unusedVariables false
section
variable {w : World} {va vb : Value} {x y u v : Int} {l m k n : Nat}
theorem rPow_no (N : Nat) (ha : PN w va x l y m) (hl : l ≤ 1048576) (hm : m ≤ 1048576) (h0 : y ≠ 0) (hN : N ≤ 9223372036854775807) (h : tooHigh (qN x y) N ∨ tooHigh (qD x y) N) :
    Calls Tryz.prog 47 #[va, .int .i64 N] w fun e w' => e = .returned (.tuple #[.agg #[.bool false, .slice none 0 0, .bool false, .slice none 0 0], .bool false]) ∧ Below w.heap.size w w' := by
  by_cases h1 : tooHigh (qN x y) N
  · exact rPow_hs N ha hl hm h0 hN h1
  · have h2 := h.resolve_left h1
    rcases (high_cases _ N _ rfl).2 h1 with h3 | h3
    · exact rPow_sh N ha hl hm h0 hN h3 h2
    · exact rPow_bh N ha hl hm h0 hN h3 h2
theorem rPow_any (N : Nat) (ha : PN w va x l y m) (hl : l ≤ 1048576) (hm : m ≤ 1048576) (h0 : y ≠ 0) (hN : N ≤ 9223372036854775807) (h1 : ¬ tooHigh (qN x y) N) (h2 : ¬ tooHigh (qD x y) N) :
    Calls Tryz.prog 47 #[va, .int .i64 N] w fun e w' => ∃ r, e = .returned (.tuple #[r, .bool true]) ∧ PC w' r (qN x y ^ N) (qD x y ^ N) ∧ Below w.heap.size w w' := by
  have l1 : (dig ((qN x y).natAbs ^ N)).length ≤ 1048576 := by rw [← natAbs_pow']; exact Nat.le_trans (pow_len h1 N (Nat.le_refl _)) (by decide)
  have l2 : (dig ((qD x y).natAbs ^ N)).length ≤ 1048576 := by rw [← natAbs_pow']; exact Nat.le_trans (pow_len h2 N (Nat.le_refl _)) (by decide)
  rcases (high_cases _ N _ rfl).2 h1 with h3 | h3 <;> rcases (high_cases _ N _ rfl).2 h2 with h4 | h4 <;> rcases sign_cases (qN x y) N with ⟨h5, h6⟩ | ⟨h5, h6⟩ | h5
  · exact rPow_ss_odd N ha hl hm h0 hN h3 h4 h5 h6 l1 l2
  · exact rPow_ss_even N ha hl hm h0 hN h3 h4 h5 h6 l1 l2
  · exact rPow_ss_pos N ha hl hm h0 hN h3 h4 h5 l1 l2
  · exact rPow_sb_odd N ha hl hm h0 hN h3 h4 h5 h6 l1 l2
  · exact rPow_sb_even N ha hl hm h0 hN h3 h4 h5 h6 l1 l2
  · exact rPow_sb_pos N ha hl hm h0 hN h3 h4 h5 l1 l2
  · exact rPow_bs_odd N ha hl hm h0 hN h3 h4 h5 h6 l1 l2
  · exact rPow_bs_even N ha hl hm h0 hN h3 h4 h5 h6 l1 l2
  · exact rPow_bs_pos N ha hl hm h0 hN h3 h4 h5 l1 l2
  · exact rPow_bb_odd N ha hl hm h0 hN h3 h4 h5 h6 l1 l2
  · exact rPow_bb_even N ha hl hm h0 hN h3 h4 h5 h6 l1 l2
  · exact rPow_bb_pos N ha hl hm h0 hN h3 h4 h5 l1 l2
end
end Go.Proofs.YtkgbfnmlpajblaaGreatDoor

