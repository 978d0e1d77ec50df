/- GintBezout: the law's walk. -/
import Derived.Test.YtgjainmfilkjmaaDoorG15ToG17
namespace Go.Proofs.YtgjainmfilkjmaaDoor
open Go Go.RowKit Dig
set_option linter.unusedVariables false

section
variable {w : World} {va vb vc : Value} {x y u v p q : Int} {l m k n s t : Nat}
set_option maxHeartbeats 8000000 in
set_option maxRecDepth 20000 in
theorem bezout_zero (ha : PN w va x 1048576 y 1048576) (hq : PN w vb u 1048576 v 1048576) (hc : PN w vc p 1048576 q 1048576) (h0 : gN (GS.start (x * p - y * q) (x * q + y * p) (u * p - v * q) (u * q + v * p)).fin.r1 (GS.start (x * p - y * q) (x * q + y * p) (u * p - v * q) (u * q + v * p)).fin.r2 = 0) (htab : Lib.TabIs Tryd.prog w p10 .u64 Lib.pow10Tab) :
    Calls Tryd.prog 8 #[va, vb, vc] w fun e w' => e = .returned (.bool true) ∧ Below w.heap.size w w' := by
  have htabs := Lib.tabBelow_of_tabIs htab
  have hfin := GI.fin _ (GI.start (x * p - y * q) (x * q + y * p) (u * p - v * q) (u * q + v * p)) (Nat.le_refl _)
  have tX := mul_tight ha.len1 ha.len2 hc.len1 hc.len2
  have tY := mul_tight hq.len1 hq.len2 hc.len1 hc.len2
  obtain ⟨F, hF⟩ : ∃ F, (GS.start (x * p - y * q) (x * q + y * p) (u * p - v * q) (u * q + v * p)).fin = F := ⟨_, rfl⟩
  rw [hF] at hfin
  have HF := hide hF
  have hbz := bz_of hfin.1 hfin.2
  have lr := len_norm (x := F.r1) (y := F.r2) (Int.le_trans hfin.1.nr (by have := gN_nonneg (x * p - y * q) (x * q + y * p); have := gN_nonneg (u * p - v * q) (u * q + v * p); omega)) tX.1 tX.2 tY.1 tY.2
  have lx := len_norm hfin.1.nx tX.1 tX.2 tY.1 tY.2
  have ly := len_norm hfin.1.ny tX.1 tX.2 tY.1 tY.2
  have l1 := zlen_turn lr.1 lr.2 (kq F.r1 F.r2)
  have l2 := zlen_turn lx.1 lx.2 (kq F.r1 F.r2)
  have l3 := zlen_turn ly.1 ly.2 (kq F.r1 F.r2)
  obtain ⟨D1, hD1⟩ : ∃ D, (turn (kq F.r1 F.r2) (F.r1, F.r2)).1 = D := ⟨_, rfl⟩
  obtain ⟨D2, hD2⟩ : ∃ D, (turn (kq F.r1 F.r2) (F.r1, F.r2)).2 = D := ⟨_, rfl⟩
  obtain ⟨S1, hS1⟩ : ∃ D, (turn (kq F.r1 F.r2) (F.x1, F.x2)).1 = D := ⟨_, rfl⟩
  obtain ⟨S2, hS2⟩ : ∃ D, (turn (kq F.r1 F.r2) (F.x1, F.x2)).2 = D := ⟨_, rfl⟩
  obtain ⟨T1, hT1⟩ : ∃ D, (turn (kq F.r1 F.r2) (F.y1, F.y2)).1 = D := ⟨_, rfl⟩
  obtain ⟨T2, hT2⟩ : ∃ D, (turn (kq F.r1 F.r2) (F.y1, F.y2)).2 = D := ⟨_, rfl⟩
  have hn := turn_norm (kq_lt F.r1 F.r2) F.r1 F.r2
  rw [hF] at h0
  rw [h0, hD1, hD2] at hn
  rw [hD1, hD2, hS1, hS2, hT1, hT2] at hbz
  have HZ := hide hn
  have HX := hide (hbz.z1 hn)
  clear hn h0
  rw [hD1, hD2] at l1
  rw [hS1, hS2] at l2
  rw [hT1, hT2] at l3
  have EQ := hide (And.intro (And.intro hD1 hD2) (And.intro (And.intro hS1 hS2) (And.intro hT1 hT2)))
  have BZ := hide hbz
  have TX := hide tX
  have TY := hide tY
  have LD := hide l1
  have LS := hide l2
  have LT := hide l3
  clear hfin hF lr lx ly l1 l2 l3 hD1 hD2 hS1 hS2 hT1 hT2 hbz tX tY
  obtain ⟨n_0a, o_0a, k_0a, c_0a, n_0b, o_0b, k_0b, c_0b, rfl, ha1, ha2⟩ := ha
  obtain ⟨n_1a, o_1a, k_1a, c_1a, n_1b, o_1b, k_1b, c_1b, rfl, hq1, hq2⟩ := hq
  obtain ⟨n_2a, o_2a, k_2a, c_2a, n_2b, o_2b, k_2b, c_2b, rfl, hc1, hc2⟩ := hc
  go_enter Tryd.func8, Tryd.ntmps8
  have hb := Below.refl w.heap.size w
  refine wp_seq_k ?_
  intro K1 hK1
  refine wp_region_sq [0, 1, 2, 3] (by kernel_rfl) ?_
  refine wpSq_call rfl (by kernel_rfl) fun K hK => ?_
  go_big_op
  obtain ⟨p_b1, w_1, eP, eW, x_b1, hn, kb_b1⟩ := newBox w #[.bool n_0a, .slice o_0a k_0a c_0a, .bool n_0b, .slice o_0b k_0b c_0b] 26 hb.size
  rw [eW, eP]
  clear eW eP
  replace ha1 := ha1.bl hn; replace ha2 := ha2.bl hn; replace hq1 := hq1.bl hn; replace hq2 := hq2.bl hn; replace hc1 := hc1.bl hn; replace hc2 := hc2.bl hn; replace hb := hb.trans (hn.mono hb.size)
  refine hK _ _ rfl ?_; clear hK K hn
  refine wpSq_call rfl (by kernel_rfl) fun K hK => ?_
  go_big_op
  have lt_b1 := x_b1.lt
  obtain ⟨p_b2, w_2, eP, eW, x_b2, hn, kb_b2⟩ := newBox w_1 #[.bool n_1a, .slice o_1a k_1a c_1a, .bool n_1b, .slice o_1b k_1b c_1b] 26 hb.size
  have ne_b1_b2 : Hid (p_b1 ≠ p_b2) := Nat.ne_of_lt (eP ▸ lt_b1)
  rw [eW, eP]
  clear eW eP lt_b1
  replace ha1 := ha1.bl hn; replace ha2 := ha2.bl hn; replace hq1 := hq1.bl hn; replace hq2 := hq2.bl hn; replace hc1 := hc1.bl hn; replace hc2 := hc2.bl hn; replace x_b1 := x_b1.bl hn; replace hb := hb.trans (hn.mono hb.size)
  refine hK _ _ rfl ?_; clear hK K hn
  refine wpSq_call rfl (by kernel_rfl) fun K hK => ?_
  go_big_op
  have lt_b1 := x_b1.lt
  have lt_b2 := x_b2.lt
  obtain ⟨p_b3, w_3, eP, eW, x_b3, hn, kb_b3⟩ := newBox w_2 #[.bool n_2a, .slice o_2a k_2a c_2a, .bool n_2b, .slice o_2b k_2b c_2b] 26 hb.size
  have ne_b1_b3 : Hid (p_b1 ≠ p_b3) := Nat.ne_of_lt (eP ▸ lt_b1)
  have ne_b2_b3 : Hid (p_b2 ≠ p_b3) := Nat.ne_of_lt (eP ▸ lt_b2)
  rw [eW, eP]
  clear eW eP lt_b1 lt_b2
  replace ha1 := ha1.bl hn; replace ha2 := ha2.bl hn; replace hq1 := hq1.bl hn; replace hq2 := hq2.bl hn; replace hc1 := hc1.bl hn; replace hc2 := hc2.bl hn; replace x_b1 := x_b1.bl hn; replace x_b2 := x_b2.bl hn; replace hb := hb.trans (hn.mono hb.size)
  refine hK _ _ rfl ?_; clear hK K hn
  refine wpSq_call rfl (by kernel_rfl) fun K hK => ?_
  go_big_move; refine hK _ _ rfl ?_; clear hK K
  apply wpSq_end
  refine hK1 _ _ ?_
  refine wp_seq_k ?_
  intro K2 hK2
  refine wp_seq_k ?_
  intro K3 hK3
  refine wp_region_sq [0, 1] (by kernel_rfl) ?_
  refine wpSq_call rfl (by kernel_rfl) fun K hK => ?_
  go_big_op
  go_fit (gawake_any _ (htabs _ hb))
  rintro e w_4 ⟨rfl, hb_4⟩
  replace ha1 := ha1.bl hb_4; replace ha2 := ha2.bl hb_4; replace hq1 := hq1.bl hb_4; replace hq2 := hq2.bl hb_4; replace hc1 := hc1.bl hb_4; replace hc2 := hc2.bl hb_4; replace x_b1 := x_b1.bl hb_4; replace x_b2 := x_b2.bl hb_4; replace x_b3 := x_b3.bl hb_4; replace hb := hb.trans (hb_4.mono hb.size)
  refine hK _ _ rfl ?_
  clear hK K hb_4
  refine wpSq_call rfl (by kernel_rfl) fun K hK => ?_
  go_big_op; refine hK _ _ rfl ?_; clear hK K
  apply wpSq_end
  refine hK3 _ _ ?_
  refine wp_cond_false (congrArg Value.bool (show _ = false from (by first | rfl | assumption | (simp; done) | exact decide_eq_false (by omega) | omega))) ?_
  refine wp_skip ?_
  refine hK2 _ _ ?_
  refine wp_seq_k ?_
  intro K4 hK4
  refine wp_region_fl2 [(0, false), (1, false), (3, false), (4, false), (2, true), (5, true)] [8, 9] [6, 7] (fun j => if j = 6 then (.cells #[.bool false, .slice none 0 0, .bool false, .slice none 0 0] 26) else (.cells #[.bool false, .slice none 0 0, .bool false, .slice none 0 0] 26)) [0, 1, 99, 2, 1, 99, 99, 99, 99, 99] [] (fun w' => w'.cell? ⟨p_b1, 0, none⟩ = some (.bool n_0a) ∧ w'.cell? ⟨p_b1, 1, none⟩ = some (.slice o_0a k_0a c_0a) ∧ w'.cell? ⟨p_b1, 2, none⟩ = some (.bool n_0b) ∧ w'.cell? ⟨p_b1, 3, none⟩ = some (.slice o_0b k_0b c_0b) ∧ w'.cell? ⟨p_b3, 0, none⟩ = some (.bool n_2a) ∧ w'.cell? ⟨p_b3, 1, none⟩ = some (.slice o_2a k_2a c_2a) ∧ w'.cell? ⟨p_b3, 2, none⟩ = some (.bool n_2b) ∧ w'.cell? ⟨p_b3, 3, none⟩ = some (.slice o_2b k_2b c_2b) ∧ w'.cell? ⟨p_b2, 0, none⟩ = some (.bool n_1a) ∧ w'.cell? ⟨p_b2, 1, none⟩ = some (.slice o_1a k_1a c_1a) ∧ w'.cell? ⟨p_b2, 2, none⟩ = some (.bool n_1b) ∧ w'.cell? ⟨p_b2, 3, none⟩ = some (.slice o_1b k_1b c_1b)) [fun w' => w'.cell? ⟨p_b1, 0, none⟩ = some (.bool n_0a) ∧ w'.cell? ⟨p_b1, 1, none⟩ = some (.slice o_0a k_0a c_0a) ∧ w'.cell? ⟨p_b1, 2, none⟩ = some (.bool n_0b) ∧ w'.cell? ⟨p_b1, 3, none⟩ = some (.slice o_0b k_0b c_0b), fun w' => w'.cell? ⟨p_b3, 0, none⟩ = some (.bool n_2a) ∧ w'.cell? ⟨p_b3, 1, none⟩ = some (.slice o_2a k_2a c_2a) ∧ w'.cell? ⟨p_b3, 2, none⟩ = some (.bool n_2b) ∧ w'.cell? ⟨p_b3, 3, none⟩ = some (.slice o_2b k_2b c_2b), fun w' => w'.cell? ⟨p_b2, 0, none⟩ = some (.bool n_1a) ∧ w'.cell? ⟨p_b2, 1, none⟩ = some (.slice o_1a k_1a c_1a) ∧ w'.cell? ⟨p_b2, 2, none⟩ = some (.bool n_1b) ∧ w'.cell? ⟨p_b2, 3, none⟩ = some (.slice o_1b k_1b c_1b)] (by kernel_rfl) (by kernel_rfl) (by kernel_rfl) (by kernel_rfl) (by kernel_rfl) (by kernel_rfl) (by kernel_rfl) (by kernel_rfl) (by decide) (by intro j hj; simp only [List.mem_cons, List.not_mem_nil, or_false] at hj; rcases hj with rfl | rfl; all_goals exact ⟨_, rfl, rfl, fun ρ w => by unfold ptr; simp [go_sem]⟩) (by intro w' o hC; obtain ⟨c0, c1, c2, c3, c4, c5, c6, c7, c8, c9, c10, c11⟩ := hC; exact ⟨cell_alloc c0 o, cell_alloc c1 o, cell_alloc c2 o, cell_alloc c3 o, cell_alloc c4 o, cell_alloc c5 o, cell_alloc c6 o, cell_alloc c7 o, cell_alloc c8 o, cell_alloc c9 o, cell_alloc c10 o, cell_alloc c11 o⟩) (by intro w' hC G hG; obtain ⟨c0, c1, c2, c3, c4, c5, c6, c7, c8, c9, c10, c11⟩ := hC; simp only [List.mem_cons, List.not_mem_nil, or_false] at hG; rcases hG with rfl | rfl | rfl <;> first | exact ⟨c0, c1, c2, c3⟩ | exact ⟨c4, c5, c6, c7⟩ | exact ⟨c8, c9, c10, c11⟩) ?_
  have lt_b1 := x_b1.lt
  have lt_b2 := x_b2.lt
  have lt_b3 := x_b3.lt
  intro w_5 hn
  replace lt_b1 := Nat.lt_of_lt_of_le lt_b1 hn.size
  replace lt_b2 := Nat.lt_of_lt_of_le lt_b2 hn.size
  replace lt_b3 := Nat.lt_of_lt_of_le lt_b3 hn.size
  replace ha1 := ha1.bl hn; replace ha2 := ha2.bl hn; replace hq1 := hq1.bl hn; replace hq2 := hq2.bl hn; replace hc1 := hc1.bl hn; replace hc2 := hc2.bl hn; replace x_b1 := x_b1.bl hn; replace x_b2 := x_b2.bl hn; replace x_b3 := x_b3.bl hn; replace hb := hb.trans (hn.mono hb.size)
  clear hn
  have kb0 := hb.size
  refine ⟨⟨x_b1.cell 0 rfl, x_b1.cell 1 rfl, x_b1.cell 2 rfl, x_b1.cell 3 rfl, x_b3.cell 0 rfl, x_b3.cell 1 rfl, x_b3.cell 2 rfl, x_b3.cell 3 rfl, x_b2.cell 0 rfl, x_b2.cell 1 rfl, x_b2.cell 2 rfl, x_b2.cell 3 rfl⟩, ?_⟩
  apply wpFl_ld rfl rfl; (case h1 => intro w' hC K hK; obtain ⟨c0, c1, c2, c3⟩ := hC; go_big_op; exact hK); iterate 4 kernel_rfl
  apply wpFl_ld rfl rfl; (case h1 => intro w' hC K hK; obtain ⟨c0, c1, c2, c3⟩ := hC; go_big_op; exact hK); iterate 4 kernel_rfl
  apply wpFl_ld rfl rfl; (case h1 => intro w' hC K hK; obtain ⟨c0, c1, c2, c3⟩ := hC; go_big_op; exact hK); iterate 4 kernel_rfl
  apply wpFl_ld rfl rfl; (case h1 => intro w' hC K hK; obtain ⟨c0, c1, c2, c3⟩ := hC; go_big_op; exact hK); iterate 4 kernel_rfl
  refine wpFl_call rfl (by kernel_rfl) fun w_6 hn hC => ?_; clear hC
  replace ha1 := ha1.bl hn; replace ha2 := ha2.bl hn; replace hq1 := hq1.bl hn; replace hq2 := hq2.bl hn; replace hc1 := hc1.bl hn; replace hc2 := hc2.bl hn; replace x_b1 := x_b1.bl hn; replace x_b2 := x_b2.bl hn; replace x_b3 := x_b3.bl hn; replace hb := hb.trans (hn.mono hb.size)
  clear hn; intro K hK
  go_big_op
  go_fit (gMul_any (PN.mk' ha1 ha2) (PN.mk' hc1 hc2) (by omega) (by omega) (by omega) (by omega) )
  rintro e w_7 ⟨_, rfl, ⟨n_aa, o_aa, k_aa, c_aa, n_ab, o_ab, k_ab, c_ab, rfl, a1, a2⟩, hb_7⟩
  replace ha1 := ha1.bl hb_7; replace ha2 := ha2.bl hb_7; replace hq1 := hq1.bl hb_7; replace hq2 := hq2.bl hb_7; replace hc1 := hc1.bl hb_7; replace hc2 := hc2.bl hb_7; replace x_b1 := x_b1.bl hb_7; replace x_b2 := x_b2.bl hb_7; replace x_b3 := x_b3.bl hb_7; replace hb := hb.trans (hb_7.mono hb.size)
  have La1 := hide (a1.lenOf (zlen_sub (zlen_mul (ha1.len) (hc1.len)) (zlen_mul (ha2.len) (hc2.len))))
  have La2 := hide (a2.lenOf (zlen_add (zlen_mul (ha1.len) (hc2.len)) (zlen_mul (ha2.len) (hc1.len))))
  refine hK _ _ rfl hb_7 ⟨x_b1.cell 0 rfl, x_b1.cell 1 rfl, x_b1.cell 2 rfl, x_b1.cell 3 rfl, x_b3.cell 0 rfl, x_b3.cell 1 rfl, x_b3.cell 2 rfl, x_b3.cell 3 rfl, x_b2.cell 0 rfl, x_b2.cell 1 rfl, x_b2.cell 2 rfl, x_b2.cell 3 rfl⟩ ?_
  clear hK K hb_7
  have La1 := hide (a1.lenOf (TX.out.1))
  have La2 := hide (a2.lenOf (TX.out.2))
  refine wpFl_call rfl (by kernel_rfl) fun w_8 hn hC => ?_; clear hC
  replace ha1 := ha1.bl hn; replace ha2 := ha2.bl hn; replace hq1 := hq1.bl hn; replace hq2 := hq2.bl hn; replace hc1 := hc1.bl hn; replace hc2 := hc2.bl hn; replace x_b1 := x_b1.bl hn; replace x_b2 := x_b2.bl hn; replace x_b3 := x_b3.bl hn; replace a1 := a1.bl hn; replace a2 := a2.bl hn; replace hb := hb.trans (hn.mono hb.size)
  clear hn; intro K hK
  go_big_op
  go_fit (gMul_any (PN.mk' hq1 hq2) (PN.mk' hc1 hc2) (by omega) (by omega) (by omega) (by omega) )
  rintro e w_9 ⟨_, rfl, ⟨n_ba, o_ba, k_ba, c_ba, n_bb, o_bb, k_bb, c_bb, rfl, b1, b2⟩, hb_9⟩
  replace ha1 := ha1.bl hb_9; replace ha2 := ha2.bl hb_9; replace hq1 := hq1.bl hb_9; replace hq2 := hq2.bl hb_9; replace hc1 := hc1.bl hb_9; replace hc2 := hc2.bl hb_9; replace x_b1 := x_b1.bl hb_9; replace x_b2 := x_b2.bl hb_9; replace x_b3 := x_b3.bl hb_9; replace a1 := a1.bl hb_9; replace a2 := a2.bl hb_9; replace hb := hb.trans (hb_9.mono hb.size)
  have Lb1 := hide (b1.lenOf (zlen_sub (zlen_mul (hq1.len) (hc1.len)) (zlen_mul (hq2.len) (hc2.len))))
  have Lb2 := hide (b2.lenOf (zlen_add (zlen_mul (hq1.len) (hc2.len)) (zlen_mul (hq2.len) (hc1.len))))
  refine hK _ _ rfl hb_9 ⟨x_b1.cell 0 rfl, x_b1.cell 1 rfl, x_b1.cell 2 rfl, x_b1.cell 3 rfl, x_b3.cell 0 rfl, x_b3.cell 1 rfl, x_b3.cell 2 rfl, x_b3.cell 3 rfl, x_b2.cell 0 rfl, x_b2.cell 1 rfl, x_b2.cell 2 rfl, x_b2.cell 3 rfl⟩ ?_
  clear hK K hb_9
  apply wpFl_end
  case ha => intro pt; simp only [putF, nthO, Act.put, ptr, List.setIfInBounds_toArray, List.set_cons_succ, List.set_cons_zero]; rfl
  case h =>
  intro w_10 pt hn hC hF hD
  clear hC
  replace ha1 := ha1.bl hn; replace ha2 := ha2.bl hn; replace hq1 := hq1.bl hn; replace hq2 := hq2.bl hn; replace hc1 := hc1.bl hn; replace hc2 := hc2.bl hn; replace x_b1 := x_b1.bl hn; replace x_b2 := x_b2.bl hn; replace x_b3 := x_b3.bl hn; replace a1 := a1.bl hn; replace a2 := a2.bl hn; replace b1 := b1.bl hn; replace b2 := b2.bl hn; replace hb := hb.trans (hn.mono hb.size)
  clear hn
  obtain ⟨kB_b4, x_b4⟩ := hF 6 (by decide)
  replace x_b4 : Bs w_10 (pt 6) #[.bool false, .slice none 0 0, .bool false, .slice none 0 0] 26 := x_b4
  obtain ⟨kB_b5, x_b5⟩ := hF 7 (by decide)
  replace x_b5 : Bs w_10 (pt 7) #[.bool false, .slice none 0 0, .bool false, .slice none 0 0] 26 := x_b5
  have ne_b4_b5 := hide (hD 6 (by decide) 7 (by decide) (by decide))
  clear hF hD
  generalize pt 6 = p_b4 at *
  generalize pt 7 = p_b5 at *
  clear pt
  have kb_b4 := hide (Nat.le_trans kb0 kB_b4)
  have ne_b1_b4 : Hid (p_b1 ≠ p_b4) := Nat.ne_of_lt (Nat.lt_of_lt_of_le lt_b1 kB_b4)
  have ne_b2_b4 : Hid (p_b2 ≠ p_b4) := Nat.ne_of_lt (Nat.lt_of_lt_of_le lt_b2 kB_b4)
  have ne_b3_b4 : Hid (p_b3 ≠ p_b4) := Nat.ne_of_lt (Nat.lt_of_lt_of_le lt_b3 kB_b4)
  clear kB_b4
  have kb_b5 := hide (Nat.le_trans kb0 kB_b5)
  have ne_b1_b5 : Hid (p_b1 ≠ p_b5) := Nat.ne_of_lt (Nat.lt_of_lt_of_le lt_b1 kB_b5)
  have ne_b2_b5 : Hid (p_b2 ≠ p_b5) := Nat.ne_of_lt (Nat.lt_of_lt_of_le lt_b2 kB_b5)
  have ne_b3_b5 : Hid (p_b3 ≠ p_b5) := Nat.ne_of_lt (Nat.lt_of_lt_of_le lt_b3 kB_b5)
  clear kB_b5
  clear kb0 lt_b1 lt_b2 lt_b3
  refine wpTail_call rfl (by kernel_rfl) fun K hK => ?_
  obtain ⟨d0, d1, d2, d3⟩ := x_b4.f4
  have f0 := x_b4.free 0; have f1 := x_b4.free 1; have f2 := x_b4.free 2; have f3 := x_b4.free 3
  go_big_op
  have hnd := x_b4.nod rfl rfl
  obtain ⟨w_11, eW, x_b4', ho⟩ : ∃ w', ((((w_10.setCell ⟨p_b4, 0, none⟩ (.bool n_aa)).setCell ⟨p_b4, 1, none⟩ (.slice o_aa k_aa c_aa)).setCell ⟨p_b4, 2, none⟩ (.bool n_ab)).setCell ⟨p_b4, 3, none⟩ (.slice o_ab k_ab c_ab)) = w' ∧ Bs w' p_b4 #[.bool n_aa, .slice o_aa k_aa c_aa, .bool n_ab, .slice o_ab k_ab c_ab] 26 ∧ Only p_b4 w_10 w' := x_b4.setN [(0, .bool n_aa), (1, .slice o_aa k_aa c_aa), (2, .bool n_ab), (3, .slice o_ab k_ab c_ab)]
  rw [eW]; clear eW d0 d1 d2 d3 f0 f1 f2 f3 x_b4
  have x_b4 := x_b4'; clear x_b4'
  replace ha1 := ha1.fr hnd ho; replace ha2 := ha2.fr hnd ho; replace hq1 := hq1.fr hnd ho; replace hq2 := hq2.fr hnd ho; replace hc1 := hc1.fr hnd ho; replace hc2 := hc2.fr hnd ho; replace x_b1 := x_b1.frame ho ne_b1_b4; replace x_b2 := x_b2.frame ho ne_b2_b4; replace x_b3 := x_b3.frame ho ne_b3_b4; replace a1 := a1.fr hnd ho; replace a2 := a2.fr hnd ho; replace b1 := b1.fr hnd ho; replace b2 := b2.fr hnd ho; replace x_b5 := x_b5.frame ho ne_b4_b5.symm; replace hb := belowOnly hb ho kb_b4
  refine hK _ _ rfl (And.intro ⟨x_b1.cell 0 rfl, x_b1.cell 1 rfl, x_b1.cell 2 rfl, x_b1.cell 3 rfl⟩ (And.intro ⟨x_b3.cell 0 rfl, x_b3.cell 1 rfl, x_b3.cell 2 rfl, x_b3.cell 3 rfl⟩ (And.intro ⟨x_b2.cell 0 rfl, x_b2.cell 1 rfl, x_b2.cell 2 rfl, x_b2.cell 3 rfl⟩ True.intro))) ?_; clear hK K ho hnd
  refine wpTail_call rfl (by kernel_rfl) fun K hK => ?_
  obtain ⟨d0, d1, d2, d3⟩ := x_b5.f4
  have f0 := x_b5.free 0; have f1 := x_b5.free 1; have f2 := x_b5.free 2; have f3 := x_b5.free 3
  go_big_op
  have hnd := x_b5.nod rfl rfl
  obtain ⟨w_12, eW, x_b5', ho⟩ : ∃ w', ((((w_11.setCell ⟨p_b5, 0, none⟩ (.bool n_ba)).setCell ⟨p_b5, 1, none⟩ (.slice o_ba k_ba c_ba)).setCell ⟨p_b5, 2, none⟩ (.bool n_bb)).setCell ⟨p_b5, 3, none⟩ (.slice o_bb k_bb c_bb)) = w' ∧ Bs w' p_b5 #[.bool n_ba, .slice o_ba k_ba c_ba, .bool n_bb, .slice o_bb k_bb c_bb] 26 ∧ Only p_b5 w_11 w' := x_b5.setN [(0, .bool n_ba), (1, .slice o_ba k_ba c_ba), (2, .bool n_bb), (3, .slice o_bb k_bb c_bb)]
  rw [eW]; clear eW d0 d1 d2 d3 f0 f1 f2 f3 x_b5
  have x_b5 := x_b5'; clear x_b5'
  replace ha1 := ha1.fr hnd ho; replace ha2 := ha2.fr hnd ho; replace hq1 := hq1.fr hnd ho; replace hq2 := hq2.fr hnd ho; replace hc1 := hc1.fr hnd ho; replace hc2 := hc2.fr hnd ho; replace x_b1 := x_b1.frame ho ne_b1_b5; replace x_b2 := x_b2.frame ho ne_b2_b5; replace x_b3 := x_b3.frame ho ne_b3_b5; replace a1 := a1.fr hnd ho; replace a2 := a2.fr hnd ho; replace b1 := b1.fr hnd ho; replace b2 := b2.fr hnd ho; replace x_b4 := x_b4.frame ho ne_b4_b5; replace hb := belowOnly hb ho kb_b5
  refine hK _ _ rfl (And.intro ⟨x_b1.cell 0 rfl, x_b1.cell 1 rfl, x_b1.cell 2 rfl, x_b1.cell 3 rfl⟩ (And.intro ⟨x_b3.cell 0 rfl, x_b3.cell 1 rfl, x_b3.cell 2 rfl, x_b3.cell 3 rfl⟩ (And.intro ⟨x_b2.cell 0 rfl, x_b2.cell 1 rfl, x_b2.cell 2 rfl, x_b2.cell 3 rfl⟩ True.intro))) ?_; clear hK K ho hnd
  apply wpTail_end
  refine hK4 _ _ ?_
  refine wp_seq_k ?_
  intro K5 hK5
  refine wp_region_sq [0, 1, 2, 3, 4, 5, 6, 7, 8, 9, 10, 11, 12] (by kernel_rfl) ?_
  refine wpSq_call rfl (by kernel_rfl) fun K hK => ?_
  obtain ⟨d0, d1, d2, d3⟩ := x_b4.f4
  go_big_op; refine hK _ _ rfl ?_; clear hK K d0 d1 d2 d3
  refine wpSq_call rfl (by kernel_rfl) fun K hK => ?_
  obtain ⟨d0, d1, d2, d3⟩ := x_b5.f4
  go_big_op; refine hK _ _ rfl ?_; clear hK K d0 d1 d2 d3
  have Lb1 := hide (b1.lenOf (TY.out.1))
  have Lb2 := hide (b2.lenOf (TY.out.2))
  refine wpSq_call rfl (by kernel_rfl) fun K hK => ?_
  go_big_op
  go_fit (gxgcd_any (L := 2097153) (.mk' (a1.zn La1.out) (a2.zn La2.out)) (.mk' (b1.zn Lb1.out) (b2.zn Lb2.out)) (by decide))
  rintro e w_13 ⟨_, _, _, rfl, ⟨n_da, o_da, k_da, c_da, n_db, o_db, k_db, c_db, rfl, d1, d2⟩, ⟨n_sa, o_sa, k_sa, c_sa, n_sb, o_sb, k_sb, c_sb, rfl, s1, s2⟩, ⟨n_ta, o_ta, k_ta, c_ta, n_tb, o_tb, k_tb, c_tb, rfl, t1, t2⟩, hb_13⟩
  clear ha1 ha2 hq1 hq2 x_b1 x_b2
  replace hc1 := hc1.bl hb_13; replace hc2 := hc2.bl hb_13; replace x_b3 := x_b3.bl hb_13; replace a1 := a1.bl hb_13; replace a2 := a2.bl hb_13; replace b1 := b1.bl hb_13; replace b2 := b2.bl hb_13; replace x_b4 := x_b4.bl hb_13; replace x_b5 := x_b5.bl hb_13; replace hb := hb.trans (hb_13.mono hb.size)
  rw [HF.out, EQ.out.1.1] at d1
  rw [HF.out, EQ.out.1.2] at d2
  rw [HF.out, EQ.out.2.1.1] at s1
  rw [HF.out, EQ.out.2.1.2] at s2
  rw [HF.out, EQ.out.2.2.1] at t1
  rw [HF.out, EQ.out.2.2.2] at t2
  refine hK _ _ rfl ?_
  clear hK K hb_13
  refine wpSq_call rfl (by kernel_rfl) fun K hK => ?_
  go_big_move; refine hK _ _ rfl ?_; clear hK K
  refine wpSq_call rfl (by kernel_rfl) fun K hK => ?_
  go_big_op; refine hK _ _ rfl ?_; clear hK K
  refine wpSq_call rfl (by kernel_rfl) fun K hK => ?_
  go_big_op; refine hK _ _ rfl ?_; clear hK K
  refine wpSq_call rfl (by kernel_rfl) fun K hK => ?_
  go_big_op; refine hK _ _ rfl ?_; clear hK K
  refine wpSq_call rfl (by kernel_rfl) fun K hK => ?_
  go_big_op
  have lt_b3 := x_b3.lt
  have lt_b4 := x_b4.lt
  have lt_b5 := x_b5.lt
  obtain ⟨p_b6, w_14, eP, eW, x_b6, hn, kb_b6⟩ := newBox w_13 #[.bool false, .slice none 0 0, .bool false, .slice none 0 0] 26 hb.size
  have ne_b3_b6 : Hid (p_b3 ≠ p_b6) := Nat.ne_of_lt (eP ▸ lt_b3)
  have ne_b4_b6 : Hid (p_b4 ≠ p_b6) := Nat.ne_of_lt (eP ▸ lt_b4)
  have ne_b5_b6 : Hid (p_b5 ≠ p_b6) := Nat.ne_of_lt (eP ▸ lt_b5)
  rw [eW, eP]
  clear eW eP lt_b3 lt_b4 lt_b5
  replace hc1 := hc1.bl hn; replace hc2 := hc2.bl hn; replace x_b3 := x_b3.bl hn; replace a1 := a1.bl hn; replace a2 := a2.bl hn; replace b1 := b1.bl hn; replace b2 := b2.bl hn; replace x_b4 := x_b4.bl hn; replace x_b5 := x_b5.bl hn; replace d1 := d1.bl hn; replace d2 := d2.bl hn; replace s1 := s1.bl hn; replace s2 := s2.bl hn; replace t1 := t1.bl hn; replace t2 := t2.bl hn; replace hb := hb.trans (hn.mono hb.size)
  refine hK _ _ rfl ?_; clear hK K hn
  refine wpSq_call rfl (by kernel_rfl) fun K hK => ?_
  go_big_op
  have lt_b3 := x_b3.lt
  have lt_b4 := x_b4.lt
  have lt_b5 := x_b5.lt
  have lt_b6 := x_b6.lt
  obtain ⟨p_b7, w_15, eP, eW, x_b7, hn, kb_b7⟩ := newBox w_14 #[.bool false, .slice none 0 0, .bool false, .slice none 0 0] 26 hb.size
  have ne_b3_b7 : Hid (p_b3 ≠ p_b7) := Nat.ne_of_lt (eP ▸ lt_b3)
  have ne_b4_b7 : Hid (p_b4 ≠ p_b7) := Nat.ne_of_lt (eP ▸ lt_b4)
  have ne_b5_b7 : Hid (p_b5 ≠ p_b7) := Nat.ne_of_lt (eP ▸ lt_b5)
  have ne_b6_b7 : Hid (p_b6 ≠ p_b7) := Nat.ne_of_lt (eP ▸ lt_b6)
  rw [eW, eP]
  clear eW eP lt_b3 lt_b4 lt_b5 lt_b6
  replace hc1 := hc1.bl hn; replace hc2 := hc2.bl hn; replace x_b3 := x_b3.bl hn; replace a1 := a1.bl hn; replace a2 := a2.bl hn; replace b1 := b1.bl hn; replace b2 := b2.bl hn; replace x_b4 := x_b4.bl hn; replace x_b5 := x_b5.bl hn; replace d1 := d1.bl hn; replace d2 := d2.bl hn; replace s1 := s1.bl hn; replace s2 := s2.bl hn; replace t1 := t1.bl hn; replace t2 := t2.bl hn; replace x_b6 := x_b6.bl hn; replace hb := hb.trans (hn.mono hb.size)
  refine hK _ _ rfl ?_; clear hK K hn
  refine wpSq_call rfl (by kernel_rfl) fun K hK => ?_
  go_big_op
  have lt_b3 := x_b3.lt
  have lt_b4 := x_b4.lt
  have lt_b5 := x_b5.lt
  have lt_b6 := x_b6.lt
  have lt_b7 := x_b7.lt
  obtain ⟨p_b8, w_16, eP, eW, x_b8, hn, kb_b8⟩ := newBox w_15 #[.bool false, .slice none 0 0, .bool false, .slice none 0 0] 26 hb.size
  have ne_b3_b8 : Hid (p_b3 ≠ p_b8) := Nat.ne_of_lt (eP ▸ lt_b3)
  have ne_b4_b8 : Hid (p_b4 ≠ p_b8) := Nat.ne_of_lt (eP ▸ lt_b4)
  have ne_b5_b8 : Hid (p_b5 ≠ p_b8) := Nat.ne_of_lt (eP ▸ lt_b5)
  have ne_b6_b8 : Hid (p_b6 ≠ p_b8) := Nat.ne_of_lt (eP ▸ lt_b6)
  have ne_b7_b8 : Hid (p_b7 ≠ p_b8) := Nat.ne_of_lt (eP ▸ lt_b7)
  rw [eW, eP]
  clear eW eP lt_b3 lt_b4 lt_b5 lt_b6 lt_b7
  replace hc1 := hc1.bl hn; replace hc2 := hc2.bl hn; replace x_b3 := x_b3.bl hn; replace a1 := a1.bl hn; replace a2 := a2.bl hn; replace b1 := b1.bl hn; replace b2 := b2.bl hn; replace x_b4 := x_b4.bl hn; replace x_b5 := x_b5.bl hn; replace d1 := d1.bl hn; replace d2 := d2.bl hn; replace s1 := s1.bl hn; replace s2 := s2.bl hn; replace t1 := t1.bl hn; replace t2 := t2.bl hn; replace x_b6 := x_b6.bl hn; replace x_b7 := x_b7.bl hn; replace hb := hb.trans (hn.mono hb.size)
  refine hK _ _ rfl ?_; clear hK K hn
  refine wpSq_call rfl (by kernel_rfl) fun K hK => ?_
  obtain ⟨d0, d1, d2, d3⟩ := x_b6.f4
  have f0 := x_b6.free 0; have f1 := x_b6.free 1; have f2 := x_b6.free 2; have f3 := x_b6.free 3
  go_big_op
  have hnd := x_b6.nod rfl rfl
  obtain ⟨w_17, eW, x_b6', ho⟩ : ∃ w', ((((w_16.setCell ⟨p_b6, 0, none⟩ (.bool n_da)).setCell ⟨p_b6, 1, none⟩ (.slice o_da k_da c_da)).setCell ⟨p_b6, 2, none⟩ (.bool n_db)).setCell ⟨p_b6, 3, none⟩ (.slice o_db k_db c_db)) = w' ∧ Bs w' p_b6 #[.bool n_da, .slice o_da k_da c_da, .bool n_db, .slice o_db k_db c_db] 26 ∧ Only p_b6 w_16 w' := x_b6.setN [(0, .bool n_da), (1, .slice o_da k_da c_da), (2, .bool n_db), (3, .slice o_db k_db c_db)]
  rw [eW]; clear eW d0 d1 d2 d3 f0 f1 f2 f3 x_b6
  have x_b6 := x_b6'; clear x_b6'
  replace hc1 := hc1.fr hnd ho; replace hc2 := hc2.fr hnd ho; replace x_b3 := x_b3.frame ho ne_b3_b6; replace a1 := a1.fr hnd ho; replace a2 := a2.fr hnd ho; replace b1 := b1.fr hnd ho; replace b2 := b2.fr hnd ho; replace x_b4 := x_b4.frame ho ne_b4_b6; replace x_b5 := x_b5.frame ho ne_b5_b6; replace d1 := d1.fr hnd ho; replace d2 := d2.fr hnd ho; replace s1 := s1.fr hnd ho; replace s2 := s2.fr hnd ho; replace t1 := t1.fr hnd ho; replace t2 := t2.fr hnd ho; replace x_b7 := x_b7.frame ho ne_b6_b7.symm; replace x_b8 := x_b8.frame ho ne_b6_b8.symm; replace hb := belowOnly hb ho kb_b6
  refine hK _ _ rfl ?_; clear hK K ho hnd
  refine wpSq_call rfl (by kernel_rfl) fun K hK => ?_
  obtain ⟨d0, d1, d2, d3⟩ := x_b7.f4
  have f0 := x_b7.free 0; have f1 := x_b7.free 1; have f2 := x_b7.free 2; have f3 := x_b7.free 3
  go_big_op
  have hnd := x_b7.nod rfl rfl
  obtain ⟨w_18, eW, x_b7', ho⟩ : ∃ w', ((((w_17.setCell ⟨p_b7, 0, none⟩ (.bool n_sa)).setCell ⟨p_b7, 1, none⟩ (.slice o_sa k_sa c_sa)).setCell ⟨p_b7, 2, none⟩ (.bool n_sb)).setCell ⟨p_b7, 3, none⟩ (.slice o_sb k_sb c_sb)) = w' ∧ Bs w' p_b7 #[.bool n_sa, .slice o_sa k_sa c_sa, .bool n_sb, .slice o_sb k_sb c_sb] 26 ∧ Only p_b7 w_17 w' := x_b7.setN [(0, .bool n_sa), (1, .slice o_sa k_sa c_sa), (2, .bool n_sb), (3, .slice o_sb k_sb c_sb)]
  rw [eW]; clear eW d0 d1 d2 d3 f0 f1 f2 f3 x_b7
  have x_b7 := x_b7'; clear x_b7'
  replace hc1 := hc1.fr hnd ho; replace hc2 := hc2.fr hnd ho; replace x_b3 := x_b3.frame ho ne_b3_b7; replace a1 := a1.fr hnd ho; replace a2 := a2.fr hnd ho; replace b1 := b1.fr hnd ho; replace b2 := b2.fr hnd ho; replace x_b4 := x_b4.frame ho ne_b4_b7; replace x_b5 := x_b5.frame ho ne_b5_b7; replace d1 := d1.fr hnd ho; replace d2 := d2.fr hnd ho; replace s1 := s1.fr hnd ho; replace s2 := s2.fr hnd ho; replace t1 := t1.fr hnd ho; replace t2 := t2.fr hnd ho; replace x_b6 := x_b6.frame ho ne_b6_b7; replace x_b8 := x_b8.frame ho ne_b7_b8.symm; replace hb := belowOnly hb ho kb_b7
  refine hK _ _ rfl ?_; clear hK K ho hnd
  refine wpSq_call rfl (by kernel_rfl) fun K hK => ?_
  obtain ⟨d0, d1, d2, d3⟩ := x_b8.f4
  have f0 := x_b8.free 0; have f1 := x_b8.free 1; have f2 := x_b8.free 2; have f3 := x_b8.free 3
  go_big_op
  have hnd := x_b8.nod rfl rfl
  obtain ⟨w_19, eW, x_b8', ho⟩ : ∃ w', ((((w_18.setCell ⟨p_b8, 0, none⟩ (.bool n_ta)).setCell ⟨p_b8, 1, none⟩ (.slice o_ta k_ta c_ta)).setCell ⟨p_b8, 2, none⟩ (.bool n_tb)).setCell ⟨p_b8, 3, none⟩ (.slice o_tb k_tb c_tb)) = w' ∧ Bs w' p_b8 #[.bool n_ta, .slice o_ta k_ta c_ta, .bool n_tb, .slice o_tb k_tb c_tb] 26 ∧ Only p_b8 w_18 w' := x_b8.setN [(0, .bool n_ta), (1, .slice o_ta k_ta c_ta), (2, .bool n_tb), (3, .slice o_tb k_tb c_tb)]
  rw [eW]; clear eW d0 d1 d2 d3 f0 f1 f2 f3 x_b8
  have x_b8 := x_b8'; clear x_b8'
  replace hc1 := hc1.fr hnd ho; replace hc2 := hc2.fr hnd ho; replace x_b3 := x_b3.frame ho ne_b3_b8; replace a1 := a1.fr hnd ho; replace a2 := a2.fr hnd ho; replace b1 := b1.fr hnd ho; replace b2 := b2.fr hnd ho; replace x_b4 := x_b4.frame ho ne_b4_b8; replace x_b5 := x_b5.frame ho ne_b5_b8; replace d1 := d1.fr hnd ho; replace d2 := d2.fr hnd ho; replace s1 := s1.fr hnd ho; replace s2 := s2.fr hnd ho; replace t1 := t1.fr hnd ho; replace t2 := t2.fr hnd ho; replace x_b6 := x_b6.frame ho ne_b6_b8; replace x_b7 := x_b7.frame ho ne_b7_b8; replace hb := belowOnly hb ho kb_b8
  refine hK _ _ rfl ?_; clear hK K ho hnd
  apply wpSq_end
  refine hK5 _ _ ?_
  refine wp_seq_k ?_
  intro K6 hK6
  refine wp_seq_k ?_
  intro K7 hK7
  refine wp_region_fl2 [(0, false), (1, false), (3, false), (4, false), (7, false), (2, true), (5, true), (6, true), (8, true), (9, false)] [] [] (fun _ => default) [0, 1, 99, 2, 3, 99, 99, 4, 99, 99] [] (fun w' => w'.cell? ⟨p_b4, 0, none⟩ = some (.bool n_aa) ∧ w'.cell? ⟨p_b4, 1, none⟩ = some (.slice o_aa k_aa c_aa) ∧ w'.cell? ⟨p_b4, 2, none⟩ = some (.bool n_ab) ∧ w'.cell? ⟨p_b4, 3, none⟩ = some (.slice o_ab k_ab c_ab) ∧ w'.cell? ⟨p_b7, 0, none⟩ = some (.bool n_sa) ∧ w'.cell? ⟨p_b7, 1, none⟩ = some (.slice o_sa k_sa c_sa) ∧ w'.cell? ⟨p_b7, 2, none⟩ = some (.bool n_sb) ∧ w'.cell? ⟨p_b7, 3, none⟩ = some (.slice o_sb k_sb c_sb) ∧ w'.cell? ⟨p_b5, 0, none⟩ = some (.bool n_ba) ∧ w'.cell? ⟨p_b5, 1, none⟩ = some (.slice o_ba k_ba c_ba) ∧ w'.cell? ⟨p_b5, 2, none⟩ = some (.bool n_bb) ∧ w'.cell? ⟨p_b5, 3, none⟩ = some (.slice o_bb k_bb c_bb) ∧ w'.cell? ⟨p_b8, 0, none⟩ = some (.bool n_ta) ∧ w'.cell? ⟨p_b8, 1, none⟩ = some (.slice o_ta k_ta c_ta) ∧ w'.cell? ⟨p_b8, 2, none⟩ = some (.bool n_tb) ∧ w'.cell? ⟨p_b8, 3, none⟩ = some (.slice o_tb k_tb c_tb) ∧ w'.cell? ⟨p_b6, 0, none⟩ = some (.bool n_da) ∧ w'.cell? ⟨p_b6, 1, none⟩ = some (.slice o_da k_da c_da) ∧ w'.cell? ⟨p_b6, 2, none⟩ = some (.bool n_db) ∧ w'.cell? ⟨p_b6, 3, none⟩ = some (.slice o_db k_db c_db)) [fun w' => w'.cell? ⟨p_b4, 0, none⟩ = some (.bool n_aa) ∧ w'.cell? ⟨p_b4, 1, none⟩ = some (.slice o_aa k_aa c_aa) ∧ w'.cell? ⟨p_b4, 2, none⟩ = some (.bool n_ab) ∧ w'.cell? ⟨p_b4, 3, none⟩ = some (.slice o_ab k_ab c_ab), fun w' => w'.cell? ⟨p_b7, 0, none⟩ = some (.bool n_sa) ∧ w'.cell? ⟨p_b7, 1, none⟩ = some (.slice o_sa k_sa c_sa) ∧ w'.cell? ⟨p_b7, 2, none⟩ = some (.bool n_sb) ∧ w'.cell? ⟨p_b7, 3, none⟩ = some (.slice o_sb k_sb c_sb), fun w' => w'.cell? ⟨p_b5, 0, none⟩ = some (.bool n_ba) ∧ w'.cell? ⟨p_b5, 1, none⟩ = some (.slice o_ba k_ba c_ba) ∧ w'.cell? ⟨p_b5, 2, none⟩ = some (.bool n_bb) ∧ w'.cell? ⟨p_b5, 3, none⟩ = some (.slice o_bb k_bb c_bb), fun w' => w'.cell? ⟨p_b8, 0, none⟩ = some (.bool n_ta) ∧ w'.cell? ⟨p_b8, 1, none⟩ = some (.slice o_ta k_ta c_ta) ∧ w'.cell? ⟨p_b8, 2, none⟩ = some (.bool n_tb) ∧ w'.cell? ⟨p_b8, 3, none⟩ = some (.slice o_tb k_tb c_tb), fun w' => w'.cell? ⟨p_b6, 0, none⟩ = some (.bool n_da) ∧ w'.cell? ⟨p_b6, 1, none⟩ = some (.slice o_da k_da c_da) ∧ w'.cell? ⟨p_b6, 2, none⟩ = some (.bool n_db) ∧ w'.cell? ⟨p_b6, 3, none⟩ = some (.slice o_db k_db c_db)] (by kernel_rfl) (by kernel_rfl) (by kernel_rfl) (by kernel_rfl) (by kernel_rfl) (by kernel_rfl) (by kernel_rfl) (by kernel_rfl) (by decide) (by intro j hj; cases hj) (by intro w' o hC; obtain ⟨c0, c1, c2, c3, c4, c5, c6, c7, c8, c9, c10, c11, c12, c13, c14, c15, c16, c17, c18, c19⟩ := hC; exact ⟨cell_alloc c0 o, cell_alloc c1 o, cell_alloc c2 o, cell_alloc c3 o, cell_alloc c4 o, cell_alloc c5 o, cell_alloc c6 o, cell_alloc c7 o, cell_alloc c8 o, cell_alloc c9 o, cell_alloc c10 o, cell_alloc c11 o, cell_alloc c12 o, cell_alloc c13 o, cell_alloc c14 o, cell_alloc c15 o, cell_alloc c16 o, cell_alloc c17 o, cell_alloc c18 o, cell_alloc c19 o⟩) (by intro w' hC G hG; obtain ⟨c0, c1, c2, c3, c4, c5, c6, c7, c8, c9, c10, c11, c12, c13, c14, c15, c16, c17, c18, c19⟩ := hC; simp only [List.mem_cons, List.not_mem_nil, or_false] at hG; rcases hG with rfl | rfl | rfl | rfl | rfl <;> first | exact ⟨c0, c1, c2, c3⟩ | exact ⟨c4, c5, c6, c7⟩ | exact ⟨c8, c9, c10, c11⟩ | exact ⟨c12, c13, c14, c15⟩ | exact ⟨c16, c17, c18, c19⟩) ?_
  have lt_b3 := x_b3.lt
  have lt_b4 := x_b4.lt
  have lt_b5 := x_b5.lt
  have lt_b6 := x_b6.lt
  have lt_b7 := x_b7.lt
  have lt_b8 := x_b8.lt
  intro w_20 hn
  replace lt_b3 := Nat.lt_of_lt_of_le lt_b3 hn.size
  replace lt_b4 := Nat.lt_of_lt_of_le lt_b4 hn.size
  replace lt_b5 := Nat.lt_of_lt_of_le lt_b5 hn.size
  replace lt_b6 := Nat.lt_of_lt_of_le lt_b6 hn.size
  replace lt_b7 := Nat.lt_of_lt_of_le lt_b7 hn.size
  replace lt_b8 := Nat.lt_of_lt_of_le lt_b8 hn.size
  replace hc1 := hc1.bl hn; replace hc2 := hc2.bl hn; replace x_b3 := x_b3.bl hn; replace a1 := a1.bl hn; replace a2 := a2.bl hn; replace b1 := b1.bl hn; replace b2 := b2.bl hn; replace x_b4 := x_b4.bl hn; replace x_b5 := x_b5.bl hn; replace d1 := d1.bl hn; replace d2 := d2.bl hn; replace s1 := s1.bl hn; replace s2 := s2.bl hn; replace t1 := t1.bl hn; replace t2 := t2.bl hn; replace x_b6 := x_b6.bl hn; replace x_b7 := x_b7.bl hn; replace x_b8 := x_b8.bl hn; replace hb := hb.trans (hn.mono hb.size)
  clear hn
  have kb0 := hb.size
  refine ⟨⟨x_b4.cell 0 rfl, x_b4.cell 1 rfl, x_b4.cell 2 rfl, x_b4.cell 3 rfl, x_b7.cell 0 rfl, x_b7.cell 1 rfl, x_b7.cell 2 rfl, x_b7.cell 3 rfl, x_b5.cell 0 rfl, x_b5.cell 1 rfl, x_b5.cell 2 rfl, x_b5.cell 3 rfl, x_b8.cell 0 rfl, x_b8.cell 1 rfl, x_b8.cell 2 rfl, x_b8.cell 3 rfl, x_b6.cell 0 rfl, x_b6.cell 1 rfl, x_b6.cell 2 rfl, x_b6.cell 3 rfl⟩, ?_⟩
  apply wpFl_ld rfl rfl; (case h1 => intro w' hC K hK; obtain ⟨c0, c1, c2, c3⟩ := hC; go_big_op; exact hK); iterate 4 kernel_rfl
  apply wpFl_ld rfl rfl; (case h1 => intro w' hC K hK; obtain ⟨c0, c1, c2, c3⟩ := hC; go_big_op; exact hK); iterate 4 kernel_rfl
  apply wpFl_ld rfl rfl; (case h1 => intro w' hC K hK; obtain ⟨c0, c1, c2, c3⟩ := hC; go_big_op; exact hK); iterate 4 kernel_rfl
  apply wpFl_ld rfl rfl; (case h1 => intro w' hC K hK; obtain ⟨c0, c1, c2, c3⟩ := hC; go_big_op; exact hK); iterate 4 kernel_rfl
  apply wpFl_ld rfl rfl; (case h1 => intro w' hC K hK; obtain ⟨c0, c1, c2, c3⟩ := hC; go_big_op; exact hK); iterate 4 kernel_rfl
  have Ld1 := hide (d1.lenOf (LD.out.1))
  have Ld2 := hide (d2.lenOf (LD.out.2))
  have Ls1 := hide (s1.lenOf (LS.out.1))
  have Ls2 := hide (s2.lenOf (LS.out.2))
  have Lt1 := hide (t1.lenOf (LT.out.1))
  have Lt2 := hide (t2.lenOf (LT.out.2))
  refine wpFl_call rfl (by kernel_rfl) fun w_21 hn hC => ?_; clear hC
  replace hc1 := hc1.bl hn; replace hc2 := hc2.bl hn; replace x_b3 := x_b3.bl hn; replace a1 := a1.bl hn; replace a2 := a2.bl hn; replace b1 := b1.bl hn; replace b2 := b2.bl hn; replace x_b4 := x_b4.bl hn; replace x_b5 := x_b5.bl hn; replace d1 := d1.bl hn; replace d2 := d2.bl hn; replace s1 := s1.bl hn; replace s2 := s2.bl hn; replace t1 := t1.bl hn; replace t2 := t2.bl hn; replace x_b6 := x_b6.bl hn; replace x_b7 := x_b7.bl hn; replace x_b8 := x_b8.bl hn; replace hb := hb.trans (hn.mono hb.size)
  clear hn; intro K hK
  go_big_op
  go_fit (gMul_any (PN.mk' (a1.zn La1.out) (a2.zn La2.out)) (PN.mk' (s1.zn Ls1.out) (s2.zn Ls2.out)) (by omega) (by omega) (by omega) (by omega) )
  rintro e w_22 ⟨_, rfl, ⟨n_ea, o_ea, k_ea, c_ea, n_eb, o_eb, k_eb, c_eb, rfl, e1, e2⟩, hb_22⟩
  replace hc1 := hc1.bl hb_22; replace hc2 := hc2.bl hb_22; replace x_b3 := x_b3.bl hb_22; replace a1 := a1.bl hb_22; replace a2 := a2.bl hb_22; replace b1 := b1.bl hb_22; replace b2 := b2.bl hb_22; replace x_b4 := x_b4.bl hb_22; replace x_b5 := x_b5.bl hb_22; replace d1 := d1.bl hb_22; replace d2 := d2.bl hb_22; replace s1 := s1.bl hb_22; replace s2 := s2.bl hb_22; replace t1 := t1.bl hb_22; replace t2 := t2.bl hb_22; replace x_b6 := x_b6.bl hb_22; replace x_b7 := x_b7.bl hb_22; replace x_b8 := x_b8.bl hb_22; replace hb := hb.trans (hb_22.mono hb.size)
  have Le1 := hide (e1.lenOf (zlen_sub (zlen_mul (La1.out) (Ls1.out)) (zlen_mul (La2.out) (Ls2.out))))
  have Le2 := hide (e2.lenOf (zlen_add (zlen_mul (La1.out) (Ls2.out)) (zlen_mul (La2.out) (Ls1.out))))
  refine hK _ _ rfl hb_22 ⟨x_b4.cell 0 rfl, x_b4.cell 1 rfl, x_b4.cell 2 rfl, x_b4.cell 3 rfl, x_b7.cell 0 rfl, x_b7.cell 1 rfl, x_b7.cell 2 rfl, x_b7.cell 3 rfl, x_b5.cell 0 rfl, x_b5.cell 1 rfl, x_b5.cell 2 rfl, x_b5.cell 3 rfl, x_b8.cell 0 rfl, x_b8.cell 1 rfl, x_b8.cell 2 rfl, x_b8.cell 3 rfl, x_b6.cell 0 rfl, x_b6.cell 1 rfl, x_b6.cell 2 rfl, x_b6.cell 3 rfl⟩ ?_
  clear hK K hb_22
  refine wpFl_call rfl (by kernel_rfl) fun w_23 hn hC => ?_; clear hC
  replace hc1 := hc1.bl hn; replace hc2 := hc2.bl hn; replace x_b3 := x_b3.bl hn; replace a1 := a1.bl hn; replace a2 := a2.bl hn; replace b1 := b1.bl hn; replace b2 := b2.bl hn; replace x_b4 := x_b4.bl hn; replace x_b5 := x_b5.bl hn; replace d1 := d1.bl hn; replace d2 := d2.bl hn; replace s1 := s1.bl hn; replace s2 := s2.bl hn; replace t1 := t1.bl hn; replace t2 := t2.bl hn; replace x_b6 := x_b6.bl hn; replace x_b7 := x_b7.bl hn; replace x_b8 := x_b8.bl hn; replace e1 := e1.bl hn; replace e2 := e2.bl hn; replace hb := hb.trans (hn.mono hb.size)
  clear hn; intro K hK
  go_big_op
  go_fit (gMul_any (PN.mk' (b1.zn Lb1.out) (b2.zn Lb2.out)) (PN.mk' (t1.zn Lt1.out) (t2.zn Lt2.out)) (by omega) (by omega) (by omega) (by omega) )
  rintro e w_24 ⟨_, rfl, ⟨n_fa, o_fa, k_fa, c_fa, n_fb, o_fb, k_fb, c_fb, rfl, f1, f2⟩, hb_24⟩
  replace hc1 := hc1.bl hb_24; replace hc2 := hc2.bl hb_24; replace x_b3 := x_b3.bl hb_24; replace a1 := a1.bl hb_24; replace a2 := a2.bl hb_24; replace b1 := b1.bl hb_24; replace b2 := b2.bl hb_24; replace x_b4 := x_b4.bl hb_24; replace x_b5 := x_b5.bl hb_24; replace d1 := d1.bl hb_24; replace d2 := d2.bl hb_24; replace s1 := s1.bl hb_24; replace s2 := s2.bl hb_24; replace t1 := t1.bl hb_24; replace t2 := t2.bl hb_24; replace x_b6 := x_b6.bl hb_24; replace x_b7 := x_b7.bl hb_24; replace x_b8 := x_b8.bl hb_24; replace e1 := e1.bl hb_24; replace e2 := e2.bl hb_24; replace hb := hb.trans (hb_24.mono hb.size)
  have Lf1 := hide (f1.lenOf (zlen_sub (zlen_mul (Lb1.out) (Lt1.out)) (zlen_mul (Lb2.out) (Lt2.out))))
  have Lf2 := hide (f2.lenOf (zlen_add (zlen_mul (Lb1.out) (Lt2.out)) (zlen_mul (Lb2.out) (Lt1.out))))
  refine hK _ _ rfl hb_24 ⟨x_b4.cell 0 rfl, x_b4.cell 1 rfl, x_b4.cell 2 rfl, x_b4.cell 3 rfl, x_b7.cell 0 rfl, x_b7.cell 1 rfl, x_b7.cell 2 rfl, x_b7.cell 3 rfl, x_b5.cell 0 rfl, x_b5.cell 1 rfl, x_b5.cell 2 rfl, x_b5.cell 3 rfl, x_b8.cell 0 rfl, x_b8.cell 1 rfl, x_b8.cell 2 rfl, x_b8.cell 3 rfl, x_b6.cell 0 rfl, x_b6.cell 1 rfl, x_b6.cell 2 rfl, x_b6.cell 3 rfl⟩ ?_
  clear hK K hb_24
  refine wpFl_call rfl (by kernel_rfl) fun w_25 hn hC => ?_; clear hC
  replace hc1 := hc1.bl hn; replace hc2 := hc2.bl hn; replace x_b3 := x_b3.bl hn; replace a1 := a1.bl hn; replace a2 := a2.bl hn; replace b1 := b1.bl hn; replace b2 := b2.bl hn; replace x_b4 := x_b4.bl hn; replace x_b5 := x_b5.bl hn; replace d1 := d1.bl hn; replace d2 := d2.bl hn; replace s1 := s1.bl hn; replace s2 := s2.bl hn; replace t1 := t1.bl hn; replace t2 := t2.bl hn; replace x_b6 := x_b6.bl hn; replace x_b7 := x_b7.bl hn; replace x_b8 := x_b8.bl hn; replace e1 := e1.bl hn; replace e2 := e2.bl hn; replace f1 := f1.bl hn; replace f2 := f2.bl hn; replace hb := hb.trans (hn.mono hb.size)
  clear hn; intro K hK
  go_big_op
  go_fit (gAdd_any (PN.mk' (e1.zn Le1.out) (e2.zn Le2.out)) (PN.mk' (f1.zn Lf1.out) (f2.zn Lf2.out)) (by omega) (by omega) (by omega) (by omega) )
  rintro e w_26 ⟨_, rfl, ⟨n_ga, o_ga, k_ga, c_ga, n_gb, o_gb, k_gb, c_gb, rfl, g1, g2⟩, hb_26⟩
  replace hc1 := hc1.bl hb_26; replace hc2 := hc2.bl hb_26; replace x_b3 := x_b3.bl hb_26; replace a1 := a1.bl hb_26; replace a2 := a2.bl hb_26; replace b1 := b1.bl hb_26; replace b2 := b2.bl hb_26; replace x_b4 := x_b4.bl hb_26; replace x_b5 := x_b5.bl hb_26; replace d1 := d1.bl hb_26; replace d2 := d2.bl hb_26; replace s1 := s1.bl hb_26; replace s2 := s2.bl hb_26; replace t1 := t1.bl hb_26; replace t2 := t2.bl hb_26; replace x_b6 := x_b6.bl hb_26; replace x_b7 := x_b7.bl hb_26; replace x_b8 := x_b8.bl hb_26; replace e1 := e1.bl hb_26; replace e2 := e2.bl hb_26; replace f1 := f1.bl hb_26; replace f2 := f2.bl hb_26; replace hb := hb.trans (hb_26.mono hb.size)
  have Lg1 := hide (g1.lenOf (zlen_add (Le1.out) (Lf1.out)))
  have Lg2 := hide (g2.lenOf (zlen_add (Le2.out) (Lf2.out)))
  rw [BZ.out.sum.1] at g1
  rw [BZ.out.sum.2] at g2
  refine hK _ _ rfl hb_26 ⟨x_b4.cell 0 rfl, x_b4.cell 1 rfl, x_b4.cell 2 rfl, x_b4.cell 3 rfl, x_b7.cell 0 rfl, x_b7.cell 1 rfl, x_b7.cell 2 rfl, x_b7.cell 3 rfl, x_b5.cell 0 rfl, x_b5.cell 1 rfl, x_b5.cell 2 rfl, x_b5.cell 3 rfl, x_b8.cell 0 rfl, x_b8.cell 1 rfl, x_b8.cell 2 rfl, x_b8.cell 3 rfl, x_b6.cell 0 rfl, x_b6.cell 1 rfl, x_b6.cell 2 rfl, x_b6.cell 3 rfl⟩ ?_
  clear hK K hb_26
  have Lg1 := hide (g1.lenOf (LD.out.1))
  have Lg2 := hide (g2.lenOf (LD.out.2))
  refine wpFl_call rfl (by kernel_rfl) fun w_27 hn hC => ?_; clear hC
  clear e1 e2 f1 f2
  replace hc1 := hc1.bl hn; replace hc2 := hc2.bl hn; replace x_b3 := x_b3.bl hn; replace a1 := a1.bl hn; replace a2 := a2.bl hn; replace b1 := b1.bl hn; replace b2 := b2.bl hn; replace x_b4 := x_b4.bl hn; replace x_b5 := x_b5.bl hn; replace d1 := d1.bl hn; replace d2 := d2.bl hn; replace s1 := s1.bl hn; replace s2 := s2.bl hn; replace t1 := t1.bl hn; replace t2 := t2.bl hn; replace x_b6 := x_b6.bl hn; replace x_b7 := x_b7.bl hn; replace x_b8 := x_b8.bl hn; replace g1 := g1.bl hn; replace g2 := g2.bl hn; replace hb := hb.trans (hn.mono hb.size)
  clear hn; intro K hK
  go_big_op
  go_fit (gEqual_yes (PN.mk' (g1.zn Lg1.out) (g2.zn Lg2.out)) (PN.mk' (d1.zn Ld1.out) (d2.zn Ld2.out)) (by omega) (by omega) (by omega) (by omega) rfl rfl)
  rintro e w_28 ⟨rfl, hb_28⟩
  replace hc1 := hc1.bl hb_28; replace hc2 := hc2.bl hb_28; replace x_b3 := x_b3.bl hb_28; replace a1 := a1.bl hb_28; replace a2 := a2.bl hb_28; replace b1 := b1.bl hb_28; replace b2 := b2.bl hb_28; replace x_b4 := x_b4.bl hb_28; replace x_b5 := x_b5.bl hb_28; replace d1 := d1.bl hb_28; replace d2 := d2.bl hb_28; replace s1 := s1.bl hb_28; replace s2 := s2.bl hb_28; replace t1 := t1.bl hb_28; replace t2 := t2.bl hb_28; replace x_b6 := x_b6.bl hb_28; replace x_b7 := x_b7.bl hb_28; replace x_b8 := x_b8.bl hb_28; replace g1 := g1.bl hb_28; replace g2 := g2.bl hb_28; replace hb := hb.trans (hb_28.mono hb.size)
  refine hK _ _ rfl hb_28 ⟨x_b4.cell 0 rfl, x_b4.cell 1 rfl, x_b4.cell 2 rfl, x_b4.cell 3 rfl, x_b7.cell 0 rfl, x_b7.cell 1 rfl, x_b7.cell 2 rfl, x_b7.cell 3 rfl, x_b5.cell 0 rfl, x_b5.cell 1 rfl, x_b5.cell 2 rfl, x_b5.cell 3 rfl, x_b8.cell 0 rfl, x_b8.cell 1 rfl, x_b8.cell 2 rfl, x_b8.cell 3 rfl, x_b6.cell 0 rfl, x_b6.cell 1 rfl, x_b6.cell 2 rfl, x_b6.cell 3 rfl⟩ ?_
  clear hK K hb_28
  apply wpFl_ld rfl rfl; (case h1 => intro w' hC K hK; go_big_op; exact hK); iterate 4 kernel_rfl
  apply wpFl_end
  case ha => intro pt; simp only [putF]; rfl
  case h =>
  intro w_29 pt hn hC hF hD
  clear hC
  clear g1 g2
  replace hc1 := hc1.bl hn; replace hc2 := hc2.bl hn; replace x_b3 := x_b3.bl hn; replace a1 := a1.bl hn; replace a2 := a2.bl hn; replace b1 := b1.bl hn; replace b2 := b2.bl hn; replace x_b4 := x_b4.bl hn; replace x_b5 := x_b5.bl hn; replace d1 := d1.bl hn; replace d2 := d2.bl hn; replace s1 := s1.bl hn; replace s2 := s2.bl hn; replace t1 := t1.bl hn; replace t2 := t2.bl hn; replace x_b6 := x_b6.bl hn; replace x_b7 := x_b7.bl hn; replace x_b8 := x_b8.bl hn; replace hb := hb.trans (hn.mono hb.size)
  clear hn
  clear hF hD
  clear pt
  clear kb0 lt_b3 lt_b4 lt_b5 lt_b6 lt_b7 lt_b8
  apply wpTail_end
  refine hK7 _ _ ?_
  refine wp_cond_false (congrArg Value.bool (show _ = false from (by first | rfl | assumption | (simp; done) | exact decide_eq_false (by omega) | omega))) ?_
  refine wp_skip ?_
  refine hK6 _ _ ?_
  refine wp_seq_k ?_
  intro K8 hK8
  refine wp_seq_k ?_
  intro K9 hK9
  refine wp_region_sq [0, 1, 2, 3] (by kernel_rfl) ?_
  refine wpSq_call rfl (by kernel_rfl) fun K hK => ?_
  obtain ⟨d0, d1, d2, d3⟩ := x_b6.f4
  go_big_op; refine hK _ _ rfl ?_; clear hK K d0 d1 d2 d3
  refine wpSq_call rfl (by kernel_rfl) fun K hK => ?_
  go_big_op
  go_fit (gNorm_any (PN.mk' (d1.zn Ld1.out) (d2.zn Ld2.out)) (by omega) (by omega) )
  rintro e w_30 ⟨v_h, rfl, h, hb_30⟩
  clear s1 s2 t1 t2 x_b7 x_b8
  replace hc1 := hc1.bl hb_30; replace hc2 := hc2.bl hb_30; replace x_b3 := x_b3.bl hb_30; replace a1 := a1.bl hb_30; replace a2 := a2.bl hb_30; replace b1 := b1.bl hb_30; replace b2 := b2.bl hb_30; replace x_b4 := x_b4.bl hb_30; replace x_b5 := x_b5.bl hb_30; replace d1 := d1.bl hb_30; replace d2 := d2.bl hb_30; replace x_b6 := x_b6.bl hb_30; replace hb := hb.trans (hb_30.mono hb.size)
  obtain ⟨n_h, o_h, k_h, c_h, rfl⟩ := h.open2
  have Lh := hide (h.lenOf (zlen_add (zlen_mul (Ld1.out) (Ld1.out)) (zlen_mul (Ld2.out) (Ld2.out))))
  rw [HZ.out] at h
  refine hK _ _ rfl ?_
  clear hK K hb_30
  have Lh := hide (h.lenOf (zlen_0))
  refine wpSq_call rfl (by kernel_rfl) fun K hK => ?_
  go_big_op
  go_fit (zsign_any (h.zn Lh.out) (by omega) )
  rintro e w_31 ⟨rfl, hb_31⟩
  replace hc1 := hc1.bl hb_31; replace hc2 := hc2.bl hb_31; replace x_b3 := x_b3.bl hb_31; replace a1 := a1.bl hb_31; replace a2 := a2.bl hb_31; replace b1 := b1.bl hb_31; replace b2 := b2.bl hb_31; replace x_b4 := x_b4.bl hb_31; replace x_b5 := x_b5.bl hb_31; replace d1 := d1.bl hb_31; replace d2 := d2.bl hb_31; replace x_b6 := x_b6.bl hb_31; replace h := h.bl hb_31; replace hb := hb.trans (hb_31.mono hb.size)
  refine hK _ _ rfl ?_
  clear hK K hb_31
  refine wpSq_call rfl (by kernel_rfl) fun K hK => ?_
  go_big_op; refine hK _ _ rfl ?_; clear hK K
  apply wpSq_end
  refine hK9 _ _ ?_
  refine wp_cond_true (congrArg Value.bool (show _ = true from (by first | rfl | assumption | (simp; done) | exact decide_eq_true (by omega) | omega))) ?_
  refine wp_seq_k ?_
  intro K10 hK10
  refine wp_region_sq [0, 1, 2, 3, 4, 5, 6, 7, 8, 9, 10] (by kernel_rfl) ?_
  refine wpSq_call rfl (by kernel_rfl) fun K hK => ?_
  obtain ⟨d0, d1, d2, d3⟩ := x_b4.f4
  go_big_op; refine hK _ _ rfl ?_; clear hK K d0 d1 d2 d3
  refine wpSq_call rfl (by kernel_rfl) fun K hK => ?_
  go_big_op
  go_fit (gNorm_any (PN.mk' (a1.zn La1.out) (a2.zn La2.out)) (by omega) (by omega) )
  rintro e w_32 ⟨v_i, rfl, i, hb_32⟩
  clear h
  replace hc1 := hc1.bl hb_32; replace hc2 := hc2.bl hb_32; replace x_b3 := x_b3.bl hb_32; replace a1 := a1.bl hb_32; replace a2 := a2.bl hb_32; replace b1 := b1.bl hb_32; replace b2 := b2.bl hb_32; replace x_b4 := x_b4.bl hb_32; replace x_b5 := x_b5.bl hb_32; replace d1 := d1.bl hb_32; replace d2 := d2.bl hb_32; replace x_b6 := x_b6.bl hb_32; replace hb := hb.trans (hb_32.mono hb.size)
  obtain ⟨n_i, o_i, k_i, c_i, rfl⟩ := i.open2
  have Li := hide (i.lenOf (zlen_add (zlen_mul (La1.out) (La1.out)) (zlen_mul (La2.out) (La2.out))))
  rw [HX.out.1] at i
  refine hK _ _ rfl ?_
  clear hK K hb_32
  have Li := hide (i.lenOf (zlen_0))
  refine wpSq_call rfl (by kernel_rfl) fun K hK => ?_
  go_big_op
  go_fit (zsign_any (i.zn Li.out) (by omega) )
  rintro e w_33 ⟨rfl, hb_33⟩
  replace hc1 := hc1.bl hb_33; replace hc2 := hc2.bl hb_33; replace x_b3 := x_b3.bl hb_33; replace a1 := a1.bl hb_33; replace a2 := a2.bl hb_33; replace b1 := b1.bl hb_33; replace b2 := b2.bl hb_33; replace x_b4 := x_b4.bl hb_33; replace x_b5 := x_b5.bl hb_33; replace d1 := d1.bl hb_33; replace d2 := d2.bl hb_33; replace x_b6 := x_b6.bl hb_33; replace i := i.bl hb_33; replace hb := hb.trans (hb_33.mono hb.size)
  refine hK _ _ rfl ?_
  clear hK K hb_33
  refine wpSq_call rfl (by kernel_rfl) fun K hK => ?_
  go_big_op; refine hK _ _ rfl ?_; clear hK K
  refine wpSq_call rfl (by kernel_rfl) fun K hK => ?_
  go_big_move; refine hK _ _ rfl ?_; clear hK K
  refine wpSq_call rfl (by kernel_rfl) fun K hK => ?_
  obtain ⟨d0, d1, d2, d3⟩ := x_b5.f4
  go_big_op; refine hK _ _ rfl ?_; clear hK K d0 d1 d2 d3
  refine wpSq_call rfl (by kernel_rfl) fun K hK => ?_
  go_big_op
  go_fit (gNorm_any (PN.mk' (b1.zn Lb1.out) (b2.zn Lb2.out)) (by omega) (by omega) )
  rintro e w_34 ⟨v_j, rfl, j, hb_34⟩
  clear i
  replace hc1 := hc1.bl hb_34; replace hc2 := hc2.bl hb_34; replace x_b3 := x_b3.bl hb_34; replace a1 := a1.bl hb_34; replace a2 := a2.bl hb_34; replace b1 := b1.bl hb_34; replace b2 := b2.bl hb_34; replace x_b4 := x_b4.bl hb_34; replace x_b5 := x_b5.bl hb_34; replace d1 := d1.bl hb_34; replace d2 := d2.bl hb_34; replace x_b6 := x_b6.bl hb_34; replace hb := hb.trans (hb_34.mono hb.size)
  obtain ⟨n_j, o_j, k_j, c_j, rfl⟩ := j.open2
  have Lj := hide (j.lenOf (zlen_add (zlen_mul (Lb1.out) (Lb1.out)) (zlen_mul (Lb2.out) (Lb2.out))))
  rw [HX.out.2] at j
  refine hK _ _ rfl ?_
  clear hK K hb_34
  have Lj := hide (j.lenOf (zlen_0))
  refine wpSq_call rfl (by kernel_rfl) fun K hK => ?_
  go_big_op
  go_fit (zsign_any (j.zn Lj.out) (by omega) )
  rintro e w_35 ⟨rfl, hb_35⟩
  replace hc1 := hc1.bl hb_35; replace hc2 := hc2.bl hb_35; replace x_b3 := x_b3.bl hb_35; replace a1 := a1.bl hb_35; replace a2 := a2.bl hb_35; replace b1 := b1.bl hb_35; replace b2 := b2.bl hb_35; replace x_b4 := x_b4.bl hb_35; replace x_b5 := x_b5.bl hb_35; replace d1 := d1.bl hb_35; replace d2 := d2.bl hb_35; replace x_b6 := x_b6.bl hb_35; replace j := j.bl hb_35; replace hb := hb.trans (hb_35.mono hb.size)
  refine hK _ _ rfl ?_
  clear hK K hb_35
  refine wpSq_call rfl (by kernel_rfl) fun K hK => ?_
  go_big_op; refine hK _ _ rfl ?_; clear hK K
  refine wpSq_call rfl (by kernel_rfl) fun K hK => ?_
  go_big_op; refine hK _ _ rfl ?_; clear hK K
  refine wpSq_call rfl (by kernel_rfl) fun K hK => ?_
  go_big_move; refine hK _ _ rfl ?_; clear hK K
  apply wpSq_end
  refine hK10 _ _ ?_
  refine wp_ret ?_
  try dsimp only [Exit.then, Exit.inBlock]
  refine bodyPost_ret (v := (.bool true)) (by simp [results, Tryd.results8, go_sem]) rfl ?_
  exact ⟨rfl, hb⟩
set_option maxHeartbeats 8000000 in
set_option maxRecDepth 20000 in
theorem bezout_some (ha : PN w va x 1048576 y 1048576) (hq : PN w vb u 1048576 v 1048576) (hc : PN w vc p 1048576 q 1048576) (h0 : gN (GS.start (x * p - y * q) (x * q + y * p) (u * p - v * q) (u * q + v * p)).fin.r1 (GS.start (x * p - y * q) (x * q + y * p) (u * p - v * q) (u * q + v * p)).fin.r2 ≠ 0) (htab : Lib.TabIs Tryd.prog w p10 .u64 Lib.pow10Tab) :
    Calls Tryd.prog 8 #[va, vb, vc] w fun e w' => e = .returned (.bool true) ∧ Below w.heap.size w w' := by
  have htabs := Lib.tabBelow_of_tabIs htab
  have hfin := GI.fin _ (GI.start (x * p - y * q) (x * q + y * p) (u * p - v * q) (u * q + v * p)) (Nat.le_refl _)
  have tX := mul_tight ha.len1 ha.len2 hc.len1 hc.len2
  have tY := mul_tight hq.len1 hq.len2 hc.len1 hc.len2
  obtain ⟨F, hF⟩ : ∃ F, (GS.start (x * p - y * q) (x * q + y * p) (u * p - v * q) (u * q + v * p)).fin = F := ⟨_, rfl⟩
  rw [hF] at hfin
  have HF := hide hF
  have hbz := bz_of hfin.1 hfin.2
  have lr := len_norm (x := F.r1) (y := F.r2) (Int.le_trans hfin.1.nr (by have := gN_nonneg (x * p - y * q) (x * q + y * p); have := gN_nonneg (u * p - v * q) (u * q + v * p); omega)) tX.1 tX.2 tY.1 tY.2
  have lx := len_norm hfin.1.nx tX.1 tX.2 tY.1 tY.2
  have ly := len_norm hfin.1.ny tX.1 tX.2 tY.1 tY.2
  have l1 := zlen_turn lr.1 lr.2 (kq F.r1 F.r2)
  have l2 := zlen_turn lx.1 lx.2 (kq F.r1 F.r2)
  have l3 := zlen_turn ly.1 ly.2 (kq F.r1 F.r2)
  obtain ⟨D1, hD1⟩ : ∃ D, (turn (kq F.r1 F.r2) (F.r1, F.r2)).1 = D := ⟨_, rfl⟩
  obtain ⟨D2, hD2⟩ : ∃ D, (turn (kq F.r1 F.r2) (F.r1, F.r2)).2 = D := ⟨_, rfl⟩
  obtain ⟨S1, hS1⟩ : ∃ D, (turn (kq F.r1 F.r2) (F.x1, F.x2)).1 = D := ⟨_, rfl⟩
  obtain ⟨S2, hS2⟩ : ∃ D, (turn (kq F.r1 F.r2) (F.x1, F.x2)).2 = D := ⟨_, rfl⟩
  obtain ⟨T1, hT1⟩ : ∃ D, (turn (kq F.r1 F.r2) (F.y1, F.y2)).1 = D := ⟨_, rfl⟩
  obtain ⟨T2, hT2⟩ : ∃ D, (turn (kq F.r1 F.r2) (F.y1, F.y2)).2 = D := ⟨_, rfl⟩
  have hn := turn_norm (kq_lt F.r1 F.r2) F.r1 F.r2
  rw [hF] at h0
  rw [hD1, hD2] at hn
  rw [hD1, hD2, hS1, hS2, hT1, hT2] at hbz
  have hdn : gN D1 D2 ≠ 0 := by rw [hn]; exact h0
  have HN := hide hdn
  have hquad := hbz.quad.resolve_left hdn
  have HE := hide (hbz.e3 hdn)
  have HS := hide (show (gN D1 D2).sign = 1 from Int.sign_eq_one_of_pos (gN_pos hdn))
  have HQ1 := hide (show D1.sign = 1 from Int.sign_eq_one_of_pos hquad.1)
  have hq2 : (0 ≤ D2.sign) = True := eq_true (Int.sign_nonneg_iff.2 hquad.2)
  obtain ⟨G, hG⟩ : ∃ G, D2.sign = G := ⟨_, rfl⟩
  rw [hG] at hq2
  have HG := hide hG
  clear hn h0 hdn hquad hG
  rw [hD1, hD2] at l1
  rw [hS1, hS2] at l2
  rw [hT1, hT2] at l3
  have EQ := hide (And.intro (And.intro hD1 hD2) (And.intro (And.intro hS1 hS2) (And.intro hT1 hT2)))
  have BZ := hide hbz
  have TX := hide tX
  have TY := hide tY
  have LD := hide l1
  have LS := hide l2
  have LT := hide l3
  clear hfin hF lr lx ly l1 l2 l3 hD1 hD2 hS1 hS2 hT1 hT2 hbz tX tY
  obtain ⟨n_0a, o_0a, k_0a, c_0a, n_0b, o_0b, k_0b, c_0b, rfl, ha1, ha2⟩ := ha
  obtain ⟨n_1a, o_1a, k_1a, c_1a, n_1b, o_1b, k_1b, c_1b, rfl, hq1, hq2⟩ := hq
  obtain ⟨n_2a, o_2a, k_2a, c_2a, n_2b, o_2b, k_2b, c_2b, rfl, hc1, hc2⟩ := hc
  go_enter Tryd.func8, Tryd.ntmps8
  have hb := Below.refl w.heap.size w
  refine wp_seq_k ?_
  intro K1 hK1
  refine wp_region_sq [0, 1, 2, 3] (by kernel_rfl) ?_
  refine wpSq_call rfl (by kernel_rfl) fun K hK => ?_
  go_big_op
  obtain ⟨p_b1, w_1, eP, eW, x_b1, hn, kb_b1⟩ := newBox w #[.bool n_0a, .slice o_0a k_0a c_0a, .bool n_0b, .slice o_0b k_0b c_0b] 26 hb.size
  rw [eW, eP]
  clear eW eP
  replace ha1 := ha1.bl hn; replace ha2 := ha2.bl hn; replace hq1 := hq1.bl hn; replace hq2 := hq2.bl hn; replace hc1 := hc1.bl hn; replace hc2 := hc2.bl hn; replace hb := hb.trans (hn.mono hb.size)
  refine hK _ _ rfl ?_; clear hK K hn
  refine wpSq_call rfl (by kernel_rfl) fun K hK => ?_
  go_big_op
  have lt_b1 := x_b1.lt
  obtain ⟨p_b2, w_2, eP, eW, x_b2, hn, kb_b2⟩ := newBox w_1 #[.bool n_1a, .slice o_1a k_1a c_1a, .bool n_1b, .slice o_1b k_1b c_1b] 26 hb.size
  have ne_b1_b2 : Hid (p_b1 ≠ p_b2) := Nat.ne_of_lt (eP ▸ lt_b1)
  rw [eW, eP]
  clear eW eP lt_b1
  replace ha1 := ha1.bl hn; replace ha2 := ha2.bl hn; replace hq1 := hq1.bl hn; replace hq2 := hq2.bl hn; replace hc1 := hc1.bl hn; replace hc2 := hc2.bl hn; replace x_b1 := x_b1.bl hn; replace hb := hb.trans (hn.mono hb.size)
  refine hK _ _ rfl ?_; clear hK K hn
  refine wpSq_call rfl (by kernel_rfl) fun K hK => ?_
  go_big_op
  have lt_b1 := x_b1.lt
  have lt_b2 := x_b2.lt
  obtain ⟨p_b3, w_3, eP, eW, x_b3, hn, kb_b3⟩ := newBox w_2 #[.bool n_2a, .slice o_2a k_2a c_2a, .bool n_2b, .slice o_2b k_2b c_2b] 26 hb.size
  have ne_b1_b3 : Hid (p_b1 ≠ p_b3) := Nat.ne_of_lt (eP ▸ lt_b1)
  have ne_b2_b3 : Hid (p_b2 ≠ p_b3) := Nat.ne_of_lt (eP ▸ lt_b2)
  rw [eW, eP]
  clear eW eP lt_b1 lt_b2
  replace ha1 := ha1.bl hn; replace ha2 := ha2.bl hn; replace hq1 := hq1.bl hn; replace hq2 := hq2.bl hn; replace hc1 := hc1.bl hn; replace hc2 := hc2.bl hn; replace x_b1 := x_b1.bl hn; replace x_b2 := x_b2.bl hn; replace hb := hb.trans (hn.mono hb.size)
  refine hK _ _ rfl ?_; clear hK K hn
  refine wpSq_call rfl (by kernel_rfl) fun K hK => ?_
  go_big_move; refine hK _ _ rfl ?_; clear hK K
  apply wpSq_end
  refine hK1 _ _ ?_
  refine wp_seq_k ?_
  intro K2 hK2
  refine wp_seq_k ?_
  intro K3 hK3
  refine wp_region_sq [0, 1] (by kernel_rfl) ?_
  refine wpSq_call rfl (by kernel_rfl) fun K hK => ?_
  go_big_op
  go_fit (gawake_any _ (htabs _ hb))
  rintro e w_4 ⟨rfl, hb_4⟩
  replace ha1 := ha1.bl hb_4; replace ha2 := ha2.bl hb_4; replace hq1 := hq1.bl hb_4; replace hq2 := hq2.bl hb_4; replace hc1 := hc1.bl hb_4; replace hc2 := hc2.bl hb_4; replace x_b1 := x_b1.bl hb_4; replace x_b2 := x_b2.bl hb_4; replace x_b3 := x_b3.bl hb_4; replace hb := hb.trans (hb_4.mono hb.size)
  refine hK _ _ rfl ?_
  clear hK K hb_4
  refine wpSq_call rfl (by kernel_rfl) fun K hK => ?_
  go_big_op; refine hK _ _ rfl ?_; clear hK K
  apply wpSq_end
  refine hK3 _ _ ?_
  refine wp_cond_false (congrArg Value.bool (show _ = false from (by first | rfl | assumption | (simp; done) | exact decide_eq_false (by omega) | omega))) ?_
  refine wp_skip ?_
  refine hK2 _ _ ?_
  refine wp_seq_k ?_
  intro K4 hK4
  refine wp_region_fl2 [(0, false), (1, false), (3, false), (4, false), (2, true), (5, true)] [8, 9] [6, 7] (fun j => if j = 6 then (.cells #[.bool false, .slice none 0 0, .bool false, .slice none 0 0] 26) else (.cells #[.bool false, .slice none 0 0, .bool false, .slice none 0 0] 26)) [0, 1, 99, 2, 1, 99, 99, 99, 99, 99] [] (fun w' => w'.cell? ⟨p_b1, 0, none⟩ = some (.bool n_0a) ∧ w'.cell? ⟨p_b1, 1, none⟩ = some (.slice o_0a k_0a c_0a) ∧ w'.cell? ⟨p_b1, 2, none⟩ = some (.bool n_0b) ∧ w'.cell? ⟨p_b1, 3, none⟩ = some (.slice o_0b k_0b c_0b) ∧ w'.cell? ⟨p_b3, 0, none⟩ = some (.bool n_2a) ∧ w'.cell? ⟨p_b3, 1, none⟩ = some (.slice o_2a k_2a c_2a) ∧ w'.cell? ⟨p_b3, 2, none⟩ = some (.bool n_2b) ∧ w'.cell? ⟨p_b3, 3, none⟩ = some (.slice o_2b k_2b c_2b) ∧ w'.cell? ⟨p_b2, 0, none⟩ = some (.bool n_1a) ∧ w'.cell? ⟨p_b2, 1, none⟩ = some (.slice o_1a k_1a c_1a) ∧ w'.cell? ⟨p_b2, 2, none⟩ = some (.bool n_1b) ∧ w'.cell? ⟨p_b2, 3, none⟩ = some (.slice o_1b k_1b c_1b)) [fun w' => w'.cell? ⟨p_b1, 0, none⟩ = some (.bool n_0a) ∧ w'.cell? ⟨p_b1, 1, none⟩ = some (.slice o_0a k_0a c_0a) ∧ w'.cell? ⟨p_b1, 2, none⟩ = some (.bool n_0b) ∧ w'.cell? ⟨p_b1, 3, none⟩ = some (.slice o_0b k_0b c_0b), fun w' => w'.cell? ⟨p_b3, 0, none⟩ = some (.bool n_2a) ∧ w'.cell? ⟨p_b3, 1, none⟩ = some (.slice o_2a k_2a c_2a) ∧ w'.cell? ⟨p_b3, 2, none⟩ = some (.bool n_2b) ∧ w'.cell? ⟨p_b3, 3, none⟩ = some (.slice o_2b k_2b c_2b), fun w' => w'.cell? ⟨p_b2, 0, none⟩ = some (.bool n_1a) ∧ w'.cell? ⟨p_b2, 1, none⟩ = some (.slice o_1a k_1a c_1a) ∧ w'.cell? ⟨p_b2, 2, none⟩ = some (.bool n_1b) ∧ w'.cell? ⟨p_b2, 3, none⟩ = some (.slice o_1b k_1b c_1b)] (by kernel_rfl) (by kernel_rfl) (by kernel_rfl) (by kernel_rfl) (by kernel_rfl) (by kernel_rfl) (by kernel_rfl) (by kernel_rfl) (by decide) (by intro j hj; simp only [List.mem_cons, List.not_mem_nil, or_false] at hj; rcases hj with rfl | rfl; all_goals exact ⟨_, rfl, rfl, fun ρ w => by unfold ptr; simp [go_sem]⟩) (by intro w' o hC; obtain ⟨c0, c1, c2, c3, c4, c5, c6, c7, c8, c9, c10, c11⟩ := hC; exact ⟨cell_alloc c0 o, cell_alloc c1 o, cell_alloc c2 o, cell_alloc c3 o, cell_alloc c4 o, cell_alloc c5 o, cell_alloc c6 o, cell_alloc c7 o, cell_alloc c8 o, cell_alloc c9 o, cell_alloc c10 o, cell_alloc c11 o⟩) (by intro w' hC G hG; obtain ⟨c0, c1, c2, c3, c4, c5, c6, c7, c8, c9, c10, c11⟩ := hC; simp only [List.mem_cons, List.not_mem_nil, or_false] at hG; rcases hG with rfl | rfl | rfl <;> first | exact ⟨c0, c1, c2, c3⟩ | exact ⟨c4, c5, c6, c7⟩ | exact ⟨c8, c9, c10, c11⟩) ?_
  have lt_b1 := x_b1.lt
  have lt_b2 := x_b2.lt
  have lt_b3 := x_b3.lt
  intro w_5 hn
  replace lt_b1 := Nat.lt_of_lt_of_le lt_b1 hn.size
  replace lt_b2 := Nat.lt_of_lt_of_le lt_b2 hn.size
  replace lt_b3 := Nat.lt_of_lt_of_le lt_b3 hn.size
  replace ha1 := ha1.bl hn; replace ha2 := ha2.bl hn; replace hq1 := hq1.bl hn; replace hq2 := hq2.bl hn; replace hc1 := hc1.bl hn; replace hc2 := hc2.bl hn; replace x_b1 := x_b1.bl hn; replace x_b2 := x_b2.bl hn; replace x_b3 := x_b3.bl hn; replace hb := hb.trans (hn.mono hb.size)
  clear hn
  have kb0 := hb.size
  refine ⟨⟨x_b1.cell 0 rfl, x_b1.cell 1 rfl, x_b1.cell 2 rfl, x_b1.cell 3 rfl, x_b3.cell 0 rfl, x_b3.cell 1 rfl, x_b3.cell 2 rfl, x_b3.cell 3 rfl, x_b2.cell 0 rfl, x_b2.cell 1 rfl, x_b2.cell 2 rfl, x_b2.cell 3 rfl⟩, ?_⟩
  apply wpFl_ld rfl rfl; (case h1 => intro w' hC K hK; obtain ⟨c0, c1, c2, c3⟩ := hC; go_big_op; exact hK); iterate 4 kernel_rfl
  apply wpFl_ld rfl rfl; (case h1 => intro w' hC K hK; obtain ⟨c0, c1, c2, c3⟩ := hC; go_big_op; exact hK); iterate 4 kernel_rfl
  apply wpFl_ld rfl rfl; (case h1 => intro w' hC K hK; obtain ⟨c0, c1, c2, c3⟩ := hC; go_big_op; exact hK); iterate 4 kernel_rfl
  apply wpFl_ld rfl rfl; (case h1 => intro w' hC K hK; obtain ⟨c0, c1, c2, c3⟩ := hC; go_big_op; exact hK); iterate 4 kernel_rfl
  refine wpFl_call rfl (by kernel_rfl) fun w_6 hn hC => ?_; clear hC
  replace ha1 := ha1.bl hn; replace ha2 := ha2.bl hn; replace hq1 := hq1.bl hn; replace hq2 := hq2.bl hn; replace hc1 := hc1.bl hn; replace hc2 := hc2.bl hn; replace x_b1 := x_b1.bl hn; replace x_b2 := x_b2.bl hn; replace x_b3 := x_b3.bl hn; replace hb := hb.trans (hn.mono hb.size)
  clear hn; intro K hK
  go_big_op
  go_fit (gMul_any (PN.mk' ha1 ha2) (PN.mk' hc1 hc2) (by omega) (by omega) (by omega) (by omega) )
  rintro e w_7 ⟨_, rfl, ⟨n_aa, o_aa, k_aa, c_aa, n_ab, o_ab, k_ab, c_ab, rfl, a1, a2⟩, hb_7⟩
  replace ha1 := ha1.bl hb_7; replace ha2 := ha2.bl hb_7; replace hq1 := hq1.bl hb_7; replace hq2 := hq2.bl hb_7; replace hc1 := hc1.bl hb_7; replace hc2 := hc2.bl hb_7; replace x_b1 := x_b1.bl hb_7; replace x_b2 := x_b2.bl hb_7; replace x_b3 := x_b3.bl hb_7; replace hb := hb.trans (hb_7.mono hb.size)
  have La1 := hide (a1.lenOf (zlen_sub (zlen_mul (ha1.len) (hc1.len)) (zlen_mul (ha2.len) (hc2.len))))
  have La2 := hide (a2.lenOf (zlen_add (zlen_mul (ha1.len) (hc2.len)) (zlen_mul (ha2.len) (hc1.len))))
  refine hK _ _ rfl hb_7 ⟨x_b1.cell 0 rfl, x_b1.cell 1 rfl, x_b1.cell 2 rfl, x_b1.cell 3 rfl, x_b3.cell 0 rfl, x_b3.cell 1 rfl, x_b3.cell 2 rfl, x_b3.cell 3 rfl, x_b2.cell 0 rfl, x_b2.cell 1 rfl, x_b2.cell 2 rfl, x_b2.cell 3 rfl⟩ ?_
  clear hK K hb_7
  have La1 := hide (a1.lenOf (TX.out.1))
  have La2 := hide (a2.lenOf (TX.out.2))
  refine wpFl_call rfl (by kernel_rfl) fun w_8 hn hC => ?_; clear hC
  replace ha1 := ha1.bl hn; replace ha2 := ha2.bl hn; replace hq1 := hq1.bl hn; replace hq2 := hq2.bl hn; replace hc1 := hc1.bl hn; replace hc2 := hc2.bl hn; replace x_b1 := x_b1.bl hn; replace x_b2 := x_b2.bl hn; replace x_b3 := x_b3.bl hn; replace a1 := a1.bl hn; replace a2 := a2.bl hn; replace hb := hb.trans (hn.mono hb.size)
  clear hn; intro K hK
  go_big_op
  go_fit (gMul_any (PN.mk' hq1 hq2) (PN.mk' hc1 hc2) (by omega) (by omega) (by omega) (by omega) )
  rintro e w_9 ⟨_, rfl, ⟨n_ba, o_ba, k_ba, c_ba, n_bb, o_bb, k_bb, c_bb, rfl, b1, b2⟩, hb_9⟩
  replace ha1 := ha1.bl hb_9; replace ha2 := ha2.bl hb_9; replace hq1 := hq1.bl hb_9; replace hq2 := hq2.bl hb_9; replace hc1 := hc1.bl hb_9; replace hc2 := hc2.bl hb_9; replace x_b1 := x_b1.bl hb_9; replace x_b2 := x_b2.bl hb_9; replace x_b3 := x_b3.bl hb_9; replace a1 := a1.bl hb_9; replace a2 := a2.bl hb_9; replace hb := hb.trans (hb_9.mono hb.size)
  have Lb1 := hide (b1.lenOf (zlen_sub (zlen_mul (hq1.len) (hc1.len)) (zlen_mul (hq2.len) (hc2.len))))
  have Lb2 := hide (b2.lenOf (zlen_add (zlen_mul (hq1.len) (hc2.len)) (zlen_mul (hq2.len) (hc1.len))))
  refine hK _ _ rfl hb_9 ⟨x_b1.cell 0 rfl, x_b1.cell 1 rfl, x_b1.cell 2 rfl, x_b1.cell 3 rfl, x_b3.cell 0 rfl, x_b3.cell 1 rfl, x_b3.cell 2 rfl, x_b3.cell 3 rfl, x_b2.cell 0 rfl, x_b2.cell 1 rfl, x_b2.cell 2 rfl, x_b2.cell 3 rfl⟩ ?_
  clear hK K hb_9
  apply wpFl_end
  case ha => intro pt; simp only [putF, nthO, Act.put, ptr, List.setIfInBounds_toArray, List.set_cons_succ, List.set_cons_zero]; rfl
  case h =>
  intro w_10 pt hn hC hF hD
  clear hC
  replace ha1 := ha1.bl hn; replace ha2 := ha2.bl hn; replace hq1 := hq1.bl hn; replace hq2 := hq2.bl hn; replace hc1 := hc1.bl hn; replace hc2 := hc2.bl hn; replace x_b1 := x_b1.bl hn; replace x_b2 := x_b2.bl hn; replace x_b3 := x_b3.bl hn; replace a1 := a1.bl hn; replace a2 := a2.bl hn; replace b1 := b1.bl hn; replace b2 := b2.bl hn; replace hb := hb.trans (hn.mono hb.size)
  clear hn
  obtain ⟨kB_b4, x_b4⟩ := hF 6 (by decide)
  replace x_b4 : Bs w_10 (pt 6) #[.bool false, .slice none 0 0, .bool false, .slice none 0 0] 26 := x_b4
  obtain ⟨kB_b5, x_b5⟩ := hF 7 (by decide)
  replace x_b5 : Bs w_10 (pt 7) #[.bool false, .slice none 0 0, .bool false, .slice none 0 0] 26 := x_b5
  have ne_b4_b5 := hide (hD 6 (by decide) 7 (by decide) (by decide))
  clear hF hD
  generalize pt 6 = p_b4 at *
  generalize pt 7 = p_b5 at *
  clear pt
  have kb_b4 := hide (Nat.le_trans kb0 kB_b4)
  have ne_b1_b4 : Hid (p_b1 ≠ p_b4) := Nat.ne_of_lt (Nat.lt_of_lt_of_le lt_b1 kB_b4)
  have ne_b2_b4 : Hid (p_b2 ≠ p_b4) := Nat.ne_of_lt (Nat.lt_of_lt_of_le lt_b2 kB_b4)
  have ne_b3_b4 : Hid (p_b3 ≠ p_b4) := Nat.ne_of_lt (Nat.lt_of_lt_of_le lt_b3 kB_b4)
  clear kB_b4
  have kb_b5 := hide (Nat.le_trans kb0 kB_b5)
  have ne_b1_b5 : Hid (p_b1 ≠ p_b5) := Nat.ne_of_lt (Nat.lt_of_lt_of_le lt_b1 kB_b5)
  have ne_b2_b5 : Hid (p_b2 ≠ p_b5) := Nat.ne_of_lt (Nat.lt_of_lt_of_le lt_b2 kB_b5)
  have ne_b3_b5 : Hid (p_b3 ≠ p_b5) := Nat.ne_of_lt (Nat.lt_of_lt_of_le lt_b3 kB_b5)
  clear kB_b5
  clear kb0 lt_b1 lt_b2 lt_b3
  refine wpTail_call rfl (by kernel_rfl) fun K hK => ?_
  obtain ⟨d0, d1, d2, d3⟩ := x_b4.f4
  have f0 := x_b4.free 0; have f1 := x_b4.free 1; have f2 := x_b4.free 2; have f3 := x_b4.free 3
  go_big_op
  have hnd := x_b4.nod rfl rfl
  obtain ⟨w_11, eW, x_b4', ho⟩ : ∃ w', ((((w_10.setCell ⟨p_b4, 0, none⟩ (.bool n_aa)).setCell ⟨p_b4, 1, none⟩ (.slice o_aa k_aa c_aa)).setCell ⟨p_b4, 2, none⟩ (.bool n_ab)).setCell ⟨p_b4, 3, none⟩ (.slice o_ab k_ab c_ab)) = w' ∧ Bs w' p_b4 #[.bool n_aa, .slice o_aa k_aa c_aa, .bool n_ab, .slice o_ab k_ab c_ab] 26 ∧ Only p_b4 w_10 w' := x_b4.setN [(0, .bool n_aa), (1, .slice o_aa k_aa c_aa), (2, .bool n_ab), (3, .slice o_ab k_ab c_ab)]
  rw [eW]; clear eW d0 d1 d2 d3 f0 f1 f2 f3 x_b4
  have x_b4 := x_b4'; clear x_b4'
  replace ha1 := ha1.fr hnd ho; replace ha2 := ha2.fr hnd ho; replace hq1 := hq1.fr hnd ho; replace hq2 := hq2.fr hnd ho; replace hc1 := hc1.fr hnd ho; replace hc2 := hc2.fr hnd ho; replace x_b1 := x_b1.frame ho ne_b1_b4; replace x_b2 := x_b2.frame ho ne_b2_b4; replace x_b3 := x_b3.frame ho ne_b3_b4; replace a1 := a1.fr hnd ho; replace a2 := a2.fr hnd ho; replace b1 := b1.fr hnd ho; replace b2 := b2.fr hnd ho; replace x_b5 := x_b5.frame ho ne_b4_b5.symm; replace hb := belowOnly hb ho kb_b4
  refine hK _ _ rfl (And.intro ⟨x_b1.cell 0 rfl, x_b1.cell 1 rfl, x_b1.cell 2 rfl, x_b1.cell 3 rfl⟩ (And.intro ⟨x_b3.cell 0 rfl, x_b3.cell 1 rfl, x_b3.cell 2 rfl, x_b3.cell 3 rfl⟩ (And.intro ⟨x_b2.cell 0 rfl, x_b2.cell 1 rfl, x_b2.cell 2 rfl, x_b2.cell 3 rfl⟩ True.intro))) ?_; clear hK K ho hnd
  refine wpTail_call rfl (by kernel_rfl) fun K hK => ?_
  obtain ⟨d0, d1, d2, d3⟩ := x_b5.f4
  have f0 := x_b5.free 0; have f1 := x_b5.free 1; have f2 := x_b5.free 2; have f3 := x_b5.free 3
  go_big_op
  have hnd := x_b5.nod rfl rfl
  obtain ⟨w_12, eW, x_b5', ho⟩ : ∃ w', ((((w_11.setCell ⟨p_b5, 0, none⟩ (.bool n_ba)).setCell ⟨p_b5, 1, none⟩ (.slice o_ba k_ba c_ba)).setCell ⟨p_b5, 2, none⟩ (.bool n_bb)).setCell ⟨p_b5, 3, none⟩ (.slice o_bb k_bb c_bb)) = w' ∧ Bs w' p_b5 #[.bool n_ba, .slice o_ba k_ba c_ba, .bool n_bb, .slice o_bb k_bb c_bb] 26 ∧ Only p_b5 w_11 w' := x_b5.setN [(0, .bool n_ba), (1, .slice o_ba k_ba c_ba), (2, .bool n_bb), (3, .slice o_bb k_bb c_bb)]
  rw [eW]; clear eW d0 d1 d2 d3 f0 f1 f2 f3 x_b5
  have x_b5 := x_b5'; clear x_b5'
  replace ha1 := ha1.fr hnd ho; replace ha2 := ha2.fr hnd ho; replace hq1 := hq1.fr hnd ho; replace hq2 := hq2.fr hnd ho; replace hc1 := hc1.fr hnd ho; replace hc2 := hc2.fr hnd ho; replace x_b1 := x_b1.frame ho ne_b1_b5; replace x_b2 := x_b2.frame ho ne_b2_b5; replace x_b3 := x_b3.frame ho ne_b3_b5; replace a1 := a1.fr hnd ho; replace a2 := a2.fr hnd ho; replace b1 := b1.fr hnd ho; replace b2 := b2.fr hnd ho; replace x_b4 := x_b4.frame ho ne_b4_b5; replace hb := belowOnly hb ho kb_b5
  refine hK _ _ rfl (And.intro ⟨x_b1.cell 0 rfl, x_b1.cell 1 rfl, x_b1.cell 2 rfl, x_b1.cell 3 rfl⟩ (And.intro ⟨x_b3.cell 0 rfl, x_b3.cell 1 rfl, x_b3.cell 2 rfl, x_b3.cell 3 rfl⟩ (And.intro ⟨x_b2.cell 0 rfl, x_b2.cell 1 rfl, x_b2.cell 2 rfl, x_b2.cell 3 rfl⟩ True.intro))) ?_; clear hK K ho hnd
  apply wpTail_end
  refine hK4 _ _ ?_
  refine wp_seq_k ?_
  intro K5 hK5
  refine wp_region_sq [0, 1, 2, 3, 4, 5, 6, 7, 8, 9, 10, 11, 12] (by kernel_rfl) ?_
  refine wpSq_call rfl (by kernel_rfl) fun K hK => ?_
  obtain ⟨d0, d1, d2, d3⟩ := x_b4.f4
  go_big_op; refine hK _ _ rfl ?_; clear hK K d0 d1 d2 d3
  refine wpSq_call rfl (by kernel_rfl) fun K hK => ?_
  obtain ⟨d0, d1, d2, d3⟩ := x_b5.f4
  go_big_op; refine hK _ _ rfl ?_; clear hK K d0 d1 d2 d3
  have Lb1 := hide (b1.lenOf (TY.out.1))
  have Lb2 := hide (b2.lenOf (TY.out.2))
  refine wpSq_call rfl (by kernel_rfl) fun K hK => ?_
  go_big_op
  go_fit (gxgcd_any (L := 2097153) (.mk' (a1.zn La1.out) (a2.zn La2.out)) (.mk' (b1.zn Lb1.out) (b2.zn Lb2.out)) (by decide))
  rintro e w_13 ⟨_, _, _, rfl, ⟨n_da, o_da, k_da, c_da, n_db, o_db, k_db, c_db, rfl, d1, d2⟩, ⟨n_sa, o_sa, k_sa, c_sa, n_sb, o_sb, k_sb, c_sb, rfl, s1, s2⟩, ⟨n_ta, o_ta, k_ta, c_ta, n_tb, o_tb, k_tb, c_tb, rfl, t1, t2⟩, hb_13⟩
  clear ha1 ha2 hq1 hq2 x_b1 x_b2
  replace hc1 := hc1.bl hb_13; replace hc2 := hc2.bl hb_13; replace x_b3 := x_b3.bl hb_13; replace a1 := a1.bl hb_13; replace a2 := a2.bl hb_13; replace b1 := b1.bl hb_13; replace b2 := b2.bl hb_13; replace x_b4 := x_b4.bl hb_13; replace x_b5 := x_b5.bl hb_13; replace hb := hb.trans (hb_13.mono hb.size)
  rw [HF.out, EQ.out.1.1] at d1
  rw [HF.out, EQ.out.1.2] at d2
  rw [HF.out, EQ.out.2.1.1] at s1
  rw [HF.out, EQ.out.2.1.2] at s2
  rw [HF.out, EQ.out.2.2.1] at t1
  rw [HF.out, EQ.out.2.2.2] at t2
  refine hK _ _ rfl ?_
  clear hK K hb_13
  refine wpSq_call rfl (by kernel_rfl) fun K hK => ?_
  go_big_move; refine hK _ _ rfl ?_; clear hK K
  refine wpSq_call rfl (by kernel_rfl) fun K hK => ?_
  go_big_op; refine hK _ _ rfl ?_; clear hK K
  refine wpSq_call rfl (by kernel_rfl) fun K hK => ?_
  go_big_op; refine hK _ _ rfl ?_; clear hK K
  refine wpSq_call rfl (by kernel_rfl) fun K hK => ?_
  go_big_op; refine hK _ _ rfl ?_; clear hK K
  refine wpSq_call rfl (by kernel_rfl) fun K hK => ?_
  go_big_op
  have lt_b3 := x_b3.lt
  have lt_b4 := x_b4.lt
  have lt_b5 := x_b5.lt
  obtain ⟨p_b6, w_14, eP, eW, x_b6, hn, kb_b6⟩ := newBox w_13 #[.bool false, .slice none 0 0, .bool false, .slice none 0 0] 26 hb.size
  have ne_b3_b6 : Hid (p_b3 ≠ p_b6) := Nat.ne_of_lt (eP ▸ lt_b3)
  have ne_b4_b6 : Hid (p_b4 ≠ p_b6) := Nat.ne_of_lt (eP ▸ lt_b4)
  have ne_b5_b6 : Hid (p_b5 ≠ p_b6) := Nat.ne_of_lt (eP ▸ lt_b5)
  rw [eW, eP]
  clear eW eP lt_b3 lt_b4 lt_b5
  replace hc1 := hc1.bl hn; replace hc2 := hc2.bl hn; replace x_b3 := x_b3.bl hn; replace a1 := a1.bl hn; replace a2 := a2.bl hn; replace b1 := b1.bl hn; replace b2 := b2.bl hn; replace x_b4 := x_b4.bl hn; replace x_b5 := x_b5.bl hn; replace d1 := d1.bl hn; replace d2 := d2.bl hn; replace s1 := s1.bl hn; replace s2 := s2.bl hn; replace t1 := t1.bl hn; replace t2 := t2.bl hn; replace hb := hb.trans (hn.mono hb.size)
  refine hK _ _ rfl ?_; clear hK K hn
  refine wpSq_call rfl (by kernel_rfl) fun K hK => ?_
  go_big_op
  have lt_b3 := x_b3.lt
  have lt_b4 := x_b4.lt
  have lt_b5 := x_b5.lt
  have lt_b6 := x_b6.lt
  obtain ⟨p_b7, w_15, eP, eW, x_b7, hn, kb_b7⟩ := newBox w_14 #[.bool false, .slice none 0 0, .bool false, .slice none 0 0] 26 hb.size
  have ne_b3_b7 : Hid (p_b3 ≠ p_b7) := Nat.ne_of_lt (eP ▸ lt_b3)
  have ne_b4_b7 : Hid (p_b4 ≠ p_b7) := Nat.ne_of_lt (eP ▸ lt_b4)
  have ne_b5_b7 : Hid (p_b5 ≠ p_b7) := Nat.ne_of_lt (eP ▸ lt_b5)
  have ne_b6_b7 : Hid (p_b6 ≠ p_b7) := Nat.ne_of_lt (eP ▸ lt_b6)
  rw [eW, eP]
  clear eW eP lt_b3 lt_b4 lt_b5 lt_b6
  replace hc1 := hc1.bl hn; replace hc2 := hc2.bl hn; replace x_b3 := x_b3.bl hn; replace a1 := a1.bl hn; replace a2 := a2.bl hn; replace b1 := b1.bl hn; replace b2 := b2.bl hn; replace x_b4 := x_b4.bl hn; replace x_b5 := x_b5.bl hn; replace d1 := d1.bl hn; replace d2 := d2.bl hn; replace s1 := s1.bl hn; replace s2 := s2.bl hn; replace t1 := t1.bl hn; replace t2 := t2.bl hn; replace x_b6 := x_b6.bl hn; replace hb := hb.trans (hn.mono hb.size)
  refine hK _ _ rfl ?_; clear hK K hn
  refine wpSq_call rfl (by kernel_rfl) fun K hK => ?_
  go_big_op
  have lt_b3 := x_b3.lt
  have lt_b4 := x_b4.lt
  have lt_b5 := x_b5.lt
  have lt_b6 := x_b6.lt
  have lt_b7 := x_b7.lt
  obtain ⟨p_b8, w_16, eP, eW, x_b8, hn, kb_b8⟩ := newBox w_15 #[.bool false, .slice none 0 0, .bool false, .slice none 0 0] 26 hb.size
  have ne_b3_b8 : Hid (p_b3 ≠ p_b8) := Nat.ne_of_lt (eP ▸ lt_b3)
  have ne_b4_b8 : Hid (p_b4 ≠ p_b8) := Nat.ne_of_lt (eP ▸ lt_b4)
  have ne_b5_b8 : Hid (p_b5 ≠ p_b8) := Nat.ne_of_lt (eP ▸ lt_b5)
  have ne_b6_b8 : Hid (p_b6 ≠ p_b8) := Nat.ne_of_lt (eP ▸ lt_b6)
  have ne_b7_b8 : Hid (p_b7 ≠ p_b8) := Nat.ne_of_lt (eP ▸ lt_b7)
  rw [eW, eP]
  clear eW eP lt_b3 lt_b4 lt_b5 lt_b6 lt_b7
  replace hc1 := hc1.bl hn; replace hc2 := hc2.bl hn; replace x_b3 := x_b3.bl hn; replace a1 := a1.bl hn; replace a2 := a2.bl hn; replace b1 := b1.bl hn; replace b2 := b2.bl hn; replace x_b4 := x_b4.bl hn; replace x_b5 := x_b5.bl hn; replace d1 := d1.bl hn; replace d2 := d2.bl hn; replace s1 := s1.bl hn; replace s2 := s2.bl hn; replace t1 := t1.bl hn; replace t2 := t2.bl hn; replace x_b6 := x_b6.bl hn; replace x_b7 := x_b7.bl hn; replace hb := hb.trans (hn.mono hb.size)
  refine hK _ _ rfl ?_; clear hK K hn
  refine wpSq_call rfl (by kernel_rfl) fun K hK => ?_
  obtain ⟨d0, d1, d2, d3⟩ := x_b6.f4
  have f0 := x_b6.free 0; have f1 := x_b6.free 1; have f2 := x_b6.free 2; have f3 := x_b6.free 3
  go_big_op
  have hnd := x_b6.nod rfl rfl
  obtain ⟨w_17, eW, x_b6', ho⟩ : ∃ w', ((((w_16.setCell ⟨p_b6, 0, none⟩ (.bool n_da)).setCell ⟨p_b6, 1, none⟩ (.slice o_da k_da c_da)).setCell ⟨p_b6, 2, none⟩ (.bool n_db)).setCell ⟨p_b6, 3, none⟩ (.slice o_db k_db c_db)) = w' ∧ Bs w' p_b6 #[.bool n_da, .slice o_da k_da c_da, .bool n_db, .slice o_db k_db c_db] 26 ∧ Only p_b6 w_16 w' := x_b6.setN [(0, .bool n_da), (1, .slice o_da k_da c_da), (2, .bool n_db), (3, .slice o_db k_db c_db)]
  rw [eW]; clear eW d0 d1 d2 d3 f0 f1 f2 f3 x_b6
  have x_b6 := x_b6'; clear x_b6'
  replace hc1 := hc1.fr hnd ho; replace hc2 := hc2.fr hnd ho; replace x_b3 := x_b3.frame ho ne_b3_b6; replace a1 := a1.fr hnd ho; replace a2 := a2.fr hnd ho; replace b1 := b1.fr hnd ho; replace b2 := b2.fr hnd ho; replace x_b4 := x_b4.frame ho ne_b4_b6; replace x_b5 := x_b5.frame ho ne_b5_b6; replace d1 := d1.fr hnd ho; replace d2 := d2.fr hnd ho; replace s1 := s1.fr hnd ho; replace s2 := s2.fr hnd ho; replace t1 := t1.fr hnd ho; replace t2 := t2.fr hnd ho; replace x_b7 := x_b7.frame ho ne_b6_b7.symm; replace x_b8 := x_b8.frame ho ne_b6_b8.symm; replace hb := belowOnly hb ho kb_b6
  refine hK _ _ rfl ?_; clear hK K ho hnd
  refine wpSq_call rfl (by kernel_rfl) fun K hK => ?_
  obtain ⟨d0, d1, d2, d3⟩ := x_b7.f4
  have f0 := x_b7.free 0; have f1 := x_b7.free 1; have f2 := x_b7.free 2; have f3 := x_b7.free 3
  go_big_op
  have hnd := x_b7.nod rfl rfl
  obtain ⟨w_18, eW, x_b7', ho⟩ : ∃ w', ((((w_17.setCell ⟨p_b7, 0, none⟩ (.bool n_sa)).setCell ⟨p_b7, 1, none⟩ (.slice o_sa k_sa c_sa)).setCell ⟨p_b7, 2, none⟩ (.bool n_sb)).setCell ⟨p_b7, 3, none⟩ (.slice o_sb k_sb c_sb)) = w' ∧ Bs w' p_b7 #[.bool n_sa, .slice o_sa k_sa c_sa, .bool n_sb, .slice o_sb k_sb c_sb] 26 ∧ Only p_b7 w_17 w' := x_b7.setN [(0, .bool n_sa), (1, .slice o_sa k_sa c_sa), (2, .bool n_sb), (3, .slice o_sb k_sb c_sb)]
  rw [eW]; clear eW d0 d1 d2 d3 f0 f1 f2 f3 x_b7
  have x_b7 := x_b7'; clear x_b7'
  replace hc1 := hc1.fr hnd ho; replace hc2 := hc2.fr hnd ho; replace x_b3 := x_b3.frame ho ne_b3_b7; replace a1 := a1.fr hnd ho; replace a2 := a2.fr hnd ho; replace b1 := b1.fr hnd ho; replace b2 := b2.fr hnd ho; replace x_b4 := x_b4.frame ho ne_b4_b7; replace x_b5 := x_b5.frame ho ne_b5_b7; replace d1 := d1.fr hnd ho; replace d2 := d2.fr hnd ho; replace s1 := s1.fr hnd ho; replace s2 := s2.fr hnd ho; replace t1 := t1.fr hnd ho; replace t2 := t2.fr hnd ho; replace x_b6 := x_b6.frame ho ne_b6_b7; replace x_b8 := x_b8.frame ho ne_b7_b8.symm; replace hb := belowOnly hb ho kb_b7
  refine hK _ _ rfl ?_; clear hK K ho hnd
  refine wpSq_call rfl (by kernel_rfl) fun K hK => ?_
  obtain ⟨d0, d1, d2, d3⟩ := x_b8.f4
  have f0 := x_b8.free 0; have f1 := x_b8.free 1; have f2 := x_b8.free 2; have f3 := x_b8.free 3
  go_big_op
  have hnd := x_b8.nod rfl rfl
  obtain ⟨w_19, eW, x_b8', ho⟩ : ∃ w', ((((w_18.setCell ⟨p_b8, 0, none⟩ (.bool n_ta)).setCell ⟨p_b8, 1, none⟩ (.slice o_ta k_ta c_ta)).setCell ⟨p_b8, 2, none⟩ (.bool n_tb)).setCell ⟨p_b8, 3, none⟩ (.slice o_tb k_tb c_tb)) = w' ∧ Bs w' p_b8 #[.bool n_ta, .slice o_ta k_ta c_ta, .bool n_tb, .slice o_tb k_tb c_tb] 26 ∧ Only p_b8 w_18 w' := x_b8.setN [(0, .bool n_ta), (1, .slice o_ta k_ta c_ta), (2, .bool n_tb), (3, .slice o_tb k_tb c_tb)]
  rw [eW]; clear eW d0 d1 d2 d3 f0 f1 f2 f3 x_b8
  have x_b8 := x_b8'; clear x_b8'
  replace hc1 := hc1.fr hnd ho; replace hc2 := hc2.fr hnd ho; replace x_b3 := x_b3.frame ho ne_b3_b8; replace a1 := a1.fr hnd ho; replace a2 := a2.fr hnd ho; replace b1 := b1.fr hnd ho; replace b2 := b2.fr hnd ho; replace x_b4 := x_b4.frame ho ne_b4_b8; replace x_b5 := x_b5.frame ho ne_b5_b8; replace d1 := d1.fr hnd ho; replace d2 := d2.fr hnd ho; replace s1 := s1.fr hnd ho; replace s2 := s2.fr hnd ho; replace t1 := t1.fr hnd ho; replace t2 := t2.fr hnd ho; replace x_b6 := x_b6.frame ho ne_b6_b8; replace x_b7 := x_b7.frame ho ne_b7_b8; replace hb := belowOnly hb ho kb_b8
  refine hK _ _ rfl ?_; clear hK K ho hnd
  apply wpSq_end
  refine hK5 _ _ ?_
  refine wp_seq_k ?_
  intro K6 hK6
  refine wp_seq_k ?_
  intro K7 hK7
  refine wp_region_fl2 [(0, false), (1, false), (3, false), (4, false), (7, false), (2, true), (5, true), (6, true), (8, true), (9, false)] [] [] (fun _ => default) [0, 1, 99, 2, 3, 99, 99, 4, 99, 99] [] (fun w' => w'.cell? ⟨p_b4, 0, none⟩ = some (.bool n_aa) ∧ w'.cell? ⟨p_b4, 1, none⟩ = some (.slice o_aa k_aa c_aa) ∧ w'.cell? ⟨p_b4, 2, none⟩ = some (.bool n_ab) ∧ w'.cell? ⟨p_b4, 3, none⟩ = some (.slice o_ab k_ab c_ab) ∧ w'.cell? ⟨p_b7, 0, none⟩ = some (.bool n_sa) ∧ w'.cell? ⟨p_b7, 1, none⟩ = some (.slice o_sa k_sa c_sa) ∧ w'.cell? ⟨p_b7, 2, none⟩ = some (.bool n_sb) ∧ w'.cell? ⟨p_b7, 3, none⟩ = some (.slice o_sb k_sb c_sb) ∧ w'.cell? ⟨p_b5, 0, none⟩ = some (.bool n_ba) ∧ w'.cell? ⟨p_b5, 1, none⟩ = some (.slice o_ba k_ba c_ba) ∧ w'.cell? ⟨p_b5, 2, none⟩ = some (.bool n_bb) ∧ w'.cell? ⟨p_b5, 3, none⟩ = some (.slice o_bb k_bb c_bb) ∧ w'.cell? ⟨p_b8, 0, none⟩ = some (.bool n_ta) ∧ w'.cell? ⟨p_b8, 1, none⟩ = some (.slice o_ta k_ta c_ta) ∧ w'.cell? ⟨p_b8, 2, none⟩ = some (.bool n_tb) ∧ w'.cell? ⟨p_b8, 3, none⟩ = some (.slice o_tb k_tb c_tb) ∧ w'.cell? ⟨p_b6, 0, none⟩ = some (.bool n_da) ∧ w'.cell? ⟨p_b6, 1, none⟩ = some (.slice o_da k_da c_da) ∧ w'.cell? ⟨p_b6, 2, none⟩ = some (.bool n_db) ∧ w'.cell? ⟨p_b6, 3, none⟩ = some (.slice o_db k_db c_db)) [fun w' => w'.cell? ⟨p_b4, 0, none⟩ = some (.bool n_aa) ∧ w'.cell? ⟨p_b4, 1, none⟩ = some (.slice o_aa k_aa c_aa) ∧ w'.cell? ⟨p_b4, 2, none⟩ = some (.bool n_ab) ∧ w'.cell? ⟨p_b4, 3, none⟩ = some (.slice o_ab k_ab c_ab), fun w' => w'.cell? ⟨p_b7, 0, none⟩ = some (.bool n_sa) ∧ w'.cell? ⟨p_b7, 1, none⟩ = some (.slice o_sa k_sa c_sa) ∧ w'.cell? ⟨p_b7, 2, none⟩ = some (.bool n_sb) ∧ w'.cell? ⟨p_b7, 3, none⟩ = some (.slice o_sb k_sb c_sb), fun w' => w'.cell? ⟨p_b5, 0, none⟩ = some (.bool n_ba) ∧ w'.cell? ⟨p_b5, 1, none⟩ = some (.slice o_ba k_ba c_ba) ∧ w'.cell? ⟨p_b5, 2, none⟩ = some (.bool n_bb) ∧ w'.cell? ⟨p_b5, 3, none⟩ = some (.slice o_bb k_bb c_bb), fun w' => w'.cell? ⟨p_b8, 0, none⟩ = some (.bool n_ta) ∧ w'.cell? ⟨p_b8, 1, none⟩ = some (.slice o_ta k_ta c_ta) ∧ w'.cell? ⟨p_b8, 2, none⟩ = some (.bool n_tb) ∧ w'.cell? ⟨p_b8, 3, none⟩ = some (.slice o_tb k_tb c_tb), fun w' => w'.cell? ⟨p_b6, 0, none⟩ = some (.bool n_da) ∧ w'.cell? ⟨p_b6, 1, none⟩ = some (.slice o_da k_da c_da) ∧ w'.cell? ⟨p_b6, 2, none⟩ = some (.bool n_db) ∧ w'.cell? ⟨p_b6, 3, none⟩ = some (.slice o_db k_db c_db)] (by kernel_rfl) (by kernel_rfl) (by kernel_rfl) (by kernel_rfl) (by kernel_rfl) (by kernel_rfl) (by kernel_rfl) (by kernel_rfl) (by decide) (by intro j hj; cases hj) (by intro w' o hC; obtain ⟨c0, c1, c2, c3, c4, c5, c6, c7, c8, c9, c10, c11, c12, c13, c14, c15, c16, c17, c18, c19⟩ := hC; exact ⟨cell_alloc c0 o, cell_alloc c1 o, cell_alloc c2 o, cell_alloc c3 o, cell_alloc c4 o, cell_alloc c5 o, cell_alloc c6 o, cell_alloc c7 o, cell_alloc c8 o, cell_alloc c9 o, cell_alloc c10 o, cell_alloc c11 o, cell_alloc c12 o, cell_alloc c13 o, cell_alloc c14 o, cell_alloc c15 o, cell_alloc c16 o, cell_alloc c17 o, cell_alloc c18 o, cell_alloc c19 o⟩) (by intro w' hC G hG; obtain ⟨c0, c1, c2, c3, c4, c5, c6, c7, c8, c9, c10, c11, c12, c13, c14, c15, c16, c17, c18, c19⟩ := hC; simp only [List.mem_cons, List.not_mem_nil, or_false] at hG; rcases hG with rfl | rfl | rfl | rfl | rfl <;> first | exact ⟨c0, c1, c2, c3⟩ | exact ⟨c4, c5, c6, c7⟩ | exact ⟨c8, c9, c10, c11⟩ | exact ⟨c12, c13, c14, c15⟩ | exact ⟨c16, c17, c18, c19⟩) ?_
  have lt_b3 := x_b3.lt
  have lt_b4 := x_b4.lt
  have lt_b5 := x_b5.lt
  have lt_b6 := x_b6.lt
  have lt_b7 := x_b7.lt
  have lt_b8 := x_b8.lt
  intro w_20 hn
  replace lt_b3 := Nat.lt_of_lt_of_le lt_b3 hn.size
  replace lt_b4 := Nat.lt_of_lt_of_le lt_b4 hn.size
  replace lt_b5 := Nat.lt_of_lt_of_le lt_b5 hn.size
  replace lt_b6 := Nat.lt_of_lt_of_le lt_b6 hn.size
  replace lt_b7 := Nat.lt_of_lt_of_le lt_b7 hn.size
  replace lt_b8 := Nat.lt_of_lt_of_le lt_b8 hn.size
  replace hc1 := hc1.bl hn; replace hc2 := hc2.bl hn; replace x_b3 := x_b3.bl hn; replace a1 := a1.bl hn; replace a2 := a2.bl hn; replace b1 := b1.bl hn; replace b2 := b2.bl hn; replace x_b4 := x_b4.bl hn; replace x_b5 := x_b5.bl hn; replace d1 := d1.bl hn; replace d2 := d2.bl hn; replace s1 := s1.bl hn; replace s2 := s2.bl hn; replace t1 := t1.bl hn; replace t2 := t2.bl hn; replace x_b6 := x_b6.bl hn; replace x_b7 := x_b7.bl hn; replace x_b8 := x_b8.bl hn; replace hb := hb.trans (hn.mono hb.size)
  clear hn
  have kb0 := hb.size
  refine ⟨⟨x_b4.cell 0 rfl, x_b4.cell 1 rfl, x_b4.cell 2 rfl, x_b4.cell 3 rfl, x_b7.cell 0 rfl, x_b7.cell 1 rfl, x_b7.cell 2 rfl, x_b7.cell 3 rfl, x_b5.cell 0 rfl, x_b5.cell 1 rfl, x_b5.cell 2 rfl, x_b5.cell 3 rfl, x_b8.cell 0 rfl, x_b8.cell 1 rfl, x_b8.cell 2 rfl, x_b8.cell 3 rfl, x_b6.cell 0 rfl, x_b6.cell 1 rfl, x_b6.cell 2 rfl, x_b6.cell 3 rfl⟩, ?_⟩
  apply wpFl_ld rfl rfl; (case h1 => intro w' hC K hK; obtain ⟨c0, c1, c2, c3⟩ := hC; go_big_op; exact hK); iterate 4 kernel_rfl
  apply wpFl_ld rfl rfl; (case h1 => intro w' hC K hK; obtain ⟨c0, c1, c2, c3⟩ := hC; go_big_op; exact hK); iterate 4 kernel_rfl
  apply wpFl_ld rfl rfl; (case h1 => intro w' hC K hK; obtain ⟨c0, c1, c2, c3⟩ := hC; go_big_op; exact hK); iterate 4 kernel_rfl
  apply wpFl_ld rfl rfl; (case h1 => intro w' hC K hK; obtain ⟨c0, c1, c2, c3⟩ := hC; go_big_op; exact hK); iterate 4 kernel_rfl
  apply wpFl_ld rfl rfl; (case h1 => intro w' hC K hK; obtain ⟨c0, c1, c2, c3⟩ := hC; go_big_op; exact hK); iterate 4 kernel_rfl
  have Ld1 := hide (d1.lenOf (LD.out.1))
  have Ld2 := hide (d2.lenOf (LD.out.2))
  have Ls1 := hide (s1.lenOf (LS.out.1))
  have Ls2 := hide (s2.lenOf (LS.out.2))
  have Lt1 := hide (t1.lenOf (LT.out.1))
  have Lt2 := hide (t2.lenOf (LT.out.2))
  refine wpFl_call rfl (by kernel_rfl) fun w_21 hn hC => ?_; clear hC
  replace hc1 := hc1.bl hn; replace hc2 := hc2.bl hn; replace x_b3 := x_b3.bl hn; replace a1 := a1.bl hn; replace a2 := a2.bl hn; replace b1 := b1.bl hn; replace b2 := b2.bl hn; replace x_b4 := x_b4.bl hn; replace x_b5 := x_b5.bl hn; replace d1 := d1.bl hn; replace d2 := d2.bl hn; replace s1 := s1.bl hn; replace s2 := s2.bl hn; replace t1 := t1.bl hn; replace t2 := t2.bl hn; replace x_b6 := x_b6.bl hn; replace x_b7 := x_b7.bl hn; replace x_b8 := x_b8.bl hn; replace hb := hb.trans (hn.mono hb.size)
  clear hn; intro K hK
  go_big_op
  go_fit (gMul_any (PN.mk' (a1.zn La1.out) (a2.zn La2.out)) (PN.mk' (s1.zn Ls1.out) (s2.zn Ls2.out)) (by omega) (by omega) (by omega) (by omega) )
  rintro e w_22 ⟨_, rfl, ⟨n_ea, o_ea, k_ea, c_ea, n_eb, o_eb, k_eb, c_eb, rfl, e1, e2⟩, hb_22⟩
  replace hc1 := hc1.bl hb_22; replace hc2 := hc2.bl hb_22; replace x_b3 := x_b3.bl hb_22; replace a1 := a1.bl hb_22; replace a2 := a2.bl hb_22; replace b1 := b1.bl hb_22; replace b2 := b2.bl hb_22; replace x_b4 := x_b4.bl hb_22; replace x_b5 := x_b5.bl hb_22; replace d1 := d1.bl hb_22; replace d2 := d2.bl hb_22; replace s1 := s1.bl hb_22; replace s2 := s2.bl hb_22; replace t1 := t1.bl hb_22; replace t2 := t2.bl hb_22; replace x_b6 := x_b6.bl hb_22; replace x_b7 := x_b7.bl hb_22; replace x_b8 := x_b8.bl hb_22; replace hb := hb.trans (hb_22.mono hb.size)
  have Le1 := hide (e1.lenOf (zlen_sub (zlen_mul (La1.out) (Ls1.out)) (zlen_mul (La2.out) (Ls2.out))))
  have Le2 := hide (e2.lenOf (zlen_add (zlen_mul (La1.out) (Ls2.out)) (zlen_mul (La2.out) (Ls1.out))))
  refine hK _ _ rfl hb_22 ⟨x_b4.cell 0 rfl, x_b4.cell 1 rfl, x_b4.cell 2 rfl, x_b4.cell 3 rfl, x_b7.cell 0 rfl, x_b7.cell 1 rfl, x_b7.cell 2 rfl, x_b7.cell 3 rfl, x_b5.cell 0 rfl, x_b5.cell 1 rfl, x_b5.cell 2 rfl, x_b5.cell 3 rfl, x_b8.cell 0 rfl, x_b8.cell 1 rfl, x_b8.cell 2 rfl, x_b8.cell 3 rfl, x_b6.cell 0 rfl, x_b6.cell 1 rfl, x_b6.cell 2 rfl, x_b6.cell 3 rfl⟩ ?_
  clear hK K hb_22
  refine wpFl_call rfl (by kernel_rfl) fun w_23 hn hC => ?_; clear hC
  replace hc1 := hc1.bl hn; replace hc2 := hc2.bl hn; replace x_b3 := x_b3.bl hn; replace a1 := a1.bl hn; replace a2 := a2.bl hn; replace b1 := b1.bl hn; replace b2 := b2.bl hn; replace x_b4 := x_b4.bl hn; replace x_b5 := x_b5.bl hn; replace d1 := d1.bl hn; replace d2 := d2.bl hn; replace s1 := s1.bl hn; replace s2 := s2.bl hn; replace t1 := t1.bl hn; replace t2 := t2.bl hn; replace x_b6 := x_b6.bl hn; replace x_b7 := x_b7.bl hn; replace x_b8 := x_b8.bl hn; replace e1 := e1.bl hn; replace e2 := e2.bl hn; replace hb := hb.trans (hn.mono hb.size)
  clear hn; intro K hK
  go_big_op
  go_fit (gMul_any (PN.mk' (b1.zn Lb1.out) (b2.zn Lb2.out)) (PN.mk' (t1.zn Lt1.out) (t2.zn Lt2.out)) (by omega) (by omega) (by omega) (by omega) )
  rintro e w_24 ⟨_, rfl, ⟨n_fa, o_fa, k_fa, c_fa, n_fb, o_fb, k_fb, c_fb, rfl, f1, f2⟩, hb_24⟩
  replace hc1 := hc1.bl hb_24; replace hc2 := hc2.bl hb_24; replace x_b3 := x_b3.bl hb_24; replace a1 := a1.bl hb_24; replace a2 := a2.bl hb_24; replace b1 := b1.bl hb_24; replace b2 := b2.bl hb_24; replace x_b4 := x_b4.bl hb_24; replace x_b5 := x_b5.bl hb_24; replace d1 := d1.bl hb_24; replace d2 := d2.bl hb_24; replace s1 := s1.bl hb_24; replace s2 := s2.bl hb_24; replace t1 := t1.bl hb_24; replace t2 := t2.bl hb_24; replace x_b6 := x_b6.bl hb_24; replace x_b7 := x_b7.bl hb_24; replace x_b8 := x_b8.bl hb_24; replace e1 := e1.bl hb_24; replace e2 := e2.bl hb_24; replace hb := hb.trans (hb_24.mono hb.size)
  have Lf1 := hide (f1.lenOf (zlen_sub (zlen_mul (Lb1.out) (Lt1.out)) (zlen_mul (Lb2.out) (Lt2.out))))
  have Lf2 := hide (f2.lenOf (zlen_add (zlen_mul (Lb1.out) (Lt2.out)) (zlen_mul (Lb2.out) (Lt1.out))))
  refine hK _ _ rfl hb_24 ⟨x_b4.cell 0 rfl, x_b4.cell 1 rfl, x_b4.cell 2 rfl, x_b4.cell 3 rfl, x_b7.cell 0 rfl, x_b7.cell 1 rfl, x_b7.cell 2 rfl, x_b7.cell 3 rfl, x_b5.cell 0 rfl, x_b5.cell 1 rfl, x_b5.cell 2 rfl, x_b5.cell 3 rfl, x_b8.cell 0 rfl, x_b8.cell 1 rfl, x_b8.cell 2 rfl, x_b8.cell 3 rfl, x_b6.cell 0 rfl, x_b6.cell 1 rfl, x_b6.cell 2 rfl, x_b6.cell 3 rfl⟩ ?_
  clear hK K hb_24
  refine wpFl_call rfl (by kernel_rfl) fun w_25 hn hC => ?_; clear hC
  replace hc1 := hc1.bl hn; replace hc2 := hc2.bl hn; replace x_b3 := x_b3.bl hn; replace a1 := a1.bl hn; replace a2 := a2.bl hn; replace b1 := b1.bl hn; replace b2 := b2.bl hn; replace x_b4 := x_b4.bl hn; replace x_b5 := x_b5.bl hn; replace d1 := d1.bl hn; replace d2 := d2.bl hn; replace s1 := s1.bl hn; replace s2 := s2.bl hn; replace t1 := t1.bl hn; replace t2 := t2.bl hn; replace x_b6 := x_b6.bl hn; replace x_b7 := x_b7.bl hn; replace x_b8 := x_b8.bl hn; replace e1 := e1.bl hn; replace e2 := e2.bl hn; replace f1 := f1.bl hn; replace f2 := f2.bl hn; replace hb := hb.trans (hn.mono hb.size)
  clear hn; intro K hK
  go_big_op
  go_fit (gAdd_any (PN.mk' (e1.zn Le1.out) (e2.zn Le2.out)) (PN.mk' (f1.zn Lf1.out) (f2.zn Lf2.out)) (by omega) (by omega) (by omega) (by omega) )
  rintro e w_26 ⟨_, rfl, ⟨n_ga, o_ga, k_ga, c_ga, n_gb, o_gb, k_gb, c_gb, rfl, g1, g2⟩, hb_26⟩
  replace hc1 := hc1.bl hb_26; replace hc2 := hc2.bl hb_26; replace x_b3 := x_b3.bl hb_26; replace a1 := a1.bl hb_26; replace a2 := a2.bl hb_26; replace b1 := b1.bl hb_26; replace b2 := b2.bl hb_26; replace x_b4 := x_b4.bl hb_26; replace x_b5 := x_b5.bl hb_26; replace d1 := d1.bl hb_26; replace d2 := d2.bl hb_26; replace s1 := s1.bl hb_26; replace s2 := s2.bl hb_26; replace t1 := t1.bl hb_26; replace t2 := t2.bl hb_26; replace x_b6 := x_b6.bl hb_26; replace x_b7 := x_b7.bl hb_26; replace x_b8 := x_b8.bl hb_26; replace e1 := e1.bl hb_26; replace e2 := e2.bl hb_26; replace f1 := f1.bl hb_26; replace f2 := f2.bl hb_26; replace hb := hb.trans (hb_26.mono hb.size)
  have Lg1 := hide (g1.lenOf (zlen_add (Le1.out) (Lf1.out)))
  have Lg2 := hide (g2.lenOf (zlen_add (Le2.out) (Lf2.out)))
  rw [BZ.out.sum.1] at g1
  rw [BZ.out.sum.2] at g2
  refine hK _ _ rfl hb_26 ⟨x_b4.cell 0 rfl, x_b4.cell 1 rfl, x_b4.cell 2 rfl, x_b4.cell 3 rfl, x_b7.cell 0 rfl, x_b7.cell 1 rfl, x_b7.cell 2 rfl, x_b7.cell 3 rfl, x_b5.cell 0 rfl, x_b5.cell 1 rfl, x_b5.cell 2 rfl, x_b5.cell 3 rfl, x_b8.cell 0 rfl, x_b8.cell 1 rfl, x_b8.cell 2 rfl, x_b8.cell 3 rfl, x_b6.cell 0 rfl, x_b6.cell 1 rfl, x_b6.cell 2 rfl, x_b6.cell 3 rfl⟩ ?_
  clear hK K hb_26
  have Lg1 := hide (g1.lenOf (LD.out.1))
  have Lg2 := hide (g2.lenOf (LD.out.2))
  refine wpFl_call rfl (by kernel_rfl) fun w_27 hn hC => ?_; clear hC
  clear e1 e2 f1 f2
  replace hc1 := hc1.bl hn; replace hc2 := hc2.bl hn; replace x_b3 := x_b3.bl hn; replace a1 := a1.bl hn; replace a2 := a2.bl hn; replace b1 := b1.bl hn; replace b2 := b2.bl hn; replace x_b4 := x_b4.bl hn; replace x_b5 := x_b5.bl hn; replace d1 := d1.bl hn; replace d2 := d2.bl hn; replace s1 := s1.bl hn; replace s2 := s2.bl hn; replace t1 := t1.bl hn; replace t2 := t2.bl hn; replace x_b6 := x_b6.bl hn; replace x_b7 := x_b7.bl hn; replace x_b8 := x_b8.bl hn; replace g1 := g1.bl hn; replace g2 := g2.bl hn; replace hb := hb.trans (hn.mono hb.size)
  clear hn; intro K hK
  go_big_op
  go_fit (gEqual_yes (PN.mk' (g1.zn Lg1.out) (g2.zn Lg2.out)) (PN.mk' (d1.zn Ld1.out) (d2.zn Ld2.out)) (by omega) (by omega) (by omega) (by omega) rfl rfl)
  rintro e w_28 ⟨rfl, hb_28⟩
  replace hc1 := hc1.bl hb_28; replace hc2 := hc2.bl hb_28; replace x_b3 := x_b3.bl hb_28; replace a1 := a1.bl hb_28; replace a2 := a2.bl hb_28; replace b1 := b1.bl hb_28; replace b2 := b2.bl hb_28; replace x_b4 := x_b4.bl hb_28; replace x_b5 := x_b5.bl hb_28; replace d1 := d1.bl hb_28; replace d2 := d2.bl hb_28; replace s1 := s1.bl hb_28; replace s2 := s2.bl hb_28; replace t1 := t1.bl hb_28; replace t2 := t2.bl hb_28; replace x_b6 := x_b6.bl hb_28; replace x_b7 := x_b7.bl hb_28; replace x_b8 := x_b8.bl hb_28; replace g1 := g1.bl hb_28; replace g2 := g2.bl hb_28; replace hb := hb.trans (hb_28.mono hb.size)
  refine hK _ _ rfl hb_28 ⟨x_b4.cell 0 rfl, x_b4.cell 1 rfl, x_b4.cell 2 rfl, x_b4.cell 3 rfl, x_b7.cell 0 rfl, x_b7.cell 1 rfl, x_b7.cell 2 rfl, x_b7.cell 3 rfl, x_b5.cell 0 rfl, x_b5.cell 1 rfl, x_b5.cell 2 rfl, x_b5.cell 3 rfl, x_b8.cell 0 rfl, x_b8.cell 1 rfl, x_b8.cell 2 rfl, x_b8.cell 3 rfl, x_b6.cell 0 rfl, x_b6.cell 1 rfl, x_b6.cell 2 rfl, x_b6.cell 3 rfl⟩ ?_
  clear hK K hb_28
  apply wpFl_ld rfl rfl; (case h1 => intro w' hC K hK; go_big_op; exact hK); iterate 4 kernel_rfl
  apply wpFl_end
  case ha => intro pt; simp only [putF]; rfl
  case h =>
  intro w_29 pt hn hC hF hD
  clear hC
  clear g1 g2
  replace hc1 := hc1.bl hn; replace hc2 := hc2.bl hn; replace x_b3 := x_b3.bl hn; replace a1 := a1.bl hn; replace a2 := a2.bl hn; replace b1 := b1.bl hn; replace b2 := b2.bl hn; replace x_b4 := x_b4.bl hn; replace x_b5 := x_b5.bl hn; replace d1 := d1.bl hn; replace d2 := d2.bl hn; replace s1 := s1.bl hn; replace s2 := s2.bl hn; replace t1 := t1.bl hn; replace t2 := t2.bl hn; replace x_b6 := x_b6.bl hn; replace x_b7 := x_b7.bl hn; replace x_b8 := x_b8.bl hn; replace hb := hb.trans (hn.mono hb.size)
  clear hn
  clear hF hD
  clear pt
  clear kb0 lt_b3 lt_b4 lt_b5 lt_b6 lt_b7 lt_b8
  apply wpTail_end
  refine hK7 _ _ ?_
  refine wp_cond_false (congrArg Value.bool (show _ = false from (by first | rfl | assumption | (simp; done) | exact decide_eq_false (by omega) | omega))) ?_
  refine wp_skip ?_
  refine hK6 _ _ ?_
  refine wp_seq_k ?_
  intro K8 hK8
  refine wp_seq_k ?_
  intro K9 hK9
  refine wp_region_sq [0, 1, 2, 3] (by kernel_rfl) ?_
  refine wpSq_call rfl (by kernel_rfl) fun K hK => ?_
  obtain ⟨d0, d1, d2, d3⟩ := x_b6.f4
  go_big_op; refine hK _ _ rfl ?_; clear hK K d0 d1 d2 d3
  refine wpSq_call rfl (by kernel_rfl) fun K hK => ?_
  go_big_op
  go_fit (gNorm_any (PN.mk' (d1.zn Ld1.out) (d2.zn Ld2.out)) (by omega) (by omega) )
  rintro e w_30 ⟨v_h, rfl, h, hb_30⟩
  clear s1 s2 t1 t2 x_b7 x_b8
  replace hc1 := hc1.bl hb_30; replace hc2 := hc2.bl hb_30; replace x_b3 := x_b3.bl hb_30; replace a1 := a1.bl hb_30; replace a2 := a2.bl hb_30; replace b1 := b1.bl hb_30; replace b2 := b2.bl hb_30; replace x_b4 := x_b4.bl hb_30; replace x_b5 := x_b5.bl hb_30; replace d1 := d1.bl hb_30; replace d2 := d2.bl hb_30; replace x_b6 := x_b6.bl hb_30; replace hb := hb.trans (hb_30.mono hb.size)
  obtain ⟨n_h, o_h, k_h, c_h, rfl⟩ := h.open2
  have Lh := hide (h.lenOf (zlen_add (zlen_mul (Ld1.out) (Ld1.out)) (zlen_mul (Ld2.out) (Ld2.out))))
  refine hK _ _ rfl ?_
  clear hK K hb_30
  refine wpSq_call rfl (by kernel_rfl) fun K hK => ?_
  go_big_op
  go_fit (zsign_any (h.zn Lh.out) (by omega) )
  rintro e w_31 ⟨rfl, hb_31⟩
  replace hc1 := hc1.bl hb_31; replace hc2 := hc2.bl hb_31; replace x_b3 := x_b3.bl hb_31; replace a1 := a1.bl hb_31; replace a2 := a2.bl hb_31; replace b1 := b1.bl hb_31; replace b2 := b2.bl hb_31; replace x_b4 := x_b4.bl hb_31; replace x_b5 := x_b5.bl hb_31; replace d1 := d1.bl hb_31; replace d2 := d2.bl hb_31; replace x_b6 := x_b6.bl hb_31; replace h := h.bl hb_31; replace hb := hb.trans (hb_31.mono hb.size)
  rw [HS.out]
  refine hK _ _ rfl ?_
  clear hK K hb_31
  refine wpSq_call rfl (by kernel_rfl) fun K hK => ?_
  go_big_op; refine hK _ _ rfl ?_; clear hK K
  apply wpSq_end
  refine hK9 _ _ ?_
  refine wp_cond_false (congrArg Value.bool (show _ = false from (by first | rfl | assumption | (simp; done) | exact decide_eq_false (by omega) | omega))) ?_
  refine wp_skip ?_
  refine hK8 _ _ ?_
  refine wp_seq_k ?_
  intro K10 hK10
  refine wp_region_sq [0, 1, 2, 3, 4, 5, 6, 7, 8] (by kernel_rfl) ?_
  refine wpSq_call rfl (by kernel_rfl) fun K hK => ?_
  obtain ⟨d0, d1, d2, d3⟩ := x_b4.f4
  go_big_op; refine hK _ _ rfl ?_; clear hK K d0 d1 d2 d3
  refine wpSq_call rfl (by kernel_rfl) fun K hK => ?_
  obtain ⟨d0, d1, d2, d3⟩ := x_b6.f4
  go_big_op; refine hK _ _ rfl ?_; clear hK K d0 d1 d2 d3
  refine wpSq_call rfl (by kernel_rfl) fun K hK => ?_
  go_big_op
  go_fit (gExact_any (PN.mk' (a1.zn La1.out) (a2.zn La2.out)) (PN.mk' (d1.zn Ld1.out) (d2.zn Ld2.out)) (by omega) (by omega) (by omega) (by omega) HN.out BZ.out.e1.1 BZ.out.e1.2)
  rintro e w_32 ⟨_, rfl, ⟨n_ia, o_ia, k_ia, c_ia, n_ib, o_ib, k_ib, c_ib, rfl, i1, i2⟩, hb_32⟩
  clear x_b4 h
  replace hc1 := hc1.bl hb_32; replace hc2 := hc2.bl hb_32; replace x_b3 := x_b3.bl hb_32; replace a1 := a1.bl hb_32; replace a2 := a2.bl hb_32; replace b1 := b1.bl hb_32; replace b2 := b2.bl hb_32; replace x_b5 := x_b5.bl hb_32; replace d1 := d1.bl hb_32; replace d2 := d2.bl hb_32; replace x_b6 := x_b6.bl hb_32; replace hb := hb.trans (hb_32.mono hb.size)
  have Li1 := hide (i1.lenOf (fdiv_len (HN.out) (zlen_gT1 (La1.out) (La2.out) (Ld1.out) (Ld2.out))))
  have Li2 := hide (i2.lenOf (fdiv_len (HN.out) (zlen_gT2 (La1.out) (La2.out) (Ld1.out) (Ld2.out))))
  refine hK _ _ rfl ?_
  clear hK K hb_32
  refine wpSq_call rfl (by kernel_rfl) fun K hK => ?_
  go_big_move; refine hK _ _ rfl ?_; clear hK K
  refine wpSq_call rfl (by kernel_rfl) fun K hK => ?_
  go_big_op; refine hK _ _ rfl ?_; clear hK K
  refine wpSq_call rfl (by kernel_rfl) fun K hK => ?_
  go_big_op; refine hK _ _ rfl ?_; clear hK K
  refine wpSq_call rfl (by kernel_rfl) fun K hK => ?_
  go_big_op
  clear a1 a2
  have lt_b3 := x_b3.lt
  have lt_b5 := x_b5.lt
  have lt_b6 := x_b6.lt
  obtain ⟨p_b9, w_33, eP, eW, x_b9, hn, kb_b9⟩ := newBox w_32 #[.bool false, .slice none 0 0, .bool false, .slice none 0 0] 26 hb.size
  have ne_b3_b9 : Hid (p_b3 ≠ p_b9) := Nat.ne_of_lt (eP ▸ lt_b3)
  have ne_b5_b9 : Hid (p_b5 ≠ p_b9) := Nat.ne_of_lt (eP ▸ lt_b5)
  have ne_b6_b9 : Hid (p_b6 ≠ p_b9) := Nat.ne_of_lt (eP ▸ lt_b6)
  rw [eW, eP]
  clear eW eP lt_b3 lt_b5 lt_b6
  replace hc1 := hc1.bl hn; replace hc2 := hc2.bl hn; replace x_b3 := x_b3.bl hn; replace b1 := b1.bl hn; replace b2 := b2.bl hn; replace x_b5 := x_b5.bl hn; replace d1 := d1.bl hn; replace d2 := d2.bl hn; replace x_b6 := x_b6.bl hn; replace i1 := i1.bl hn; replace i2 := i2.bl hn; replace hb := hb.trans (hn.mono hb.size)
  refine hK _ _ rfl ?_; clear hK K hn
  refine wpSq_call rfl (by kernel_rfl) fun K hK => ?_
  obtain ⟨d0, d1, d2, d3⟩ := x_b9.f4
  have f0 := x_b9.free 0; have f1 := x_b9.free 1; have f2 := x_b9.free 2; have f3 := x_b9.free 3
  go_big_op
  have hnd := x_b9.nod rfl rfl
  obtain ⟨w_34, eW, x_b9', ho⟩ : ∃ w', ((((w_33.setCell ⟨p_b9, 0, none⟩ (.bool n_ia)).setCell ⟨p_b9, 1, none⟩ (.slice o_ia k_ia c_ia)).setCell ⟨p_b9, 2, none⟩ (.bool n_ib)).setCell ⟨p_b9, 3, none⟩ (.slice o_ib k_ib c_ib)) = w' ∧ Bs w' p_b9 #[.bool n_ia, .slice o_ia k_ia c_ia, .bool n_ib, .slice o_ib k_ib c_ib] 26 ∧ Only p_b9 w_33 w' := x_b9.setN [(0, .bool n_ia), (1, .slice o_ia k_ia c_ia), (2, .bool n_ib), (3, .slice o_ib k_ib c_ib)]
  rw [eW]; clear eW d0 d1 d2 d3 f0 f1 f2 f3 x_b9
  have x_b9 := x_b9'; clear x_b9'
  replace hc1 := hc1.fr hnd ho; replace hc2 := hc2.fr hnd ho; replace x_b3 := x_b3.frame ho ne_b3_b9; replace b1 := b1.fr hnd ho; replace b2 := b2.fr hnd ho; replace x_b5 := x_b5.frame ho ne_b5_b9; replace d1 := d1.fr hnd ho; replace d2 := d2.fr hnd ho; replace x_b6 := x_b6.frame ho ne_b6_b9; replace i1 := i1.fr hnd ho; replace i2 := i2.fr hnd ho; replace hb := belowOnly hb ho kb_b9
  refine hK _ _ rfl ?_; clear hK K ho hnd
  refine wpSq_call rfl (by kernel_rfl) fun K hK => ?_
  go_big_move; refine hK _ _ rfl ?_; clear hK K
  apply wpSq_end
  refine hK10 _ _ ?_
  refine wp_seq_k ?_
  intro K11 hK11
  refine wp_region_sq [0, 1, 2, 3, 4, 5, 6, 7, 8] (by kernel_rfl) ?_
  refine wpSq_call rfl (by kernel_rfl) fun K hK => ?_
  obtain ⟨d0, d1, d2, d3⟩ := x_b5.f4
  go_big_op; refine hK _ _ rfl ?_; clear hK K d0 d1 d2 d3
  refine wpSq_call rfl (by kernel_rfl) fun K hK => ?_
  obtain ⟨d0, d1, d2, d3⟩ := x_b6.f4
  go_big_op; refine hK _ _ rfl ?_; clear hK K d0 d1 d2 d3
  refine wpSq_call rfl (by kernel_rfl) fun K hK => ?_
  go_big_op
  go_fit (gExact_any (PN.mk' (b1.zn Lb1.out) (b2.zn Lb2.out)) (PN.mk' (d1.zn Ld1.out) (d2.zn Ld2.out)) (by omega) (by omega) (by omega) (by omega) HN.out BZ.out.e2.1 BZ.out.e2.2)
  rintro e w_35 ⟨_, rfl, ⟨n_ja, o_ja, k_ja, c_ja, n_jb, o_jb, k_jb, c_jb, rfl, j1, j2⟩, hb_35⟩
  clear x_b5 i1 i2 x_b9
  replace hc1 := hc1.bl hb_35; replace hc2 := hc2.bl hb_35; replace x_b3 := x_b3.bl hb_35; replace b1 := b1.bl hb_35; replace b2 := b2.bl hb_35; replace d1 := d1.bl hb_35; replace d2 := d2.bl hb_35; replace x_b6 := x_b6.bl hb_35; replace hb := hb.trans (hb_35.mono hb.size)
  have Lj1 := hide (j1.lenOf (fdiv_len (HN.out) (zlen_gT1 (Lb1.out) (Lb2.out) (Ld1.out) (Ld2.out))))
  have Lj2 := hide (j2.lenOf (fdiv_len (HN.out) (zlen_gT2 (Lb1.out) (Lb2.out) (Ld1.out) (Ld2.out))))
  refine hK _ _ rfl ?_
  clear hK K hb_35
  refine wpSq_call rfl (by kernel_rfl) fun K hK => ?_
  go_big_move; refine hK _ _ rfl ?_; clear hK K
  refine wpSq_call rfl (by kernel_rfl) fun K hK => ?_
  go_big_op; refine hK _ _ rfl ?_; clear hK K
  refine wpSq_call rfl (by kernel_rfl) fun K hK => ?_
  go_big_op; refine hK _ _ rfl ?_; clear hK K
  refine wpSq_call rfl (by kernel_rfl) fun K hK => ?_
  go_big_op
  clear b1 b2
  have lt_b3 := x_b3.lt
  have lt_b6 := x_b6.lt
  obtain ⟨p_b10, w_36, eP, eW, x_b10, hn, kb_b10⟩ := newBox w_35 #[.bool false, .slice none 0 0, .bool false, .slice none 0 0] 26 hb.size
  have ne_b3_b10 : Hid (p_b3 ≠ p_b10) := Nat.ne_of_lt (eP ▸ lt_b3)
  have ne_b6_b10 : Hid (p_b6 ≠ p_b10) := Nat.ne_of_lt (eP ▸ lt_b6)
  rw [eW, eP]
  clear eW eP lt_b3 lt_b6
  replace hc1 := hc1.bl hn; replace hc2 := hc2.bl hn; replace x_b3 := x_b3.bl hn; replace d1 := d1.bl hn; replace d2 := d2.bl hn; replace x_b6 := x_b6.bl hn; replace j1 := j1.bl hn; replace j2 := j2.bl hn; replace hb := hb.trans (hn.mono hb.size)
  refine hK _ _ rfl ?_; clear hK K hn
  refine wpSq_call rfl (by kernel_rfl) fun K hK => ?_
  obtain ⟨d0, d1, d2, d3⟩ := x_b10.f4
  have f0 := x_b10.free 0; have f1 := x_b10.free 1; have f2 := x_b10.free 2; have f3 := x_b10.free 3
  go_big_op
  have hnd := x_b10.nod rfl rfl
  obtain ⟨w_37, eW, x_b10', ho⟩ : ∃ w', ((((w_36.setCell ⟨p_b10, 0, none⟩ (.bool n_ja)).setCell ⟨p_b10, 1, none⟩ (.slice o_ja k_ja c_ja)).setCell ⟨p_b10, 2, none⟩ (.bool n_jb)).setCell ⟨p_b10, 3, none⟩ (.slice o_jb k_jb c_jb)) = w' ∧ Bs w' p_b10 #[.bool n_ja, .slice o_ja k_ja c_ja, .bool n_jb, .slice o_jb k_jb c_jb] 26 ∧ Only p_b10 w_36 w' := x_b10.setN [(0, .bool n_ja), (1, .slice o_ja k_ja c_ja), (2, .bool n_jb), (3, .slice o_jb k_jb c_jb)]
  rw [eW]; clear eW d0 d1 d2 d3 f0 f1 f2 f3 x_b10
  have x_b10 := x_b10'; clear x_b10'
  replace hc1 := hc1.fr hnd ho; replace hc2 := hc2.fr hnd ho; replace x_b3 := x_b3.frame ho ne_b3_b10; replace d1 := d1.fr hnd ho; replace d2 := d2.fr hnd ho; replace x_b6 := x_b6.frame ho ne_b6_b10; replace j1 := j1.fr hnd ho; replace j2 := j2.fr hnd ho; replace hb := belowOnly hb ho kb_b10
  refine hK _ _ rfl ?_; clear hK K ho hnd
  refine wpSq_call rfl (by kernel_rfl) fun K hK => ?_
  go_big_move; refine hK _ _ rfl ?_; clear hK K
  apply wpSq_end
  refine hK11 _ _ ?_
  refine wp_seq_k ?_
  intro K12 hK12
  refine wp_region_sq [0, 1, 2, 3, 4, 5, 6, 7, 8] (by kernel_rfl) ?_
  refine wpSq_call rfl (by kernel_rfl) fun K hK => ?_
  obtain ⟨d0, d1, d2, d3⟩ := x_b6.f4
  go_big_op; refine hK _ _ rfl ?_; clear hK K d0 d1 d2 d3
  refine wpSq_call rfl (by kernel_rfl) fun K hK => ?_
  obtain ⟨d0, d1, d2, d3⟩ := x_b3.f4
  go_big_op; refine hK _ _ rfl ?_; clear hK K d0 d1 d2 d3
  refine wpSq_call rfl (by kernel_rfl) fun K hK => ?_
  go_big_op
  go_fit (gExact_any (PN.mk' (d1.zn Ld1.out) (d2.zn Ld2.out)) (PN.mk' hc1 hc2) (by omega) (by omega) (by omega) (by omega) HE.out.1 HE.out.2.1 HE.out.2.2)
  rintro e w_38 ⟨_, rfl, ⟨n_oa, o_oa, k_oa, c_oa, n_ob, o_ob, k_ob, c_ob, rfl, o1, o2⟩, hb_38⟩
  clear x_b3 j1 j2 x_b10
  replace hc1 := hc1.bl hb_38; replace hc2 := hc2.bl hb_38; replace d1 := d1.bl hb_38; replace d2 := d2.bl hb_38; replace x_b6 := x_b6.bl hb_38; replace hb := hb.trans (hb_38.mono hb.size)
  have Lo1 := hide (o1.lenOf (fdiv_len (HE.out.1) (zlen_gT1 (Ld1.out) (Ld2.out) (hc1.len) (hc2.len))))
  have Lo2 := hide (o2.lenOf (fdiv_len (HE.out.1) (zlen_gT2 (Ld1.out) (Ld2.out) (hc1.len) (hc2.len))))
  refine hK _ _ rfl ?_
  clear hK K hb_38
  refine wpSq_call rfl (by kernel_rfl) fun K hK => ?_
  go_big_move; refine hK _ _ rfl ?_; clear hK K
  refine wpSq_call rfl (by kernel_rfl) fun K hK => ?_
  go_big_op; refine hK _ _ rfl ?_; clear hK K
  refine wpSq_call rfl (by kernel_rfl) fun K hK => ?_
  go_big_op; refine hK _ _ rfl ?_; clear hK K
  refine wpSq_call rfl (by kernel_rfl) fun K hK => ?_
  go_big_op
  clear hc1 hc2
  have lt_b6 := x_b6.lt
  obtain ⟨p_b11, w_39, eP, eW, x_b11, hn, kb_b11⟩ := newBox w_38 #[.bool false, .slice none 0 0, .bool false, .slice none 0 0] 26 hb.size
  have ne_b6_b11 : Hid (p_b6 ≠ p_b11) := Nat.ne_of_lt (eP ▸ lt_b6)
  rw [eW, eP]
  clear eW eP lt_b6
  replace d1 := d1.bl hn; replace d2 := d2.bl hn; replace x_b6 := x_b6.bl hn; replace o1 := o1.bl hn; replace o2 := o2.bl hn; replace hb := hb.trans (hn.mono hb.size)
  refine hK _ _ rfl ?_; clear hK K hn
  refine wpSq_call rfl (by kernel_rfl) fun K hK => ?_
  obtain ⟨d0, d1, d2, d3⟩ := x_b11.f4
  have f0 := x_b11.free 0; have f1 := x_b11.free 1; have f2 := x_b11.free 2; have f3 := x_b11.free 3
  go_big_op
  have hnd := x_b11.nod rfl rfl
  obtain ⟨w_40, eW, x_b11', ho⟩ : ∃ w', ((((w_39.setCell ⟨p_b11, 0, none⟩ (.bool n_oa)).setCell ⟨p_b11, 1, none⟩ (.slice o_oa k_oa c_oa)).setCell ⟨p_b11, 2, none⟩ (.bool n_ob)).setCell ⟨p_b11, 3, none⟩ (.slice o_ob k_ob c_ob)) = w' ∧ Bs w' p_b11 #[.bool n_oa, .slice o_oa k_oa c_oa, .bool n_ob, .slice o_ob k_ob c_ob] 26 ∧ Only p_b11 w_39 w' := x_b11.setN [(0, .bool n_oa), (1, .slice o_oa k_oa c_oa), (2, .bool n_ob), (3, .slice o_ob k_ob c_ob)]
  rw [eW]; clear eW d0 d1 d2 d3 f0 f1 f2 f3 x_b11
  have x_b11 := x_b11'; clear x_b11'
  replace d1 := d1.fr hnd ho; replace d2 := d2.fr hnd ho; replace x_b6 := x_b6.frame ho ne_b6_b11; replace o1 := o1.fr hnd ho; replace o2 := o2.fr hnd ho; replace hb := belowOnly hb ho kb_b11
  refine hK _ _ rfl ?_; clear hK K ho hnd
  refine wpSq_call rfl (by kernel_rfl) fun K hK => ?_
  go_big_move; refine hK _ _ rfl ?_; clear hK K
  apply wpSq_end
  refine hK12 _ _ ?_
  refine wp_seq_k ?_
  intro K13 hK13
  refine wp_region_sq [0, 1, 2, 3, 4, 5, 6, 7, 8, 9, 10, 11, 12, 13, 14, 15, 16, 17, 18, 19, 20, 21, 22] (by kernel_rfl) ?_
  refine wpSq_call rfl (by kernel_rfl) fun K hK => ?_
  go_big_move; refine hK _ _ rfl ?_; clear hK K
  refine wpSq_call rfl (by kernel_rfl) fun K hK => ?_
  go_big_op; refine hK _ _ rfl ?_; clear hK K
  refine wpSq_call rfl (by kernel_rfl) fun K hK => ?_
  go_big_move; refine hK _ _ rfl ?_; clear hK K
  refine wpSq_call rfl (by kernel_rfl) fun K hK => ?_
  go_big_move; refine hK _ _ rfl ?_; clear hK K
  refine wpSq_call rfl (by kernel_rfl) fun K hK => ?_
  go_big_op; refine hK _ _ rfl ?_; clear hK K
  refine wpSq_call rfl (by kernel_rfl) fun K hK => ?_
  go_big_op; refine hK _ _ rfl ?_; clear hK K
  refine wpSq_call rfl (by kernel_rfl) fun K hK => ?_
  go_big_move; refine hK _ _ rfl ?_; clear hK K
  refine wpSq_call rfl (by kernel_rfl) fun K hK => ?_
  go_big_move; refine hK _ _ rfl ?_; clear hK K
  refine wpSq_call rfl (by kernel_rfl) fun K hK => ?_
  go_big_op; refine hK _ _ rfl ?_; clear hK K
  refine wpSq_call rfl (by kernel_rfl) fun K hK => ?_
  go_big_op; refine hK _ _ rfl ?_; clear hK K
  refine wpSq_call rfl (by kernel_rfl) fun K hK => ?_
  go_big_move; refine hK _ _ rfl ?_; clear hK K
  refine wpSq_call rfl (by kernel_rfl) fun K hK => ?_
  go_big_op; refine hK _ _ rfl ?_; clear hK K
  refine wpSq_call rfl (by kernel_rfl) fun K hK => ?_
  obtain ⟨d0, d1, d2, d3⟩ := x_b6.f4
  go_big_op; refine hK _ _ rfl ?_; clear hK K d0 d1 d2 d3
  refine wpSq_call rfl (by kernel_rfl) fun K hK => ?_
  go_big_op
  go_fit (zsign_any (d1.zn Ld1.out) (by omega) )
  rintro e w_41 ⟨rfl, hb_41⟩
  clear o1 o2 x_b11
  replace d1 := d1.bl hb_41; replace d2 := d2.bl hb_41; replace x_b6 := x_b6.bl hb_41; replace hb := hb.trans (hb_41.mono hb.size)
  rw [HQ1.out]
  refine hK _ _ rfl ?_
  clear hK K hb_41
  refine wpSq_call rfl (by kernel_rfl) fun K hK => ?_
  go_big_op; refine hK _ _ rfl ?_; clear hK K
  refine wpSq_call rfl (by kernel_rfl) fun K hK => ?_
  go_big_op; refine hK _ _ rfl ?_; clear hK K
  refine wpSq_call rfl (by kernel_rfl) fun K hK => ?_
  go_big_move; refine hK _ _ rfl ?_; clear hK K
  refine wpSq_call rfl (by kernel_rfl) fun K hK => ?_
  go_big_op; refine hK _ _ rfl ?_; clear hK K
  refine wpSq_call rfl (by kernel_rfl) fun K hK => ?_
  obtain ⟨d0, d1, d2, d3⟩ := x_b6.f4
  go_big_op; refine hK _ _ rfl ?_; clear hK K d0 d1 d2 d3
  refine wpSq_call rfl (by kernel_rfl) fun K hK => ?_
  go_big_op
  go_fit (zsign_any (d2.zn Ld2.out) (by omega) )
  rintro e w_42 ⟨rfl, hb_42⟩
  clear d1 x_b6
  replace d2 := d2.bl hb_42; replace hb := hb.trans (hb_42.mono hb.size)
  rw [HG.out]
  refine hK _ _ rfl ?_
  clear hK K hb_42
  refine wpSq_call rfl (by kernel_rfl) fun K hK => ?_
  go_big_op; refine hK _ _ rfl ?_; clear hK K
  refine wpSq_call rfl (by kernel_rfl) fun K hK => ?_
  go_big_op; refine hK _ _ rfl ?_; clear hK K
  refine wpSq_call rfl (by kernel_rfl) fun K hK => ?_
  go_big_move; refine hK _ _ rfl ?_; clear hK K
  apply wpSq_end
  refine hK13 _ _ ?_
  refine wp_ret ?_
  try dsimp only [Exit.then, Exit.inBlock]
  refine bodyPost_ret (v := (.bool true)) (by simp [results, Tryd.results8, go_sem]) rfl ?_
  exact ⟨rfl, hb⟩
end
theorem walk_GintBezout (w : World) (n1 : Bool) (s1 : Value) (xs : List Nat) (h1 : Rd w s1 xs) (l1 : xs.length ≤ 1048576) (n2 : Bool) (s2 : Value) (ys : List Nat) (h2 : Rd w s2 ys) (l2 : ys.length ≤ 1048576)
    (n3 : Bool) (s3 : Value) (us : List Nat) (h3 : Rd w s3 us) (l3 : us.length ≤ 1048576) (n4 : Bool) (s4 : Value) (vs : List Nat) (h4 : Rd w s4 vs) (l4 : vs.length ≤ 1048576)
    (n5 : Bool) (s5 : Value) (ps : List Nat) (h5 : Rd w s5 ps) (l5 : ps.length ≤ 1048576) (n6 : Bool) (s6 : Value) (qs : List Nat) (h6 : Rd w s6 qs) (l6 : qs.length ≤ 1048576) (htab : Lib.TabIs Tryd.prog w p10 .u64 Lib.pow10Tab) :
    Calls Tryd.prog 8 #[.agg #[.bool n1, s1, .bool n2, s2], .agg #[.bool n3, s3, .bool n4, s4], .agg #[.bool n5, s5, .bool n6, s6]] w fun e w' => e = .returned (.bool true) ∧ Below w.heap.size w w' := by
  have ha := PN.of_rd n1 n2 h1 l1 h2 l2
  have hq := PN.of_rd n3 n4 h3 l3 h4 l4
  have hc := PN.of_rd n5 n6 h5 l5 h6 l6
  by_cases h0 : gN (GS.start (zv n1 xs * zv n5 ps - zv n2 ys * zv n6 qs) (zv n1 xs * zv n6 qs + zv n2 ys * zv n5 ps) (zv n3 us * zv n5 ps - zv n4 vs * zv n6 qs) (zv n3 us * zv n6 qs + zv n4 vs * zv n5 ps)).fin.r1 (GS.start (zv n1 xs * zv n5 ps - zv n2 ys * zv n6 qs) (zv n1 xs * zv n6 qs + zv n2 ys * zv n5 ps) (zv n3 us * zv n5 ps - zv n4 vs * zv n6 qs) (zv n3 us * zv n6 qs + zv n4 vs * zv n5 ps)).fin.r2 = 0
  · exact bezout_zero ha hq hc h0 htab
  · exact bezout_some ha hq hc h0 htab
end Go.Proofs.YtgjainmfilkjmaaDoor

