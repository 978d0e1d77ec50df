/- The reference's Xgcd. -/
import Derived.Test.YtgjainmfilkjmaaGreatDoorG16ToG18
namespace Go.Proofs.YtgjainmfilkjmaaGreatDoor
open Go Go.RowKit Dig
set_option linter.unusedVariables false

section
variable {w : World} {va vb : Value} {x y u v : Int} {l m k n : Nat}
set_option maxHeartbeats 8000000 in
set_option maxRecDepth 20000 in
theorem rgxgcd_any {L : Nat} (ha : PN w va x L y L) (hq : PN w vb u L v L) (hL : L + 1 ≤ 1900000) :
    Calls Tryz.prog 21 #[va, vb] w fun e w' => ∃ v1 v2 v3, e = .returned (.tuple #[v1, v2, v3]) ∧ PC w' v1 (turn (kq (GS.start x y u v).fin.r1 (GS.start x y u v).fin.r2) ((GS.start x y u v).fin.r1, (GS.start x y u v).fin.r2)).1 (turn (kq (GS.start x y u v).fin.r1 (GS.start x y u v).fin.r2) ((GS.start x y u v).fin.r1, (GS.start x y u v).fin.r2)).2 ∧
      PC w' v2 (turn (kq (GS.start x y u v).fin.r1 (GS.start x y u v).fin.r2) ((GS.start x y u v).fin.x1, (GS.start x y u v).fin.x2)).1 (turn (kq (GS.start x y u v).fin.r1 (GS.start x y u v).fin.r2) ((GS.start x y u v).fin.x1, (GS.start x y u v).fin.x2)).2 ∧
      PC w' v3 (turn (kq (GS.start x y u v).fin.r1 (GS.start x y u v).fin.r2) ((GS.start x y u v).fin.y1, (GS.start x y u v).fin.y2)).1 (turn (kq (GS.start x y u v).fin.r1 (GS.start x y u v).fin.r2) ((GS.start x y u v).fin.y1, (GS.start x y u v).fin.y2)).2 ∧ Below w.heap.size w w' := by
  have LL := hide (And.intro (And.intro ha.len1 ha.len2) (And.intro hq.len1 hq.len2))
  have hst : GI x y u v (GS.start x y u v) := GI.start x y u v
  have HST := hide hst
  have L1 := hide (show (dig (Int.natAbs 1)).length ≤ L + 1 by rw [show (dig (Int.natAbs 1)).length = 1 by decide]; omega)
  have L0 := hide (show (dig (Int.natAbs 0)).length ≤ L + 1 by rw [show (dig (Int.natAbs 0)).length = 0 by decide]; omega)
  obtain ⟨F, hF⟩ : ∃ F, (GS.start x y u v).fin = F := ⟨_, rfl⟩
  rw [hF]
  have HF := hide hF
  have HM := hide (kq_mod F.r1 F.r2)
  obtain ⟨N, hN⟩ : ∃ N, (gN u v).toNat = N := ⟨_, rfl⟩
  have HN := hide hN
  clear hst hF hN
  obtain ⟨n_0a, o_0a, k_0a, c_0a, n_0b, o_0b, k_0b, c_0b, rfl, ha1, ha2⟩ := ha
  obtain ⟨n_1a, o_1a, k_1a, c_1a, n_1b, o_1b, k_1b, c_1b, rfl, hq1, hq2⟩ := hq
  go_enter Tryz.func21, Tryz.ntmps21
  have hb := Below.refl w.heap.size w
  refine wp_seq_k ?_
  intro K1 hK1
  refine wp_region_sq [0, 1, 2, 3, 4] (by kernel_rfl) ?_
  refine wpSq_call rfl (by kernel_rfl) fun K hK => ?_
  go_big_op
  obtain ⟨p_b1, w_1, eP, eW, x_b1, hn, kb_b1⟩ := newBox w #[.bool n_0a, .slice o_0a k_0a c_0a, .bool n_0b, .slice o_0b k_0b c_0b] 29 hb.size
  rw [eW, eP]
  clear eW eP
  replace ha1 := ha1.bl hn; replace ha2 := ha2.bl hn; replace hq1 := hq1.bl hn; replace hq2 := hq2.bl hn; replace hb := hb.trans (hn.mono hb.size)
  refine hK _ _ rfl ?_; clear hK K hn
  refine wpSq_call rfl (by kernel_rfl) fun K hK => ?_
  go_big_op
  have lt_b1 := x_b1.lt
  obtain ⟨p_b2, w_2, eP, eW, x_b2, hn, kb_b2⟩ := newBox w_1 #[.bool n_1a, .slice o_1a k_1a c_1a, .bool n_1b, .slice o_1b k_1b c_1b] 29 hb.size
  have ne_b1_b2 : Hid (p_b1 ≠ p_b2) := Nat.ne_of_lt (eP ▸ lt_b1)
  rw [eW, eP]
  clear eW eP lt_b1
  replace ha1 := ha1.bl hn; replace ha2 := ha2.bl hn; replace hq1 := hq1.bl hn; replace hq2 := hq2.bl hn; replace x_b1 := x_b1.bl hn; replace hb := hb.trans (hn.mono hb.size)
  refine hK _ _ rfl ?_; clear hK K hn
  refine wpSq_call rfl (by kernel_rfl) fun K hK => ?_
  go_big_op
  have lt_b1 := x_b1.lt
  have lt_b2 := x_b2.lt
  obtain ⟨p_b3, w_3, eP, eW, x_b3, hn, kb_b3⟩ := newBox w_2 #[.bool false, .slice none 0 0, .bool false, .slice none 0 0] 29 hb.size
  have ne_b1_b3 : Hid (p_b1 ≠ p_b3) := Nat.ne_of_lt (eP ▸ lt_b1)
  have ne_b2_b3 : Hid (p_b2 ≠ p_b3) := Nat.ne_of_lt (eP ▸ lt_b2)
  rw [eW, eP]
  clear eW eP lt_b1 lt_b2
  replace ha1 := ha1.bl hn; replace ha2 := ha2.bl hn; replace hq1 := hq1.bl hn; replace hq2 := hq2.bl hn; replace x_b1 := x_b1.bl hn; replace x_b2 := x_b2.bl hn; replace hb := hb.trans (hn.mono hb.size)
  refine hK _ _ rfl ?_; clear hK K hn
  refine wpSq_call rfl (by kernel_rfl) fun K hK => ?_
  go_big_op
  have lt_b1 := x_b1.lt
  have lt_b2 := x_b2.lt
  have lt_b3 := x_b3.lt
  obtain ⟨p_b4, w_4, eP, eW, x_b4, hn, kb_b4⟩ := newBox w_3 #[.bool false, .slice none 0 0, .bool false, .slice none 0 0] 29 hb.size
  have ne_b1_b4 : Hid (p_b1 ≠ p_b4) := Nat.ne_of_lt (eP ▸ lt_b1)
  have ne_b2_b4 : Hid (p_b2 ≠ p_b4) := Nat.ne_of_lt (eP ▸ lt_b2)
  have ne_b3_b4 : Hid (p_b3 ≠ p_b4) := Nat.ne_of_lt (eP ▸ lt_b3)
  rw [eW, eP]
  clear eW eP lt_b1 lt_b2 lt_b3
  replace ha1 := ha1.bl hn; replace ha2 := ha2.bl hn; replace hq1 := hq1.bl hn; replace hq2 := hq2.bl hn; replace x_b1 := x_b1.bl hn; replace x_b2 := x_b2.bl hn; replace x_b3 := x_b3.bl hn; replace hb := hb.trans (hn.mono hb.size)
  refine hK _ _ rfl ?_; clear hK K hn
  refine wpSq_call rfl (by kernel_rfl) fun K hK => ?_
  go_big_op
  have lt_b1 := x_b1.lt
  have lt_b2 := x_b2.lt
  have lt_b3 := x_b3.lt
  have lt_b4 := x_b4.lt
  obtain ⟨p_b5, w_5, eP, eW, x_b5, hn, kb_b5⟩ := newBox w_4 #[.bool false, .slice none 0 0, .bool false, .slice none 0 0] 29 hb.size
  have ne_b1_b5 : Hid (p_b1 ≠ p_b5) := Nat.ne_of_lt (eP ▸ lt_b1)
  have ne_b2_b5 : Hid (p_b2 ≠ p_b5) := Nat.ne_of_lt (eP ▸ lt_b2)
  have ne_b3_b5 : Hid (p_b3 ≠ p_b5) := Nat.ne_of_lt (eP ▸ lt_b3)
  have ne_b4_b5 : Hid (p_b4 ≠ p_b5) := Nat.ne_of_lt (eP ▸ lt_b4)
  rw [eW, eP]
  clear eW eP lt_b1 lt_b2 lt_b3 lt_b4
  replace ha1 := ha1.bl hn; replace ha2 := ha2.bl hn; replace hq1 := hq1.bl hn; replace hq2 := hq2.bl hn; replace x_b1 := x_b1.bl hn; replace x_b2 := x_b2.bl hn; replace x_b3 := x_b3.bl hn; replace x_b4 := x_b4.bl hn; replace hb := hb.trans (hn.mono hb.size)
  refine hK _ _ rfl ?_; clear hK K hn
  apply wpSq_end
  refine hK1 _ _ ?_
  refine wp_seq_k ?_
  intro K2 hK2
  refine wp_region_fl2 [(0, false), (2, false), (1, true), (3, true)] [6, 7] [4, 5] (fun j => if j = 4 then (.cells #[.bool false, .slice none 0 0, .bool false, .slice none 0 0] 29) else (.cells #[.bool false, .slice none 0 0, .bool false, .slice none 0 0] 29)) [0, 99, 1, 99, 99, 99, 99, 99] [] (fun w' => w'.cell? ⟨p_b1, 0, none⟩ = some (.bool n_0a) ∧ w'.cell? ⟨p_b1, 1, none⟩ = some (.slice o_0a k_0a c_0a) ∧ w'.cell? ⟨p_b1, 2, none⟩ = some (.bool n_0b) ∧ w'.cell? ⟨p_b1, 3, none⟩ = some (.slice o_0b k_0b c_0b) ∧ w'.cell? ⟨p_b2, 0, none⟩ = some (.bool n_1a) ∧ w'.cell? ⟨p_b2, 1, none⟩ = some (.slice o_1a k_1a c_1a) ∧ w'.cell? ⟨p_b2, 2, none⟩ = some (.bool n_1b) ∧ w'.cell? ⟨p_b2, 3, none⟩ = some (.slice o_1b k_1b c_1b)) [fun w' => w'.cell? ⟨p_b1, 0, none⟩ = some (.bool n_0a) ∧ w'.cell? ⟨p_b1, 1, none⟩ = some (.slice o_0a k_0a c_0a) ∧ w'.cell? ⟨p_b1, 2, none⟩ = some (.bool n_0b) ∧ w'.cell? ⟨p_b1, 3, none⟩ = some (.slice o_0b k_0b c_0b), fun w' => w'.cell? ⟨p_b2, 0, none⟩ = some (.bool n_1a) ∧ w'.cell? ⟨p_b2, 1, none⟩ = some (.slice o_1a k_1a c_1a) ∧ w'.cell? ⟨p_b2, 2, none⟩ = some (.bool n_1b) ∧ w'.cell? ⟨p_b2, 3, none⟩ = some (.slice o_1b k_1b c_1b)] (by kernel_rfl) (by kernel_rfl) (by kernel_rfl) (by kernel_rfl) (by kernel_rfl) (by kernel_rfl) (by kernel_rfl) (by kernel_rfl) (by decide) (by intro j hj; simp only [List.mem_cons, List.not_mem_nil, or_false] at hj; rcases hj with rfl | rfl; all_goals exact ⟨_, rfl, rfl, fun ρ w => by unfold ptr; simp [go_sem]⟩) (by intro w' o hC; obtain ⟨c0, c1, c2, c3, c4, c5, c6, c7⟩ := hC; exact ⟨cell_alloc c0 o, cell_alloc c1 o, cell_alloc c2 o, cell_alloc c3 o, cell_alloc c4 o, cell_alloc c5 o, cell_alloc c6 o, cell_alloc c7 o⟩) (by intro w' hC G hG; obtain ⟨c0, c1, c2, c3, c4, c5, c6, c7⟩ := hC; simp only [List.mem_cons, List.not_mem_nil, or_false] at hG; rcases hG with rfl | rfl <;> first | exact ⟨c0, c1, c2, c3⟩ | exact ⟨c4, c5, c6, c7⟩) ?_
  have lt_b1 := x_b1.lt
  have lt_b2 := x_b2.lt
  have lt_b3 := x_b3.lt
  have lt_b4 := x_b4.lt
  have lt_b5 := x_b5.lt
  intro w_6 hn
  replace lt_b1 := Nat.lt_of_lt_of_le lt_b1 hn.size
  replace lt_b2 := Nat.lt_of_lt_of_le lt_b2 hn.size
  replace lt_b3 := Nat.lt_of_lt_of_le lt_b3 hn.size
  replace lt_b4 := Nat.lt_of_lt_of_le lt_b4 hn.size
  replace lt_b5 := Nat.lt_of_lt_of_le lt_b5 hn.size
  replace ha1 := ha1.bl hn; replace ha2 := ha2.bl hn; replace hq1 := hq1.bl hn; replace hq2 := hq2.bl hn; replace x_b1 := x_b1.bl hn; replace x_b2 := x_b2.bl hn; replace x_b3 := x_b3.bl hn; replace x_b4 := x_b4.bl hn; replace x_b5 := x_b5.bl hn; replace hb := hb.trans (hn.mono hb.size)
  clear hn
  have kb0 := hb.size
  refine ⟨⟨x_b1.cell 0 rfl, x_b1.cell 1 rfl, x_b1.cell 2 rfl, x_b1.cell 3 rfl, x_b2.cell 0 rfl, x_b2.cell 1 rfl, x_b2.cell 2 rfl, x_b2.cell 3 rfl⟩, ?_⟩
  apply wpFl_ld rfl rfl; (case h1 => intro w' hC K hK; obtain ⟨c0, c1, c2, c3⟩ := hC; go_big_op; exact hK); iterate 4 kernel_rfl
  apply wpFl_ld rfl rfl; (case h1 => intro w' hC K hK; obtain ⟨c0, c1, c2, c3⟩ := hC; go_big_op; exact hK); iterate 4 kernel_rfl
  refine wpFl_call rfl (by kernel_rfl) fun w_7 hn hC => ?_; clear hC
  replace ha1 := ha1.bl hn; replace ha2 := ha2.bl hn; replace hq1 := hq1.bl hn; replace hq2 := hq2.bl hn; replace x_b1 := x_b1.bl hn; replace x_b2 := x_b2.bl hn; replace x_b3 := x_b3.bl hn; replace x_b4 := x_b4.bl hn; replace x_b5 := x_b5.bl hn; replace hb := hb.trans (hn.mono hb.size)
  clear hn; intro K hK
  go_big_op
  go_fit (rgCanonical_any (PN.mk' ha1 ha2) (by omega) (by omega) )
  rintro e w_8 ⟨_, rfl, ⟨n_ca, o_ca, k_ca, c_ca, n_cb, o_cb, k_cb, c_cb, rfl, c1, c2⟩, hb_8⟩
  replace ha1 := ha1.bl hb_8; replace ha2 := ha2.bl hb_8; replace hq1 := hq1.bl hb_8; replace hq2 := hq2.bl hb_8; replace x_b1 := x_b1.bl hb_8; replace x_b2 := x_b2.bl hb_8; replace x_b3 := x_b3.bl hb_8; replace x_b4 := x_b4.bl hb_8; replace x_b5 := x_b5.bl hb_8; replace hb := hb.trans (hb_8.mono hb.size)
  have Lc1 := hide (c1.lenOf ((ha1.len)))
  have Lc2 := hide (c2.lenOf ((ha2.len)))
  refine hK _ _ rfl hb_8 ⟨x_b1.cell 0 rfl, x_b1.cell 1 rfl, x_b1.cell 2 rfl, x_b1.cell 3 rfl, x_b2.cell 0 rfl, x_b2.cell 1 rfl, x_b2.cell 2 rfl, x_b2.cell 3 rfl⟩ ?_
  clear hK K hb_8
  refine wpFl_call rfl (by kernel_rfl) fun w_9 hn hC => ?_; clear hC
  replace ha1 := ha1.bl hn; replace ha2 := ha2.bl hn; replace hq1 := hq1.bl hn; replace hq2 := hq2.bl hn; replace x_b1 := x_b1.bl hn; replace x_b2 := x_b2.bl hn; replace x_b3 := x_b3.bl hn; replace x_b4 := x_b4.bl hn; replace x_b5 := x_b5.bl hn; replace c1 := c1.bl hn; replace c2 := c2.bl hn; replace hb := hb.trans (hn.mono hb.size)
  clear hn; intro K hK
  go_big_op
  go_fit (rgCanonical_any (PN.mk' hq1 hq2) (by omega) (by omega) )
  rintro e w_10 ⟨_, rfl, ⟨n_da, o_da, k_da, c_da, n_db, o_db, k_db, c_db, rfl, d1, d2⟩, hb_10⟩
  replace ha1 := ha1.bl hb_10; replace ha2 := ha2.bl hb_10; replace hq1 := hq1.bl hb_10; replace hq2 := hq2.bl hb_10; replace x_b1 := x_b1.bl hb_10; replace x_b2 := x_b2.bl hb_10; replace x_b3 := x_b3.bl hb_10; replace x_b4 := x_b4.bl hb_10; replace x_b5 := x_b5.bl hb_10; replace c1 := c1.bl hb_10; replace c2 := c2.bl hb_10; replace hb := hb.trans (hb_10.mono hb.size)
  have Ld1 := hide (d1.lenOf ((hq1.len)))
  have Ld2 := hide (d2.lenOf ((hq2.len)))
  refine hK _ _ rfl hb_10 ⟨x_b1.cell 0 rfl, x_b1.cell 1 rfl, x_b1.cell 2 rfl, x_b1.cell 3 rfl, x_b2.cell 0 rfl, x_b2.cell 1 rfl, x_b2.cell 2 rfl, x_b2.cell 3 rfl⟩ ?_
  clear hK K hb_10
  apply wpFl_end
  case ha => intro pt; simp only [putF, nthO, Act.put, ptr, List.setIfInBounds_toArray, List.set_cons_succ, List.set_cons_zero]; rfl
  case h =>
  intro w_11 pt hn hC hF hD
  clear hC
  replace ha1 := ha1.bl hn; replace ha2 := ha2.bl hn; replace hq1 := hq1.bl hn; replace hq2 := hq2.bl hn; replace x_b1 := x_b1.bl hn; replace x_b2 := x_b2.bl hn; replace x_b3 := x_b3.bl hn; replace x_b4 := x_b4.bl hn; replace x_b5 := x_b5.bl hn; replace c1 := c1.bl hn; replace c2 := c2.bl hn; replace d1 := d1.bl hn; replace d2 := d2.bl hn; replace hb := hb.trans (hn.mono hb.size)
  clear hn
  obtain ⟨kB_b6, x_b6⟩ := hF 4 (by decide)
  replace x_b6 : Bs w_11 (pt 4) #[.bool false, .slice none 0 0, .bool false, .slice none 0 0] 29 := x_b6
  obtain ⟨kB_b7, x_b7⟩ := hF 5 (by decide)
  replace x_b7 : Bs w_11 (pt 5) #[.bool false, .slice none 0 0, .bool false, .slice none 0 0] 29 := x_b7
  have ne_b6_b7 := hide (hD 4 (by decide) 5 (by decide) (by decide))
  clear hF hD
  generalize pt 4 = p_b6 at *
  generalize pt 5 = p_b7 at *
  clear pt
  have kb_b6 := hide (Nat.le_trans kb0 kB_b6)
  have ne_b1_b6 : Hid (p_b1 ≠ p_b6) := Nat.ne_of_lt (Nat.lt_of_lt_of_le lt_b1 kB_b6)
  have ne_b2_b6 : Hid (p_b2 ≠ p_b6) := Nat.ne_of_lt (Nat.lt_of_lt_of_le lt_b2 kB_b6)
  have ne_b3_b6 : Hid (p_b3 ≠ p_b6) := Nat.ne_of_lt (Nat.lt_of_lt_of_le lt_b3 kB_b6)
  have ne_b4_b6 : Hid (p_b4 ≠ p_b6) := Nat.ne_of_lt (Nat.lt_of_lt_of_le lt_b4 kB_b6)
  have ne_b5_b6 : Hid (p_b5 ≠ p_b6) := Nat.ne_of_lt (Nat.lt_of_lt_of_le lt_b5 kB_b6)
  clear kB_b6
  have kb_b7 := hide (Nat.le_trans kb0 kB_b7)
  have ne_b1_b7 : Hid (p_b1 ≠ p_b7) := Nat.ne_of_lt (Nat.lt_of_lt_of_le lt_b1 kB_b7)
  have ne_b2_b7 : Hid (p_b2 ≠ p_b7) := Nat.ne_of_lt (Nat.lt_of_lt_of_le lt_b2 kB_b7)
  have ne_b3_b7 : Hid (p_b3 ≠ p_b7) := Nat.ne_of_lt (Nat.lt_of_lt_of_le lt_b3 kB_b7)
  have ne_b4_b7 : Hid (p_b4 ≠ p_b7) := Nat.ne_of_lt (Nat.lt_of_lt_of_le lt_b4 kB_b7)
  have ne_b5_b7 : Hid (p_b5 ≠ p_b7) := Nat.ne_of_lt (Nat.lt_of_lt_of_le lt_b5 kB_b7)
  clear kB_b7
  clear kb0 lt_b1 lt_b2 lt_b3 lt_b4 lt_b5
  refine wpTail_call rfl (by kernel_rfl) fun K hK => ?_
  obtain ⟨d0, d1, d2, d3⟩ := x_b6.f4
  have f0 := x_b6.free 0; have f1 := x_b6.free 1; have f2 := x_b6.free 2; have f3 := x_b6.free 3
  go_big_op
  have hnd := x_b6.nod rfl rfl
  obtain ⟨w_12, eW, x_b6', ho⟩ : ∃ w', ((((w_11.setCell ⟨p_b6, 0, none⟩ (.bool n_ca)).setCell ⟨p_b6, 1, none⟩ (.slice o_ca k_ca c_ca)).setCell ⟨p_b6, 2, none⟩ (.bool n_cb)).setCell ⟨p_b6, 3, none⟩ (.slice o_cb k_cb c_cb)) = w' ∧ Bs w' p_b6 #[.bool n_ca, .slice o_ca k_ca c_ca, .bool n_cb, .slice o_cb k_cb c_cb] 29 ∧ Only p_b6 w_11 w' := x_b6.setN [(0, .bool n_ca), (1, .slice o_ca k_ca c_ca), (2, .bool n_cb), (3, .slice o_cb k_cb c_cb)]
  rw [eW]; clear eW d0 d1 d2 d3 f0 f1 f2 f3 x_b6
  have x_b6 := x_b6'; clear x_b6'
  replace ha1 := ha1.fr hnd ho; replace ha2 := ha2.fr hnd ho; replace hq1 := hq1.fr hnd ho; replace hq2 := hq2.fr hnd ho; replace x_b1 := x_b1.frame ho ne_b1_b6; replace x_b2 := x_b2.frame ho ne_b2_b6; replace x_b3 := x_b3.frame ho ne_b3_b6; replace x_b4 := x_b4.frame ho ne_b4_b6; replace x_b5 := x_b5.frame ho ne_b5_b6; replace c1 := c1.fr hnd ho; replace c2 := c2.fr hnd ho; replace d1 := d1.fr hnd ho; replace d2 := d2.fr hnd ho; replace x_b7 := x_b7.frame ho ne_b6_b7.symm; replace hb := belowOnly hb ho kb_b6
  refine hK _ _ rfl (And.intro ⟨x_b1.cell 0 rfl, x_b1.cell 1 rfl, x_b1.cell 2 rfl, x_b1.cell 3 rfl⟩ (And.intro ⟨x_b2.cell 0 rfl, x_b2.cell 1 rfl, x_b2.cell 2 rfl, x_b2.cell 3 rfl⟩ True.intro)) ?_; clear hK K ho hnd
  refine wpTail_call rfl (by kernel_rfl) fun K hK => ?_
  obtain ⟨d0, d1, d2, d3⟩ := x_b7.f4
  have f0 := x_b7.free 0; have f1 := x_b7.free 1; have f2 := x_b7.free 2; have f3 := x_b7.free 3
  go_big_op
  have hnd := x_b7.nod rfl rfl
  obtain ⟨w_13, eW, x_b7', ho⟩ : ∃ w', ((((w_12.setCell ⟨p_b7, 0, none⟩ (.bool n_da)).setCell ⟨p_b7, 1, none⟩ (.slice o_da k_da c_da)).setCell ⟨p_b7, 2, none⟩ (.bool n_db)).setCell ⟨p_b7, 3, none⟩ (.slice o_db k_db c_db)) = w' ∧ Bs w' p_b7 #[.bool n_da, .slice o_da k_da c_da, .bool n_db, .slice o_db k_db c_db] 29 ∧ Only p_b7 w_12 w' := x_b7.setN [(0, .bool n_da), (1, .slice o_da k_da c_da), (2, .bool n_db), (3, .slice o_db k_db c_db)]
  rw [eW]; clear eW d0 d1 d2 d3 f0 f1 f2 f3 x_b7
  have x_b7 := x_b7'; clear x_b7'
  replace ha1 := ha1.fr hnd ho; replace ha2 := ha2.fr hnd ho; replace hq1 := hq1.fr hnd ho; replace hq2 := hq2.fr hnd ho; replace x_b1 := x_b1.frame ho ne_b1_b7; replace x_b2 := x_b2.frame ho ne_b2_b7; replace x_b3 := x_b3.frame ho ne_b3_b7; replace x_b4 := x_b4.frame ho ne_b4_b7; replace x_b5 := x_b5.frame ho ne_b5_b7; replace c1 := c1.fr hnd ho; replace c2 := c2.fr hnd ho; replace d1 := d1.fr hnd ho; replace d2 := d2.fr hnd ho; replace x_b6 := x_b6.frame ho ne_b6_b7; replace hb := belowOnly hb ho kb_b7
  refine hK _ _ rfl (And.intro ⟨x_b1.cell 0 rfl, x_b1.cell 1 rfl, x_b1.cell 2 rfl, x_b1.cell 3 rfl⟩ (And.intro ⟨x_b2.cell 0 rfl, x_b2.cell 1 rfl, x_b2.cell 2 rfl, x_b2.cell 3 rfl⟩ True.intro)) ?_; clear hK K ho hnd
  apply wpTail_end
  refine hK2 _ _ ?_
  refine wp_seq_k ?_
  intro K3 hK3
  refine wp_region_sq [0, 1, 2, 3, 4, 5] (by kernel_rfl) ?_
  refine wpSq_call rfl (by kernel_rfl) fun K hK => ?_
  go_big_op
  go_fit (rgI_any 1 0 _ (by decide) (by decide) (by decide) (by decide))
  rintro e w_14 ⟨_, rfl, ⟨n_ea, o_ea, k_ea, c_ea, n_eb, o_eb, k_eb, c_eb, rfl, e1, e2⟩, hb_14⟩
  clear ha1 ha2 hq1 hq2 x_b1 x_b2
  replace x_b3 := x_b3.bl hb_14; replace x_b4 := x_b4.bl hb_14; replace x_b5 := x_b5.bl hb_14; replace c1 := c1.bl hb_14; replace c2 := c2.bl hb_14; replace d1 := d1.bl hb_14; replace d2 := d2.bl hb_14; replace x_b6 := x_b6.bl hb_14; replace x_b7 := x_b7.bl hb_14; replace hb := hb.trans (hb_14.mono hb.size)
  have Le1 := hide (e1.lenOf (L1.out))
  have Le2 := hide (e2.lenOf (L0.out))
  refine hK _ _ rfl ?_
  clear hK K hb_14
  refine wpSq_call rfl (by kernel_rfl) fun K hK => ?_
  go_big_op
  go_fit (rgI_any 0 0 _ (by decide) (by decide) (by decide) (by decide))
  rintro e w_15 ⟨_, rfl, ⟨n_fa, o_fa, k_fa, c_fa, n_fb, o_fb, k_fb, c_fb, rfl, f1, f2⟩, hb_15⟩
  replace x_b3 := x_b3.bl hb_15; replace x_b4 := x_b4.bl hb_15; replace x_b5 := x_b5.bl hb_15; replace c1 := c1.bl hb_15; replace c2 := c2.bl hb_15; replace d1 := d1.bl hb_15; replace d2 := d2.bl hb_15; replace x_b6 := x_b6.bl hb_15; replace x_b7 := x_b7.bl hb_15; replace e1 := e1.bl hb_15; replace e2 := e2.bl hb_15; replace hb := hb.trans (hb_15.mono hb.size)
  have Lf1 := hide (f1.lenOf (L0.out))
  have Lf2 := hide (f2.lenOf (L0.out))
  refine hK _ _ rfl ?_
  clear hK K hb_15
  refine wpSq_call rfl (by kernel_rfl) fun K hK => ?_
  go_big_op
  have lt_b3 := x_b3.lt
  have lt_b4 := x_b4.lt
  have lt_b5 := x_b5.lt
  have lt_b6 := x_b6.lt
  have lt_b7 := x_b7.lt
  obtain ⟨p_b8, w_16, eP, eW, x_b8, hn, kb_b8⟩ := newBox w_15 #[.bool false, .slice none 0 0, .bool false, .slice none 0 0] 29 hb.size
  have ne_b3_b8 : Hid (p_b3 ≠ p_b8) := Nat.ne_of_lt (eP ▸ lt_b3)
  have ne_b4_b8 : Hid (p_b4 ≠ p_b8) := Nat.ne_of_lt (eP ▸ lt_b4)
  have ne_b5_b8 : Hid (p_b5 ≠ p_b8) := Nat.ne_of_lt (eP ▸ lt_b5)
  have ne_b6_b8 : Hid (p_b6 ≠ p_b8) := Nat.ne_of_lt (eP ▸ lt_b6)
  have ne_b7_b8 : Hid (p_b7 ≠ p_b8) := Nat.ne_of_lt (eP ▸ lt_b7)
  rw [eW, eP]
  clear eW eP lt_b3 lt_b4 lt_b5 lt_b6 lt_b7
  replace x_b3 := x_b3.bl hn; replace x_b4 := x_b4.bl hn; replace x_b5 := x_b5.bl hn; replace c1 := c1.bl hn; replace c2 := c2.bl hn; replace d1 := d1.bl hn; replace d2 := d2.bl hn; replace x_b6 := x_b6.bl hn; replace x_b7 := x_b7.bl hn; replace e1 := e1.bl hn; replace e2 := e2.bl hn; replace f1 := f1.bl hn; replace f2 := f2.bl hn; replace hb := hb.trans (hn.mono hb.size)
  refine hK _ _ rfl ?_; clear hK K hn
  refine wpSq_call rfl (by kernel_rfl) fun K hK => ?_
  go_big_op
  have lt_b3 := x_b3.lt
  have lt_b4 := x_b4.lt
  have lt_b5 := x_b5.lt
  have lt_b6 := x_b6.lt
  have lt_b7 := x_b7.lt
  have lt_b8 := x_b8.lt
  obtain ⟨p_b9, w_17, eP, eW, x_b9, hn, kb_b9⟩ := newBox w_16 #[.bool false, .slice none 0 0, .bool false, .slice none 0 0] 29 hb.size
  have ne_b3_b9 : Hid (p_b3 ≠ p_b9) := Nat.ne_of_lt (eP ▸ lt_b3)
  have ne_b4_b9 : Hid (p_b4 ≠ p_b9) := Nat.ne_of_lt (eP ▸ lt_b4)
  have ne_b5_b9 : Hid (p_b5 ≠ p_b9) := Nat.ne_of_lt (eP ▸ lt_b5)
  have ne_b6_b9 : Hid (p_b6 ≠ p_b9) := Nat.ne_of_lt (eP ▸ lt_b6)
  have ne_b7_b9 : Hid (p_b7 ≠ p_b9) := Nat.ne_of_lt (eP ▸ lt_b7)
  have ne_b8_b9 : Hid (p_b8 ≠ p_b9) := Nat.ne_of_lt (eP ▸ lt_b8)
  rw [eW, eP]
  clear eW eP lt_b3 lt_b4 lt_b5 lt_b6 lt_b7 lt_b8
  replace x_b3 := x_b3.bl hn; replace x_b4 := x_b4.bl hn; replace x_b5 := x_b5.bl hn; replace c1 := c1.bl hn; replace c2 := c2.bl hn; replace d1 := d1.bl hn; replace d2 := d2.bl hn; replace x_b6 := x_b6.bl hn; replace x_b7 := x_b7.bl hn; replace e1 := e1.bl hn; replace e2 := e2.bl hn; replace f1 := f1.bl hn; replace f2 := f2.bl hn; replace x_b8 := x_b8.bl hn; replace hb := hb.trans (hn.mono hb.size)
  refine hK _ _ rfl ?_; clear hK K hn
  refine wpSq_call rfl (by kernel_rfl) fun K hK => ?_
  obtain ⟨d0, d1, d2, d3⟩ := x_b8.f4
  have f0 := x_b8.free 0; have f1 := x_b8.free 1; have f2 := x_b8.free 2; have f3 := x_b8.free 3
  go_big_op
  have hnd := x_b8.nod rfl rfl
  obtain ⟨w_18, eW, x_b8', ho⟩ : ∃ w', ((((w_17.setCell ⟨p_b8, 0, none⟩ (.bool n_ea)).setCell ⟨p_b8, 1, none⟩ (.slice o_ea k_ea c_ea)).setCell ⟨p_b8, 2, none⟩ (.bool n_eb)).setCell ⟨p_b8, 3, none⟩ (.slice o_eb k_eb c_eb)) = w' ∧ Bs w' p_b8 #[.bool n_ea, .slice o_ea k_ea c_ea, .bool n_eb, .slice o_eb k_eb c_eb] 29 ∧ Only p_b8 w_17 w' := x_b8.setN [(0, .bool n_ea), (1, .slice o_ea k_ea c_ea), (2, .bool n_eb), (3, .slice o_eb k_eb c_eb)]
  rw [eW]; clear eW d0 d1 d2 d3 f0 f1 f2 f3 x_b8
  have x_b8 := x_b8'; clear x_b8'
  replace x_b3 := x_b3.frame ho ne_b3_b8; replace x_b4 := x_b4.frame ho ne_b4_b8; replace x_b5 := x_b5.frame ho ne_b5_b8; replace c1 := c1.fr hnd ho; replace c2 := c2.fr hnd ho; replace d1 := d1.fr hnd ho; replace d2 := d2.fr hnd ho; replace x_b6 := x_b6.frame ho ne_b6_b8; replace x_b7 := x_b7.frame ho ne_b7_b8; replace e1 := e1.fr hnd ho; replace e2 := e2.fr hnd ho; replace f1 := f1.fr hnd ho; replace f2 := f2.fr hnd ho; replace x_b9 := x_b9.frame ho ne_b8_b9.symm; replace hb := belowOnly hb ho kb_b8
  refine hK _ _ rfl ?_; clear hK K ho hnd
  refine wpSq_call rfl (by kernel_rfl) fun K hK => ?_
  obtain ⟨d0, d1, d2, d3⟩ := x_b9.f4
  have f0 := x_b9.free 0; have f1 := x_b9.free 1; have f2 := x_b9.free 2; have f3 := x_b9.free 3
  go_big_op
  have hnd := x_b9.nod rfl rfl
  obtain ⟨w_19, eW, x_b9', ho⟩ : ∃ w', ((((w_18.setCell ⟨p_b9, 0, none⟩ (.bool n_fa)).setCell ⟨p_b9, 1, none⟩ (.slice o_fa k_fa c_fa)).setCell ⟨p_b9, 2, none⟩ (.bool n_fb)).setCell ⟨p_b9, 3, none⟩ (.slice o_fb k_fb c_fb)) = w' ∧ Bs w' p_b9 #[.bool n_fa, .slice o_fa k_fa c_fa, .bool n_fb, .slice o_fb k_fb c_fb] 29 ∧ Only p_b9 w_18 w' := x_b9.setN [(0, .bool n_fa), (1, .slice o_fa k_fa c_fa), (2, .bool n_fb), (3, .slice o_fb k_fb c_fb)]
  rw [eW]; clear eW d0 d1 d2 d3 f0 f1 f2 f3 x_b9
  have x_b9 := x_b9'; clear x_b9'
  replace x_b3 := x_b3.frame ho ne_b3_b9; replace x_b4 := x_b4.frame ho ne_b4_b9; replace x_b5 := x_b5.frame ho ne_b5_b9; replace c1 := c1.fr hnd ho; replace c2 := c2.fr hnd ho; replace d1 := d1.fr hnd ho; replace d2 := d2.fr hnd ho; replace x_b6 := x_b6.frame ho ne_b6_b9; replace x_b7 := x_b7.frame ho ne_b7_b9; replace e1 := e1.fr hnd ho; replace e2 := e2.fr hnd ho; replace f1 := f1.fr hnd ho; replace f2 := f2.fr hnd ho; replace x_b8 := x_b8.frame ho ne_b8_b9; replace hb := belowOnly hb ho kb_b9
  refine hK _ _ rfl ?_; clear hK K ho hnd
  apply wpSq_end
  refine hK3 _ _ ?_
  refine wp_seq_k ?_
  intro K4 hK4
  refine wp_region_sq [0, 1, 2, 3, 4, 5] (by kernel_rfl) ?_
  refine wpSq_call rfl (by kernel_rfl) fun K hK => ?_
  go_big_op
  go_fit (rgI_any 0 0 _ (by decide) (by decide) (by decide) (by decide))
  rintro e w_20 ⟨_, rfl, ⟨n_ga, o_ga, k_ga, c_ga, n_gb, o_gb, k_gb, c_gb, rfl, g1, g2⟩, hb_20⟩
  replace x_b3 := x_b3.bl hb_20; replace x_b4 := x_b4.bl hb_20; replace x_b5 := x_b5.bl hb_20; replace c1 := c1.bl hb_20; replace c2 := c2.bl hb_20; replace d1 := d1.bl hb_20; replace d2 := d2.bl hb_20; replace x_b6 := x_b6.bl hb_20; replace x_b7 := x_b7.bl hb_20; replace e1 := e1.bl hb_20; replace e2 := e2.bl hb_20; replace f1 := f1.bl hb_20; replace f2 := f2.bl hb_20; replace x_b8 := x_b8.bl hb_20; replace x_b9 := x_b9.bl hb_20; replace hb := hb.trans (hb_20.mono hb.size)
  have Lg1 := hide (g1.lenOf (L0.out))
  have Lg2 := hide (g2.lenOf (L0.out))
  refine hK _ _ rfl ?_
  clear hK K hb_20
  refine wpSq_call rfl (by kernel_rfl) fun K hK => ?_
  go_big_op
  go_fit (rgI_any 1 0 _ (by decide) (by decide) (by decide) (by decide))
  rintro e w_21 ⟨_, rfl, ⟨n_ja, o_ja, k_ja, c_ja, n_jb, o_jb, k_jb, c_jb, rfl, j1, j2⟩, hb_21⟩
  replace x_b3 := x_b3.bl hb_21; replace x_b4 := x_b4.bl hb_21; replace x_b5 := x_b5.bl hb_21; replace c1 := c1.bl hb_21; replace c2 := c2.bl hb_21; replace d1 := d1.bl hb_21; replace d2 := d2.bl hb_21; replace x_b6 := x_b6.bl hb_21; replace x_b7 := x_b7.bl hb_21; replace e1 := e1.bl hb_21; replace e2 := e2.bl hb_21; replace f1 := f1.bl hb_21; replace f2 := f2.bl hb_21; replace x_b8 := x_b8.bl hb_21; replace x_b9 := x_b9.bl hb_21; replace g1 := g1.bl hb_21; replace g2 := g2.bl hb_21; replace hb := hb.trans (hb_21.mono hb.size)
  have Lj1 := hide (j1.lenOf (L1.out))
  have Lj2 := hide (j2.lenOf (L0.out))
  refine hK _ _ rfl ?_
  clear hK K hb_21
  refine wpSq_call rfl (by kernel_rfl) fun K hK => ?_
  go_big_op
  have lt_b3 := x_b3.lt
  have lt_b4 := x_b4.lt
  have lt_b5 := x_b5.lt
  have lt_b6 := x_b6.lt
  have lt_b7 := x_b7.lt
  have lt_b8 := x_b8.lt
  have lt_b9 := x_b9.lt
  obtain ⟨p_b10, w_22, eP, eW, x_b10, hn, kb_b10⟩ := newBox w_21 #[.bool false, .slice none 0 0, .bool false, .slice none 0 0] 29 hb.size
  have ne_b3_b10 : Hid (p_b3 ≠ p_b10) := Nat.ne_of_lt (eP ▸ lt_b3)
  have ne_b4_b10 : Hid (p_b4 ≠ p_b10) := Nat.ne_of_lt (eP ▸ lt_b4)
  have ne_b5_b10 : Hid (p_b5 ≠ p_b10) := Nat.ne_of_lt (eP ▸ lt_b5)
  have ne_b6_b10 : Hid (p_b6 ≠ p_b10) := Nat.ne_of_lt (eP ▸ lt_b6)
  have ne_b7_b10 : Hid (p_b7 ≠ p_b10) := Nat.ne_of_lt (eP ▸ lt_b7)
  have ne_b8_b10 : Hid (p_b8 ≠ p_b10) := Nat.ne_of_lt (eP ▸ lt_b8)
  have ne_b9_b10 : Hid (p_b9 ≠ p_b10) := Nat.ne_of_lt (eP ▸ lt_b9)
  rw [eW, eP]
  clear eW eP lt_b3 lt_b4 lt_b5 lt_b6 lt_b7 lt_b8 lt_b9
  replace x_b3 := x_b3.bl hn; replace x_b4 := x_b4.bl hn; replace x_b5 := x_b5.bl hn; replace c1 := c1.bl hn; replace c2 := c2.bl hn; replace d1 := d1.bl hn; replace d2 := d2.bl hn; replace x_b6 := x_b6.bl hn; replace x_b7 := x_b7.bl hn; replace e1 := e1.bl hn; replace e2 := e2.bl hn; replace f1 := f1.bl hn; replace f2 := f2.bl hn; replace x_b8 := x_b8.bl hn; replace x_b9 := x_b9.bl hn; replace g1 := g1.bl hn; replace g2 := g2.bl hn; replace j1 := j1.bl hn; replace j2 := j2.bl hn; replace hb := hb.trans (hn.mono hb.size)
  refine hK _ _ rfl ?_; clear hK K hn
  refine wpSq_call rfl (by kernel_rfl) fun K hK => ?_
  go_big_op
  have lt_b3 := x_b3.lt
  have lt_b4 := x_b4.lt
  have lt_b5 := x_b5.lt
  have lt_b6 := x_b6.lt
  have lt_b7 := x_b7.lt
  have lt_b8 := x_b8.lt
  have lt_b9 := x_b9.lt
  have lt_b10 := x_b10.lt
  obtain ⟨p_b11, w_23, eP, eW, x_b11, hn, kb_b11⟩ := newBox w_22 #[.bool false, .slice none 0 0, .bool false, .slice none 0 0] 29 hb.size
  have ne_b3_b11 : Hid (p_b3 ≠ p_b11) := Nat.ne_of_lt (eP ▸ lt_b3)
  have ne_b4_b11 : Hid (p_b4 ≠ p_b11) := Nat.ne_of_lt (eP ▸ lt_b4)
  have ne_b5_b11 : Hid (p_b5 ≠ p_b11) := Nat.ne_of_lt (eP ▸ lt_b5)
  have ne_b6_b11 : Hid (p_b6 ≠ p_b11) := Nat.ne_of_lt (eP ▸ lt_b6)
  have ne_b7_b11 : Hid (p_b7 ≠ p_b11) := Nat.ne_of_lt (eP ▸ lt_b7)
  have ne_b8_b11 : Hid (p_b8 ≠ p_b11) := Nat.ne_of_lt (eP ▸ lt_b8)
  have ne_b9_b11 : Hid (p_b9 ≠ p_b11) := Nat.ne_of_lt (eP ▸ lt_b9)
  have ne_b10_b11 : Hid (p_b10 ≠ p_b11) := Nat.ne_of_lt (eP ▸ lt_b10)
  rw [eW, eP]
  clear eW eP lt_b3 lt_b4 lt_b5 lt_b6 lt_b7 lt_b8 lt_b9 lt_b10
  replace x_b3 := x_b3.bl hn; replace x_b4 := x_b4.bl hn; replace x_b5 := x_b5.bl hn; replace c1 := c1.bl hn; replace c2 := c2.bl hn; replace d1 := d1.bl hn; replace d2 := d2.bl hn; replace x_b6 := x_b6.bl hn; replace x_b7 := x_b7.bl hn; replace e1 := e1.bl hn; replace e2 := e2.bl hn; replace f1 := f1.bl hn; replace f2 := f2.bl hn; replace x_b8 := x_b8.bl hn; replace x_b9 := x_b9.bl hn; replace g1 := g1.bl hn; replace g2 := g2.bl hn; replace j1 := j1.bl hn; replace j2 := j2.bl hn; replace x_b10 := x_b10.bl hn; replace hb := hb.trans (hn.mono hb.size)
  refine hK _ _ rfl ?_; clear hK K hn
  refine wpSq_call rfl (by kernel_rfl) fun K hK => ?_
  obtain ⟨d0, d1, d2, d3⟩ := x_b10.f4
  have f0 := x_b10.free 0; have f1 := x_b10.free 1; have f2 := x_b10.free 2; have f3 := x_b10.free 3
  go_big_op
  have hnd := x_b10.nod rfl rfl
  obtain ⟨w_24, eW, x_b10', ho⟩ : ∃ w', ((((w_23.setCell ⟨p_b10, 0, none⟩ (.bool n_ga)).setCell ⟨p_b10, 1, none⟩ (.slice o_ga k_ga c_ga)).setCell ⟨p_b10, 2, none⟩ (.bool n_gb)).setCell ⟨p_b10, 3, none⟩ (.slice o_gb k_gb c_gb)) = w' ∧ Bs w' p_b10 #[.bool n_ga, .slice o_ga k_ga c_ga, .bool n_gb, .slice o_gb k_gb c_gb] 29 ∧ Only p_b10 w_23 w' := x_b10.setN [(0, .bool n_ga), (1, .slice o_ga k_ga c_ga), (2, .bool n_gb), (3, .slice o_gb k_gb c_gb)]
  rw [eW]; clear eW d0 d1 d2 d3 f0 f1 f2 f3 x_b10
  have x_b10 := x_b10'; clear x_b10'
  replace x_b3 := x_b3.frame ho ne_b3_b10; replace x_b4 := x_b4.frame ho ne_b4_b10; replace x_b5 := x_b5.frame ho ne_b5_b10; replace c1 := c1.fr hnd ho; replace c2 := c2.fr hnd ho; replace d1 := d1.fr hnd ho; replace d2 := d2.fr hnd ho; replace x_b6 := x_b6.frame ho ne_b6_b10; replace x_b7 := x_b7.frame ho ne_b7_b10; replace e1 := e1.fr hnd ho; replace e2 := e2.fr hnd ho; replace f1 := f1.fr hnd ho; replace f2 := f2.fr hnd ho; replace x_b8 := x_b8.frame ho ne_b8_b10; replace x_b9 := x_b9.frame ho ne_b9_b10; replace g1 := g1.fr hnd ho; replace g2 := g2.fr hnd ho; replace j1 := j1.fr hnd ho; replace j2 := j2.fr hnd ho; replace x_b11 := x_b11.frame ho ne_b10_b11.symm; replace hb := belowOnly hb ho kb_b10
  refine hK _ _ rfl ?_; clear hK K ho hnd
  refine wpSq_call rfl (by kernel_rfl) fun K hK => ?_
  obtain ⟨d0, d1, d2, d3⟩ := x_b11.f4
  have f0 := x_b11.free 0; have f1 := x_b11.free 1; have f2 := x_b11.free 2; have f3 := x_b11.free 3
  go_big_op
  have hnd := x_b11.nod rfl rfl
  obtain ⟨w_25, eW, x_b11', ho⟩ : ∃ w', ((((w_24.setCell ⟨p_b11, 0, none⟩ (.bool n_ja)).setCell ⟨p_b11, 1, none⟩ (.slice o_ja k_ja c_ja)).setCell ⟨p_b11, 2, none⟩ (.bool n_jb)).setCell ⟨p_b11, 3, none⟩ (.slice o_jb k_jb c_jb)) = w' ∧ Bs w' p_b11 #[.bool n_ja, .slice o_ja k_ja c_ja, .bool n_jb, .slice o_jb k_jb c_jb] 29 ∧ Only p_b11 w_24 w' := x_b11.setN [(0, .bool n_ja), (1, .slice o_ja k_ja c_ja), (2, .bool n_jb), (3, .slice o_jb k_jb c_jb)]
  rw [eW]; clear eW d0 d1 d2 d3 f0 f1 f2 f3 x_b11
  have x_b11 := x_b11'; clear x_b11'
  replace x_b3 := x_b3.frame ho ne_b3_b11; replace x_b4 := x_b4.frame ho ne_b4_b11; replace x_b5 := x_b5.frame ho ne_b5_b11; replace c1 := c1.fr hnd ho; replace c2 := c2.fr hnd ho; replace d1 := d1.fr hnd ho; replace d2 := d2.fr hnd ho; replace x_b6 := x_b6.frame ho ne_b6_b11; replace x_b7 := x_b7.frame ho ne_b7_b11; replace e1 := e1.fr hnd ho; replace e2 := e2.fr hnd ho; replace f1 := f1.fr hnd ho; replace f2 := f2.fr hnd ho; replace x_b8 := x_b8.frame ho ne_b8_b11; replace x_b9 := x_b9.frame ho ne_b9_b11; replace g1 := g1.fr hnd ho; replace g2 := g2.fr hnd ho; replace j1 := j1.fr hnd ho; replace j2 := j2.fr hnd ho; replace x_b10 := x_b10.frame ho ne_b10_b11; replace hb := belowOnly hb ho kb_b11
  refine hK _ _ rfl ?_; clear hK K ho hnd
  apply wpSq_end
  refine hK4 _ _ ?_
  refine wp_seq_k ?_
  intro K5 hK5
  refine wp_block ?_
  go_loopg [] N (fun k wr => ∃ t : GS, Hid (GI x y u v t ∧ t.fin = F ∧ (gN t.s1 t.s2).toNat ≤ k) ∧ BM (L + 1) wr p_b6 29 t.r1 t.r2 ∧ BM (L + 1) wr p_b7 29 t.s1 t.s2 ∧ BM (L + 1) wr p_b8 29 t.x1 t.x2 ∧ BM (L + 1) wr p_b9 29 t.u1 t.u2 ∧ BM (L + 1) wr p_b10 29 t.y1 t.y2 ∧ BM (L + 1) wr p_b11 29 t.v1 t.v2 ∧ Bs wr p_b3 #[.bool false, .slice none 0 0, .bool false, .slice none 0 0] 29 ∧ Bs wr p_b4 #[.bool false, .slice none 0 0, .bool false, .slice none 0 0] 29 ∧ Bs wr p_b5 #[.bool false, .slice none 0 0, .bool false, .slice none 0 0] 29 ∧ Below w.heap.size w wr)
  case atStart =>
    exact ⟨GS.start x y u v, hide ⟨HST.out, HF.out, by rw [← HN.out]; exact Nat.le_refl _⟩,
      BM.mk' x_b6 (c1.zn (Nat.le_succ_of_le LL.out.1.1)) (c2.zn (Nat.le_succ_of_le LL.out.1.2)), BM.mk' x_b7 (d1.zn (Nat.le_succ_of_le LL.out.2.1)) (d2.zn (Nat.le_succ_of_le LL.out.2.2)),
      BM.mk' x_b8 (e1.zn L1.out) (e2.zn L0.out), BM.mk' x_b9 (f1.zn L0.out) (f2.zn L0.out), BM.mk' x_b10 (g1.zn L0.out) (g2.zn L0.out), BM.mk' x_b11 (j1.zn L1.out) (j2.zn L0.out), x_b3, x_b4, x_b5, hb⟩
  case round =>
  clear x_b3 x_b4 x_b5 c1 c2 d1 d2 x_b6 x_b7 e1 e2 f1 f2 x_b8 x_b9 g1 g2 j1 j2 x_b10 x_b11
  obtain ⟨t, HT, ⟨an1, ao1, ak1, ac1, an2, ao2, ak2, ac2, x_b6, a1, a2⟩, ⟨bn1, bo1, bk1, bc1, bn2, bo2, bk2, bc2, x_b7, b1, b2⟩, ⟨an3, ao3, ak3, ac3, an4, ao4, ak4, ac4, x_b8, a3, a4⟩, ⟨bn3, bo3, bk3, bc3, bn4, bo4, bk4, bc4, x_b9, b3, b4⟩, ⟨an5, ao5, ak5, ac5, an6, ao6, ak6, ac6, x_b10, a5, a6⟩, ⟨bn5, bo5, bk5, bc5, bn6, bo6, bk6, bc6, x_b11, b5, b6⟩, x_b3, x_b4, x_b5, hb⟩ := hrel
  by_cases h0 : gN t.s1 t.s2 = 0
  · have hs := gN_zero.1 h0
    have hft : t = F := by rw [← HT.out.2.1]; exact (fin_done h0).symm
    have HK := hide (show kq t.r1 t.r2 = kq F.r1 F.r2 by rw [hft])
    have HFT := hide hft
    rw [hs.1] at b1
    rw [hs.2] at b2
    clear h0 hs hft
    refine wp_seq_k ?_
    intro K6 hK6
    refine wp_seq_k ?_
    intro K7 hK7
    refine wp_region_sq [0, 1, 2] (by kernel_rfl) ?_
    refine wpSq_call rfl (by kernel_rfl) fun K hK => ?_
    obtain ⟨d0, d1, d2, d3⟩ := x_b7.f4
    go_big_op; refine hK _ _ rfl ?_; clear hK K d0 d1 d2 d3
    refine wpSq_call rfl (by kernel_rfl) fun K hK => ?_
    go_big_op
    go_fit (rgNull_yes (PN.mk' b1 b2) (by omega) (by omega))
    rintro e w_26 ⟨rfl, hb_26⟩
    replace x_b6 := x_b6.bl hb_26; replace a1 := a1.bl hb_26; replace a2 := a2.bl hb_26; replace x_b7 := x_b7.bl hb_26; replace b1 := b1.bl hb_26; replace b2 := b2.bl hb_26; replace x_b8 := x_b8.bl hb_26; replace a3 := a3.bl hb_26; replace a4 := a4.bl hb_26; replace x_b9 := x_b9.bl hb_26; replace b3 := b3.bl hb_26; replace b4 := b4.bl hb_26; replace x_b10 := x_b10.bl hb_26; replace a5 := a5.bl hb_26; replace a6 := a6.bl hb_26; replace x_b11 := x_b11.bl hb_26; replace b5 := b5.bl hb_26; replace b6 := b6.bl hb_26; replace x_b3 := x_b3.bl hb_26; replace x_b4 := x_b4.bl hb_26; replace x_b5 := x_b5.bl hb_26; replace hb := hb.trans (hb_26.mono hb.size)
    refine hK _ _ rfl ?_
    clear hK K hb_26
    refine wpSq_call rfl (by kernel_rfl) fun K hK => ?_
    go_big_op; refine hK _ _ rfl ?_; clear hK K
    apply wpSq_end
    refine hK7 _ _ ?_
    refine wp_cond_false (congrArg Value.bool (show _ = false from (by first | rfl | assumption | (simp; done) | exact decide_eq_false (by omega) | omega))) ?_
    refine wp_exit ?_
    refine hK5 _ _ ?_
    refine wp_seq_k ?_
    intro K8 hK8
    refine wp_region_sq [0, 1, 2, 3, 4, 5, 6, 7] (by kernel_rfl) ?_
    refine wpSq_call rfl (by kernel_rfl) fun K hK => ?_
    obtain ⟨d0, d1, d2, d3⟩ := x_b6.f4
    go_big_op; refine hK _ _ rfl ?_; clear hK K d0 d1 d2 d3
    refine wpSq_call rfl (by kernel_rfl) fun K hK => ?_
    go_big_op
    go_fit (rgCanon_any (PN.mk' a1 a2) (by omega) (by omega))
    rintro e w_27 ⟨_, rfl, ⟨n_ea, o_ea, k_ea, c_ea, n_eb, o_eb, k_eb, c_eb, rfl, e1, e2⟩, hb_27⟩
    replace x_b6 := x_b6.bl hb_27; replace a1 := a1.bl hb_27; replace a2 := a2.bl hb_27; replace x_b7 := x_b7.bl hb_27; replace b1 := b1.bl hb_27; replace b2 := b2.bl hb_27; replace x_b8 := x_b8.bl hb_27; replace a3 := a3.bl hb_27; replace a4 := a4.bl hb_27; replace x_b9 := x_b9.bl hb_27; replace b3 := b3.bl hb_27; replace b4 := b4.bl hb_27; replace x_b10 := x_b10.bl hb_27; replace a5 := a5.bl hb_27; replace a6 := a6.bl hb_27; replace x_b11 := x_b11.bl hb_27; replace b5 := b5.bl hb_27; replace b6 := b6.bl hb_27; replace x_b3 := x_b3.bl hb_27; replace x_b4 := x_b4.bl hb_27; replace x_b5 := x_b5.bl hb_27; replace hb := hb.trans (hb_27.mono hb.size)
    refine hK _ _ rfl ?_
    clear hK K hb_27
    refine wpSq_call rfl (by kernel_rfl) fun K hK => ?_
    go_big_move; refine hK _ _ rfl ?_; clear hK K
    refine wpSq_call rfl (by kernel_rfl) fun K hK => ?_
    go_big_op; refine hK _ _ rfl ?_; clear hK K
    refine wpSq_call rfl (by kernel_rfl) fun K hK => ?_
    go_big_op; refine hK _ _ rfl ?_; clear hK K
    refine wpSq_call rfl (by kernel_rfl) fun K hK => ?_
    go_big_op
    have lt_b3 := x_b3.lt
    have lt_b4 := x_b4.lt
    have lt_b5 := x_b5.lt
    have lt_b6 := x_b6.lt
    have lt_b7 := x_b7.lt
    have lt_b8 := x_b8.lt
    have lt_b9 := x_b9.lt
    have lt_b10 := x_b10.lt
    have lt_b11 := x_b11.lt
    obtain ⟨p_b12, w_28, eP, eW, x_b12, hn, kb_b12⟩ := newBox w_27 #[.bool false, .slice none 0 0, .bool false, .slice none 0 0] 29 hb.size
    have ne_b3_b12 : Hid (p_b3 ≠ p_b12) := Nat.ne_of_lt (eP ▸ lt_b3)
    have ne_b4_b12 : Hid (p_b4 ≠ p_b12) := Nat.ne_of_lt (eP ▸ lt_b4)
    have ne_b5_b12 : Hid (p_b5 ≠ p_b12) := Nat.ne_of_lt (eP ▸ lt_b5)
    have ne_b6_b12 : Hid (p_b6 ≠ p_b12) := Nat.ne_of_lt (eP ▸ lt_b6)
    have ne_b7_b12 : Hid (p_b7 ≠ p_b12) := Nat.ne_of_lt (eP ▸ lt_b7)
    have ne_b8_b12 : Hid (p_b8 ≠ p_b12) := Nat.ne_of_lt (eP ▸ lt_b8)
    have ne_b9_b12 : Hid (p_b9 ≠ p_b12) := Nat.ne_of_lt (eP ▸ lt_b9)
    have ne_b10_b12 : Hid (p_b10 ≠ p_b12) := Nat.ne_of_lt (eP ▸ lt_b10)
    have ne_b11_b12 : Hid (p_b11 ≠ p_b12) := Nat.ne_of_lt (eP ▸ lt_b11)
    rw [eW, eP]
    clear eW eP lt_b3 lt_b4 lt_b5 lt_b6 lt_b7 lt_b8 lt_b9 lt_b10 lt_b11
    replace x_b6 := x_b6.bl hn; replace a1 := a1.bl hn; replace a2 := a2.bl hn; replace x_b7 := x_b7.bl hn; replace b1 := b1.bl hn; replace b2 := b2.bl hn; replace x_b8 := x_b8.bl hn; replace a3 := a3.bl hn; replace a4 := a4.bl hn; replace x_b9 := x_b9.bl hn; replace b3 := b3.bl hn; replace b4 := b4.bl hn; replace x_b10 := x_b10.bl hn; replace a5 := a5.bl hn; replace a6 := a6.bl hn; replace x_b11 := x_b11.bl hn; replace b5 := b5.bl hn; replace b6 := b6.bl hn; replace x_b3 := x_b3.bl hn; replace x_b4 := x_b4.bl hn; replace x_b5 := x_b5.bl hn; replace e1 := e1.bl hn; replace e2 := e2.bl hn; replace hb := hb.trans (hn.mono hb.size)
    refine hK _ _ rfl ?_; clear hK K hn
    refine wpSq_call rfl (by kernel_rfl) fun K hK => ?_
    obtain ⟨d0, d1, d2, d3⟩ := x_b12.f4
    have f0 := x_b12.free 0; have f1 := x_b12.free 1; have f2 := x_b12.free 2; have f3 := x_b12.free 3
    go_big_op
    have hnd := x_b12.nod rfl rfl
    obtain ⟨w_29, eW, x_b12', ho⟩ : ∃ w', ((((w_28.setCell ⟨p_b12, 0, none⟩ (.bool n_ea)).setCell ⟨p_b12, 1, none⟩ (.slice o_ea k_ea c_ea)).setCell ⟨p_b12, 2, none⟩ (.bool n_eb)).setCell ⟨p_b12, 3, none⟩ (.slice o_eb k_eb c_eb)) = w' ∧ Bs w' p_b12 #[.bool n_ea, .slice o_ea k_ea c_ea, .bool n_eb, .slice o_eb k_eb c_eb] 29 ∧ Only p_b12 w_28 w' := x_b12.setN [(0, .bool n_ea), (1, .slice o_ea k_ea c_ea), (2, .bool n_eb), (3, .slice o_eb k_eb c_eb)]
    rw [eW]; clear eW d0 d1 d2 d3 f0 f1 f2 f3 x_b12
    have x_b12 := x_b12'; clear x_b12'
    replace x_b6 := x_b6.frame ho ne_b6_b12; replace a1 := a1.fr hnd ho; replace a2 := a2.fr hnd ho; replace x_b7 := x_b7.frame ho ne_b7_b12; replace b1 := b1.fr hnd ho; replace b2 := b2.fr hnd ho; replace x_b8 := x_b8.frame ho ne_b8_b12; replace a3 := a3.fr hnd ho; replace a4 := a4.fr hnd ho; replace x_b9 := x_b9.frame ho ne_b9_b12; replace b3 := b3.fr hnd ho; replace b4 := b4.fr hnd ho; replace x_b10 := x_b10.frame ho ne_b10_b12; replace a5 := a5.fr hnd ho; replace a6 := a6.fr hnd ho; replace x_b11 := x_b11.frame ho ne_b11_b12; replace b5 := b5.fr hnd ho; replace b6 := b6.fr hnd ho; replace x_b3 := x_b3.frame ho ne_b3_b12; replace x_b4 := x_b4.frame ho ne_b4_b12; replace x_b5 := x_b5.frame ho ne_b5_b12; replace e1 := e1.fr hnd ho; replace e2 := e2.fr hnd ho; replace hb := belowOnly hb ho kb_b12
    refine hK _ _ rfl ?_; clear hK K ho hnd
    refine wpSq_call rfl (by kernel_rfl) fun K hK => ?_
    go_big_move; refine hK _ _ rfl ?_; clear hK K
    apply wpSq_end
    refine hK8 _ _ ?_
    refine wp_seq_k ?_
    intro K9 hK9
    refine wp_region_fl2 [(0, false), (1, false), (2, false), (4, false), (5, false), (3, true), (6, true)] [7, 8, 9] [] (fun _ => default) [0, 1, 99, 99, 2, 99, 99, 99, 99, 99] [] (fun w' => w'.cell? ⟨p_b12, 0, none⟩ = some (.bool n_ea) ∧ w'.cell? ⟨p_b12, 1, none⟩ = some (.slice o_ea k_ea c_ea) ∧ w'.cell? ⟨p_b12, 2, none⟩ = some (.bool n_eb) ∧ w'.cell? ⟨p_b12, 3, none⟩ = some (.slice o_eb k_eb c_eb) ∧ w'.cell? ⟨p_b8, 0, none⟩ = some (.bool an3) ∧ w'.cell? ⟨p_b8, 1, none⟩ = some (.slice ao3 ak3 ac3) ∧ w'.cell? ⟨p_b8, 2, none⟩ = some (.bool an4) ∧ w'.cell? ⟨p_b8, 3, none⟩ = some (.slice ao4 ak4 ac4) ∧ w'.cell? ⟨p_b10, 0, none⟩ = some (.bool an5) ∧ w'.cell? ⟨p_b10, 1, none⟩ = some (.slice ao5 ak5 ac5) ∧ w'.cell? ⟨p_b10, 2, none⟩ = some (.bool an6) ∧ w'.cell? ⟨p_b10, 3, none⟩ = some (.slice ao6 ak6 ac6)) [fun w' => w'.cell? ⟨p_b12, 0, none⟩ = some (.bool n_ea) ∧ w'.cell? ⟨p_b12, 1, none⟩ = some (.slice o_ea k_ea c_ea) ∧ w'.cell? ⟨p_b12, 2, none⟩ = some (.bool n_eb) ∧ w'.cell? ⟨p_b12, 3, none⟩ = some (.slice o_eb k_eb c_eb), fun w' => w'.cell? ⟨p_b8, 0, none⟩ = some (.bool an3) ∧ w'.cell? ⟨p_b8, 1, none⟩ = some (.slice ao3 ak3 ac3) ∧ w'.cell? ⟨p_b8, 2, none⟩ = some (.bool an4) ∧ w'.cell? ⟨p_b8, 3, none⟩ = some (.slice ao4 ak4 ac4), fun w' => w'.cell? ⟨p_b10, 0, none⟩ = some (.bool an5) ∧ w'.cell? ⟨p_b10, 1, none⟩ = some (.slice ao5 ak5 ac5) ∧ w'.cell? ⟨p_b10, 2, none⟩ = some (.bool an6) ∧ w'.cell? ⟨p_b10, 3, none⟩ = some (.slice ao6 ak6 ac6)] (by kernel_rfl) (by kernel_rfl) (by kernel_rfl) (by kernel_rfl) (by kernel_rfl) (by kernel_rfl) (by kernel_rfl) (by kernel_rfl) (by decide) (by intro j hj; cases hj) (by intro w' o hC; obtain ⟨c0, c1, c2, c3, c4, c5, c6, c7, c8, c9, c10, c11⟩ := hC; exact ⟨cell_alloc c0 o, cell_alloc c1 o, cell_alloc c2 o, cell_alloc c3 o, cell_alloc c4 o, cell_alloc c5 o, cell_alloc c6 o, cell_alloc c7 o, cell_alloc c8 o, cell_alloc c9 o, cell_alloc c10 o, cell_alloc c11 o⟩) (by intro w' hC G hG; obtain ⟨c0, c1, c2, c3, c4, c5, c6, c7, c8, c9, c10, c11⟩ := hC; simp only [List.mem_cons, List.not_mem_nil, or_false] at hG; rcases hG with rfl | rfl | rfl <;> first | exact ⟨c0, c1, c2, c3⟩ | exact ⟨c4, c5, c6, c7⟩ | exact ⟨c8, c9, c10, c11⟩) ?_
    have lt_b3 := x_b3.lt
    have lt_b4 := x_b4.lt
    have lt_b5 := x_b5.lt
    have lt_b6 := x_b6.lt
    have lt_b7 := x_b7.lt
    have lt_b8 := x_b8.lt
    have lt_b9 := x_b9.lt
    have lt_b10 := x_b10.lt
    have lt_b11 := x_b11.lt
    have lt_b12 := x_b12.lt
    intro w_30 hn
    replace lt_b3 := Nat.lt_of_lt_of_le lt_b3 hn.size
    replace lt_b4 := Nat.lt_of_lt_of_le lt_b4 hn.size
    replace lt_b5 := Nat.lt_of_lt_of_le lt_b5 hn.size
    replace lt_b6 := Nat.lt_of_lt_of_le lt_b6 hn.size
    replace lt_b7 := Nat.lt_of_lt_of_le lt_b7 hn.size
    replace lt_b8 := Nat.lt_of_lt_of_le lt_b8 hn.size
    replace lt_b9 := Nat.lt_of_lt_of_le lt_b9 hn.size
    replace lt_b10 := Nat.lt_of_lt_of_le lt_b10 hn.size
    replace lt_b11 := Nat.lt_of_lt_of_le lt_b11 hn.size
    replace lt_b12 := Nat.lt_of_lt_of_le lt_b12 hn.size
    replace x_b6 := x_b6.bl hn; replace a1 := a1.bl hn; replace a2 := a2.bl hn; replace x_b7 := x_b7.bl hn; replace b1 := b1.bl hn; replace b2 := b2.bl hn; replace x_b8 := x_b8.bl hn; replace a3 := a3.bl hn; replace a4 := a4.bl hn; replace x_b9 := x_b9.bl hn; replace b3 := b3.bl hn; replace b4 := b4.bl hn; replace x_b10 := x_b10.bl hn; replace a5 := a5.bl hn; replace a6 := a6.bl hn; replace x_b11 := x_b11.bl hn; replace b5 := b5.bl hn; replace b6 := b6.bl hn; replace x_b3 := x_b3.bl hn; replace x_b4 := x_b4.bl hn; replace x_b5 := x_b5.bl hn; replace e1 := e1.bl hn; replace e2 := e2.bl hn; replace x_b12 := x_b12.bl hn; replace hb := hb.trans (hn.mono hb.size)
    clear hn
    have kb0 := hb.size
    refine ⟨⟨x_b12.cell 0 rfl, x_b12.cell 1 rfl, x_b12.cell 2 rfl, x_b12.cell 3 rfl, x_b8.cell 0 rfl, x_b8.cell 1 rfl, x_b8.cell 2 rfl, x_b8.cell 3 rfl, x_b10.cell 0 rfl, x_b10.cell 1 rfl, x_b10.cell 2 rfl, x_b10.cell 3 rfl⟩, ?_⟩
    apply wpFl_ld rfl rfl; (case h1 => intro w' hC K hK; obtain ⟨c0, c1, c2, c3⟩ := hC; go_big_op; exact hK); iterate 4 kernel_rfl
    apply wpFl_ld rfl rfl; (case h1 => intro w' hC K hK; obtain ⟨c0, c1, c2, c3⟩ := hC; go_big_op; exact hK); iterate 4 kernel_rfl
    apply wpFl_ld rfl rfl; (case h1 => intro w' hC K hK; go_big_move; exact hK); iterate 4 kernel_rfl
    apply wpFl_ld rfl rfl; (case h1 => intro w' hC K hK; obtain ⟨c0, c1, c2, c3⟩ := hC; go_big_op; exact hK); iterate 4 kernel_rfl
    apply wpFl_ld rfl rfl; (case h1 => intro w' hC K hK; go_big_move; exact hK); iterate 4 kernel_rfl
    refine wpFl_call rfl (by kernel_rfl) fun w_31 hn hC => ?_; clear hC
    replace x_b6 := x_b6.bl hn; replace a1 := a1.bl hn; replace a2 := a2.bl hn; replace x_b7 := x_b7.bl hn; replace b1 := b1.bl hn; replace b2 := b2.bl hn; replace x_b8 := x_b8.bl hn; replace a3 := a3.bl hn; replace a4 := a4.bl hn; replace x_b9 := x_b9.bl hn; replace b3 := b3.bl hn; replace b4 := b4.bl hn; replace x_b10 := x_b10.bl hn; replace a5 := a5.bl hn; replace a6 := a6.bl hn; replace x_b11 := x_b11.bl hn; replace b5 := b5.bl hn; replace b6 := b6.bl hn; replace x_b3 := x_b3.bl hn; replace x_b4 := x_b4.bl hn; replace x_b5 := x_b5.bl hn; replace e1 := e1.bl hn; replace e2 := e2.bl hn; replace x_b12 := x_b12.bl hn; replace hb := hb.trans (hn.mono hb.size)
    clear hn; intro K hK
    go_big_op
    go_fit (rgTurn_any ((kq t.r1 t.r2 : Nat) : Int) (PN.mk' a3 a4) (by omega) (by omega))
    rintro e w_32 ⟨_, rfl, ⟨n_fa, o_fa, k_fa, c_fa, n_fb, o_fb, k_fb, c_fb, rfl, f1, f2⟩, hb_32⟩
    replace x_b6 := x_b6.bl hb_32; replace a1 := a1.bl hb_32; replace a2 := a2.bl hb_32; replace x_b7 := x_b7.bl hb_32; replace b1 := b1.bl hb_32; replace b2 := b2.bl hb_32; replace x_b8 := x_b8.bl hb_32; replace a3 := a3.bl hb_32; replace a4 := a4.bl hb_32; replace x_b9 := x_b9.bl hb_32; replace b3 := b3.bl hb_32; replace b4 := b4.bl hb_32; replace x_b10 := x_b10.bl hb_32; replace a5 := a5.bl hb_32; replace a6 := a6.bl hb_32; replace x_b11 := x_b11.bl hb_32; replace b5 := b5.bl hb_32; replace b6 := b6.bl hb_32; replace x_b3 := x_b3.bl hb_32; replace x_b4 := x_b4.bl hb_32; replace x_b5 := x_b5.bl hb_32; replace e1 := e1.bl hb_32; replace e2 := e2.bl hb_32; replace x_b12 := x_b12.bl hb_32; replace hb := hb.trans (hb_32.mono hb.size)
    rw [HK.out, HM.out] at f1 f2
    refine hK _ _ rfl hb_32 ⟨x_b12.cell 0 rfl, x_b12.cell 1 rfl, x_b12.cell 2 rfl, x_b12.cell 3 rfl, x_b8.cell 0 rfl, x_b8.cell 1 rfl, x_b8.cell 2 rfl, x_b8.cell 3 rfl, x_b10.cell 0 rfl, x_b10.cell 1 rfl, x_b10.cell 2 rfl, x_b10.cell 3 rfl⟩ ?_
    clear hK K hb_32
    refine wpFl_call rfl (by kernel_rfl) fun w_33 hn hC => ?_; clear hC
    replace x_b6 := x_b6.bl hn; replace a1 := a1.bl hn; replace a2 := a2.bl hn; replace x_b7 := x_b7.bl hn; replace b1 := b1.bl hn; replace b2 := b2.bl hn; replace x_b8 := x_b8.bl hn; replace a3 := a3.bl hn; replace a4 := a4.bl hn; replace x_b9 := x_b9.bl hn; replace b3 := b3.bl hn; replace b4 := b4.bl hn; replace x_b10 := x_b10.bl hn; replace a5 := a5.bl hn; replace a6 := a6.bl hn; replace x_b11 := x_b11.bl hn; replace b5 := b5.bl hn; replace b6 := b6.bl hn; replace x_b3 := x_b3.bl hn; replace x_b4 := x_b4.bl hn; replace x_b5 := x_b5.bl hn; replace e1 := e1.bl hn; replace e2 := e2.bl hn; replace x_b12 := x_b12.bl hn; replace f1 := f1.bl hn; replace f2 := f2.bl hn; replace hb := hb.trans (hn.mono hb.size)
    clear hn; intro K hK
    go_big_op
    go_fit (rgTurn_any ((kq t.r1 t.r2 : Nat) : Int) (PN.mk' a5 a6) (by omega) (by omega))
    rintro e w_34 ⟨_, rfl, ⟨n_ga, o_ga, k_ga, c_ga, n_gb, o_gb, k_gb, c_gb, rfl, g1, g2⟩, hb_34⟩
    replace x_b6 := x_b6.bl hb_34; replace a1 := a1.bl hb_34; replace a2 := a2.bl hb_34; replace x_b7 := x_b7.bl hb_34; replace b1 := b1.bl hb_34; replace b2 := b2.bl hb_34; replace x_b8 := x_b8.bl hb_34; replace a3 := a3.bl hb_34; replace a4 := a4.bl hb_34; replace x_b9 := x_b9.bl hb_34; replace b3 := b3.bl hb_34; replace b4 := b4.bl hb_34; replace x_b10 := x_b10.bl hb_34; replace a5 := a5.bl hb_34; replace a6 := a6.bl hb_34; replace x_b11 := x_b11.bl hb_34; replace b5 := b5.bl hb_34; replace b6 := b6.bl hb_34; replace x_b3 := x_b3.bl hb_34; replace x_b4 := x_b4.bl hb_34; replace x_b5 := x_b5.bl hb_34; replace e1 := e1.bl hb_34; replace e2 := e2.bl hb_34; replace x_b12 := x_b12.bl hb_34; replace f1 := f1.bl hb_34; replace f2 := f2.bl hb_34; replace hb := hb.trans (hb_34.mono hb.size)
    rw [HK.out, HM.out] at g1 g2
    refine hK _ _ rfl hb_34 ⟨x_b12.cell 0 rfl, x_b12.cell 1 rfl, x_b12.cell 2 rfl, x_b12.cell 3 rfl, x_b8.cell 0 rfl, x_b8.cell 1 rfl, x_b8.cell 2 rfl, x_b8.cell 3 rfl, x_b10.cell 0 rfl, x_b10.cell 1 rfl, x_b10.cell 2 rfl, x_b10.cell 3 rfl⟩ ?_
    clear hK K hb_34
    apply wpFl_end
    case ha => intro pt; simp only [putF]; rfl
    case h =>
    intro w_35 pt hn hC hF hD
    clear hC
    replace x_b6 := x_b6.bl hn; replace a1 := a1.bl hn; replace a2 := a2.bl hn; replace x_b7 := x_b7.bl hn; replace b1 := b1.bl hn; replace b2 := b2.bl hn; replace x_b8 := x_b8.bl hn; replace a3 := a3.bl hn; replace a4 := a4.bl hn; replace x_b9 := x_b9.bl hn; replace b3 := b3.bl hn; replace b4 := b4.bl hn; replace x_b10 := x_b10.bl hn; replace a5 := a5.bl hn; replace a6 := a6.bl hn; replace x_b11 := x_b11.bl hn; replace b5 := b5.bl hn; replace b6 := b6.bl hn; replace x_b3 := x_b3.bl hn; replace x_b4 := x_b4.bl hn; replace x_b5 := x_b5.bl hn; replace e1 := e1.bl hn; replace e2 := e2.bl hn; replace x_b12 := x_b12.bl hn; replace f1 := f1.bl hn; replace f2 := f2.bl hn; replace g1 := g1.bl hn; replace g2 := g2.bl hn; replace hb := hb.trans (hn.mono hb.size)
    clear hn
    clear hF hD
    clear pt
    clear kb0 lt_b3 lt_b4 lt_b5 lt_b6 lt_b7 lt_b8 lt_b9 lt_b10 lt_b11 lt_b12
    refine wpTail_call rfl (by kernel_rfl) fun K hK => ?_
    obtain ⟨d0, d1, d2, d3⟩ := x_b3.f4
    have f0 := x_b3.free 0; have f1 := x_b3.free 1; have f2 := x_b3.free 2; have f3 := x_b3.free 3
    go_big_op
    have hnd := x_b3.nod rfl rfl
    obtain ⟨w_36, eW, x_b3', ho⟩ : ∃ w', ((((w_35.setCell ⟨p_b3, 0, none⟩ (.bool n_ea)).setCell ⟨p_b3, 1, none⟩ (.slice o_ea k_ea c_ea)).setCell ⟨p_b3, 2, none⟩ (.bool n_eb)).setCell ⟨p_b3, 3, none⟩ (.slice o_eb k_eb c_eb)) = w' ∧ Bs w' p_b3 #[.bool n_ea, .slice o_ea k_ea c_ea, .bool n_eb, .slice o_eb k_eb c_eb] 29 ∧ Only p_b3 w_35 w' := x_b3.setN [(0, .bool n_ea), (1, .slice o_ea k_ea c_ea), (2, .bool n_eb), (3, .slice o_eb k_eb c_eb)]
    rw [eW]; clear eW d0 d1 d2 d3 f0 f1 f2 f3 x_b3
    have x_b3 := x_b3'; clear x_b3'
    replace x_b6 := x_b6.frame ho ne_b3_b6.symm; replace a1 := a1.fr hnd ho; replace a2 := a2.fr hnd ho; replace x_b7 := x_b7.frame ho ne_b3_b7.symm; replace b1 := b1.fr hnd ho; replace b2 := b2.fr hnd ho; replace x_b8 := x_b8.frame ho ne_b3_b8.symm; replace a3 := a3.fr hnd ho; replace a4 := a4.fr hnd ho; replace x_b9 := x_b9.frame ho ne_b3_b9.symm; replace b3 := b3.fr hnd ho; replace b4 := b4.fr hnd ho; replace x_b10 := x_b10.frame ho ne_b3_b10.symm; replace a5 := a5.fr hnd ho; replace a6 := a6.fr hnd ho; replace x_b11 := x_b11.frame ho ne_b3_b11.symm; replace b5 := b5.fr hnd ho; replace b6 := b6.fr hnd ho; replace x_b4 := x_b4.frame ho ne_b3_b4.symm; replace x_b5 := x_b5.frame ho ne_b3_b5.symm; replace e1 := e1.fr hnd ho; replace e2 := e2.fr hnd ho; replace x_b12 := x_b12.frame ho ne_b3_b12.symm; replace f1 := f1.fr hnd ho; replace f2 := f2.fr hnd ho; replace g1 := g1.fr hnd ho; replace g2 := g2.fr hnd ho; replace hb := belowOnly hb ho kb_b3
    refine hK _ _ rfl (And.intro ⟨x_b12.cell 0 rfl, x_b12.cell 1 rfl, x_b12.cell 2 rfl, x_b12.cell 3 rfl⟩ (And.intro ⟨x_b8.cell 0 rfl, x_b8.cell 1 rfl, x_b8.cell 2 rfl, x_b8.cell 3 rfl⟩ (And.intro ⟨x_b10.cell 0 rfl, x_b10.cell 1 rfl, x_b10.cell 2 rfl, x_b10.cell 3 rfl⟩ True.intro))) ?_; clear hK K ho hnd
    refine wpTail_call rfl (by kernel_rfl) fun K hK => ?_
    obtain ⟨d0, d1, d2, d3⟩ := x_b4.f4
    have f0 := x_b4.free 0; have f1 := x_b4.free 1; have f2 := x_b4.free 2; have f3 := x_b4.free 3
    go_big_op
    have hnd := x_b4.nod rfl rfl
    obtain ⟨w_37, eW, x_b4', ho⟩ : ∃ w', ((((w_36.setCell ⟨p_b4, 0, none⟩ (.bool n_fa)).setCell ⟨p_b4, 1, none⟩ (.slice o_fa k_fa c_fa)).setCell ⟨p_b4, 2, none⟩ (.bool n_fb)).setCell ⟨p_b4, 3, none⟩ (.slice o_fb k_fb c_fb)) = w' ∧ Bs w' p_b4 #[.bool n_fa, .slice o_fa k_fa c_fa, .bool n_fb, .slice o_fb k_fb c_fb] 29 ∧ Only p_b4 w_36 w' := x_b4.setN [(0, .bool n_fa), (1, .slice o_fa k_fa c_fa), (2, .bool n_fb), (3, .slice o_fb k_fb c_fb)]
    rw [eW]; clear eW d0 d1 d2 d3 f0 f1 f2 f3 x_b4
    have x_b4 := x_b4'; clear x_b4'
    replace x_b6 := x_b6.frame ho ne_b4_b6.symm; replace a1 := a1.fr hnd ho; replace a2 := a2.fr hnd ho; replace x_b7 := x_b7.frame ho ne_b4_b7.symm; replace b1 := b1.fr hnd ho; replace b2 := b2.fr hnd ho; replace x_b8 := x_b8.frame ho ne_b4_b8.symm; replace a3 := a3.fr hnd ho; replace a4 := a4.fr hnd ho; replace x_b9 := x_b9.frame ho ne_b4_b9.symm; replace b3 := b3.fr hnd ho; replace b4 := b4.fr hnd ho; replace x_b10 := x_b10.frame ho ne_b4_b10.symm; replace a5 := a5.fr hnd ho; replace a6 := a6.fr hnd ho; replace x_b11 := x_b11.frame ho ne_b4_b11.symm; replace b5 := b5.fr hnd ho; replace b6 := b6.fr hnd ho; replace x_b3 := x_b3.frame ho ne_b3_b4; replace x_b5 := x_b5.frame ho ne_b4_b5.symm; replace e1 := e1.fr hnd ho; replace e2 := e2.fr hnd ho; replace x_b12 := x_b12.frame ho ne_b4_b12.symm; replace f1 := f1.fr hnd ho; replace f2 := f2.fr hnd ho; replace g1 := g1.fr hnd ho; replace g2 := g2.fr hnd ho; replace hb := belowOnly hb ho kb_b4
    refine hK _ _ rfl (And.intro ⟨x_b12.cell 0 rfl, x_b12.cell 1 rfl, x_b12.cell 2 rfl, x_b12.cell 3 rfl⟩ (And.intro ⟨x_b8.cell 0 rfl, x_b8.cell 1 rfl, x_b8.cell 2 rfl, x_b8.cell 3 rfl⟩ (And.intro ⟨x_b10.cell 0 rfl, x_b10.cell 1 rfl, x_b10.cell 2 rfl, x_b10.cell 3 rfl⟩ True.intro))) ?_; clear hK K ho hnd
    refine wpTail_call rfl (by kernel_rfl) fun K hK => ?_
    obtain ⟨d0, d1, d2, d3⟩ := x_b5.f4
    have f0 := x_b5.free 0; have f1 := x_b5.free 1; have f2 := x_b5.free 2; have f3 := x_b5.free 3
    go_big_op
    have hnd := x_b5.nod rfl rfl
    obtain ⟨w_38, eW, x_b5', ho⟩ : ∃ w', ((((w_37.setCell ⟨p_b5, 0, none⟩ (.bool n_ga)).setCell ⟨p_b5, 1, none⟩ (.slice o_ga k_ga c_ga)).setCell ⟨p_b5, 2, none⟩ (.bool n_gb)).setCell ⟨p_b5, 3, none⟩ (.slice o_gb k_gb c_gb)) = w' ∧ Bs w' p_b5 #[.bool n_ga, .slice o_ga k_ga c_ga, .bool n_gb, .slice o_gb k_gb c_gb] 29 ∧ Only p_b5 w_37 w' := x_b5.setN [(0, .bool n_ga), (1, .slice o_ga k_ga c_ga), (2, .bool n_gb), (3, .slice o_gb k_gb c_gb)]
    rw [eW]; clear eW d0 d1 d2 d3 f0 f1 f2 f3 x_b5
    have x_b5 := x_b5'; clear x_b5'
    replace x_b6 := x_b6.frame ho ne_b5_b6.symm; replace a1 := a1.fr hnd ho; replace a2 := a2.fr hnd ho; replace x_b7 := x_b7.frame ho ne_b5_b7.symm; replace b1 := b1.fr hnd ho; replace b2 := b2.fr hnd ho; replace x_b8 := x_b8.frame ho ne_b5_b8.symm; replace a3 := a3.fr hnd ho; replace a4 := a4.fr hnd ho; replace x_b9 := x_b9.frame ho ne_b5_b9.symm; replace b3 := b3.fr hnd ho; replace b4 := b4.fr hnd ho; replace x_b10 := x_b10.frame ho ne_b5_b10.symm; replace a5 := a5.fr hnd ho; replace a6 := a6.fr hnd ho; replace x_b11 := x_b11.frame ho ne_b5_b11.symm; replace b5 := b5.fr hnd ho; replace b6 := b6.fr hnd ho; replace x_b3 := x_b3.frame ho ne_b3_b5; replace x_b4 := x_b4.frame ho ne_b4_b5; replace e1 := e1.fr hnd ho; replace e2 := e2.fr hnd ho; replace x_b12 := x_b12.frame ho ne_b5_b12.symm; replace f1 := f1.fr hnd ho; replace f2 := f2.fr hnd ho; replace g1 := g1.fr hnd ho; replace g2 := g2.fr hnd ho; replace hb := belowOnly hb ho kb_b5
    refine hK _ _ rfl (And.intro ⟨x_b12.cell 0 rfl, x_b12.cell 1 rfl, x_b12.cell 2 rfl, x_b12.cell 3 rfl⟩ (And.intro ⟨x_b8.cell 0 rfl, x_b8.cell 1 rfl, x_b8.cell 2 rfl, x_b8.cell 3 rfl⟩ (And.intro ⟨x_b10.cell 0 rfl, x_b10.cell 1 rfl, x_b10.cell 2 rfl, x_b10.cell 3 rfl⟩ True.intro))) ?_; clear hK K ho hnd
    apply wpTail_end
    refine hK9 _ _ ?_
    refine wp_ret ?_
    rw [HK.out] at e1 e2
    rw [HFT.out] at e1 e2 f1 f2 g1 g2
    try dsimp only [Exit.then, Exit.inBlock]
    obtain ⟨r0_0, r0_1, r0_2, r0_3⟩ := x_b3.f4
    obtain ⟨r4_0, r4_1, r4_2, r4_3⟩ := x_b4.f4
    obtain ⟨r8_0, r8_1, r8_2, r8_3⟩ := x_b5.f4
    refine bodyPost_ret (v := (.tuple #[(.agg #[.bool n_ea, .slice o_ea k_ea c_ea, .bool n_eb, .slice o_eb k_eb c_eb]), (.agg #[.bool n_fa, .slice o_fa k_fa c_fa, .bool n_fb, .slice o_fb k_fb c_fb]), (.agg #[.bool n_ga, .slice o_ga k_ga c_ga, .bool n_gb, .slice o_gb k_gb c_gb])])) (by simp [results, Tryz.results21, go_sem, r0_0, r0_1, r0_2, r0_3, r4_0, r4_1, r4_2, r4_3, r8_0, r8_1, r8_2, r8_3]) rfl ?_
    exact ⟨_, _, _, rfl, .mk' e1 e2, .mk' f1 f2, .mk' g1 g2, hb⟩
  · have H0 := hide h0
    have HI := hide (HT.out.1.step h0)
    have HL := hide (step_less h0)
    have HP := hide (gN_pos h0)
    have HD := hide (decide_eq_false (p := t.s1 = 0 ∧ t.s2 = 0) (fun c => h0 (gN_zero.2 c)))
    clear h0
    refine wp_seq_k ?_
    intro K6 hK6
    refine wp_seq_k ?_
    intro K7 hK7
    refine wp_region_sq [0, 1, 2] (by kernel_rfl) ?_
    refine wpSq_call rfl (by kernel_rfl) fun K hK => ?_
    obtain ⟨d0, d1, d2, d3⟩ := x_b7.f4
    go_big_op; refine hK _ _ rfl ?_; clear hK K d0 d1 d2 d3
    refine wpSq_call rfl (by kernel_rfl) fun K hK => ?_
    go_big_op
    go_fit (rgNull_any (PN.mk' b1 b2) (by omega) (by omega))
    rintro e w_26 ⟨rfl, hb_26⟩
    replace x_b6 := x_b6.bl hb_26; replace a1 := a1.bl hb_26; replace a2 := a2.bl hb_26; replace x_b7 := x_b7.bl hb_26; replace b1 := b1.bl hb_26; replace b2 := b2.bl hb_26; replace x_b8 := x_b8.bl hb_26; replace a3 := a3.bl hb_26; replace a4 := a4.bl hb_26; replace x_b9 := x_b9.bl hb_26; replace b3 := b3.bl hb_26; replace b4 := b4.bl hb_26; replace x_b10 := x_b10.bl hb_26; replace a5 := a5.bl hb_26; replace a6 := a6.bl hb_26; replace x_b11 := x_b11.bl hb_26; replace b5 := b5.bl hb_26; replace b6 := b6.bl hb_26; replace x_b3 := x_b3.bl hb_26; replace x_b4 := x_b4.bl hb_26; replace x_b5 := x_b5.bl hb_26; replace hb := hb.trans (hb_26.mono hb.size)
    rw [HD.out]
    refine hK _ _ rfl ?_
    clear hK K hb_26
    refine wpSq_call rfl (by kernel_rfl) fun K hK => ?_
    go_big_op; refine hK _ _ rfl ?_; clear hK K
    apply wpSq_end
    refine hK7 _ _ ?_
    refine wp_cond_true (congrArg Value.bool (show _ = true from (by first | rfl | assumption | (simp; done) | exact decide_eq_true (by omega) | omega))) ?_
    refine wp_skip ?_
    refine hK6 _ _ ?_
    refine wp_block ?_
    refine wp_seq_k ?_
    intro K8 hK8
    refine wp_region_sq [0, 1, 2, 3, 4, 5, 6, 7, 8, 9] (by kernel_rfl) ?_
    refine wpSq_call rfl (by kernel_rfl) fun K hK => ?_
    obtain ⟨d0, d1, d2, d3⟩ := x_b6.f4
    go_big_op; refine hK _ _ rfl ?_; clear hK K d0 d1 d2 d3
    refine wpSq_call rfl (by kernel_rfl) fun K hK => ?_
    obtain ⟨d0, d1, d2, d3⟩ := x_b7.f4
    go_big_op; refine hK _ _ rfl ?_; clear hK K d0 d1 d2 d3
    refine wpSq_call rfl (by kernel_rfl) fun K hK => ?_
    go_big_op
    go_fit (rgRound_any (PN.mk' a1 a2) (PN.mk' b1 b2) (by omega) (by omega) (by omega) (by omega) H0.out)
    rintro e w_27 ⟨_, _, rfl, ⟨n_qa, o_qa, k_qa, c_qa, n_qb, o_qb, k_qb, c_qb, rfl, q1, q2⟩, ⟨n_ra, o_ra, k_ra, c_ra, n_rb, o_rb, k_rb, c_rb, rfl, r1, r2⟩, hb_27⟩
    replace x_b6 := x_b6.bl hb_27; replace a1 := a1.bl hb_27; replace a2 := a2.bl hb_27; replace x_b7 := x_b7.bl hb_27; replace b1 := b1.bl hb_27; replace b2 := b2.bl hb_27; replace x_b8 := x_b8.bl hb_27; replace a3 := a3.bl hb_27; replace a4 := a4.bl hb_27; replace x_b9 := x_b9.bl hb_27; replace b3 := b3.bl hb_27; replace b4 := b4.bl hb_27; replace x_b10 := x_b10.bl hb_27; replace a5 := a5.bl hb_27; replace a6 := a6.bl hb_27; replace x_b11 := x_b11.bl hb_27; replace b5 := b5.bl hb_27; replace b6 := b6.bl hb_27; replace x_b3 := x_b3.bl hb_27; replace x_b4 := x_b4.bl hb_27; replace x_b5 := x_b5.bl hb_27; replace hb := hb.trans (hb_27.mono hb.size)
    have Lq1 := hide (q1.lenOf (rnd_len (H0.out) (zlen_gT1 (a1.len) (a2.len) (b1.len) (b2.len))))
    have Lq2 := hide (q2.lenOf (rnd_len (H0.out) (zlen_gT2 (a1.len) (a2.len) (b1.len) (b2.len))))
    have Lr1 := hide (r1.lenOf (zlen_gR1 (a1.len) (a2.len) (b1.len) (b2.len) (H0.out)))
    have Lr2 := hide (r2.lenOf (zlen_gR2 (a1.len) (a2.len) (b1.len) (b2.len) (H0.out)))
    refine hK _ _ rfl ?_
    clear hK K hb_27
    refine wpSq_call rfl (by kernel_rfl) fun K hK => ?_
    go_big_move; refine hK _ _ rfl ?_; clear hK K
    refine wpSq_call rfl (by kernel_rfl) fun K hK => ?_
    go_big_op; refine hK _ _ rfl ?_; clear hK K
    refine wpSq_call rfl (by kernel_rfl) fun K hK => ?_
    go_big_op; refine hK _ _ rfl ?_; clear hK K
    refine wpSq_call rfl (by kernel_rfl) fun K hK => ?_
    go_big_op
    have lt_b3 := x_b3.lt
    have lt_b4 := x_b4.lt
    have lt_b5 := x_b5.lt
    have lt_b6 := x_b6.lt
    have lt_b7 := x_b7.lt
    have lt_b8 := x_b8.lt
    have lt_b9 := x_b9.lt
    have lt_b10 := x_b10.lt
    have lt_b11 := x_b11.lt
    obtain ⟨p_b12, w_28, eP, eW, x_b12, hn, kb_b12⟩ := newBox w_27 #[.bool false, .slice none 0 0, .bool false, .slice none 0 0] 29 hb.size
    have ne_b3_b12 : Hid (p_b3 ≠ p_b12) := Nat.ne_of_lt (eP ▸ lt_b3)
    have ne_b4_b12 : Hid (p_b4 ≠ p_b12) := Nat.ne_of_lt (eP ▸ lt_b4)
    have ne_b5_b12 : Hid (p_b5 ≠ p_b12) := Nat.ne_of_lt (eP ▸ lt_b5)
    have ne_b6_b12 : Hid (p_b6 ≠ p_b12) := Nat.ne_of_lt (eP ▸ lt_b6)
    have ne_b7_b12 : Hid (p_b7 ≠ p_b12) := Nat.ne_of_lt (eP ▸ lt_b7)
    have ne_b8_b12 : Hid (p_b8 ≠ p_b12) := Nat.ne_of_lt (eP ▸ lt_b8)
    have ne_b9_b12 : Hid (p_b9 ≠ p_b12) := Nat.ne_of_lt (eP ▸ lt_b9)
    have ne_b10_b12 : Hid (p_b10 ≠ p_b12) := Nat.ne_of_lt (eP ▸ lt_b10)
    have ne_b11_b12 : Hid (p_b11 ≠ p_b12) := Nat.ne_of_lt (eP ▸ lt_b11)
    rw [eW, eP]
    clear eW eP lt_b3 lt_b4 lt_b5 lt_b6 lt_b7 lt_b8 lt_b9 lt_b10 lt_b11
    replace x_b6 := x_b6.bl hn; replace a1 := a1.bl hn; replace a2 := a2.bl hn; replace x_b7 := x_b7.bl hn; replace b1 := b1.bl hn; replace b2 := b2.bl hn; replace x_b8 := x_b8.bl hn; replace a3 := a3.bl hn; replace a4 := a4.bl hn; replace x_b9 := x_b9.bl hn; replace b3 := b3.bl hn; replace b4 := b4.bl hn; replace x_b10 := x_b10.bl hn; replace a5 := a5.bl hn; replace a6 := a6.bl hn; replace x_b11 := x_b11.bl hn; replace b5 := b5.bl hn; replace b6 := b6.bl hn; replace x_b3 := x_b3.bl hn; replace x_b4 := x_b4.bl hn; replace x_b5 := x_b5.bl hn; replace q1 := q1.bl hn; replace q2 := q2.bl hn; replace r1 := r1.bl hn; replace r2 := r2.bl hn; replace hb := hb.trans (hn.mono hb.size)
    refine hK _ _ rfl ?_; clear hK K hn
    refine wpSq_call rfl (by kernel_rfl) fun K hK => ?_
    go_big_op
    have lt_b3 := x_b3.lt
    have lt_b4 := x_b4.lt
    have lt_b5 := x_b5.lt
    have lt_b6 := x_b6.lt
    have lt_b7 := x_b7.lt
    have lt_b8 := x_b8.lt
    have lt_b9 := x_b9.lt
    have lt_b10 := x_b10.lt
    have lt_b11 := x_b11.lt
    have lt_b12 := x_b12.lt
    obtain ⟨p_b13, w_29, eP, eW, x_b13, hn, kb_b13⟩ := newBox w_28 #[.bool false, .slice none 0 0, .bool false, .slice none 0 0] 29 hb.size
    have ne_b3_b13 : Hid (p_b3 ≠ p_b13) := Nat.ne_of_lt (eP ▸ lt_b3)
    have ne_b4_b13 : Hid (p_b4 ≠ p_b13) := Nat.ne_of_lt (eP ▸ lt_b4)
    have ne_b5_b13 : Hid (p_b5 ≠ p_b13) := Nat.ne_of_lt (eP ▸ lt_b5)
    have ne_b6_b13 : Hid (p_b6 ≠ p_b13) := Nat.ne_of_lt (eP ▸ lt_b6)
    have ne_b7_b13 : Hid (p_b7 ≠ p_b13) := Nat.ne_of_lt (eP ▸ lt_b7)
    have ne_b8_b13 : Hid (p_b8 ≠ p_b13) := Nat.ne_of_lt (eP ▸ lt_b8)
    have ne_b9_b13 : Hid (p_b9 ≠ p_b13) := Nat.ne_of_lt (eP ▸ lt_b9)
    have ne_b10_b13 : Hid (p_b10 ≠ p_b13) := Nat.ne_of_lt (eP ▸ lt_b10)
    have ne_b11_b13 : Hid (p_b11 ≠ p_b13) := Nat.ne_of_lt (eP ▸ lt_b11)
    have ne_b12_b13 : Hid (p_b12 ≠ p_b13) := Nat.ne_of_lt (eP ▸ lt_b12)
    rw [eW, eP]
    clear eW eP lt_b3 lt_b4 lt_b5 lt_b6 lt_b7 lt_b8 lt_b9 lt_b10 lt_b11 lt_b12
    replace x_b6 := x_b6.bl hn; replace a1 := a1.bl hn; replace a2 := a2.bl hn; replace x_b7 := x_b7.bl hn; replace b1 := b1.bl hn; replace b2 := b2.bl hn; replace x_b8 := x_b8.bl hn; replace a3 := a3.bl hn; replace a4 := a4.bl hn; replace x_b9 := x_b9.bl hn; replace b3 := b3.bl hn; replace b4 := b4.bl hn; replace x_b10 := x_b10.bl hn; replace a5 := a5.bl hn; replace a6 := a6.bl hn; replace x_b11 := x_b11.bl hn; replace b5 := b5.bl hn; replace b6 := b6.bl hn; replace x_b3 := x_b3.bl hn; replace x_b4 := x_b4.bl hn; replace x_b5 := x_b5.bl hn; replace q1 := q1.bl hn; replace q2 := q2.bl hn; replace r1 := r1.bl hn; replace r2 := r2.bl hn; replace x_b12 := x_b12.bl hn; replace hb := hb.trans (hn.mono hb.size)
    refine hK _ _ rfl ?_; clear hK K hn
    refine wpSq_call rfl (by kernel_rfl) fun K hK => ?_
    obtain ⟨d0, d1, d2, d3⟩ := x_b12.f4
    have f0 := x_b12.free 0; have f1 := x_b12.free 1; have f2 := x_b12.free 2; have f3 := x_b12.free 3
    go_big_op
    have hnd := x_b12.nod rfl rfl
    obtain ⟨w_30, eW, x_b12', ho⟩ : ∃ w', ((((w_29.setCell ⟨p_b12, 0, none⟩ (.bool n_qa)).setCell ⟨p_b12, 1, none⟩ (.slice o_qa k_qa c_qa)).setCell ⟨p_b12, 2, none⟩ (.bool n_qb)).setCell ⟨p_b12, 3, none⟩ (.slice o_qb k_qb c_qb)) = w' ∧ Bs w' p_b12 #[.bool n_qa, .slice o_qa k_qa c_qa, .bool n_qb, .slice o_qb k_qb c_qb] 29 ∧ Only p_b12 w_29 w' := x_b12.setN [(0, .bool n_qa), (1, .slice o_qa k_qa c_qa), (2, .bool n_qb), (3, .slice o_qb k_qb c_qb)]
    rw [eW]; clear eW d0 d1 d2 d3 f0 f1 f2 f3 x_b12
    have x_b12 := x_b12'; clear x_b12'
    replace x_b6 := x_b6.frame ho ne_b6_b12; replace a1 := a1.fr hnd ho; replace a2 := a2.fr hnd ho; replace x_b7 := x_b7.frame ho ne_b7_b12; replace b1 := b1.fr hnd ho; replace b2 := b2.fr hnd ho; replace x_b8 := x_b8.frame ho ne_b8_b12; replace a3 := a3.fr hnd ho; replace a4 := a4.fr hnd ho; replace x_b9 := x_b9.frame ho ne_b9_b12; replace b3 := b3.fr hnd ho; replace b4 := b4.fr hnd ho; replace x_b10 := x_b10.frame ho ne_b10_b12; replace a5 := a5.fr hnd ho; replace a6 := a6.fr hnd ho; replace x_b11 := x_b11.frame ho ne_b11_b12; replace b5 := b5.fr hnd ho; replace b6 := b6.fr hnd ho; replace x_b3 := x_b3.frame ho ne_b3_b12; replace x_b4 := x_b4.frame ho ne_b4_b12; replace x_b5 := x_b5.frame ho ne_b5_b12; replace q1 := q1.fr hnd ho; replace q2 := q2.fr hnd ho; replace r1 := r1.fr hnd ho; replace r2 := r2.fr hnd ho; replace x_b13 := x_b13.frame ho ne_b12_b13.symm; replace hb := belowOnly hb ho kb_b12
    refine hK _ _ rfl ?_; clear hK K ho hnd
    refine wpSq_call rfl (by kernel_rfl) fun K hK => ?_
    obtain ⟨d0, d1, d2, d3⟩ := x_b13.f4
    have f0 := x_b13.free 0; have f1 := x_b13.free 1; have f2 := x_b13.free 2; have f3 := x_b13.free 3
    go_big_op
    have hnd := x_b13.nod rfl rfl
    obtain ⟨w_31, eW, x_b13', ho⟩ : ∃ w', ((((w_30.setCell ⟨p_b13, 0, none⟩ (.bool n_ra)).setCell ⟨p_b13, 1, none⟩ (.slice o_ra k_ra c_ra)).setCell ⟨p_b13, 2, none⟩ (.bool n_rb)).setCell ⟨p_b13, 3, none⟩ (.slice o_rb k_rb c_rb)) = w' ∧ Bs w' p_b13 #[.bool n_ra, .slice o_ra k_ra c_ra, .bool n_rb, .slice o_rb k_rb c_rb] 29 ∧ Only p_b13 w_30 w' := x_b13.setN [(0, .bool n_ra), (1, .slice o_ra k_ra c_ra), (2, .bool n_rb), (3, .slice o_rb k_rb c_rb)]
    rw [eW]; clear eW d0 d1 d2 d3 f0 f1 f2 f3 x_b13
    have x_b13 := x_b13'; clear x_b13'
    replace x_b6 := x_b6.frame ho ne_b6_b13; replace a1 := a1.fr hnd ho; replace a2 := a2.fr hnd ho; replace x_b7 := x_b7.frame ho ne_b7_b13; replace b1 := b1.fr hnd ho; replace b2 := b2.fr hnd ho; replace x_b8 := x_b8.frame ho ne_b8_b13; replace a3 := a3.fr hnd ho; replace a4 := a4.fr hnd ho; replace x_b9 := x_b9.frame ho ne_b9_b13; replace b3 := b3.fr hnd ho; replace b4 := b4.fr hnd ho; replace x_b10 := x_b10.frame ho ne_b10_b13; replace a5 := a5.fr hnd ho; replace a6 := a6.fr hnd ho; replace x_b11 := x_b11.frame ho ne_b11_b13; replace b5 := b5.fr hnd ho; replace b6 := b6.fr hnd ho; replace x_b3 := x_b3.frame ho ne_b3_b13; replace x_b4 := x_b4.frame ho ne_b4_b13; replace x_b5 := x_b5.frame ho ne_b5_b13; replace q1 := q1.fr hnd ho; replace q2 := q2.fr hnd ho; replace r1 := r1.fr hnd ho; replace r2 := r2.fr hnd ho; replace x_b12 := x_b12.frame ho ne_b12_b13; replace hb := belowOnly hb ho kb_b13
    refine hK _ _ rfl ?_; clear hK K ho hnd
    apply wpSq_end
    refine hK8 _ _ ?_
    refine wp_seq_k ?_
    intro K9 hK9
    refine wp_region_fl2 [(0, false), (1, false)] [2, 3] [] (fun _ => default) [0, 1, 99, 99] [(3, 0)] (fun w' => w'.cell? ⟨p_b7, 0, none⟩ = some (.bool bn1) ∧ w'.cell? ⟨p_b7, 1, none⟩ = some (.slice bo1 bk1 bc1) ∧ w'.cell? ⟨p_b7, 2, none⟩ = some (.bool bn2) ∧ w'.cell? ⟨p_b7, 3, none⟩ = some (.slice bo2 bk2 bc2) ∧ w'.cell? ⟨p_b13, 0, none⟩ = some (.bool n_ra) ∧ w'.cell? ⟨p_b13, 1, none⟩ = some (.slice o_ra k_ra c_ra) ∧ w'.cell? ⟨p_b13, 2, none⟩ = some (.bool n_rb) ∧ w'.cell? ⟨p_b13, 3, none⟩ = some (.slice o_rb k_rb c_rb)) [fun w' => w'.cell? ⟨p_b7, 0, none⟩ = some (.bool bn1) ∧ w'.cell? ⟨p_b7, 1, none⟩ = some (.slice bo1 bk1 bc1) ∧ w'.cell? ⟨p_b7, 2, none⟩ = some (.bool bn2) ∧ w'.cell? ⟨p_b7, 3, none⟩ = some (.slice bo2 bk2 bc2), fun w' => w'.cell? ⟨p_b13, 0, none⟩ = some (.bool n_ra) ∧ w'.cell? ⟨p_b13, 1, none⟩ = some (.slice o_ra k_ra c_ra) ∧ w'.cell? ⟨p_b13, 2, none⟩ = some (.bool n_rb) ∧ w'.cell? ⟨p_b13, 3, none⟩ = some (.slice o_rb k_rb c_rb)] (by kernel_rfl) (by kernel_rfl) (by kernel_rfl) (by kernel_rfl) (by kernel_rfl) (by kernel_rfl) (by kernel_rfl) (by kernel_rfl) (by decide) (by intro j hj; cases hj) (by intro w' o hC; obtain ⟨c0, c1, c2, c3, c4, c5, c6, c7⟩ := hC; exact ⟨cell_alloc c0 o, cell_alloc c1 o, cell_alloc c2 o, cell_alloc c3 o, cell_alloc c4 o, cell_alloc c5 o, cell_alloc c6 o, cell_alloc c7 o⟩) (by intro w' hC G hG; obtain ⟨c0, c1, c2, c3, c4, c5, c6, c7⟩ := hC; simp only [List.mem_cons, List.not_mem_nil, or_false] at hG; rcases hG with rfl | rfl <;> first | exact ⟨c0, c1, c2, c3⟩ | exact ⟨c4, c5, c6, c7⟩) ?_
    have lt_b3 := x_b3.lt
    have lt_b4 := x_b4.lt
    have lt_b5 := x_b5.lt
    have lt_b6 := x_b6.lt
    have lt_b7 := x_b7.lt
    have lt_b8 := x_b8.lt
    have lt_b9 := x_b9.lt
    have lt_b10 := x_b10.lt
    have lt_b11 := x_b11.lt
    have lt_b12 := x_b12.lt
    have lt_b13 := x_b13.lt
    intro w_32 hn
    replace lt_b3 := Nat.lt_of_lt_of_le lt_b3 hn.size
    replace lt_b4 := Nat.lt_of_lt_of_le lt_b4 hn.size
    replace lt_b5 := Nat.lt_of_lt_of_le lt_b5 hn.size
    replace lt_b6 := Nat.lt_of_lt_of_le lt_b6 hn.size
    replace lt_b7 := Nat.lt_of_lt_of_le lt_b7 hn.size
    replace lt_b8 := Nat.lt_of_lt_of_le lt_b8 hn.size
    replace lt_b9 := Nat.lt_of_lt_of_le lt_b9 hn.size
    replace lt_b10 := Nat.lt_of_lt_of_le lt_b10 hn.size
    replace lt_b11 := Nat.lt_of_lt_of_le lt_b11 hn.size
    replace lt_b12 := Nat.lt_of_lt_of_le lt_b12 hn.size
    replace lt_b13 := Nat.lt_of_lt_of_le lt_b13 hn.size
    replace x_b6 := x_b6.bl hn; replace a1 := a1.bl hn; replace a2 := a2.bl hn; replace x_b7 := x_b7.bl hn; replace b1 := b1.bl hn; replace b2 := b2.bl hn; replace x_b8 := x_b8.bl hn; replace a3 := a3.bl hn; replace a4 := a4.bl hn; replace x_b9 := x_b9.bl hn; replace b3 := b3.bl hn; replace b4 := b4.bl hn; replace x_b10 := x_b10.bl hn; replace a5 := a5.bl hn; replace a6 := a6.bl hn; replace x_b11 := x_b11.bl hn; replace b5 := b5.bl hn; replace b6 := b6.bl hn; replace x_b3 := x_b3.bl hn; replace x_b4 := x_b4.bl hn; replace x_b5 := x_b5.bl hn; replace q1 := q1.bl hn; replace q2 := q2.bl hn; replace r1 := r1.bl hn; replace r2 := r2.bl hn; replace x_b12 := x_b12.bl hn; replace x_b13 := x_b13.bl hn; replace hb := hb.trans (hn.mono hb.size)
    clear hn
    have kb0 := hb.size
    refine ⟨⟨x_b7.cell 0 rfl, x_b7.cell 1 rfl, x_b7.cell 2 rfl, x_b7.cell 3 rfl, x_b13.cell 0 rfl, x_b13.cell 1 rfl, x_b13.cell 2 rfl, x_b13.cell 3 rfl⟩, ?_⟩
    apply wpFl_ld rfl rfl; (case h1 => intro w' hC K hK; obtain ⟨c0, c1, c2, c3⟩ := hC; go_big_op; exact hK); iterate 4 kernel_rfl
    apply wpFl_ld rfl rfl; (case h1 => intro w' hC K hK; obtain ⟨c0, c1, c2, c3⟩ := hC; go_big_op; exact hK); iterate 4 kernel_rfl
    apply wpFl_end
    case ha => intro pt; simp only [putF]; rfl
    case h =>
    intro w_33 pt hn hC hF hD
    clear hC
    replace x_b6 := x_b6.bl hn; replace a1 := a1.bl hn; replace a2 := a2.bl hn; replace x_b7 := x_b7.bl hn; replace b1 := b1.bl hn; replace b2 := b2.bl hn; replace x_b8 := x_b8.bl hn; replace a3 := a3.bl hn; replace a4 := a4.bl hn; replace x_b9 := x_b9.bl hn; replace b3 := b3.bl hn; replace b4 := b4.bl hn; replace x_b10 := x_b10.bl hn; replace a5 := a5.bl hn; replace a6 := a6.bl hn; replace x_b11 := x_b11.bl hn; replace b5 := b5.bl hn; replace b6 := b6.bl hn; replace x_b3 := x_b3.bl hn; replace x_b4 := x_b4.bl hn; replace x_b5 := x_b5.bl hn; replace q1 := q1.bl hn; replace q2 := q2.bl hn; replace r1 := r1.bl hn; replace r2 := r2.bl hn; replace x_b12 := x_b12.bl hn; replace x_b13 := x_b13.bl hn; replace hb := hb.trans (hn.mono hb.size)
    clear hn
    clear hF hD
    clear pt
    clear kb0 lt_b3 lt_b4 lt_b5 lt_b6 lt_b7 lt_b8 lt_b9 lt_b10 lt_b11 lt_b12 lt_b13
    refine wpTail_call rfl (by kernel_rfl) fun K hK => ?_
    obtain ⟨d0, d1, d2, d3⟩ := x_b6.f4
    have f0 := x_b6.free 0; have f1 := x_b6.free 1; have f2 := x_b6.free 2; have f3 := x_b6.free 3
    go_big_op
    have hnd := x_b6.nod rfl rfl
    obtain ⟨w_34, eW, x_b6', ho⟩ : ∃ w', ((((w_33.setCell ⟨p_b6, 0, none⟩ (.bool bn1)).setCell ⟨p_b6, 1, none⟩ (.slice bo1 bk1 bc1)).setCell ⟨p_b6, 2, none⟩ (.bool bn2)).setCell ⟨p_b6, 3, none⟩ (.slice bo2 bk2 bc2)) = w' ∧ Bs w' p_b6 #[.bool bn1, .slice bo1 bk1 bc1, .bool bn2, .slice bo2 bk2 bc2] 29 ∧ Only p_b6 w_33 w' := x_b6.setN [(0, .bool bn1), (1, .slice bo1 bk1 bc1), (2, .bool bn2), (3, .slice bo2 bk2 bc2)]
    rw [eW]; clear eW d0 d1 d2 d3 f0 f1 f2 f3 x_b6
    have x_b6 := x_b6'; clear x_b6'
    clear a1 a2
    replace x_b7 := x_b7.frame ho ne_b6_b7.symm; replace b1 := b1.fr hnd ho; replace b2 := b2.fr hnd ho; replace x_b8 := x_b8.frame ho ne_b6_b8.symm; replace a3 := a3.fr hnd ho; replace a4 := a4.fr hnd ho; replace x_b9 := x_b9.frame ho ne_b6_b9.symm; replace b3 := b3.fr hnd ho; replace b4 := b4.fr hnd ho; replace x_b10 := x_b10.frame ho ne_b6_b10.symm; replace a5 := a5.fr hnd ho; replace a6 := a6.fr hnd ho; replace x_b11 := x_b11.frame ho ne_b6_b11.symm; replace b5 := b5.fr hnd ho; replace b6 := b6.fr hnd ho; replace x_b3 := x_b3.frame ho ne_b3_b6; replace x_b4 := x_b4.frame ho ne_b4_b6; replace x_b5 := x_b5.frame ho ne_b5_b6; replace q1 := q1.fr hnd ho; replace q2 := q2.fr hnd ho; replace r1 := r1.fr hnd ho; replace r2 := r2.fr hnd ho; replace x_b12 := x_b12.frame ho ne_b6_b12.symm; replace x_b13 := x_b13.frame ho ne_b6_b13.symm; replace hb := belowOnly hb ho kb_b6
    refine hK _ _ rfl (And.intro ⟨x_b7.cell 0 rfl, x_b7.cell 1 rfl, x_b7.cell 2 rfl, x_b7.cell 3 rfl⟩ (And.intro ⟨x_b13.cell 0 rfl, x_b13.cell 1 rfl, x_b13.cell 2 rfl, x_b13.cell 3 rfl⟩ True.intro)) ?_; clear hK K ho hnd
    refine wpTail_call rfl (by kernel_rfl) fun K hK => ?_
    obtain ⟨d0, d1, d2, d3⟩ := x_b7.f4
    have f0 := x_b7.free 0; have f1 := x_b7.free 1; have f2 := x_b7.free 2; have f3 := x_b7.free 3
    go_big_op
    have hnd := x_b7.nod rfl rfl
    obtain ⟨w_35, eW, x_b7', ho⟩ : ∃ w', ((((w_34.setCell ⟨p_b7, 0, none⟩ (.bool n_ra)).setCell ⟨p_b7, 1, none⟩ (.slice o_ra k_ra c_ra)).setCell ⟨p_b7, 2, none⟩ (.bool n_rb)).setCell ⟨p_b7, 3, none⟩ (.slice o_rb k_rb c_rb)) = w' ∧ Bs w' p_b7 #[.bool n_ra, .slice o_ra k_ra c_ra, .bool n_rb, .slice o_rb k_rb c_rb] 29 ∧ Only p_b7 w_34 w' := x_b7.setN [(0, .bool n_ra), (1, .slice o_ra k_ra c_ra), (2, .bool n_rb), (3, .slice o_rb k_rb c_rb)]
    rw [eW]; clear eW d0 d1 d2 d3 f0 f1 f2 f3 x_b7
    have x_b7 := x_b7'; clear x_b7'
    replace x_b6 := x_b6.frame ho ne_b6_b7; replace b1 := b1.fr hnd ho; replace b2 := b2.fr hnd ho; replace x_b8 := x_b8.frame ho ne_b7_b8.symm; replace a3 := a3.fr hnd ho; replace a4 := a4.fr hnd ho; replace x_b9 := x_b9.frame ho ne_b7_b9.symm; replace b3 := b3.fr hnd ho; replace b4 := b4.fr hnd ho; replace x_b10 := x_b10.frame ho ne_b7_b10.symm; replace a5 := a5.fr hnd ho; replace a6 := a6.fr hnd ho; replace x_b11 := x_b11.frame ho ne_b7_b11.symm; replace b5 := b5.fr hnd ho; replace b6 := b6.fr hnd ho; replace x_b3 := x_b3.frame ho ne_b3_b7; replace x_b4 := x_b4.frame ho ne_b4_b7; replace x_b5 := x_b5.frame ho ne_b5_b7; replace q1 := q1.fr hnd ho; replace q2 := q2.fr hnd ho; replace r1 := r1.fr hnd ho; replace r2 := r2.fr hnd ho; replace x_b12 := x_b12.frame ho ne_b7_b12.symm; replace x_b13 := x_b13.frame ho ne_b7_b13.symm; replace hb := belowOnly hb ho kb_b7
    refine hK _ _ rfl (And.intro True.intro (And.intro ⟨x_b13.cell 0 rfl, x_b13.cell 1 rfl, x_b13.cell 2 rfl, x_b13.cell 3 rfl⟩ True.intro)) ?_; clear hK K ho hnd
    apply wpTail_end
    refine hK9 _ _ ?_
    refine wp_seq_k ?_
    intro K10 hK10
    refine wp_region_fl2 [(0, false), (1, false), (2, false), (3, false), (4, true), (5, true)] [6, 7] [] (fun _ => default) [0, 1, 2, 0, 99, 99, 99, 99] [(6, 1), (7, 1), (7, 0)] (fun w' => w'.cell? ⟨p_b9, 0, none⟩ = some (.bool bn3) ∧ w'.cell? ⟨p_b9, 1, none⟩ = some (.slice bo3 bk3 bc3) ∧ w'.cell? ⟨p_b9, 2, none⟩ = some (.bool bn4) ∧ w'.cell? ⟨p_b9, 3, none⟩ = some (.slice bo4 bk4 bc4) ∧ w'.cell? ⟨p_b8, 0, none⟩ = some (.bool an3) ∧ w'.cell? ⟨p_b8, 1, none⟩ = some (.slice ao3 ak3 ac3) ∧ w'.cell? ⟨p_b8, 2, none⟩ = some (.bool an4) ∧ w'.cell? ⟨p_b8, 3, none⟩ = some (.slice ao4 ak4 ac4) ∧ w'.cell? ⟨p_b12, 0, none⟩ = some (.bool n_qa) ∧ w'.cell? ⟨p_b12, 1, none⟩ = some (.slice o_qa k_qa c_qa) ∧ w'.cell? ⟨p_b12, 2, none⟩ = some (.bool n_qb) ∧ w'.cell? ⟨p_b12, 3, none⟩ = some (.slice o_qb k_qb c_qb)) [fun w' => w'.cell? ⟨p_b9, 0, none⟩ = some (.bool bn3) ∧ w'.cell? ⟨p_b9, 1, none⟩ = some (.slice bo3 bk3 bc3) ∧ w'.cell? ⟨p_b9, 2, none⟩ = some (.bool bn4) ∧ w'.cell? ⟨p_b9, 3, none⟩ = some (.slice bo4 bk4 bc4), fun w' => w'.cell? ⟨p_b8, 0, none⟩ = some (.bool an3) ∧ w'.cell? ⟨p_b8, 1, none⟩ = some (.slice ao3 ak3 ac3) ∧ w'.cell? ⟨p_b8, 2, none⟩ = some (.bool an4) ∧ w'.cell? ⟨p_b8, 3, none⟩ = some (.slice ao4 ak4 ac4), fun w' => w'.cell? ⟨p_b12, 0, none⟩ = some (.bool n_qa) ∧ w'.cell? ⟨p_b12, 1, none⟩ = some (.slice o_qa k_qa c_qa) ∧ w'.cell? ⟨p_b12, 2, none⟩ = some (.bool n_qb) ∧ w'.cell? ⟨p_b12, 3, none⟩ = some (.slice o_qb k_qb c_qb)] (by kernel_rfl) (by kernel_rfl) (by kernel_rfl) (by kernel_rfl) (by kernel_rfl) (by kernel_rfl) (by kernel_rfl) (by kernel_rfl) (by decide) (by intro j hj; cases hj) (by intro w' o hC; obtain ⟨c0, c1, c2, c3, c4, c5, c6, c7, c8, c9, c10, c11⟩ := hC; exact ⟨cell_alloc c0 o, cell_alloc c1 o, cell_alloc c2 o, cell_alloc c3 o, cell_alloc c4 o, cell_alloc c5 o, cell_alloc c6 o, cell_alloc c7 o, cell_alloc c8 o, cell_alloc c9 o, cell_alloc c10 o, cell_alloc c11 o⟩) (by intro w' hC G hG; obtain ⟨c0, c1, c2, c3, c4, c5, c6, c7, c8, c9, c10, c11⟩ := hC; simp only [List.mem_cons, List.not_mem_nil, or_false] at hG; rcases hG with rfl | rfl | rfl <;> first | exact ⟨c0, c1, c2, c3⟩ | exact ⟨c4, c5, c6, c7⟩ | exact ⟨c8, c9, c10, c11⟩) ?_
    clear x_b13
    have lt_b3 := x_b3.lt
    have lt_b4 := x_b4.lt
    have lt_b5 := x_b5.lt
    have lt_b6 := x_b6.lt
    have lt_b7 := x_b7.lt
    have lt_b8 := x_b8.lt
    have lt_b9 := x_b9.lt
    have lt_b10 := x_b10.lt
    have lt_b11 := x_b11.lt
    have lt_b12 := x_b12.lt
    intro w_36 hn
    replace lt_b3 := Nat.lt_of_lt_of_le lt_b3 hn.size
    replace lt_b4 := Nat.lt_of_lt_of_le lt_b4 hn.size
    replace lt_b5 := Nat.lt_of_lt_of_le lt_b5 hn.size
    replace lt_b6 := Nat.lt_of_lt_of_le lt_b6 hn.size
    replace lt_b7 := Nat.lt_of_lt_of_le lt_b7 hn.size
    replace lt_b8 := Nat.lt_of_lt_of_le lt_b8 hn.size
    replace lt_b9 := Nat.lt_of_lt_of_le lt_b9 hn.size
    replace lt_b10 := Nat.lt_of_lt_of_le lt_b10 hn.size
    replace lt_b11 := Nat.lt_of_lt_of_le lt_b11 hn.size
    replace lt_b12 := Nat.lt_of_lt_of_le lt_b12 hn.size
    replace x_b6 := x_b6.bl hn; replace x_b7 := x_b7.bl hn; replace b1 := b1.bl hn; replace b2 := b2.bl hn; replace x_b8 := x_b8.bl hn; replace a3 := a3.bl hn; replace a4 := a4.bl hn; replace x_b9 := x_b9.bl hn; replace b3 := b3.bl hn; replace b4 := b4.bl hn; replace x_b10 := x_b10.bl hn; replace a5 := a5.bl hn; replace a6 := a6.bl hn; replace x_b11 := x_b11.bl hn; replace b5 := b5.bl hn; replace b6 := b6.bl hn; replace x_b3 := x_b3.bl hn; replace x_b4 := x_b4.bl hn; replace x_b5 := x_b5.bl hn; replace q1 := q1.bl hn; replace q2 := q2.bl hn; replace r1 := r1.bl hn; replace r2 := r2.bl hn; replace x_b12 := x_b12.bl hn; replace hb := hb.trans (hn.mono hb.size)
    clear hn
    have kb0 := hb.size
    refine ⟨⟨x_b9.cell 0 rfl, x_b9.cell 1 rfl, x_b9.cell 2 rfl, x_b9.cell 3 rfl, x_b8.cell 0 rfl, x_b8.cell 1 rfl, x_b8.cell 2 rfl, x_b8.cell 3 rfl, x_b12.cell 0 rfl, x_b12.cell 1 rfl, x_b12.cell 2 rfl, x_b12.cell 3 rfl⟩, ?_⟩
    apply wpFl_ld rfl rfl; (case h1 => intro w' hC K hK; obtain ⟨c0, c1, c2, c3⟩ := hC; go_big_op; exact hK); iterate 4 kernel_rfl
    apply wpFl_ld rfl rfl; (case h1 => intro w' hC K hK; obtain ⟨c0, c1, c2, c3⟩ := hC; go_big_op; exact hK); iterate 4 kernel_rfl
    apply wpFl_ld rfl rfl; (case h1 => intro w' hC K hK; obtain ⟨c0, c1, c2, c3⟩ := hC; go_big_op; exact hK); iterate 4 kernel_rfl
    apply wpFl_ld rfl rfl; (case h1 => intro w' hC K hK; obtain ⟨c0, c1, c2, c3⟩ := hC; go_big_op; exact hK); iterate 4 kernel_rfl
    refine wpFl_call rfl (by kernel_rfl) fun w_37 hn hC => ?_; clear hC
    replace x_b6 := x_b6.bl hn; replace x_b7 := x_b7.bl hn; replace b1 := b1.bl hn; replace b2 := b2.bl hn; replace x_b8 := x_b8.bl hn; replace a3 := a3.bl hn; replace a4 := a4.bl hn; replace x_b9 := x_b9.bl hn; replace b3 := b3.bl hn; replace b4 := b4.bl hn; replace x_b10 := x_b10.bl hn; replace a5 := a5.bl hn; replace a6 := a6.bl hn; replace x_b11 := x_b11.bl hn; replace b5 := b5.bl hn; replace b6 := b6.bl hn; replace x_b3 := x_b3.bl hn; replace x_b4 := x_b4.bl hn; replace x_b5 := x_b5.bl hn; replace q1 := q1.bl hn; replace q2 := q2.bl hn; replace r1 := r1.bl hn; replace r2 := r2.bl hn; replace x_b12 := x_b12.bl hn; replace hb := hb.trans (hn.mono hb.size)
    clear hn; intro K hK
    go_big_op
    go_fit (rgMul_any (PN.mk' (q1.zn Lq1.out) (q2.zn Lq2.out)) (PN.mk' b3 b4) (by omega) (by omega) (by omega) (by omega) )
    rintro e w_38 ⟨_, rfl, ⟨n_ma, o_ma, k_ma, c_ma, n_mb, o_mb, k_mb, c_mb, rfl, m1, m2⟩, hb_38⟩
    replace x_b6 := x_b6.bl hb_38; replace x_b7 := x_b7.bl hb_38; replace b1 := b1.bl hb_38; replace b2 := b2.bl hb_38; replace x_b8 := x_b8.bl hb_38; replace a3 := a3.bl hb_38; replace a4 := a4.bl hb_38; replace x_b9 := x_b9.bl hb_38; replace b3 := b3.bl hb_38; replace b4 := b4.bl hb_38; replace x_b10 := x_b10.bl hb_38; replace a5 := a5.bl hb_38; replace a6 := a6.bl hb_38; replace x_b11 := x_b11.bl hb_38; replace b5 := b5.bl hb_38; replace b6 := b6.bl hb_38; replace x_b3 := x_b3.bl hb_38; replace x_b4 := x_b4.bl hb_38; replace x_b5 := x_b5.bl hb_38; replace q1 := q1.bl hb_38; replace q2 := q2.bl hb_38; replace r1 := r1.bl hb_38; replace r2 := r2.bl hb_38; replace x_b12 := x_b12.bl hb_38; replace hb := hb.trans (hb_38.mono hb.size)
    have Lm1 := hide (m1.lenOf (zlen_sub (zlen_mul (Lq1.out) (b3.len)) (zlen_mul (Lq2.out) (b4.len))))
    have Lm2 := hide (m2.lenOf (zlen_add (zlen_mul (Lq1.out) (b4.len)) (zlen_mul (Lq2.out) (b3.len))))
    refine hK _ _ rfl hb_38 ⟨x_b9.cell 0 rfl, x_b9.cell 1 rfl, x_b9.cell 2 rfl, x_b9.cell 3 rfl, x_b8.cell 0 rfl, x_b8.cell 1 rfl, x_b8.cell 2 rfl, x_b8.cell 3 rfl, x_b12.cell 0 rfl, x_b12.cell 1 rfl, x_b12.cell 2 rfl, x_b12.cell 3 rfl⟩ ?_
    clear hK K hb_38
    refine wpFl_call rfl (by kernel_rfl) fun w_39 hn hC => ?_; clear hC
    replace x_b6 := x_b6.bl hn; replace x_b7 := x_b7.bl hn; replace b1 := b1.bl hn; replace b2 := b2.bl hn; replace x_b8 := x_b8.bl hn; replace a3 := a3.bl hn; replace a4 := a4.bl hn; replace x_b9 := x_b9.bl hn; replace b3 := b3.bl hn; replace b4 := b4.bl hn; replace x_b10 := x_b10.bl hn; replace a5 := a5.bl hn; replace a6 := a6.bl hn; replace x_b11 := x_b11.bl hn; replace b5 := b5.bl hn; replace b6 := b6.bl hn; replace x_b3 := x_b3.bl hn; replace x_b4 := x_b4.bl hn; replace x_b5 := x_b5.bl hn; replace q1 := q1.bl hn; replace q2 := q2.bl hn; replace r1 := r1.bl hn; replace r2 := r2.bl hn; replace x_b12 := x_b12.bl hn; replace m1 := m1.bl hn; replace m2 := m2.bl hn; replace hb := hb.trans (hn.mono hb.size)
    clear hn; intro K hK
    go_big_op
    go_fit (rgSub_any (PN.mk' a3 a4) (PN.mk' (m1.zn Lm1.out) (m2.zn Lm2.out)) (by omega) (by omega) (by omega) (by omega) )
    rintro e w_40 ⟨_, rfl, ⟨n_ga, o_ga, k_ga, c_ga, n_gb, o_gb, k_gb, c_gb, rfl, g1, g2⟩, hb_40⟩
    replace x_b6 := x_b6.bl hb_40; replace x_b7 := x_b7.bl hb_40; replace b1 := b1.bl hb_40; replace b2 := b2.bl hb_40; replace x_b8 := x_b8.bl hb_40; replace a3 := a3.bl hb_40; replace a4 := a4.bl hb_40; replace x_b9 := x_b9.bl hb_40; replace b3 := b3.bl hb_40; replace b4 := b4.bl hb_40; replace x_b10 := x_b10.bl hb_40; replace a5 := a5.bl hb_40; replace a6 := a6.bl hb_40; replace x_b11 := x_b11.bl hb_40; replace b5 := b5.bl hb_40; replace b6 := b6.bl hb_40; replace x_b3 := x_b3.bl hb_40; replace x_b4 := x_b4.bl hb_40; replace x_b5 := x_b5.bl hb_40; replace q1 := q1.bl hb_40; replace q2 := q2.bl hb_40; replace r1 := r1.bl hb_40; replace r2 := r2.bl hb_40; replace x_b12 := x_b12.bl hb_40; replace m1 := m1.bl hb_40; replace m2 := m2.bl hb_40; replace hb := hb.trans (hb_40.mono hb.size)
    have Lg1 := hide (g1.lenOf (zlen_sub (a3.len) (Lm1.out)))
    have Lg2 := hide (g2.lenOf (zlen_sub (a4.len) (Lm2.out)))
    refine hK _ _ rfl hb_40 ⟨x_b9.cell 0 rfl, x_b9.cell 1 rfl, x_b9.cell 2 rfl, x_b9.cell 3 rfl, x_b8.cell 0 rfl, x_b8.cell 1 rfl, x_b8.cell 2 rfl, x_b8.cell 3 rfl, x_b12.cell 0 rfl, x_b12.cell 1 rfl, x_b12.cell 2 rfl, x_b12.cell 3 rfl⟩ ?_
    clear hK K hb_40
    apply wpFl_end
    case ha => intro pt; simp only [putF]; rfl
    case h =>
    intro w_41 pt hn hC hF hD
    clear hC
    clear m1 m2
    replace x_b6 := x_b6.bl hn; replace x_b7 := x_b7.bl hn; replace b1 := b1.bl hn; replace b2 := b2.bl hn; replace x_b8 := x_b8.bl hn; replace a3 := a3.bl hn; replace a4 := a4.bl hn; replace x_b9 := x_b9.bl hn; replace b3 := b3.bl hn; replace b4 := b4.bl hn; replace x_b10 := x_b10.bl hn; replace a5 := a5.bl hn; replace a6 := a6.bl hn; replace x_b11 := x_b11.bl hn; replace b5 := b5.bl hn; replace b6 := b6.bl hn; replace x_b3 := x_b3.bl hn; replace x_b4 := x_b4.bl hn; replace x_b5 := x_b5.bl hn; replace q1 := q1.bl hn; replace q2 := q2.bl hn; replace r1 := r1.bl hn; replace r2 := r2.bl hn; replace x_b12 := x_b12.bl hn; replace g1 := g1.bl hn; replace g2 := g2.bl hn; replace hb := hb.trans (hn.mono hb.size)
    clear hn
    clear hF hD
    clear pt
    clear kb0 lt_b3 lt_b4 lt_b5 lt_b6 lt_b7 lt_b8 lt_b9 lt_b10 lt_b11 lt_b12
    refine wpTail_call rfl (by kernel_rfl) fun K hK => ?_
    obtain ⟨d0, d1, d2, d3⟩ := x_b8.f4
    have f0 := x_b8.free 0; have f1 := x_b8.free 1; have f2 := x_b8.free 2; have f3 := x_b8.free 3
    go_big_op
    have hnd := x_b8.nod rfl rfl
    obtain ⟨w_42, eW, x_b8', ho⟩ : ∃ w', ((((w_41.setCell ⟨p_b8, 0, none⟩ (.bool bn3)).setCell ⟨p_b8, 1, none⟩ (.slice bo3 bk3 bc3)).setCell ⟨p_b8, 2, none⟩ (.bool bn4)).setCell ⟨p_b8, 3, none⟩ (.slice bo4 bk4 bc4)) = w' ∧ Bs w' p_b8 #[.bool bn3, .slice bo3 bk3 bc3, .bool bn4, .slice bo4 bk4 bc4] 29 ∧ Only p_b8 w_41 w' := x_b8.setN [(0, .bool bn3), (1, .slice bo3 bk3 bc3), (2, .bool bn4), (3, .slice bo4 bk4 bc4)]
    rw [eW]; clear eW d0 d1 d2 d3 f0 f1 f2 f3 x_b8
    have x_b8 := x_b8'; clear x_b8'
    clear a3 a4
    replace x_b6 := x_b6.frame ho ne_b6_b8; replace x_b7 := x_b7.frame ho ne_b7_b8; replace b1 := b1.fr hnd ho; replace b2 := b2.fr hnd ho; replace x_b9 := x_b9.frame ho ne_b8_b9.symm; replace b3 := b3.fr hnd ho; replace b4 := b4.fr hnd ho; replace x_b10 := x_b10.frame ho ne_b8_b10.symm; replace a5 := a5.fr hnd ho; replace a6 := a6.fr hnd ho; replace x_b11 := x_b11.frame ho ne_b8_b11.symm; replace b5 := b5.fr hnd ho; replace b6 := b6.fr hnd ho; replace x_b3 := x_b3.frame ho ne_b3_b8; replace x_b4 := x_b4.frame ho ne_b4_b8; replace x_b5 := x_b5.frame ho ne_b5_b8; replace q1 := q1.fr hnd ho; replace q2 := q2.fr hnd ho; replace r1 := r1.fr hnd ho; replace r2 := r2.fr hnd ho; replace x_b12 := x_b12.frame ho ne_b8_b12.symm; replace g1 := g1.fr hnd ho; replace g2 := g2.fr hnd ho; replace hb := belowOnly hb ho kb_b8
    refine hK _ _ rfl (And.intro ⟨x_b9.cell 0 rfl, x_b9.cell 1 rfl, x_b9.cell 2 rfl, x_b9.cell 3 rfl⟩ (And.intro True.intro (And.intro ⟨x_b12.cell 0 rfl, x_b12.cell 1 rfl, x_b12.cell 2 rfl, x_b12.cell 3 rfl⟩ True.intro))) ?_; clear hK K ho hnd
    refine wpTail_call rfl (by kernel_rfl) fun K hK => ?_
    obtain ⟨d0, d1, d2, d3⟩ := x_b9.f4
    have f0 := x_b9.free 0; have f1 := x_b9.free 1; have f2 := x_b9.free 2; have f3 := x_b9.free 3
    go_big_op
    have hnd := x_b9.nod rfl rfl
    obtain ⟨w_43, eW, x_b9', ho⟩ : ∃ w', ((((w_42.setCell ⟨p_b9, 0, none⟩ (.bool n_ga)).setCell ⟨p_b9, 1, none⟩ (.slice o_ga k_ga c_ga)).setCell ⟨p_b9, 2, none⟩ (.bool n_gb)).setCell ⟨p_b9, 3, none⟩ (.slice o_gb k_gb c_gb)) = w' ∧ Bs w' p_b9 #[.bool n_ga, .slice o_ga k_ga c_ga, .bool n_gb, .slice o_gb k_gb c_gb] 29 ∧ Only p_b9 w_42 w' := x_b9.setN [(0, .bool n_ga), (1, .slice o_ga k_ga c_ga), (2, .bool n_gb), (3, .slice o_gb k_gb c_gb)]
    rw [eW]; clear eW d0 d1 d2 d3 f0 f1 f2 f3 x_b9
    have x_b9 := x_b9'; clear x_b9'
    replace x_b6 := x_b6.frame ho ne_b6_b9; replace x_b7 := x_b7.frame ho ne_b7_b9; replace b1 := b1.fr hnd ho; replace b2 := b2.fr hnd ho; replace x_b8 := x_b8.frame ho ne_b8_b9; replace b3 := b3.fr hnd ho; replace b4 := b4.fr hnd ho; replace x_b10 := x_b10.frame ho ne_b9_b10.symm; replace a5 := a5.fr hnd ho; replace a6 := a6.fr hnd ho; replace x_b11 := x_b11.frame ho ne_b9_b11.symm; replace b5 := b5.fr hnd ho; replace b6 := b6.fr hnd ho; replace x_b3 := x_b3.frame ho ne_b3_b9; replace x_b4 := x_b4.frame ho ne_b4_b9; replace x_b5 := x_b5.frame ho ne_b5_b9; replace q1 := q1.fr hnd ho; replace q2 := q2.fr hnd ho; replace r1 := r1.fr hnd ho; replace r2 := r2.fr hnd ho; replace x_b12 := x_b12.frame ho ne_b9_b12.symm; replace g1 := g1.fr hnd ho; replace g2 := g2.fr hnd ho; replace hb := belowOnly hb ho kb_b9
    refine hK _ _ rfl (And.intro True.intro (And.intro True.intro (And.intro ⟨x_b12.cell 0 rfl, x_b12.cell 1 rfl, x_b12.cell 2 rfl, x_b12.cell 3 rfl⟩ True.intro))) ?_; clear hK K ho hnd
    apply wpTail_end
    refine hK10 _ _ ?_
    refine wp_region_fl2 [(0, false), (1, false), (2, false), (3, false), (4, true), (5, true)] [6, 7] [] (fun _ => default) [0, 1, 2, 0, 99, 99, 99, 99] [(6, 1), (7, 1), (7, 0)] (fun w' => w'.cell? ⟨p_b11, 0, none⟩ = some (.bool bn5) ∧ w'.cell? ⟨p_b11, 1, none⟩ = some (.slice bo5 bk5 bc5) ∧ w'.cell? ⟨p_b11, 2, none⟩ = some (.bool bn6) ∧ w'.cell? ⟨p_b11, 3, none⟩ = some (.slice bo6 bk6 bc6) ∧ w'.cell? ⟨p_b10, 0, none⟩ = some (.bool an5) ∧ w'.cell? ⟨p_b10, 1, none⟩ = some (.slice ao5 ak5 ac5) ∧ w'.cell? ⟨p_b10, 2, none⟩ = some (.bool an6) ∧ w'.cell? ⟨p_b10, 3, none⟩ = some (.slice ao6 ak6 ac6) ∧ w'.cell? ⟨p_b12, 0, none⟩ = some (.bool n_qa) ∧ w'.cell? ⟨p_b12, 1, none⟩ = some (.slice o_qa k_qa c_qa) ∧ w'.cell? ⟨p_b12, 2, none⟩ = some (.bool n_qb) ∧ w'.cell? ⟨p_b12, 3, none⟩ = some (.slice o_qb k_qb c_qb)) [fun w' => w'.cell? ⟨p_b11, 0, none⟩ = some (.bool bn5) ∧ w'.cell? ⟨p_b11, 1, none⟩ = some (.slice bo5 bk5 bc5) ∧ w'.cell? ⟨p_b11, 2, none⟩ = some (.bool bn6) ∧ w'.cell? ⟨p_b11, 3, none⟩ = some (.slice bo6 bk6 bc6), fun w' => w'.cell? ⟨p_b10, 0, none⟩ = some (.bool an5) ∧ w'.cell? ⟨p_b10, 1, none⟩ = some (.slice ao5 ak5 ac5) ∧ w'.cell? ⟨p_b10, 2, none⟩ = some (.bool an6) ∧ w'.cell? ⟨p_b10, 3, none⟩ = some (.slice ao6 ak6 ac6), fun w' => w'.cell? ⟨p_b12, 0, none⟩ = some (.bool n_qa) ∧ w'.cell? ⟨p_b12, 1, none⟩ = some (.slice o_qa k_qa c_qa) ∧ w'.cell? ⟨p_b12, 2, none⟩ = some (.bool n_qb) ∧ w'.cell? ⟨p_b12, 3, none⟩ = some (.slice o_qb k_qb c_qb)] (by kernel_rfl) (by kernel_rfl) (by kernel_rfl) (by kernel_rfl) (by kernel_rfl) (by kernel_rfl) (by kernel_rfl) (by kernel_rfl) (by decide) (by intro j hj; cases hj) (by intro w' o hC; obtain ⟨c0, c1, c2, c3, c4, c5, c6, c7, c8, c9, c10, c11⟩ := hC; exact ⟨cell_alloc c0 o, cell_alloc c1 o, cell_alloc c2 o, cell_alloc c3 o, cell_alloc c4 o, cell_alloc c5 o, cell_alloc c6 o, cell_alloc c7 o, cell_alloc c8 o, cell_alloc c9 o, cell_alloc c10 o, cell_alloc c11 o⟩) (by intro w' hC G hG; obtain ⟨c0, c1, c2, c3, c4, c5, c6, c7, c8, c9, c10, c11⟩ := hC; simp only [List.mem_cons, List.not_mem_nil, or_false] at hG; rcases hG with rfl | rfl | rfl <;> first | exact ⟨c0, c1, c2, c3⟩ | exact ⟨c4, c5, c6, c7⟩ | exact ⟨c8, c9, c10, c11⟩) ?_
    have lt_b3 := x_b3.lt
    have lt_b4 := x_b4.lt
    have lt_b5 := x_b5.lt
    have lt_b6 := x_b6.lt
    have lt_b7 := x_b7.lt
    have lt_b8 := x_b8.lt
    have lt_b9 := x_b9.lt
    have lt_b10 := x_b10.lt
    have lt_b11 := x_b11.lt
    have lt_b12 := x_b12.lt
    intro w_44 hn
    replace lt_b3 := Nat.lt_of_lt_of_le lt_b3 hn.size
    replace lt_b4 := Nat.lt_of_lt_of_le lt_b4 hn.size
    replace lt_b5 := Nat.lt_of_lt_of_le lt_b5 hn.size
    replace lt_b6 := Nat.lt_of_lt_of_le lt_b6 hn.size
    replace lt_b7 := Nat.lt_of_lt_of_le lt_b7 hn.size
    replace lt_b8 := Nat.lt_of_lt_of_le lt_b8 hn.size
    replace lt_b9 := Nat.lt_of_lt_of_le lt_b9 hn.size
    replace lt_b10 := Nat.lt_of_lt_of_le lt_b10 hn.size
    replace lt_b11 := Nat.lt_of_lt_of_le lt_b11 hn.size
    replace lt_b12 := Nat.lt_of_lt_of_le lt_b12 hn.size
    replace x_b6 := x_b6.bl hn; replace x_b7 := x_b7.bl hn; replace b1 := b1.bl hn; replace b2 := b2.bl hn; replace x_b8 := x_b8.bl hn; replace x_b9 := x_b9.bl hn; replace b3 := b3.bl hn; replace b4 := b4.bl hn; replace x_b10 := x_b10.bl hn; replace a5 := a5.bl hn; replace a6 := a6.bl hn; replace x_b11 := x_b11.bl hn; replace b5 := b5.bl hn; replace b6 := b6.bl hn; replace x_b3 := x_b3.bl hn; replace x_b4 := x_b4.bl hn; replace x_b5 := x_b5.bl hn; replace q1 := q1.bl hn; replace q2 := q2.bl hn; replace r1 := r1.bl hn; replace r2 := r2.bl hn; replace x_b12 := x_b12.bl hn; replace g1 := g1.bl hn; replace g2 := g2.bl hn; replace hb := hb.trans (hn.mono hb.size)
    clear hn
    have kb0 := hb.size
    refine ⟨⟨x_b11.cell 0 rfl, x_b11.cell 1 rfl, x_b11.cell 2 rfl, x_b11.cell 3 rfl, x_b10.cell 0 rfl, x_b10.cell 1 rfl, x_b10.cell 2 rfl, x_b10.cell 3 rfl, x_b12.cell 0 rfl, x_b12.cell 1 rfl, x_b12.cell 2 rfl, x_b12.cell 3 rfl⟩, ?_⟩
    apply wpFl_ld rfl rfl; (case h1 => intro w' hC K hK; obtain ⟨c0, c1, c2, c3⟩ := hC; go_big_op; exact hK); iterate 4 kernel_rfl
    apply wpFl_ld rfl rfl; (case h1 => intro w' hC K hK; obtain ⟨c0, c1, c2, c3⟩ := hC; go_big_op; exact hK); iterate 4 kernel_rfl
    apply wpFl_ld rfl rfl; (case h1 => intro w' hC K hK; obtain ⟨c0, c1, c2, c3⟩ := hC; go_big_op; exact hK); iterate 4 kernel_rfl
    apply wpFl_ld rfl rfl; (case h1 => intro w' hC K hK; obtain ⟨c0, c1, c2, c3⟩ := hC; go_big_op; exact hK); iterate 4 kernel_rfl
    refine wpFl_call rfl (by kernel_rfl) fun w_45 hn hC => ?_; clear hC
    replace x_b6 := x_b6.bl hn; replace x_b7 := x_b7.bl hn; replace b1 := b1.bl hn; replace b2 := b2.bl hn; replace x_b8 := x_b8.bl hn; replace x_b9 := x_b9.bl hn; replace b3 := b3.bl hn; replace b4 := b4.bl hn; replace x_b10 := x_b10.bl hn; replace a5 := a5.bl hn; replace a6 := a6.bl hn; replace x_b11 := x_b11.bl hn; replace b5 := b5.bl hn; replace b6 := b6.bl hn; replace x_b3 := x_b3.bl hn; replace x_b4 := x_b4.bl hn; replace x_b5 := x_b5.bl hn; replace q1 := q1.bl hn; replace q2 := q2.bl hn; replace r1 := r1.bl hn; replace r2 := r2.bl hn; replace x_b12 := x_b12.bl hn; replace g1 := g1.bl hn; replace g2 := g2.bl hn; replace hb := hb.trans (hn.mono hb.size)
    clear hn; intro K hK
    go_big_op
    go_fit (rgMul_any (PN.mk' (q1.zn Lq1.out) (q2.zn Lq2.out)) (PN.mk' b5 b6) (by omega) (by omega) (by omega) (by omega) )
    rintro e w_46 ⟨_, rfl, ⟨n_oa, o_oa, k_oa, c_oa, n_ob, o_ob, k_ob, c_ob, rfl, o1, o2⟩, hb_46⟩
    replace x_b6 := x_b6.bl hb_46; replace x_b7 := x_b7.bl hb_46; replace b1 := b1.bl hb_46; replace b2 := b2.bl hb_46; replace x_b8 := x_b8.bl hb_46; replace x_b9 := x_b9.bl hb_46; replace b3 := b3.bl hb_46; replace b4 := b4.bl hb_46; replace x_b10 := x_b10.bl hb_46; replace a5 := a5.bl hb_46; replace a6 := a6.bl hb_46; replace x_b11 := x_b11.bl hb_46; replace b5 := b5.bl hb_46; replace b6 := b6.bl hb_46; replace x_b3 := x_b3.bl hb_46; replace x_b4 := x_b4.bl hb_46; replace x_b5 := x_b5.bl hb_46; replace q1 := q1.bl hb_46; replace q2 := q2.bl hb_46; replace r1 := r1.bl hb_46; replace r2 := r2.bl hb_46; replace x_b12 := x_b12.bl hb_46; replace g1 := g1.bl hb_46; replace g2 := g2.bl hb_46; replace hb := hb.trans (hb_46.mono hb.size)
    have Lo1 := hide (o1.lenOf (zlen_sub (zlen_mul (Lq1.out) (b5.len)) (zlen_mul (Lq2.out) (b6.len))))
    have Lo2 := hide (o2.lenOf (zlen_add (zlen_mul (Lq1.out) (b6.len)) (zlen_mul (Lq2.out) (b5.len))))
    refine hK _ _ rfl hb_46 ⟨x_b11.cell 0 rfl, x_b11.cell 1 rfl, x_b11.cell 2 rfl, x_b11.cell 3 rfl, x_b10.cell 0 rfl, x_b10.cell 1 rfl, x_b10.cell 2 rfl, x_b10.cell 3 rfl, x_b12.cell 0 rfl, x_b12.cell 1 rfl, x_b12.cell 2 rfl, x_b12.cell 3 rfl⟩ ?_
    clear hK K hb_46
    refine wpFl_call rfl (by kernel_rfl) fun w_47 hn hC => ?_; clear hC
    replace x_b6 := x_b6.bl hn; replace x_b7 := x_b7.bl hn; replace b1 := b1.bl hn; replace b2 := b2.bl hn; replace x_b8 := x_b8.bl hn; replace x_b9 := x_b9.bl hn; replace b3 := b3.bl hn; replace b4 := b4.bl hn; replace x_b10 := x_b10.bl hn; replace a5 := a5.bl hn; replace a6 := a6.bl hn; replace x_b11 := x_b11.bl hn; replace b5 := b5.bl hn; replace b6 := b6.bl hn; replace x_b3 := x_b3.bl hn; replace x_b4 := x_b4.bl hn; replace x_b5 := x_b5.bl hn; replace q1 := q1.bl hn; replace q2 := q2.bl hn; replace r1 := r1.bl hn; replace r2 := r2.bl hn; replace x_b12 := x_b12.bl hn; replace g1 := g1.bl hn; replace g2 := g2.bl hn; replace o1 := o1.bl hn; replace o2 := o2.bl hn; replace hb := hb.trans (hn.mono hb.size)
    clear hn; intro K hK
    go_big_op
    go_fit (rgSub_any (PN.mk' a5 a6) (PN.mk' (o1.zn Lo1.out) (o2.zn Lo2.out)) (by omega) (by omega) (by omega) (by omega) )
    rintro e w_48 ⟨_, rfl, ⟨n_ja, o_ja, k_ja, c_ja, n_jb, o_jb, k_jb, c_jb, rfl, j1, j2⟩, hb_48⟩
    replace x_b6 := x_b6.bl hb_48; replace x_b7 := x_b7.bl hb_48; replace b1 := b1.bl hb_48; replace b2 := b2.bl hb_48; replace x_b8 := x_b8.bl hb_48; replace x_b9 := x_b9.bl hb_48; replace b3 := b3.bl hb_48; replace b4 := b4.bl hb_48; replace x_b10 := x_b10.bl hb_48; replace a5 := a5.bl hb_48; replace a6 := a6.bl hb_48; replace x_b11 := x_b11.bl hb_48; replace b5 := b5.bl hb_48; replace b6 := b6.bl hb_48; replace x_b3 := x_b3.bl hb_48; replace x_b4 := x_b4.bl hb_48; replace x_b5 := x_b5.bl hb_48; replace q1 := q1.bl hb_48; replace q2 := q2.bl hb_48; replace r1 := r1.bl hb_48; replace r2 := r2.bl hb_48; replace x_b12 := x_b12.bl hb_48; replace g1 := g1.bl hb_48; replace g2 := g2.bl hb_48; replace o1 := o1.bl hb_48; replace o2 := o2.bl hb_48; replace hb := hb.trans (hb_48.mono hb.size)
    have Lj1 := hide (j1.lenOf (zlen_sub (a5.len) (Lo1.out)))
    have Lj2 := hide (j2.lenOf (zlen_sub (a6.len) (Lo2.out)))
    refine hK _ _ rfl hb_48 ⟨x_b11.cell 0 rfl, x_b11.cell 1 rfl, x_b11.cell 2 rfl, x_b11.cell 3 rfl, x_b10.cell 0 rfl, x_b10.cell 1 rfl, x_b10.cell 2 rfl, x_b10.cell 3 rfl, x_b12.cell 0 rfl, x_b12.cell 1 rfl, x_b12.cell 2 rfl, x_b12.cell 3 rfl⟩ ?_
    clear hK K hb_48
    apply wpFl_end
    case ha => intro pt; simp only [putF]; rfl
    case h =>
    intro w_49 pt hn hC hF hD
    clear hC
    clear o1 o2
    replace x_b6 := x_b6.bl hn; replace x_b7 := x_b7.bl hn; replace b1 := b1.bl hn; replace b2 := b2.bl hn; replace x_b8 := x_b8.bl hn; replace x_b9 := x_b9.bl hn; replace b3 := b3.bl hn; replace b4 := b4.bl hn; replace x_b10 := x_b10.bl hn; replace a5 := a5.bl hn; replace a6 := a6.bl hn; replace x_b11 := x_b11.bl hn; replace b5 := b5.bl hn; replace b6 := b6.bl hn; replace x_b3 := x_b3.bl hn; replace x_b4 := x_b4.bl hn; replace x_b5 := x_b5.bl hn; replace q1 := q1.bl hn; replace q2 := q2.bl hn; replace r1 := r1.bl hn; replace r2 := r2.bl hn; replace x_b12 := x_b12.bl hn; replace g1 := g1.bl hn; replace g2 := g2.bl hn; replace j1 := j1.bl hn; replace j2 := j2.bl hn; replace hb := hb.trans (hn.mono hb.size)
    clear hn
    clear hF hD
    clear pt
    clear kb0 lt_b3 lt_b4 lt_b5 lt_b6 lt_b7 lt_b8 lt_b9 lt_b10 lt_b11 lt_b12
    refine wpTail_call rfl (by kernel_rfl) fun K hK => ?_
    obtain ⟨d0, d1, d2, d3⟩ := x_b10.f4
    have f0 := x_b10.free 0; have f1 := x_b10.free 1; have f2 := x_b10.free 2; have f3 := x_b10.free 3
    go_big_op
    have hnd := x_b10.nod rfl rfl
    obtain ⟨w_50, eW, x_b10', ho⟩ : ∃ w', ((((w_49.setCell ⟨p_b10, 0, none⟩ (.bool bn5)).setCell ⟨p_b10, 1, none⟩ (.slice bo5 bk5 bc5)).setCell ⟨p_b10, 2, none⟩ (.bool bn6)).setCell ⟨p_b10, 3, none⟩ (.slice bo6 bk6 bc6)) = w' ∧ Bs w' p_b10 #[.bool bn5, .slice bo5 bk5 bc5, .bool bn6, .slice bo6 bk6 bc6] 29 ∧ Only p_b10 w_49 w' := x_b10.setN [(0, .bool bn5), (1, .slice bo5 bk5 bc5), (2, .bool bn6), (3, .slice bo6 bk6 bc6)]
    rw [eW]; clear eW d0 d1 d2 d3 f0 f1 f2 f3 x_b10
    have x_b10 := x_b10'; clear x_b10'
    clear a5 a6
    replace x_b6 := x_b6.frame ho ne_b6_b10; replace x_b7 := x_b7.frame ho ne_b7_b10; replace b1 := b1.fr hnd ho; replace b2 := b2.fr hnd ho; replace x_b8 := x_b8.frame ho ne_b8_b10; replace x_b9 := x_b9.frame ho ne_b9_b10; replace b3 := b3.fr hnd ho; replace b4 := b4.fr hnd ho; replace x_b11 := x_b11.frame ho ne_b10_b11.symm; replace b5 := b5.fr hnd ho; replace b6 := b6.fr hnd ho; replace x_b3 := x_b3.frame ho ne_b3_b10; replace x_b4 := x_b4.frame ho ne_b4_b10; replace x_b5 := x_b5.frame ho ne_b5_b10; replace q1 := q1.fr hnd ho; replace q2 := q2.fr hnd ho; replace r1 := r1.fr hnd ho; replace r2 := r2.fr hnd ho; replace x_b12 := x_b12.frame ho ne_b10_b12.symm; replace g1 := g1.fr hnd ho; replace g2 := g2.fr hnd ho; replace j1 := j1.fr hnd ho; replace j2 := j2.fr hnd ho; replace hb := belowOnly hb ho kb_b10
    refine hK _ _ rfl (And.intro ⟨x_b11.cell 0 rfl, x_b11.cell 1 rfl, x_b11.cell 2 rfl, x_b11.cell 3 rfl⟩ (And.intro True.intro (And.intro ⟨x_b12.cell 0 rfl, x_b12.cell 1 rfl, x_b12.cell 2 rfl, x_b12.cell 3 rfl⟩ True.intro))) ?_; clear hK K ho hnd
    refine wpTail_call rfl (by kernel_rfl) fun K hK => ?_
    obtain ⟨d0, d1, d2, d3⟩ := x_b11.f4
    have f0 := x_b11.free 0; have f1 := x_b11.free 1; have f2 := x_b11.free 2; have f3 := x_b11.free 3
    go_big_op
    have hnd := x_b11.nod rfl rfl
    obtain ⟨w_51, eW, x_b11', ho⟩ : ∃ w', ((((w_50.setCell ⟨p_b11, 0, none⟩ (.bool n_ja)).setCell ⟨p_b11, 1, none⟩ (.slice o_ja k_ja c_ja)).setCell ⟨p_b11, 2, none⟩ (.bool n_jb)).setCell ⟨p_b11, 3, none⟩ (.slice o_jb k_jb c_jb)) = w' ∧ Bs w' p_b11 #[.bool n_ja, .slice o_ja k_ja c_ja, .bool n_jb, .slice o_jb k_jb c_jb] 29 ∧ Only p_b11 w_50 w' := x_b11.setN [(0, .bool n_ja), (1, .slice o_ja k_ja c_ja), (2, .bool n_jb), (3, .slice o_jb k_jb c_jb)]
    rw [eW]; clear eW d0 d1 d2 d3 f0 f1 f2 f3 x_b11
    have x_b11 := x_b11'; clear x_b11'
    replace x_b6 := x_b6.frame ho ne_b6_b11; replace x_b7 := x_b7.frame ho ne_b7_b11; replace b1 := b1.fr hnd ho; replace b2 := b2.fr hnd ho; replace x_b8 := x_b8.frame ho ne_b8_b11; replace x_b9 := x_b9.frame ho ne_b9_b11; replace b3 := b3.fr hnd ho; replace b4 := b4.fr hnd ho; replace x_b10 := x_b10.frame ho ne_b10_b11; replace b5 := b5.fr hnd ho; replace b6 := b6.fr hnd ho; replace x_b3 := x_b3.frame ho ne_b3_b11; replace x_b4 := x_b4.frame ho ne_b4_b11; replace x_b5 := x_b5.frame ho ne_b5_b11; replace q1 := q1.fr hnd ho; replace q2 := q2.fr hnd ho; replace r1 := r1.fr hnd ho; replace r2 := r2.fr hnd ho; replace x_b12 := x_b12.frame ho ne_b11_b12.symm; replace g1 := g1.fr hnd ho; replace g2 := g2.fr hnd ho; replace j1 := j1.fr hnd ho; replace j2 := j2.fr hnd ho; replace hb := belowOnly hb ho kb_b11
    refine hK _ _ rfl (And.intro True.intro (And.intro True.intro (And.intro ⟨x_b12.cell 0 rfl, x_b12.cell 1 rfl, x_b12.cell 2 rfl, x_b12.cell 3 rfl⟩ True.intro))) ?_; clear hK K ho hnd
    apply wpTail_end
    refine ‹∀ (a' : Act) (w' : World), Handed _ _ a' w' → _› _ _ ?_
    go_roundg (gN t.step.s1 t.step.s2).toNat
    case rel =>
      have i1 := len_norm (Int.le_trans HI.out.ns (by have := gN_nonneg x y; have := gN_nonneg u v; omega)) LL.out.1.1 LL.out.1.2 LL.out.2.1 LL.out.2.2
      have i2 := len_norm HI.out.nu LL.out.1.1 LL.out.1.2 LL.out.2.1 LL.out.2.2
      have i3 := len_norm HI.out.nv LL.out.1.1 LL.out.1.2 LL.out.2.1 LL.out.2.2
      rw [gR1, GS.step_s1] at r1
      rw [gR2, GS.step_s2] at r2
      rw [GS.step_u1] at g1
      rw [GS.step_u2] at g2
      rw [GS.step_v1] at j1
      rw [GS.step_v2] at j2
      refine ⟨t.step, hide ⟨HI.out, (fin_step H0.out).trans HT.out.2.1, Nat.le_refl _⟩, BM.mk' x_b6 b1 b2, BM.mk' x_b7 (r1.zn i1.1) (r2.zn i1.2), BM.mk' x_b8 b3 b4, BM.mk' x_b9 (g1.zn i2.1) (g2.zn i2.2), BM.mk' x_b10 b5 b6, BM.mk' x_b11 (j1.zn i3.1) (j2.zn i3.2), x_b3, x_b4, x_b5, hb⟩
    case measure =>
      have h1 := HT.out.2.2
      have h2 := HL.out
      have h3 := HP.out
      have h4 := gN_nonneg t.step.s1 t.step.s2
      omega
end
end Go.Proofs.YtgjainmfilkjmaaGreatDoor
