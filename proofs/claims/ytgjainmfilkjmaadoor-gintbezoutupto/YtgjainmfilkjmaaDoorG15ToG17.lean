/- gint: one sum of both less a multiple of another. -/
import Derived.Test.YtgjainmfilkjmaaDoorG11ToG14
import Derived.Test.YtgjainmfilkjmaaDoorG8ToG10

namespace Go.Proofs.YtgjainmfilkjmaaDoor
open Go Go.RowKit Dig
set_option linter.unusedVariables false
section
variable {w : World} {va vb : Value} {x y u v : Int} {l m k n : Nat}
set_option maxHeartbeats 8000000 in
set_option maxRecDepth 20000 in
theorem less_any {q1 q2 : Int} {an1 bn1 an2 bn2 an3 bn3 an4 bn4 an5 bn5 an6 bn6 : Bool} {ao1 bo1 ao2 bo2 ao3 bo3 ao4 bo4 ao5 bo5 ao6 bo6 : Option Addr} {ak1 ac1 bk1 bc1 ak2 ac2 bk2 bc2 ak3 ac3 bk3 bc3 ak4 ac4 bk4 bc4 ak5 ac5 bk5 bc5 ak6 ac6 bk6 bc6 : Nat} {a1 a2 a3 a4 a5 a6 b1 b2 b3 b4 b5 b6 : Int} {L : Nat} (hL : L ≤ 9000000)
    (ha1 : ZN w (.agg #[.bool an1, .slice ao1 ak1 ac1]) a1 L) (ha2 : ZN w (.agg #[.bool an2, .slice ao2 ak2 ac2]) a2 L) (ha3 : ZN w (.agg #[.bool an3, .slice ao3 ak3 ac3]) a3 L) (ha4 : ZN w (.agg #[.bool an4, .slice ao4 ak4 ac4]) a4 L) (ha5 : ZN w (.agg #[.bool an5, .slice ao5 ak5 ac5]) a5 L) (ha6 : ZN w (.agg #[.bool an6, .slice ao6 ak6 ac6]) a6 L) (hc1 : ZN w (.agg #[.bool bn1, .slice bo1 bk1 bc1]) b1 L) (hc2 : ZN w (.agg #[.bool bn2, .slice bo2 bk2 bc2]) b2 L) (hc3 : ZN w (.agg #[.bool bn3, .slice bo3 bk3 bc3]) b3 L) (hc4 : ZN w (.agg #[.bool bn4, .slice bo4 bk4 bc4]) b4 L) (hc5 : ZN w (.agg #[.bool bn5, .slice bo5 bk5 bc5]) b5 L) (hc6 : ZN w (.agg #[.bool bn6, .slice bo6 bk6 bc6]) b6 L) (hq : PN w vb q1 l q2 m) (hl : l ≤ 9000000) (hm : m ≤ 9000000) :
    Calls Tryd.prog 89 #[.agg #[.bool an1, .slice ao1 ak1 ac1, .bool an2, .slice ao2 ak2 ac2, .bool an3, .slice ao3 ak3 ac3, .bool an4, .slice ao4 ak4 ac4, .bool an5, .slice ao5 ak5 ac5, .bool an6, .slice ao6 ak6 ac6], vb, .agg #[.bool bn1, .slice bo1 bk1 bc1, .bool bn2, .slice bo2 bk2 bc2, .bool bn3, .slice bo3 bk3 bc3, .bool bn4, .slice bo4 bk4 bc4, .bool bn5, .slice bo5 bk5 bc5, .bool bn6, .slice bo6 bk6 bc6]] w fun e w' => ∃ r, e = .returned r ∧ SC w' r (a1 - (q1 * b1 - q2 * b2)) (a2 - (q1 * b2 + q2 * b1)) (a3 - (q1 * b3 - q2 * b4)) (a4 - (q1 * b4 + q2 * b3)) (a5 - (q1 * b5 - q2 * b6)) (a6 - (q1 * b6 + q2 * b5)) ∧ Below w.heap.size w w' := by
  obtain ⟨n_1a, o_1a, k_1a, c_1a, n_1b, o_1b, k_1b, c_1b, rfl, hq1, hq2⟩ := hq
  go_enter Tryd.func89, Tryd.ntmps89
  have hb := Below.refl w.heap.size w
  refine wp_seq_k ?_
  intro K1 hK1
  refine wp_region_sq [0, 1, 2, 3] (by kernel_rfl) ?_
  refine wpSq_call rfl (by kernel_rfl) fun K hK => ?_
  go_big_op
  obtain ⟨p_b1, w_1, eP, eW, x_b1, hn, kb_b1⟩ := newBox w #[.bool an1, .slice ao1 ak1 ac1, .bool an2, .slice ao2 ak2 ac2, .bool an3, .slice ao3 ak3 ac3, .bool an4, .slice ao4 ak4 ac4, .bool an5, .slice ao5 ak5 ac5, .bool an6, .slice ao6 ak6 ac6] 84 hb.size
  rw [eW, eP]
  clear eW eP
  replace ha1 := ha1.bl hn; replace ha2 := ha2.bl hn; replace ha3 := ha3.bl hn; replace ha4 := ha4.bl hn; replace ha5 := ha5.bl hn; replace ha6 := ha6.bl hn; replace hq1 := hq1.bl hn; replace hq2 := hq2.bl hn; replace hc1 := hc1.bl hn; replace hc2 := hc2.bl hn; replace hc3 := hc3.bl hn; replace hc4 := hc4.bl hn; replace hc5 := hc5.bl hn; replace hc6 := hc6.bl hn; replace hb := hb.trans (hn.mono hb.size)
  refine hK _ _ rfl ?_; clear hK K hn
  refine wpSq_call rfl (by kernel_rfl) fun K hK => ?_
  go_big_op
  have lt_b1 := x_b1.lt
  obtain ⟨p_b2, w_2, eP, eW, x_b2, hn, kb_b2⟩ := newBox w_1 #[.bool n_1a, .slice o_1a k_1a c_1a, .bool n_1b, .slice o_1b k_1b c_1b] 26 hb.size
  have ne_b1_b2 : Hid (p_b1 ≠ p_b2) := Nat.ne_of_lt (eP ▸ lt_b1)
  rw [eW, eP]
  clear eW eP lt_b1
  replace ha1 := ha1.bl hn; replace ha2 := ha2.bl hn; replace ha3 := ha3.bl hn; replace ha4 := ha4.bl hn; replace ha5 := ha5.bl hn; replace ha6 := ha6.bl hn; replace hq1 := hq1.bl hn; replace hq2 := hq2.bl hn; replace hc1 := hc1.bl hn; replace hc2 := hc2.bl hn; replace hc3 := hc3.bl hn; replace hc4 := hc4.bl hn; replace hc5 := hc5.bl hn; replace hc6 := hc6.bl hn; replace x_b1 := x_b1.bl hn; replace hb := hb.trans (hn.mono hb.size)
  refine hK _ _ rfl ?_; clear hK K hn
  refine wpSq_call rfl (by kernel_rfl) fun K hK => ?_
  go_big_op
  have lt_b1 := x_b1.lt
  have lt_b2 := x_b2.lt
  obtain ⟨p_b3, w_3, eP, eW, x_b3, hn, kb_b3⟩ := newBox w_2 #[.bool bn1, .slice bo1 bk1 bc1, .bool bn2, .slice bo2 bk2 bc2, .bool bn3, .slice bo3 bk3 bc3, .bool bn4, .slice bo4 bk4 bc4, .bool bn5, .slice bo5 bk5 bc5, .bool bn6, .slice bo6 bk6 bc6] 84 hb.size
  have ne_b1_b3 : Hid (p_b1 ≠ p_b3) := Nat.ne_of_lt (eP ▸ lt_b1)
  have ne_b2_b3 : Hid (p_b2 ≠ p_b3) := Nat.ne_of_lt (eP ▸ lt_b2)
  rw [eW, eP]
  clear eW eP lt_b1 lt_b2
  replace ha1 := ha1.bl hn; replace ha2 := ha2.bl hn; replace ha3 := ha3.bl hn; replace ha4 := ha4.bl hn; replace ha5 := ha5.bl hn; replace ha6 := ha6.bl hn; replace hq1 := hq1.bl hn; replace hq2 := hq2.bl hn; replace hc1 := hc1.bl hn; replace hc2 := hc2.bl hn; replace hc3 := hc3.bl hn; replace hc4 := hc4.bl hn; replace hc5 := hc5.bl hn; replace hc6 := hc6.bl hn; replace x_b1 := x_b1.bl hn; replace x_b2 := x_b2.bl hn; replace hb := hb.trans (hn.mono hb.size)
  refine hK _ _ rfl ?_; clear hK K hn
  refine wpSq_call rfl (by kernel_rfl) fun K hK => ?_
  go_big_op
  have lt_b1 := x_b1.lt
  have lt_b2 := x_b2.lt
  have lt_b3 := x_b3.lt
  obtain ⟨p_b4, w_4, eP, eW, x_b4, hn, kb_b4⟩ := newBox w_3 #[.bool false, .slice none 0 0, .bool false, .slice none 0 0, .bool false, .slice none 0 0, .bool false, .slice none 0 0, .bool false, .slice none 0 0, .bool false, .slice none 0 0] 84 hb.size
  have ne_b1_b4 : Hid (p_b1 ≠ p_b4) := Nat.ne_of_lt (eP ▸ lt_b1)
  have ne_b2_b4 : Hid (p_b2 ≠ p_b4) := Nat.ne_of_lt (eP ▸ lt_b2)
  have ne_b3_b4 : Hid (p_b3 ≠ p_b4) := Nat.ne_of_lt (eP ▸ lt_b3)
  rw [eW, eP]
  clear eW eP lt_b1 lt_b2 lt_b3
  replace ha1 := ha1.bl hn; replace ha2 := ha2.bl hn; replace ha3 := ha3.bl hn; replace ha4 := ha4.bl hn; replace ha5 := ha5.bl hn; replace ha6 := ha6.bl hn; replace hq1 := hq1.bl hn; replace hq2 := hq2.bl hn; replace hc1 := hc1.bl hn; replace hc2 := hc2.bl hn; replace hc3 := hc3.bl hn; replace hc4 := hc4.bl hn; replace hc5 := hc5.bl hn; replace hc6 := hc6.bl hn; replace x_b1 := x_b1.bl hn; replace x_b2 := x_b2.bl hn; replace x_b3 := x_b3.bl hn; replace hb := hb.trans (hn.mono hb.size)
  refine hK _ _ rfl ?_; clear hK K hn
  apply wpSq_end
  refine hK1 _ _ ?_
  refine wp_seq_k ?_
  intro K2 hK2
  refine wp_region_fl2 [(0, false), (1, false), (2, false), (3, false), (4, false), (7, false), (8, false), (9, false), (10, false), (11, false), (14, false), (15, false), (16, false), (17, false), (18, false), (5, true), (6, true), (12, true), (13, true), (19, true), (20, true), (21, false)] [22] [] (fun _ => default) [99, 0, 1, 99, 2, 99, 99, 99, 0, 1, 99, 2, 99, 99, 99, 0, 1, 99, 2, 99, 99, 99, 99] [] (fun w' => w'.cell? ⟨p_b1, 0, none⟩ = some (.bool an1) ∧ w'.cell? ⟨p_b1, 1, none⟩ = some (.slice ao1 ak1 ac1) ∧ w'.cell? ⟨p_b1, 2, none⟩ = some (.bool an2) ∧ w'.cell? ⟨p_b1, 3, none⟩ = some (.slice ao2 ak2 ac2) ∧ w'.cell? ⟨p_b1, 4, none⟩ = some (.bool an3) ∧ w'.cell? ⟨p_b1, 5, none⟩ = some (.slice ao3 ak3 ac3) ∧ w'.cell? ⟨p_b1, 6, none⟩ = some (.bool an4) ∧ w'.cell? ⟨p_b1, 7, none⟩ = some (.slice ao4 ak4 ac4) ∧ w'.cell? ⟨p_b1, 8, none⟩ = some (.bool an5) ∧ w'.cell? ⟨p_b1, 9, none⟩ = some (.slice ao5 ak5 ac5) ∧ w'.cell? ⟨p_b1, 10, none⟩ = some (.bool an6) ∧ w'.cell? ⟨p_b1, 11, none⟩ = some (.slice ao6 ak6 ac6) ∧ w'.cell? ⟨p_b2, 0, none⟩ = some (.bool n_1a) ∧ w'.cell? ⟨p_b2, 1, none⟩ = some (.slice o_1a k_1a c_1a) ∧ w'.cell? ⟨p_b2, 2, none⟩ = some (.bool n_1b) ∧ w'.cell? ⟨p_b2, 3, none⟩ = some (.slice o_1b k_1b c_1b) ∧ w'.cell? ⟨p_b3, 0, none⟩ = some (.bool bn1) ∧ w'.cell? ⟨p_b3, 1, none⟩ = some (.slice bo1 bk1 bc1) ∧ w'.cell? ⟨p_b3, 2, none⟩ = some (.bool bn2) ∧ w'.cell? ⟨p_b3, 3, none⟩ = some (.slice bo2 bk2 bc2) ∧ w'.cell? ⟨p_b3, 4, none⟩ = some (.bool bn3) ∧ w'.cell? ⟨p_b3, 5, none⟩ = some (.slice bo3 bk3 bc3) ∧ w'.cell? ⟨p_b3, 6, none⟩ = some (.bool bn4) ∧ w'.cell? ⟨p_b3, 7, none⟩ = some (.slice bo4 bk4 bc4) ∧ w'.cell? ⟨p_b3, 8, none⟩ = some (.bool bn5) ∧ w'.cell? ⟨p_b3, 9, none⟩ = some (.slice bo5 bk5 bc5) ∧ w'.cell? ⟨p_b3, 10, none⟩ = some (.bool bn6) ∧ w'.cell? ⟨p_b3, 11, none⟩ = some (.slice bo6 bk6 bc6)) [fun w' => w'.cell? ⟨p_b1, 0, none⟩ = some (.bool an1) ∧ w'.cell? ⟨p_b1, 1, none⟩ = some (.slice ao1 ak1 ac1) ∧ w'.cell? ⟨p_b1, 2, none⟩ = some (.bool an2) ∧ w'.cell? ⟨p_b1, 3, none⟩ = some (.slice ao2 ak2 ac2) ∧ w'.cell? ⟨p_b1, 4, none⟩ = some (.bool an3) ∧ w'.cell? ⟨p_b1, 5, none⟩ = some (.slice ao3 ak3 ac3) ∧ w'.cell? ⟨p_b1, 6, none⟩ = some (.bool an4) ∧ w'.cell? ⟨p_b1, 7, none⟩ = some (.slice ao4 ak4 ac4) ∧ w'.cell? ⟨p_b1, 8, none⟩ = some (.bool an5) ∧ w'.cell? ⟨p_b1, 9, none⟩ = some (.slice ao5 ak5 ac5) ∧ w'.cell? ⟨p_b1, 10, none⟩ = some (.bool an6) ∧ w'.cell? ⟨p_b1, 11, none⟩ = some (.slice ao6 ak6 ac6), fun w' => w'.cell? ⟨p_b2, 0, none⟩ = some (.bool n_1a) ∧ w'.cell? ⟨p_b2, 1, none⟩ = some (.slice o_1a k_1a c_1a) ∧ w'.cell? ⟨p_b2, 2, none⟩ = some (.bool n_1b) ∧ w'.cell? ⟨p_b2, 3, none⟩ = some (.slice o_1b k_1b c_1b), fun w' => w'.cell? ⟨p_b3, 0, none⟩ = some (.bool bn1) ∧ w'.cell? ⟨p_b3, 1, none⟩ = some (.slice bo1 bk1 bc1) ∧ w'.cell? ⟨p_b3, 2, none⟩ = some (.bool bn2) ∧ w'.cell? ⟨p_b3, 3, none⟩ = some (.slice bo2 bk2 bc2) ∧ w'.cell? ⟨p_b3, 4, none⟩ = some (.bool bn3) ∧ w'.cell? ⟨p_b3, 5, none⟩ = some (.slice bo3 bk3 bc3) ∧ w'.cell? ⟨p_b3, 6, none⟩ = some (.bool bn4) ∧ w'.cell? ⟨p_b3, 7, none⟩ = some (.slice bo4 bk4 bc4) ∧ w'.cell? ⟨p_b3, 8, none⟩ = some (.bool bn5) ∧ w'.cell? ⟨p_b3, 9, none⟩ = some (.slice bo5 bk5 bc5) ∧ w'.cell? ⟨p_b3, 10, none⟩ = some (.bool bn6) ∧ w'.cell? ⟨p_b3, 11, none⟩ = some (.slice bo6 bk6 bc6)] (by kernel_rfl) (by kernel_rfl) (by kernel_rfl) (by kernel_rfl) (by kernel_rfl) (by kernel_rfl) (by kernel_rfl) (by kernel_rfl) (by decide) (by intro j hj; cases hj) (by intro w' o hC; obtain ⟨c0, c1, c2, c3, c4, c5, c6, c7, c8, c9, c10, c11, c12, c13, c14, c15, c16, c17, c18, c19, c20, c21, c22, c23, c24, c25, c26, c27⟩ := hC; exact ⟨cell_alloc c0 o, cell_alloc c1 o, cell_alloc c2 o, cell_alloc c3 o, cell_alloc c4 o, cell_alloc c5 o, cell_alloc c6 o, cell_alloc c7 o, cell_alloc c8 o, cell_alloc c9 o, cell_alloc c10 o, cell_alloc c11 o, cell_alloc c12 o, cell_alloc c13 o, cell_alloc c14 o, cell_alloc c15 o, cell_alloc c16 o, cell_alloc c17 o, cell_alloc c18 o, cell_alloc c19 o, cell_alloc c20 o, cell_alloc c21 o, cell_alloc c22 o, cell_alloc c23 o, cell_alloc c24 o, cell_alloc c25 o, cell_alloc c26 o, cell_alloc c27 o⟩) (by intro w' hC G hG; obtain ⟨c0, c1, c2, c3, c4, c5, c6, c7, c8, c9, c10, c11, c12, c13, c14, c15, c16, c17, c18, c19, c20, c21, c22, c23, c24, c25, c26, c27⟩ := hC; simp only [List.mem_cons, List.not_mem_nil, or_false] at hG; rcases hG with rfl | rfl | rfl <;> first | exact ⟨c0, c1, c2, c3, c4, c5, c6, c7, c8, c9, c10, c11⟩ | exact ⟨c12, c13, c14, c15⟩ | exact ⟨c16, c17, c18, c19, c20, c21, c22, c23, c24, c25, c26, c27⟩) ?_
  have lt_b1 := x_b1.lt
  have lt_b2 := x_b2.lt
  have lt_b3 := x_b3.lt
  have lt_b4 := x_b4.lt
  intro w_5 hn
  replace lt_b1 := Nat.lt_of_lt_of_le lt_b1 hn.size
  replace lt_b2 := Nat.lt_of_lt_of_le lt_b2 hn.size
  replace lt_b3 := Nat.lt_of_lt_of_le lt_b3 hn.size
  replace lt_b4 := Nat.lt_of_lt_of_le lt_b4 hn.size
  replace ha1 := ha1.bl hn; replace ha2 := ha2.bl hn; replace ha3 := ha3.bl hn; replace ha4 := ha4.bl hn; replace ha5 := ha5.bl hn; replace ha6 := ha6.bl hn; replace hq1 := hq1.bl hn; replace hq2 := hq2.bl hn; replace hc1 := hc1.bl hn; replace hc2 := hc2.bl hn; replace hc3 := hc3.bl hn; replace hc4 := hc4.bl hn; replace hc5 := hc5.bl hn; replace hc6 := hc6.bl hn; replace x_b1 := x_b1.bl hn; replace x_b2 := x_b2.bl hn; replace x_b3 := x_b3.bl hn; replace x_b4 := x_b4.bl hn; replace hb := hb.trans (hn.mono hb.size)
  clear hn
  have kb0 := hb.size
  refine ⟨⟨x_b1.cell 0 rfl, x_b1.cell 1 rfl, x_b1.cell 2 rfl, x_b1.cell 3 rfl, x_b1.cell 4 rfl, x_b1.cell 5 rfl, x_b1.cell 6 rfl, x_b1.cell 7 rfl, x_b1.cell 8 rfl, x_b1.cell 9 rfl, x_b1.cell 10 rfl, x_b1.cell 11 rfl, x_b2.cell 0 rfl, x_b2.cell 1 rfl, x_b2.cell 2 rfl, x_b2.cell 3 rfl, x_b3.cell 0 rfl, x_b3.cell 1 rfl, x_b3.cell 2 rfl, x_b3.cell 3 rfl, x_b3.cell 4 rfl, x_b3.cell 5 rfl, x_b3.cell 6 rfl, x_b3.cell 7 rfl, x_b3.cell 8 rfl, x_b3.cell 9 rfl, x_b3.cell 10 rfl, x_b3.cell 11 rfl⟩, ?_⟩
  apply wpFl_ld rfl rfl; (case h1 => intro w' hC K hK; go_big_op; exact hK); iterate 4 kernel_rfl
  apply wpFl_ld rfl rfl; (case h1 => intro w' hC K hK; obtain ⟨c0, c1, c2, c3, -, -, -, -, -, -, -, -⟩ := hC; go_big_op; exact hK); iterate 4 kernel_rfl
  apply wpFl_ld rfl rfl; (case h1 => intro w' hC K hK; obtain ⟨c0, c1, c2, c3⟩ := hC; go_big_op; exact hK); iterate 4 kernel_rfl
  apply wpFl_ld rfl rfl; (case h1 => intro w' hC K hK; go_big_op; exact hK); iterate 4 kernel_rfl
  apply wpFl_ld rfl rfl; (case h1 => intro w' hC K hK; obtain ⟨c0, c1, c2, c3, -, -, -, -, -, -, -, -⟩ := hC; go_big_op; exact hK); iterate 4 kernel_rfl
  apply wpFl_ld rfl rfl; (case h1 => intro w' hC K hK; go_big_op; exact hK); iterate 4 kernel_rfl
  apply wpFl_ld rfl rfl; (case h1 => intro w' hC K hK; obtain ⟨-, -, -, -, c4, c5, c6, c7, -, -, -, -⟩ := hC; go_big_op; exact hK); iterate 4 kernel_rfl
  apply wpFl_ld rfl rfl; (case h1 => intro w' hC K hK; obtain ⟨c0, c1, c2, c3⟩ := hC; go_big_op; exact hK); iterate 4 kernel_rfl
  apply wpFl_ld rfl rfl; (case h1 => intro w' hC K hK; go_big_op; exact hK); iterate 4 kernel_rfl
  apply wpFl_ld rfl rfl; (case h1 => intro w' hC K hK; obtain ⟨-, -, -, -, c4, c5, c6, c7, -, -, -, -⟩ := hC; go_big_op; exact hK); iterate 4 kernel_rfl
  apply wpFl_ld rfl rfl; (case h1 => intro w' hC K hK; go_big_op; exact hK); iterate 4 kernel_rfl
  apply wpFl_ld rfl rfl; (case h1 => intro w' hC K hK; obtain ⟨-, -, -, -, -, -, -, -, c8, c9, c10, c11⟩ := hC; go_big_op; exact hK); iterate 4 kernel_rfl
  apply wpFl_ld rfl rfl; (case h1 => intro w' hC K hK; obtain ⟨c0, c1, c2, c3⟩ := hC; go_big_op; exact hK); iterate 4 kernel_rfl
  apply wpFl_ld rfl rfl; (case h1 => intro w' hC K hK; go_big_op; exact hK); iterate 4 kernel_rfl
  apply wpFl_ld rfl rfl; (case h1 => intro w' hC K hK; obtain ⟨-, -, -, -, -, -, -, -, c8, c9, c10, c11⟩ := hC; go_big_op; exact hK); iterate 4 kernel_rfl
  refine wpFl_call rfl (by kernel_rfl) fun w_6 hn hC => ?_; clear hC
  replace ha1 := ha1.bl hn; replace ha2 := ha2.bl hn; replace ha3 := ha3.bl hn; replace ha4 := ha4.bl hn; replace ha5 := ha5.bl hn; replace ha6 := ha6.bl hn; replace hq1 := hq1.bl hn; replace hq2 := hq2.bl hn; replace hc1 := hc1.bl hn; replace hc2 := hc2.bl hn; replace hc3 := hc3.bl hn; replace hc4 := hc4.bl hn; replace hc5 := hc5.bl hn; replace hc6 := hc6.bl hn; replace x_b1 := x_b1.bl hn; replace x_b2 := x_b2.bl hn; replace x_b3 := x_b3.bl hn; replace x_b4 := x_b4.bl hn; replace hb := hb.trans (hn.mono hb.size)
  clear hn; intro K hK
  go_big_op
  go_fit (gMul_any (PN.mk' hq1 hq2) (PN.mk' hc1 hc2) (by omega) (by omega) (by omega) (by omega) )
  rintro e w_7 ⟨_, rfl, ⟨n_ga, o_ga, k_ga, c_ga, n_gb, o_gb, k_gb, c_gb, rfl, g1, g2⟩, hb_7⟩
  replace ha1 := ha1.bl hb_7; replace ha2 := ha2.bl hb_7; replace ha3 := ha3.bl hb_7; replace ha4 := ha4.bl hb_7; replace ha5 := ha5.bl hb_7; replace ha6 := ha6.bl hb_7; replace hq1 := hq1.bl hb_7; replace hq2 := hq2.bl hb_7; replace hc1 := hc1.bl hb_7; replace hc2 := hc2.bl hb_7; replace hc3 := hc3.bl hb_7; replace hc4 := hc4.bl hb_7; replace hc5 := hc5.bl hb_7; replace hc6 := hc6.bl hb_7; replace x_b1 := x_b1.bl hb_7; replace x_b2 := x_b2.bl hb_7; replace x_b3 := x_b3.bl hb_7; replace x_b4 := x_b4.bl hb_7; replace hb := hb.trans (hb_7.mono hb.size)
  have Lg1 := hide (g1.lenOf (zlen_sub (zlen_mul (hq1.len) (hc1.len)) (zlen_mul (hq2.len) (hc2.len))))
  have Lg2 := hide (g2.lenOf (zlen_add (zlen_mul (hq1.len) (hc2.len)) (zlen_mul (hq2.len) (hc1.len))))
  refine hK _ _ rfl hb_7 ⟨x_b1.cell 0 rfl, x_b1.cell 1 rfl, x_b1.cell 2 rfl, x_b1.cell 3 rfl, x_b1.cell 4 rfl, x_b1.cell 5 rfl, x_b1.cell 6 rfl, x_b1.cell 7 rfl, x_b1.cell 8 rfl, x_b1.cell 9 rfl, x_b1.cell 10 rfl, x_b1.cell 11 rfl, x_b2.cell 0 rfl, x_b2.cell 1 rfl, x_b2.cell 2 rfl, x_b2.cell 3 rfl, x_b3.cell 0 rfl, x_b3.cell 1 rfl, x_b3.cell 2 rfl, x_b3.cell 3 rfl, x_b3.cell 4 rfl, x_b3.cell 5 rfl, x_b3.cell 6 rfl, x_b3.cell 7 rfl, x_b3.cell 8 rfl, x_b3.cell 9 rfl, x_b3.cell 10 rfl, x_b3.cell 11 rfl⟩ ?_
  clear hK K hb_7
  refine wpFl_call rfl (by kernel_rfl) fun w_8 hn hC => ?_; clear hC
  replace ha1 := ha1.bl hn; replace ha2 := ha2.bl hn; replace ha3 := ha3.bl hn; replace ha4 := ha4.bl hn; replace ha5 := ha5.bl hn; replace ha6 := ha6.bl hn; replace hq1 := hq1.bl hn; replace hq2 := hq2.bl hn; replace hc1 := hc1.bl hn; replace hc2 := hc2.bl hn; replace hc3 := hc3.bl hn; replace hc4 := hc4.bl hn; replace hc5 := hc5.bl hn; replace hc6 := hc6.bl hn; replace x_b1 := x_b1.bl hn; replace x_b2 := x_b2.bl hn; replace x_b3 := x_b3.bl hn; replace x_b4 := x_b4.bl hn; replace g1 := g1.bl hn; replace g2 := g2.bl hn; replace hb := hb.trans (hn.mono hb.size)
  clear hn; intro K hK
  go_big_op
  go_fit (gSub_any (PN.mk' ha1 ha2) (PN.mk' (g1.zn Lg1.out) (g2.zn Lg2.out)) (by omega) (by omega) (by omega) (by omega) )
  rintro e w_9 ⟨_, rfl, ⟨n_ha, o_ha, k_ha, c_ha, n_hb, o_hb, k_hb, c_hb, rfl, h1, h2⟩, hb_9⟩
  replace ha1 := ha1.bl hb_9; replace ha2 := ha2.bl hb_9; replace ha3 := ha3.bl hb_9; replace ha4 := ha4.bl hb_9; replace ha5 := ha5.bl hb_9; replace ha6 := ha6.bl hb_9; replace hq1 := hq1.bl hb_9; replace hq2 := hq2.bl hb_9; replace hc1 := hc1.bl hb_9; replace hc2 := hc2.bl hb_9; replace hc3 := hc3.bl hb_9; replace hc4 := hc4.bl hb_9; replace hc5 := hc5.bl hb_9; replace hc6 := hc6.bl hb_9; replace x_b1 := x_b1.bl hb_9; replace x_b2 := x_b2.bl hb_9; replace x_b3 := x_b3.bl hb_9; replace x_b4 := x_b4.bl hb_9; replace g1 := g1.bl hb_9; replace g2 := g2.bl hb_9; replace hb := hb.trans (hb_9.mono hb.size)
  have Lh1 := hide (h1.lenOf (zlen_sub (ha1.len) (Lg1.out)))
  have Lh2 := hide (h2.lenOf (zlen_sub (ha2.len) (Lg2.out)))
  refine hK _ _ rfl hb_9 ⟨x_b1.cell 0 rfl, x_b1.cell 1 rfl, x_b1.cell 2 rfl, x_b1.cell 3 rfl, x_b1.cell 4 rfl, x_b1.cell 5 rfl, x_b1.cell 6 rfl, x_b1.cell 7 rfl, x_b1.cell 8 rfl, x_b1.cell 9 rfl, x_b1.cell 10 rfl, x_b1.cell 11 rfl, x_b2.cell 0 rfl, x_b2.cell 1 rfl, x_b2.cell 2 rfl, x_b2.cell 3 rfl, x_b3.cell 0 rfl, x_b3.cell 1 rfl, x_b3.cell 2 rfl, x_b3.cell 3 rfl, x_b3.cell 4 rfl, x_b3.cell 5 rfl, x_b3.cell 6 rfl, x_b3.cell 7 rfl, x_b3.cell 8 rfl, x_b3.cell 9 rfl, x_b3.cell 10 rfl, x_b3.cell 11 rfl⟩ ?_
  clear hK K hb_9
  refine wpFl_call rfl (by kernel_rfl) fun w_10 hn hC => ?_; clear hC
  clear g1 g2
  replace ha1 := ha1.bl hn; replace ha2 := ha2.bl hn; replace ha3 := ha3.bl hn; replace ha4 := ha4.bl hn; replace ha5 := ha5.bl hn; replace ha6 := ha6.bl hn; replace hq1 := hq1.bl hn; replace hq2 := hq2.bl hn; replace hc1 := hc1.bl hn; replace hc2 := hc2.bl hn; replace hc3 := hc3.bl hn; replace hc4 := hc4.bl hn; replace hc5 := hc5.bl hn; replace hc6 := hc6.bl hn; replace x_b1 := x_b1.bl hn; replace x_b2 := x_b2.bl hn; replace x_b3 := x_b3.bl hn; replace x_b4 := x_b4.bl hn; replace h1 := h1.bl hn; replace h2 := h2.bl hn; replace hb := hb.trans (hn.mono hb.size)
  clear hn; intro K hK
  go_big_op
  go_fit (gMul_any (PN.mk' hq1 hq2) (PN.mk' hc3 hc4) (by omega) (by omega) (by omega) (by omega) )
  rintro e w_11 ⟨_, rfl, ⟨n_ia, o_ia, k_ia, c_ia, n_ib, o_ib, k_ib, c_ib, rfl, i1, i2⟩, hb_11⟩
  replace ha1 := ha1.bl hb_11; replace ha2 := ha2.bl hb_11; replace ha3 := ha3.bl hb_11; replace ha4 := ha4.bl hb_11; replace ha5 := ha5.bl hb_11; replace ha6 := ha6.bl hb_11; replace hq1 := hq1.bl hb_11; replace hq2 := hq2.bl hb_11; replace hc1 := hc1.bl hb_11; replace hc2 := hc2.bl hb_11; replace hc3 := hc3.bl hb_11; replace hc4 := hc4.bl hb_11; replace hc5 := hc5.bl hb_11; replace hc6 := hc6.bl hb_11; replace x_b1 := x_b1.bl hb_11; replace x_b2 := x_b2.bl hb_11; replace x_b3 := x_b3.bl hb_11; replace x_b4 := x_b4.bl hb_11; replace h1 := h1.bl hb_11; replace h2 := h2.bl hb_11; replace hb := hb.trans (hb_11.mono hb.size)
  have Li1 := hide (i1.lenOf (zlen_sub (zlen_mul (hq1.len) (hc3.len)) (zlen_mul (hq2.len) (hc4.len))))
  have Li2 := hide (i2.lenOf (zlen_add (zlen_mul (hq1.len) (hc4.len)) (zlen_mul (hq2.len) (hc3.len))))
  refine hK _ _ rfl hb_11 ⟨x_b1.cell 0 rfl, x_b1.cell 1 rfl, x_b1.cell 2 rfl, x_b1.cell 3 rfl, x_b1.cell 4 rfl, x_b1.cell 5 rfl, x_b1.cell 6 rfl, x_b1.cell 7 rfl, x_b1.cell 8 rfl, x_b1.cell 9 rfl, x_b1.cell 10 rfl, x_b1.cell 11 rfl, x_b2.cell 0 rfl, x_b2.cell 1 rfl, x_b2.cell 2 rfl, x_b2.cell 3 rfl, x_b3.cell 0 rfl, x_b3.cell 1 rfl, x_b3.cell 2 rfl, x_b3.cell 3 rfl, x_b3.cell 4 rfl, x_b3.cell 5 rfl, x_b3.cell 6 rfl, x_b3.cell 7 rfl, x_b3.cell 8 rfl, x_b3.cell 9 rfl, x_b3.cell 10 rfl, x_b3.cell 11 rfl⟩ ?_
  clear hK K hb_11
  refine wpFl_call rfl (by kernel_rfl) fun w_12 hn hC => ?_; clear hC
  replace ha1 := ha1.bl hn; replace ha2 := ha2.bl hn; replace ha3 := ha3.bl hn; replace ha4 := ha4.bl hn; replace ha5 := ha5.bl hn; replace ha6 := ha6.bl hn; replace hq1 := hq1.bl hn; replace hq2 := hq2.bl hn; replace hc1 := hc1.bl hn; replace hc2 := hc2.bl hn; replace hc3 := hc3.bl hn; replace hc4 := hc4.bl hn; replace hc5 := hc5.bl hn; replace hc6 := hc6.bl hn; replace x_b1 := x_b1.bl hn; replace x_b2 := x_b2.bl hn; replace x_b3 := x_b3.bl hn; replace x_b4 := x_b4.bl hn; replace h1 := h1.bl hn; replace h2 := h2.bl hn; replace i1 := i1.bl hn; replace i2 := i2.bl hn; replace hb := hb.trans (hn.mono hb.size)
  clear hn; intro K hK
  go_big_op
  go_fit (gSub_any (PN.mk' ha3 ha4) (PN.mk' (i1.zn Li1.out) (i2.zn Li2.out)) (by omega) (by omega) (by omega) (by omega) )
  rintro e w_13 ⟨_, rfl, ⟨n_ja, o_ja, k_ja, c_ja, n_jb, o_jb, k_jb, c_jb, rfl, j1, j2⟩, hb_13⟩
  replace ha1 := ha1.bl hb_13; replace ha2 := ha2.bl hb_13; replace ha3 := ha3.bl hb_13; replace ha4 := ha4.bl hb_13; replace ha5 := ha5.bl hb_13; replace ha6 := ha6.bl hb_13; replace hq1 := hq1.bl hb_13; replace hq2 := hq2.bl hb_13; replace hc1 := hc1.bl hb_13; replace hc2 := hc2.bl hb_13; replace hc3 := hc3.bl hb_13; replace hc4 := hc4.bl hb_13; replace hc5 := hc5.bl hb_13; replace hc6 := hc6.bl hb_13; replace x_b1 := x_b1.bl hb_13; replace x_b2 := x_b2.bl hb_13; replace x_b3 := x_b3.bl hb_13; replace x_b4 := x_b4.bl hb_13; replace h1 := h1.bl hb_13; replace h2 := h2.bl hb_13; replace i1 := i1.bl hb_13; replace i2 := i2.bl hb_13; replace hb := hb.trans (hb_13.mono hb.size)
  have Lj1 := hide (j1.lenOf (zlen_sub (ha3.len) (Li1.out)))
  have Lj2 := hide (j2.lenOf (zlen_sub (ha4.len) (Li2.out)))
  refine hK _ _ rfl hb_13 ⟨x_b1.cell 0 rfl, x_b1.cell 1 rfl, x_b1.cell 2 rfl, x_b1.cell 3 rfl, x_b1.cell 4 rfl, x_b1.cell 5 rfl, x_b1.cell 6 rfl, x_b1.cell 7 rfl, x_b1.cell 8 rfl, x_b1.cell 9 rfl, x_b1.cell 10 rfl, x_b1.cell 11 rfl, x_b2.cell 0 rfl, x_b2.cell 1 rfl, x_b2.cell 2 rfl, x_b2.cell 3 rfl, x_b3.cell 0 rfl, x_b3.cell 1 rfl, x_b3.cell 2 rfl, x_b3.cell 3 rfl, x_b3.cell 4 rfl, x_b3.cell 5 rfl, x_b3.cell 6 rfl, x_b3.cell 7 rfl, x_b3.cell 8 rfl, x_b3.cell 9 rfl, x_b3.cell 10 rfl, x_b3.cell 11 rfl⟩ ?_
  clear hK K hb_13
  refine wpFl_call rfl (by kernel_rfl) fun w_14 hn hC => ?_; clear hC
  clear i1 i2
  replace ha1 := ha1.bl hn; replace ha2 := ha2.bl hn; replace ha3 := ha3.bl hn; replace ha4 := ha4.bl hn; replace ha5 := ha5.bl hn; replace ha6 := ha6.bl hn; replace hq1 := hq1.bl hn; replace hq2 := hq2.bl hn; replace hc1 := hc1.bl hn; replace hc2 := hc2.bl hn; replace hc3 := hc3.bl hn; replace hc4 := hc4.bl hn; replace hc5 := hc5.bl hn; replace hc6 := hc6.bl hn; replace x_b1 := x_b1.bl hn; replace x_b2 := x_b2.bl hn; replace x_b3 := x_b3.bl hn; replace x_b4 := x_b4.bl hn; replace h1 := h1.bl hn; replace h2 := h2.bl hn; replace j1 := j1.bl hn; replace j2 := j2.bl hn; replace hb := hb.trans (hn.mono hb.size)
  clear hn; intro K hK
  go_big_op
  go_fit (gMul_any (PN.mk' hq1 hq2) (PN.mk' hc5 hc6) (by omega) (by omega) (by omega) (by omega) )
  rintro e w_15 ⟨_, rfl, ⟨n_oa, o_oa, k_oa, c_oa, n_ob, o_ob, k_ob, c_ob, rfl, o1, o2⟩, hb_15⟩
  replace ha1 := ha1.bl hb_15; replace ha2 := ha2.bl hb_15; replace ha3 := ha3.bl hb_15; replace ha4 := ha4.bl hb_15; replace ha5 := ha5.bl hb_15; replace ha6 := ha6.bl hb_15; replace hq1 := hq1.bl hb_15; replace hq2 := hq2.bl hb_15; replace hc1 := hc1.bl hb_15; replace hc2 := hc2.bl hb_15; replace hc3 := hc3.bl hb_15; replace hc4 := hc4.bl hb_15; replace hc5 := hc5.bl hb_15; replace hc6 := hc6.bl hb_15; replace x_b1 := x_b1.bl hb_15; replace x_b2 := x_b2.bl hb_15; replace x_b3 := x_b3.bl hb_15; replace x_b4 := x_b4.bl hb_15; replace h1 := h1.bl hb_15; replace h2 := h2.bl hb_15; replace j1 := j1.bl hb_15; replace j2 := j2.bl hb_15; replace hb := hb.trans (hb_15.mono hb.size)
  have Lo1 := hide (o1.lenOf (zlen_sub (zlen_mul (hq1.len) (hc5.len)) (zlen_mul (hq2.len) (hc6.len))))
  have Lo2 := hide (o2.lenOf (zlen_add (zlen_mul (hq1.len) (hc6.len)) (zlen_mul (hq2.len) (hc5.len))))
  refine hK _ _ rfl hb_15 ⟨x_b1.cell 0 rfl, x_b1.cell 1 rfl, x_b1.cell 2 rfl, x_b1.cell 3 rfl, x_b1.cell 4 rfl, x_b1.cell 5 rfl, x_b1.cell 6 rfl, x_b1.cell 7 rfl, x_b1.cell 8 rfl, x_b1.cell 9 rfl, x_b1.cell 10 rfl, x_b1.cell 11 rfl, x_b2.cell 0 rfl, x_b2.cell 1 rfl, x_b2.cell 2 rfl, x_b2.cell 3 rfl, x_b3.cell 0 rfl, x_b3.cell 1 rfl, x_b3.cell 2 rfl, x_b3.cell 3 rfl, x_b3.cell 4 rfl, x_b3.cell 5 rfl, x_b3.cell 6 rfl, x_b3.cell 7 rfl, x_b3.cell 8 rfl, x_b3.cell 9 rfl, x_b3.cell 10 rfl, x_b3.cell 11 rfl⟩ ?_
  clear hK K hb_15
  refine wpFl_call rfl (by kernel_rfl) fun w_16 hn hC => ?_; clear hC
  replace ha1 := ha1.bl hn; replace ha2 := ha2.bl hn; replace ha3 := ha3.bl hn; replace ha4 := ha4.bl hn; replace ha5 := ha5.bl hn; replace ha6 := ha6.bl hn; replace hq1 := hq1.bl hn; replace hq2 := hq2.bl hn; replace hc1 := hc1.bl hn; replace hc2 := hc2.bl hn; replace hc3 := hc3.bl hn; replace hc4 := hc4.bl hn; replace hc5 := hc5.bl hn; replace hc6 := hc6.bl hn; replace x_b1 := x_b1.bl hn; replace x_b2 := x_b2.bl hn; replace x_b3 := x_b3.bl hn; replace x_b4 := x_b4.bl hn; replace h1 := h1.bl hn; replace h2 := h2.bl hn; replace j1 := j1.bl hn; replace j2 := j2.bl hn; replace o1 := o1.bl hn; replace o2 := o2.bl hn; replace hb := hb.trans (hn.mono hb.size)
  clear hn; intro K hK
  go_big_op
  go_fit (gSub_any (PN.mk' ha5 ha6) (PN.mk' (o1.zn Lo1.out) (o2.zn Lo2.out)) (by omega) (by omega) (by omega) (by omega) )
  rintro e w_17 ⟨_, rfl, ⟨n_pa, o_pa, k_pa, c_pa, n_pb, o_pb, k_pb, c_pb, rfl, p1, p2⟩, hb_17⟩
  replace ha1 := ha1.bl hb_17; replace ha2 := ha2.bl hb_17; replace ha3 := ha3.bl hb_17; replace ha4 := ha4.bl hb_17; replace ha5 := ha5.bl hb_17; replace ha6 := ha6.bl hb_17; replace hq1 := hq1.bl hb_17; replace hq2 := hq2.bl hb_17; replace hc1 := hc1.bl hb_17; replace hc2 := hc2.bl hb_17; replace hc3 := hc3.bl hb_17; replace hc4 := hc4.bl hb_17; replace hc5 := hc5.bl hb_17; replace hc6 := hc6.bl hb_17; replace x_b1 := x_b1.bl hb_17; replace x_b2 := x_b2.bl hb_17; replace x_b3 := x_b3.bl hb_17; replace x_b4 := x_b4.bl hb_17; replace h1 := h1.bl hb_17; replace h2 := h2.bl hb_17; replace j1 := j1.bl hb_17; replace j2 := j2.bl hb_17; replace o1 := o1.bl hb_17; replace o2 := o2.bl hb_17; replace hb := hb.trans (hb_17.mono hb.size)
  have Lp1 := hide (p1.lenOf (zlen_sub (ha5.len) (Lo1.out)))
  have Lp2 := hide (p2.lenOf (zlen_sub (ha6.len) (Lo2.out)))
  refine hK _ _ rfl hb_17 ⟨x_b1.cell 0 rfl, x_b1.cell 1 rfl, x_b1.cell 2 rfl, x_b1.cell 3 rfl, x_b1.cell 4 rfl, x_b1.cell 5 rfl, x_b1.cell 6 rfl, x_b1.cell 7 rfl, x_b1.cell 8 rfl, x_b1.cell 9 rfl, x_b1.cell 10 rfl, x_b1.cell 11 rfl, x_b2.cell 0 rfl, x_b2.cell 1 rfl, x_b2.cell 2 rfl, x_b2.cell 3 rfl, x_b3.cell 0 rfl, x_b3.cell 1 rfl, x_b3.cell 2 rfl, x_b3.cell 3 rfl, x_b3.cell 4 rfl, x_b3.cell 5 rfl, x_b3.cell 6 rfl, x_b3.cell 7 rfl, x_b3.cell 8 rfl, x_b3.cell 9 rfl, x_b3.cell 10 rfl, x_b3.cell 11 rfl⟩ ?_
  clear hK K hb_17
  apply wpFl_ld rfl rfl; (case h1 => intro w' hC K hK; go_big_op; exact hK); iterate 4 kernel_rfl
  apply wpFl_end
  case ha => intro pt; simp only [putF]; rfl
  case h =>
  intro w_18 pt hn hC hF hD
  clear hC
  clear o1 o2
  replace ha1 := ha1.bl hn; replace ha2 := ha2.bl hn; replace ha3 := ha3.bl hn; replace ha4 := ha4.bl hn; replace ha5 := ha5.bl hn; replace ha6 := ha6.bl hn; replace hq1 := hq1.bl hn; replace hq2 := hq2.bl hn; replace hc1 := hc1.bl hn; replace hc2 := hc2.bl hn; replace hc3 := hc3.bl hn; replace hc4 := hc4.bl hn; replace hc5 := hc5.bl hn; replace hc6 := hc6.bl hn; replace x_b1 := x_b1.bl hn; replace x_b2 := x_b2.bl hn; replace x_b3 := x_b3.bl hn; replace x_b4 := x_b4.bl hn; replace h1 := h1.bl hn; replace h2 := h2.bl hn; replace j1 := j1.bl hn; replace j2 := j2.bl hn; replace p1 := p1.bl hn; replace p2 := p2.bl hn; replace hb := hb.trans (hn.mono hb.size)
  clear hn
  clear hF hD
  clear pt
  clear kb0 lt_b1 lt_b2 lt_b3 lt_b4
  refine wpTail_call rfl (by kernel_rfl) fun K hK => ?_
  have d0 : w_18.cell? ⟨p_b4, 0, none⟩ = some (.bool false) := x_b4.cell 0 rfl
  have d1 : w_18.cell? ⟨p_b4, 1, none⟩ = some (.slice none 0 0) := x_b4.cell 1 rfl
  have d2 : w_18.cell? ⟨p_b4, 2, none⟩ = some (.bool false) := x_b4.cell 2 rfl
  have d3 : w_18.cell? ⟨p_b4, 3, none⟩ = some (.slice none 0 0) := x_b4.cell 3 rfl
  have d4 : w_18.cell? ⟨p_b4, 4, none⟩ = some (.bool false) := x_b4.cell 4 rfl
  have d5 : w_18.cell? ⟨p_b4, 5, none⟩ = some (.slice none 0 0) := x_b4.cell 5 rfl
  have d6 : w_18.cell? ⟨p_b4, 6, none⟩ = some (.bool false) := x_b4.cell 6 rfl
  have d7 : w_18.cell? ⟨p_b4, 7, none⟩ = some (.slice none 0 0) := x_b4.cell 7 rfl
  have d8 : w_18.cell? ⟨p_b4, 8, none⟩ = some (.bool false) := x_b4.cell 8 rfl
  have d9 : w_18.cell? ⟨p_b4, 9, none⟩ = some (.slice none 0 0) := x_b4.cell 9 rfl
  have d10 : w_18.cell? ⟨p_b4, 10, none⟩ = some (.bool false) := x_b4.cell 10 rfl
  have d11 : w_18.cell? ⟨p_b4, 11, none⟩ = some (.slice none 0 0) := x_b4.cell 11 rfl
  have f0 := x_b4.free 0; have f1 := x_b4.free 1; have f2 := x_b4.free 2; have f3 := x_b4.free 3; have f4 := x_b4.free 4; have f5 := x_b4.free 5; have f6 := x_b4.free 6; have f7 := x_b4.free 7; have f8 := x_b4.free 8; have f9 := x_b4.free 9; have f10 := x_b4.free 10; have f11 := x_b4.free 11
  go_big_op
  have hnd := x_b4.nod rfl rfl
  obtain ⟨w_19_0, eW, x_b4_0, ho_0⟩ : ∃ w', ((((w_18.setCell ⟨p_b4, 0, none⟩ (.bool n_ha)).setCell ⟨p_b4, 1, none⟩ (.slice o_ha k_ha c_ha)).setCell ⟨p_b4, 2, none⟩ (.bool n_hb)).setCell ⟨p_b4, 3, none⟩ (.slice o_hb k_hb c_hb)) = w' ∧ Bs w' p_b4 #[.bool n_ha, .slice o_ha k_ha c_ha, .bool n_hb, .slice o_hb k_hb c_hb, .bool false, .slice none 0 0, .bool false, .slice none 0 0, .bool false, .slice none 0 0, .bool false, .slice none 0 0] 84 ∧ Only p_b4 w_18 w' := x_b4.setN [(0, .bool n_ha), (1, .slice o_ha k_ha c_ha), (2, .bool n_hb), (3, .slice o_hb k_hb c_hb)]
  rw [eW]; clear eW
  obtain ⟨w_19_4, eW, x_b4_4, ho_4⟩ : ∃ w', ((((w_19_0.setCell ⟨p_b4, 4, none⟩ (.bool n_ja)).setCell ⟨p_b4, 5, none⟩ (.slice o_ja k_ja c_ja)).setCell ⟨p_b4, 6, none⟩ (.bool n_jb)).setCell ⟨p_b4, 7, none⟩ (.slice o_jb k_jb c_jb)) = w' ∧ Bs w' p_b4 #[.bool n_ha, .slice o_ha k_ha c_ha, .bool n_hb, .slice o_hb k_hb c_hb, .bool n_ja, .slice o_ja k_ja c_ja, .bool n_jb, .slice o_jb k_jb c_jb, .bool false, .slice none 0 0, .bool false, .slice none 0 0] 84 ∧ Only p_b4 w_19_0 w' := x_b4_0.setN [(4, .bool n_ja), (5, .slice o_ja k_ja c_ja), (6, .bool n_jb), (7, .slice o_jb k_jb c_jb)]
  rw [eW]; clear eW x_b4_0
  obtain ⟨w_19, eW, x_b4', ho_8⟩ : ∃ w', ((((w_19_4.setCell ⟨p_b4, 8, none⟩ (.bool n_pa)).setCell ⟨p_b4, 9, none⟩ (.slice o_pa k_pa c_pa)).setCell ⟨p_b4, 10, none⟩ (.bool n_pb)).setCell ⟨p_b4, 11, none⟩ (.slice o_pb k_pb c_pb)) = w' ∧ Bs w' p_b4 #[.bool n_ha, .slice o_ha k_ha c_ha, .bool n_hb, .slice o_hb k_hb c_hb, .bool n_ja, .slice o_ja k_ja c_ja, .bool n_jb, .slice o_jb k_jb c_jb, .bool n_pa, .slice o_pa k_pa c_pa, .bool n_pb, .slice o_pb k_pb c_pb] 84 ∧ Only p_b4 w_19_4 w' := x_b4_4.setN [(8, .bool n_pa), (9, .slice o_pa k_pa c_pa), (10, .bool n_pb), (11, .slice o_pb k_pb c_pb)]
  rw [eW]; clear eW x_b4_4
  have ho := ((ho_0.trans ho_4).trans ho_8)
  clear ho_0 ho_4 ho_8 d0 d1 d2 d3 d4 d5 d6 d7 d8 d9 d10 d11 f0 f1 f2 f3 f4 f5 f6 f7 f8 f9 f10 f11 x_b4
  have x_b4 := x_b4'; clear x_b4'
  replace ha1 := ha1.fr hnd ho; replace ha2 := ha2.fr hnd ho; replace ha3 := ha3.fr hnd ho; replace ha4 := ha4.fr hnd ho; replace ha5 := ha5.fr hnd ho; replace ha6 := ha6.fr hnd ho; replace hq1 := hq1.fr hnd ho; replace hq2 := hq2.fr hnd ho; replace hc1 := hc1.fr hnd ho; replace hc2 := hc2.fr hnd ho; replace hc3 := hc3.fr hnd ho; replace hc4 := hc4.fr hnd ho; replace hc5 := hc5.fr hnd ho; replace hc6 := hc6.fr hnd ho; replace x_b1 := x_b1.frame ho ne_b1_b4; replace x_b2 := x_b2.frame ho ne_b2_b4; replace x_b3 := x_b3.frame ho ne_b3_b4; replace h1 := h1.fr hnd ho; replace h2 := h2.fr hnd ho; replace j1 := j1.fr hnd ho; replace j2 := j2.fr hnd ho; replace p1 := p1.fr hnd ho; replace p2 := p2.fr hnd ho; replace hb := belowOnly hb ho kb_b4
  refine hK _ _ rfl (And.intro ⟨x_b1.cell 0 rfl, x_b1.cell 1 rfl, x_b1.cell 2 rfl, x_b1.cell 3 rfl, x_b1.cell 4 rfl, x_b1.cell 5 rfl, x_b1.cell 6 rfl, x_b1.cell 7 rfl, x_b1.cell 8 rfl, x_b1.cell 9 rfl, x_b1.cell 10 rfl, x_b1.cell 11 rfl⟩ (And.intro ⟨x_b2.cell 0 rfl, x_b2.cell 1 rfl, x_b2.cell 2 rfl, x_b2.cell 3 rfl⟩ (And.intro ⟨x_b3.cell 0 rfl, x_b3.cell 1 rfl, x_b3.cell 2 rfl, x_b3.cell 3 rfl, x_b3.cell 4 rfl, x_b3.cell 5 rfl, x_b3.cell 6 rfl, x_b3.cell 7 rfl, x_b3.cell 8 rfl, x_b3.cell 9 rfl, x_b3.cell 10 rfl, x_b3.cell 11 rfl⟩ True.intro))) ?_; clear hK K ho hnd
  apply wpTail_end
  refine hK2 _ _ ?_
  refine wp_ret ?_
  try dsimp only [Exit.then, Exit.inBlock]
  have r0_0 : w_19.cell? ⟨p_b4, 0, none⟩ = some (.bool n_ha) := x_b4.cell 0 rfl
  have r0_1 : w_19.cell? ⟨p_b4, 1, none⟩ = some (.slice o_ha k_ha c_ha) := x_b4.cell 1 rfl
  have r0_2 : w_19.cell? ⟨p_b4, 2, none⟩ = some (.bool n_hb) := x_b4.cell 2 rfl
  have r0_3 : w_19.cell? ⟨p_b4, 3, none⟩ = some (.slice o_hb k_hb c_hb) := x_b4.cell 3 rfl
  have r0_4 : w_19.cell? ⟨p_b4, 4, none⟩ = some (.bool n_ja) := x_b4.cell 4 rfl
  have r0_5 : w_19.cell? ⟨p_b4, 5, none⟩ = some (.slice o_ja k_ja c_ja) := x_b4.cell 5 rfl
  have r0_6 : w_19.cell? ⟨p_b4, 6, none⟩ = some (.bool n_jb) := x_b4.cell 6 rfl
  have r0_7 : w_19.cell? ⟨p_b4, 7, none⟩ = some (.slice o_jb k_jb c_jb) := x_b4.cell 7 rfl
  have r0_8 : w_19.cell? ⟨p_b4, 8, none⟩ = some (.bool n_pa) := x_b4.cell 8 rfl
  have r0_9 : w_19.cell? ⟨p_b4, 9, none⟩ = some (.slice o_pa k_pa c_pa) := x_b4.cell 9 rfl
  have r0_10 : w_19.cell? ⟨p_b4, 10, none⟩ = some (.bool n_pb) := x_b4.cell 10 rfl
  have r0_11 : w_19.cell? ⟨p_b4, 11, none⟩ = some (.slice o_pb k_pb c_pb) := x_b4.cell 11 rfl
  refine bodyPost_ret (v := (.agg #[.bool n_ha, .slice o_ha k_ha c_ha, .bool n_hb, .slice o_hb k_hb c_hb, .bool n_ja, .slice o_ja k_ja c_ja, .bool n_jb, .slice o_jb k_jb c_jb, .bool n_pa, .slice o_pa k_pa c_pa, .bool n_pb, .slice o_pb k_pb c_pb])) (by simp [results, Tryd.results89, go_sem, r0_0, r0_1, r0_2, r0_3, r0_4, r0_5, r0_6, r0_7, r0_8, r0_9, r0_10, r0_11]) rfl ?_
  exact ⟨_, rfl, .mk' h1 h2 j1 j2 p1 p2, hb⟩
end
end Go.Proofs.YtgjainmfilkjmaaDoor

/- gint.Xgcd. -/
namespace Go.Proofs.YtgjainmfilkjmaaDoor
open Go Go.RowKit Dig
set_option linter.unusedVariables false

/-- A block that holds six. -/
def BN (L : Nat) (w : World) (p : Nat) (ty : TypeId) (z1 z2 z3 z4 z5 z6 : Int) : Prop :=
  ∃ n1 o1 k1 c1 n2 o2 k2 c2 n3 o3 k3 c3 n4 o4 k4 c4 n5 o5 k5 c5 n6 o6 k6 c6, Bs w p #[.bool n1, .slice o1 k1 c1, .bool n2, .slice o2 k2 c2, .bool n3, .slice o3 k3 c3, .bool n4, .slice o4 k4 c4, .bool n5, .slice o5 k5 c5, .bool n6, .slice o6 k6 c6] ty ∧ ZN w (.agg #[.bool n1, .slice o1 k1 c1]) z1 L ∧ ZN w (.agg #[.bool n2, .slice o2 k2 c2]) z2 L ∧ ZN w (.agg #[.bool n3, .slice o3 k3 c3]) z3 L ∧ ZN w (.agg #[.bool n4, .slice o4 k4 c4]) z4 L ∧ ZN w (.agg #[.bool n5, .slice o5 k5 c5]) z5 L ∧ ZN w (.agg #[.bool n6, .slice o6 k6 c6]) z6 L
theorem GS.step_s1 (t : GS) : t.r1 - (gQ1 t.r1 t.r2 t.s1 t.s2 * t.s1 - gQ2 t.r1 t.r2 t.s1 t.s2 * t.s2) = t.step.s1 := rfl
theorem GS.step_s2 (t : GS) : t.r2 - (gQ1 t.r1 t.r2 t.s1 t.s2 * t.s2 + gQ2 t.r1 t.r2 t.s1 t.s2 * t.s1) = t.step.s2 := rfl
theorem GS.step_u1 (t : GS) : t.x1 - (gQ1 t.r1 t.r2 t.s1 t.s2 * t.u1 - gQ2 t.r1 t.r2 t.s1 t.s2 * t.u2) = t.step.u1 := rfl
theorem GS.step_u2 (t : GS) : t.x2 - (gQ1 t.r1 t.r2 t.s1 t.s2 * t.u2 + gQ2 t.r1 t.r2 t.s1 t.s2 * t.u1) = t.step.u2 := rfl
theorem GS.step_v1 (t : GS) : t.y1 - (gQ1 t.r1 t.r2 t.s1 t.s2 * t.v1 - gQ2 t.r1 t.r2 t.s1 t.s2 * t.v2) = t.step.v1 := rfl
theorem GS.step_v2 (t : GS) : t.y2 - (gQ1 t.r1 t.r2 t.s1 t.s2 * t.v2 + gQ2 t.r1 t.r2 t.s1 t.s2 * t.v1) = t.step.v2 := rfl
/-- The next sum's cells, put together by their proofs. -/
theorem BN.mk' {L : Nat} {w : World} {p : Nat} {ty : TypeId} {n1 n2 n3 n4 n5 n6 : Bool} {o1 o2 o3 o4 o5 o6 : Option Addr} {k1 c1 k2 c2 k3 c3 k4 c4 k5 c5 k6 c6 : Nat} {z1 z2 z3 z4 z5 z6 : Int} (hb : Bs w p #[.bool n1, .slice o1 k1 c1, .bool n2, .slice o2 k2 c2, .bool n3, .slice o3 k3 c3, .bool n4, .slice o4 k4 c4, .bool n5, .slice o5 k5 c5, .bool n6, .slice o6 k6 c6] ty) (h1 : ZN w (.agg #[.bool n1, .slice o1 k1 c1]) z1 L) (h2 : ZN w (.agg #[.bool n2, .slice o2 k2 c2]) z2 L) (h3 : ZN w (.agg #[.bool n3, .slice o3 k3 c3]) z3 L) (h4 : ZN w (.agg #[.bool n4, .slice o4 k4 c4]) z4 L) (h5 : ZN w (.agg #[.bool n5, .slice o5 k5 c5]) z5 L) (h6 : ZN w (.agg #[.bool n6, .slice o6 k6 c6]) z6 L) : BN L w p ty z1 z2 z3 z4 z5 z6 :=
  ⟨_, _, _, _, _, _, _, _, _, _, _, _, _, _, _, _, _, _, _, _, _, _, _, _, hb, h1, h2, h3, h4, h5, h6⟩
section
variable {w : World} {va vb : Value} {x y u v : Int} {l m k n : Nat}
set_option maxHeartbeats 8000000 in
set_option maxRecDepth 20000 in
theorem gxgcd_any {L : Nat} (ha : PN w va x L y L) (hq : PN w vb u L v L) (hL : L + 1 ≤ 2200000) :
    Calls Tryd.prog 47 #[va, vb] w fun e w' => ∃ v1 v2 v3, e = .returned (.tuple #[v1, v2, v3]) ∧ PC w' v1 (turn (kq (GS.start x y u v).fin.r1 (GS.start x y u v).fin.r2) ((GS.start x y u v).fin.r1, (GS.start x y u v).fin.r2)).1 (turn (kq (GS.start x y u v).fin.r1 (GS.start x y u v).fin.r2) ((GS.start x y u v).fin.r1, (GS.start x y u v).fin.r2)).2 ∧
      PC w' v2 (turn (kq (GS.start x y u v).fin.r1 (GS.start x y u v).fin.r2) ((GS.start x y u v).fin.x1, (GS.start x y u v).fin.x2)).1 (turn (kq (GS.start x y u v).fin.r1 (GS.start x y u v).fin.r2) ((GS.start x y u v).fin.x1, (GS.start x y u v).fin.x2)).2 ∧
      PC w' v3 (turn (kq (GS.start x y u v).fin.r1 (GS.start x y u v).fin.r2) ((GS.start x y u v).fin.y1, (GS.start x y u v).fin.y2)).1 (turn (kq (GS.start x y u v).fin.r1 (GS.start x y u v).fin.r2) ((GS.start x y u v).fin.y1, (GS.start x y u v).fin.y2)).2 ∧ Below w.heap.size w w' := by
  have LL := hide (And.intro (And.intro ha.len1 ha.len2) (And.intro hq.len1 hq.len2))
  have hst : GI x y u v (GS.start x y u v) := GI.start x y u v
  have HST := hide hst
  have L1 := hide (show (dig (Int.natAbs 1)).length ≤ L + 1 by rw [show (dig (Int.natAbs 1)).length = 1 by decide]; omega)
  have L0 := hide (show (dig (Int.natAbs 0)).length ≤ L + 1 by rw [show (dig (Int.natAbs 0)).length = 0 by decide]; omega)
  obtain ⟨F, hF⟩ : ∃ F, (GS.start x y u v).fin = F := ⟨_, rfl⟩
  rw [hF]
  have HF := hide hF
  have HM := hide (kq_mod F.r1 F.r2)
  obtain ⟨N, hN⟩ : ∃ N, (gN u v).toNat = N := ⟨_, rfl⟩
  have HN := hide hN
  clear hst hF hN
  obtain ⟨n_0a, o_0a, k_0a, c_0a, n_0b, o_0b, k_0b, c_0b, rfl, ha1, ha2⟩ := ha
  obtain ⟨n_1a, o_1a, k_1a, c_1a, n_1b, o_1b, k_1b, c_1b, rfl, hq1, hq2⟩ := hq
  go_enter Tryd.func47, Tryd.ntmps47
  have hb := Below.refl w.heap.size w
  refine wp_seq_k ?_
  intro K1 hK1
  refine wp_region_sq [0, 1, 2, 3, 4] (by kernel_rfl) ?_
  refine wpSq_call rfl (by kernel_rfl) fun K hK => ?_
  go_big_op
  obtain ⟨p_b1, w_1, eP, eW, x_b1, hn, kb_b1⟩ := newBox w #[.bool n_0a, .slice o_0a k_0a c_0a, .bool n_0b, .slice o_0b k_0b c_0b] 26 hb.size
  rw [eW, eP]
  clear eW eP
  replace ha1 := ha1.bl hn; replace ha2 := ha2.bl hn; replace hq1 := hq1.bl hn; replace hq2 := hq2.bl hn; replace hb := hb.trans (hn.mono hb.size)
  refine hK _ _ rfl ?_; clear hK K hn
  refine wpSq_call rfl (by kernel_rfl) fun K hK => ?_
  go_big_op
  have lt_b1 := x_b1.lt
  obtain ⟨p_b2, w_2, eP, eW, x_b2, hn, kb_b2⟩ := newBox w_1 #[.bool n_1a, .slice o_1a k_1a c_1a, .bool n_1b, .slice o_1b k_1b c_1b] 26 hb.size
  have ne_b1_b2 : Hid (p_b1 ≠ p_b2) := Nat.ne_of_lt (eP ▸ lt_b1)
  rw [eW, eP]
  clear eW eP lt_b1
  replace ha1 := ha1.bl hn; replace ha2 := ha2.bl hn; replace hq1 := hq1.bl hn; replace hq2 := hq2.bl hn; replace x_b1 := x_b1.bl hn; replace hb := hb.trans (hn.mono hb.size)
  refine hK _ _ rfl ?_; clear hK K hn
  refine wpSq_call rfl (by kernel_rfl) fun K hK => ?_
  go_big_op
  have lt_b1 := x_b1.lt
  have lt_b2 := x_b2.lt
  obtain ⟨p_b3, w_3, eP, eW, x_b3, hn, kb_b3⟩ := newBox w_2 #[.bool false, .slice none 0 0, .bool false, .slice none 0 0] 26 hb.size
  have ne_b1_b3 : Hid (p_b1 ≠ p_b3) := Nat.ne_of_lt (eP ▸ lt_b1)
  have ne_b2_b3 : Hid (p_b2 ≠ p_b3) := Nat.ne_of_lt (eP ▸ lt_b2)
  rw [eW, eP]
  clear eW eP lt_b1 lt_b2
  replace ha1 := ha1.bl hn; replace ha2 := ha2.bl hn; replace hq1 := hq1.bl hn; replace hq2 := hq2.bl hn; replace x_b1 := x_b1.bl hn; replace x_b2 := x_b2.bl hn; replace hb := hb.trans (hn.mono hb.size)
  refine hK _ _ rfl ?_; clear hK K hn
  refine wpSq_call rfl (by kernel_rfl) fun K hK => ?_
  go_big_op
  have lt_b1 := x_b1.lt
  have lt_b2 := x_b2.lt
  have lt_b3 := x_b3.lt
  obtain ⟨p_b4, w_4, eP, eW, x_b4, hn, kb_b4⟩ := newBox w_3 #[.bool false, .slice none 0 0, .bool false, .slice none 0 0] 26 hb.size
  have ne_b1_b4 : Hid (p_b1 ≠ p_b4) := Nat.ne_of_lt (eP ▸ lt_b1)
  have ne_b2_b4 : Hid (p_b2 ≠ p_b4) := Nat.ne_of_lt (eP ▸ lt_b2)
  have ne_b3_b4 : Hid (p_b3 ≠ p_b4) := Nat.ne_of_lt (eP ▸ lt_b3)
  rw [eW, eP]
  clear eW eP lt_b1 lt_b2 lt_b3
  replace ha1 := ha1.bl hn; replace ha2 := ha2.bl hn; replace hq1 := hq1.bl hn; replace hq2 := hq2.bl hn; replace x_b1 := x_b1.bl hn; replace x_b2 := x_b2.bl hn; replace x_b3 := x_b3.bl hn; replace hb := hb.trans (hn.mono hb.size)
  refine hK _ _ rfl ?_; clear hK K hn
  refine wpSq_call rfl (by kernel_rfl) fun K hK => ?_
  go_big_op
  have lt_b1 := x_b1.lt
  have lt_b2 := x_b2.lt
  have lt_b3 := x_b3.lt
  have lt_b4 := x_b4.lt
  obtain ⟨p_b5, w_5, eP, eW, x_b5, hn, kb_b5⟩ := newBox w_4 #[.bool false, .slice none 0 0, .bool false, .slice none 0 0] 26 hb.size
  have ne_b1_b5 : Hid (p_b1 ≠ p_b5) := Nat.ne_of_lt (eP ▸ lt_b1)
  have ne_b2_b5 : Hid (p_b2 ≠ p_b5) := Nat.ne_of_lt (eP ▸ lt_b2)
  have ne_b3_b5 : Hid (p_b3 ≠ p_b5) := Nat.ne_of_lt (eP ▸ lt_b3)
  have ne_b4_b5 : Hid (p_b4 ≠ p_b5) := Nat.ne_of_lt (eP ▸ lt_b4)
  rw [eW, eP]
  clear eW eP lt_b1 lt_b2 lt_b3 lt_b4
  replace ha1 := ha1.bl hn; replace ha2 := ha2.bl hn; replace hq1 := hq1.bl hn; replace hq2 := hq2.bl hn; replace x_b1 := x_b1.bl hn; replace x_b2 := x_b2.bl hn; replace x_b3 := x_b3.bl hn; replace x_b4 := x_b4.bl hn; replace hb := hb.trans (hn.mono hb.size)
  refine hK _ _ rfl ?_; clear hK K hn
  apply wpSq_end
  refine hK1 _ _ ?_
  refine wp_seq_k ?_
  intro K2 hK2
  refine wp_region_fl2 [(0, false), (2, false), (4, false), (5, false), (1, true), (3, false), (6, true), (7, false)] [10, 11] [8, 9] (fun j => if j = 8 then (.cells #[.bool false, .slice none 0 0, .bool false, .slice none 0 0, .bool false, .slice none 0 0, .bool false, .slice none 0 0, .bool false, .slice none 0 0, .bool false, .slice none 0 0] 84) else (.cells #[.bool false, .slice none 0 0, .bool false, .slice none 0 0, .bool false, .slice none 0 0, .bool false, .slice none 0 0, .bool false, .slice none 0 0, .bool false, .slice none 0 0] 84)) [0, 99, 99, 99, 1, 99, 99, 99, 99, 99, 99, 99] [] (fun w' => w'.cell? ⟨p_b1, 0, none⟩ = some (.bool n_0a) ∧ w'.cell? ⟨p_b1, 1, none⟩ = some (.slice o_0a k_0a c_0a) ∧ w'.cell? ⟨p_b1, 2, none⟩ = some (.bool n_0b) ∧ w'.cell? ⟨p_b1, 3, none⟩ = some (.slice o_0b k_0b c_0b) ∧ w'.cell? ⟨p_b2, 0, none⟩ = some (.bool n_1a) ∧ w'.cell? ⟨p_b2, 1, none⟩ = some (.slice o_1a k_1a c_1a) ∧ w'.cell? ⟨p_b2, 2, none⟩ = some (.bool n_1b) ∧ w'.cell? ⟨p_b2, 3, none⟩ = some (.slice o_1b k_1b c_1b)) [fun w' => w'.cell? ⟨p_b1, 0, none⟩ = some (.bool n_0a) ∧ w'.cell? ⟨p_b1, 1, none⟩ = some (.slice o_0a k_0a c_0a) ∧ w'.cell? ⟨p_b1, 2, none⟩ = some (.bool n_0b) ∧ w'.cell? ⟨p_b1, 3, none⟩ = some (.slice o_0b k_0b c_0b), fun w' => w'.cell? ⟨p_b2, 0, none⟩ = some (.bool n_1a) ∧ w'.cell? ⟨p_b2, 1, none⟩ = some (.slice o_1a k_1a c_1a) ∧ w'.cell? ⟨p_b2, 2, none⟩ = some (.bool n_1b) ∧ w'.cell? ⟨p_b2, 3, none⟩ = some (.slice o_1b k_1b c_1b)] (by kernel_rfl) (by kernel_rfl) (by kernel_rfl) (by kernel_rfl) (by kernel_rfl) (by kernel_rfl) (by kernel_rfl) (by kernel_rfl) (by decide) (by intro j hj; simp only [List.mem_cons, List.not_mem_nil, or_false] at hj; rcases hj with rfl | rfl; all_goals exact ⟨_, rfl, rfl, fun ρ w => by unfold ptr; simp [go_sem]⟩) (by intro w' o hC; obtain ⟨c0, c1, c2, c3, c4, c5, c6, c7⟩ := hC; exact ⟨cell_alloc c0 o, cell_alloc c1 o, cell_alloc c2 o, cell_alloc c3 o, cell_alloc c4 o, cell_alloc c5 o, cell_alloc c6 o, cell_alloc c7 o⟩) (by intro w' hC G hG; obtain ⟨c0, c1, c2, c3, c4, c5, c6, c7⟩ := hC; simp only [List.mem_cons, List.not_mem_nil, or_false] at hG; rcases hG with rfl | rfl <;> first | exact ⟨c0, c1, c2, c3⟩ | exact ⟨c4, c5, c6, c7⟩) ?_
  have lt_b1 := x_b1.lt
  have lt_b2 := x_b2.lt
  have lt_b3 := x_b3.lt
  have lt_b4 := x_b4.lt
  have lt_b5 := x_b5.lt
  intro w_6 hn
  replace lt_b1 := Nat.lt_of_lt_of_le lt_b1 hn.size
  replace lt_b2 := Nat.lt_of_lt_of_le lt_b2 hn.size
  replace lt_b3 := Nat.lt_of_lt_of_le lt_b3 hn.size
  replace lt_b4 := Nat.lt_of_lt_of_le lt_b4 hn.size
  replace lt_b5 := Nat.lt_of_lt_of_le lt_b5 hn.size
  replace ha1 := ha1.bl hn; replace ha2 := ha2.bl hn; replace hq1 := hq1.bl hn; replace hq2 := hq2.bl hn; replace x_b1 := x_b1.bl hn; replace x_b2 := x_b2.bl hn; replace x_b3 := x_b3.bl hn; replace x_b4 := x_b4.bl hn; replace x_b5 := x_b5.bl hn; replace hb := hb.trans (hn.mono hb.size)
  clear hn
  have kb0 := hb.size
  refine ⟨⟨x_b1.cell 0 rfl, x_b1.cell 1 rfl, x_b1.cell 2 rfl, x_b1.cell 3 rfl, x_b2.cell 0 rfl, x_b2.cell 1 rfl, x_b2.cell 2 rfl, x_b2.cell 3 rfl⟩, ?_⟩
  apply wpFl_ld rfl rfl; (case h1 => intro w' hC K hK; obtain ⟨c0, c1, c2, c3⟩ := hC; go_big_op; exact hK); iterate 4 kernel_rfl
  apply wpFl_ld rfl rfl; (case h1 => intro w' hC K hK; go_big_op; exact hK); iterate 4 kernel_rfl
  apply wpFl_ld rfl rfl; (case h1 => intro w' hC K hK; obtain ⟨c0, c1, c2, c3⟩ := hC; go_big_op; exact hK); iterate 4 kernel_rfl
  apply wpFl_ld rfl rfl; (case h1 => intro w' hC K hK; go_big_op; exact hK); iterate 4 kernel_rfl
  refine wpFl_call rfl (by kernel_rfl) fun w_7 hn hC => ?_; clear hC
  replace ha1 := ha1.bl hn; replace ha2 := ha2.bl hn; replace hq1 := hq1.bl hn; replace hq2 := hq2.bl hn; replace x_b1 := x_b1.bl hn; replace x_b2 := x_b2.bl hn; replace x_b3 := x_b3.bl hn; replace x_b4 := x_b4.bl hn; replace x_b5 := x_b5.bl hn; replace hb := hb.trans (hn.mono hb.size)
  clear hn; intro K hK
  go_big_op
  go_fit (gFrom_any 1 0 _ (by decide) (by decide) (by decide) (by decide))
  rintro e w_8 ⟨_, rfl, ⟨n_ca, o_ca, k_ca, c_ca, n_cb, o_cb, k_cb, c_cb, rfl, c1, c2⟩, hb_8⟩
  replace ha1 := ha1.bl hb_8; replace ha2 := ha2.bl hb_8; replace hq1 := hq1.bl hb_8; replace hq2 := hq2.bl hb_8; replace x_b1 := x_b1.bl hb_8; replace x_b2 := x_b2.bl hb_8; replace x_b3 := x_b3.bl hb_8; replace x_b4 := x_b4.bl hb_8; replace x_b5 := x_b5.bl hb_8; replace hb := hb.trans (hb_8.mono hb.size)
  have Lc1 := hide (c1.lenOf (L1.out))
  have Lc2 := hide (c2.lenOf (L0.out))
  refine hK _ _ rfl hb_8 ⟨x_b1.cell 0 rfl, x_b1.cell 1 rfl, x_b1.cell 2 rfl, x_b1.cell 3 rfl, x_b2.cell 0 rfl, x_b2.cell 1 rfl, x_b2.cell 2 rfl, x_b2.cell 3 rfl⟩ ?_
  clear hK K hb_8
  apply wpFl_ld rfl rfl; (case h1 => intro w' hC K hK; go_big_op; exact hK); iterate 4 kernel_rfl
  refine wpFl_call rfl (by kernel_rfl) fun w_9 hn hC => ?_; clear hC
  replace ha1 := ha1.bl hn; replace ha2 := ha2.bl hn; replace hq1 := hq1.bl hn; replace hq2 := hq2.bl hn; replace x_b1 := x_b1.bl hn; replace x_b2 := x_b2.bl hn; replace x_b3 := x_b3.bl hn; replace x_b4 := x_b4.bl hn; replace x_b5 := x_b5.bl hn; replace c1 := c1.bl hn; replace c2 := c2.bl hn; replace hb := hb.trans (hn.mono hb.size)
  clear hn; intro K hK
  go_big_op
  go_fit (gFrom_any 1 0 _ (by decide) (by decide) (by decide) (by decide))
  rintro e w_10 ⟨_, rfl, ⟨n_da, o_da, k_da, c_da, n_db, o_db, k_db, c_db, rfl, d1, d2⟩, hb_10⟩
  replace ha1 := ha1.bl hb_10; replace ha2 := ha2.bl hb_10; replace hq1 := hq1.bl hb_10; replace hq2 := hq2.bl hb_10; replace x_b1 := x_b1.bl hb_10; replace x_b2 := x_b2.bl hb_10; replace x_b3 := x_b3.bl hb_10; replace x_b4 := x_b4.bl hb_10; replace x_b5 := x_b5.bl hb_10; replace c1 := c1.bl hb_10; replace c2 := c2.bl hb_10; replace hb := hb.trans (hb_10.mono hb.size)
  have Ld1 := hide (d1.lenOf (L1.out))
  have Ld2 := hide (d2.lenOf (L0.out))
  refine hK _ _ rfl hb_10 ⟨x_b1.cell 0 rfl, x_b1.cell 1 rfl, x_b1.cell 2 rfl, x_b1.cell 3 rfl, x_b2.cell 0 rfl, x_b2.cell 1 rfl, x_b2.cell 2 rfl, x_b2.cell 3 rfl⟩ ?_
  clear hK K hb_10
  apply wpFl_ld rfl rfl; (case h1 => intro w' hC K hK; go_big_op; exact hK); iterate 4 kernel_rfl
  apply wpFl_end
  case ha => intro pt; simp only [putF, nthO, Act.put, ptr, List.setIfInBounds_toArray, List.set_cons_succ, List.set_cons_zero]; rfl
  case h =>
  intro w_11 pt hn hC hF hD
  clear hC
  replace ha1 := ha1.bl hn; replace ha2 := ha2.bl hn; replace hq1 := hq1.bl hn; replace hq2 := hq2.bl hn; replace x_b1 := x_b1.bl hn; replace x_b2 := x_b2.bl hn; replace x_b3 := x_b3.bl hn; replace x_b4 := x_b4.bl hn; replace x_b5 := x_b5.bl hn; replace c1 := c1.bl hn; replace c2 := c2.bl hn; replace d1 := d1.bl hn; replace d2 := d2.bl hn; replace hb := hb.trans (hn.mono hb.size)
  clear hn
  obtain ⟨kB_b6, x_b6⟩ := hF 8 (by decide)
  replace x_b6 : Bs w_11 (pt 8) #[.bool false, .slice none 0 0, .bool false, .slice none 0 0, .bool false, .slice none 0 0, .bool false, .slice none 0 0, .bool false, .slice none 0 0, .bool false, .slice none 0 0] 84 := x_b6
  obtain ⟨kB_b7, x_b7⟩ := hF 9 (by decide)
  replace x_b7 : Bs w_11 (pt 9) #[.bool false, .slice none 0 0, .bool false, .slice none 0 0, .bool false, .slice none 0 0, .bool false, .slice none 0 0, .bool false, .slice none 0 0, .bool false, .slice none 0 0] 84 := x_b7
  have ne_b6_b7 := hide (hD 8 (by decide) 9 (by decide) (by decide))
  clear hF hD
  generalize pt 8 = p_b6 at *
  generalize pt 9 = p_b7 at *
  clear pt
  have kb_b6 := hide (Nat.le_trans kb0 kB_b6)
  have ne_b1_b6 : Hid (p_b1 ≠ p_b6) := Nat.ne_of_lt (Nat.lt_of_lt_of_le lt_b1 kB_b6)
  have ne_b2_b6 : Hid (p_b2 ≠ p_b6) := Nat.ne_of_lt (Nat.lt_of_lt_of_le lt_b2 kB_b6)
  have ne_b3_b6 : Hid (p_b3 ≠ p_b6) := Nat.ne_of_lt (Nat.lt_of_lt_of_le lt_b3 kB_b6)
  have ne_b4_b6 : Hid (p_b4 ≠ p_b6) := Nat.ne_of_lt (Nat.lt_of_lt_of_le lt_b4 kB_b6)
  have ne_b5_b6 : Hid (p_b5 ≠ p_b6) := Nat.ne_of_lt (Nat.lt_of_lt_of_le lt_b5 kB_b6)
  clear kB_b6
  have kb_b7 := hide (Nat.le_trans kb0 kB_b7)
  have ne_b1_b7 : Hid (p_b1 ≠ p_b7) := Nat.ne_of_lt (Nat.lt_of_lt_of_le lt_b1 kB_b7)
  have ne_b2_b7 : Hid (p_b2 ≠ p_b7) := Nat.ne_of_lt (Nat.lt_of_lt_of_le lt_b2 kB_b7)
  have ne_b3_b7 : Hid (p_b3 ≠ p_b7) := Nat.ne_of_lt (Nat.lt_of_lt_of_le lt_b3 kB_b7)
  have ne_b4_b7 : Hid (p_b4 ≠ p_b7) := Nat.ne_of_lt (Nat.lt_of_lt_of_le lt_b4 kB_b7)
  have ne_b5_b7 : Hid (p_b5 ≠ p_b7) := Nat.ne_of_lt (Nat.lt_of_lt_of_le lt_b5 kB_b7)
  clear kB_b7
  clear kb0 lt_b1 lt_b2 lt_b3 lt_b4 lt_b5
  refine wpTail_call rfl (by kernel_rfl) fun K hK => ?_
  have d0 : w_11.cell? ⟨p_b6, 0, none⟩ = some (.bool false) := x_b6.cell 0 rfl
  have d1 : w_11.cell? ⟨p_b6, 1, none⟩ = some (.slice none 0 0) := x_b6.cell 1 rfl
  have d2 : w_11.cell? ⟨p_b6, 2, none⟩ = some (.bool false) := x_b6.cell 2 rfl
  have d3 : w_11.cell? ⟨p_b6, 3, none⟩ = some (.slice none 0 0) := x_b6.cell 3 rfl
  have d4 : w_11.cell? ⟨p_b6, 4, none⟩ = some (.bool false) := x_b6.cell 4 rfl
  have d5 : w_11.cell? ⟨p_b6, 5, none⟩ = some (.slice none 0 0) := x_b6.cell 5 rfl
  have d6 : w_11.cell? ⟨p_b6, 6, none⟩ = some (.bool false) := x_b6.cell 6 rfl
  have d7 : w_11.cell? ⟨p_b6, 7, none⟩ = some (.slice none 0 0) := x_b6.cell 7 rfl
  have d8 : w_11.cell? ⟨p_b6, 8, none⟩ = some (.bool false) := x_b6.cell 8 rfl
  have d9 : w_11.cell? ⟨p_b6, 9, none⟩ = some (.slice none 0 0) := x_b6.cell 9 rfl
  have d10 : w_11.cell? ⟨p_b6, 10, none⟩ = some (.bool false) := x_b6.cell 10 rfl
  have d11 : w_11.cell? ⟨p_b6, 11, none⟩ = some (.slice none 0 0) := x_b6.cell 11 rfl
  have f0 := x_b6.free 0; have f1 := x_b6.free 1; have f2 := x_b6.free 2; have f3 := x_b6.free 3; have f4 := x_b6.free 4; have f5 := x_b6.free 5; have f6 := x_b6.free 6; have f7 := x_b6.free 7; have f8 := x_b6.free 8; have f9 := x_b6.free 9; have f10 := x_b6.free 10; have f11 := x_b6.free 11
  go_big_op
  have hnd := x_b6.nod rfl rfl
  obtain ⟨w_12_0, eW, x_b6_0, ho_0⟩ : ∃ w', ((((w_11.setCell ⟨p_b6, 0, none⟩ (.bool n_0a)).setCell ⟨p_b6, 1, none⟩ (.slice o_0a k_0a c_0a)).setCell ⟨p_b6, 2, none⟩ (.bool n_0b)).setCell ⟨p_b6, 3, none⟩ (.slice o_0b k_0b c_0b)) = w' ∧ Bs w' p_b6 #[.bool n_0a, .slice o_0a k_0a c_0a, .bool n_0b, .slice o_0b k_0b c_0b, .bool false, .slice none 0 0, .bool false, .slice none 0 0, .bool false, .slice none 0 0, .bool false, .slice none 0 0] 84 ∧ Only p_b6 w_11 w' := x_b6.setN [(0, .bool n_0a), (1, .slice o_0a k_0a c_0a), (2, .bool n_0b), (3, .slice o_0b k_0b c_0b)]
  rw [eW]; clear eW
  obtain ⟨w_12_4, eW, x_b6_4, ho_4⟩ : ∃ w', ((((w_12_0.setCell ⟨p_b6, 4, none⟩ (.bool n_ca)).setCell ⟨p_b6, 5, none⟩ (.slice o_ca k_ca c_ca)).setCell ⟨p_b6, 6, none⟩ (.bool n_cb)).setCell ⟨p_b6, 7, none⟩ (.slice o_cb k_cb c_cb)) = w' ∧ Bs w' p_b6 #[.bool n_0a, .slice o_0a k_0a c_0a, .bool n_0b, .slice o_0b k_0b c_0b, .bool n_ca, .slice o_ca k_ca c_ca, .bool n_cb, .slice o_cb k_cb c_cb, .bool false, .slice none 0 0, .bool false, .slice none 0 0] 84 ∧ Only p_b6 w_12_0 w' := x_b6_0.setN [(4, .bool n_ca), (5, .slice o_ca k_ca c_ca), (6, .bool n_cb), (7, .slice o_cb k_cb c_cb)]
  rw [eW]; clear eW x_b6_0
  obtain ⟨w_12, eW, x_b6', ho_8⟩ : ∃ w', ((((w_12_4.setCell ⟨p_b6, 8, none⟩ (.bool false)).setCell ⟨p_b6, 9, none⟩ (.slice none 0 0)).setCell ⟨p_b6, 10, none⟩ (.bool false)).setCell ⟨p_b6, 11, none⟩ (.slice none 0 0)) = w' ∧ Bs w' p_b6 #[.bool n_0a, .slice o_0a k_0a c_0a, .bool n_0b, .slice o_0b k_0b c_0b, .bool n_ca, .slice o_ca k_ca c_ca, .bool n_cb, .slice o_cb k_cb c_cb, .bool false, .slice none 0 0, .bool false, .slice none 0 0] 84 ∧ Only p_b6 w_12_4 w' := x_b6_4.setN [(8, .bool false), (9, .slice none 0 0), (10, .bool false), (11, .slice none 0 0)]
  rw [eW]; clear eW x_b6_4
  have ho := ((ho_0.trans ho_4).trans ho_8)
  clear ho_0 ho_4 ho_8 d0 d1 d2 d3 d4 d5 d6 d7 d8 d9 d10 d11 f0 f1 f2 f3 f4 f5 f6 f7 f8 f9 f10 f11 x_b6
  have x_b6 := x_b6'; clear x_b6'
  replace ha1 := ha1.fr hnd ho; replace ha2 := ha2.fr hnd ho; replace hq1 := hq1.fr hnd ho; replace hq2 := hq2.fr hnd ho; replace x_b1 := x_b1.frame ho ne_b1_b6; replace x_b2 := x_b2.frame ho ne_b2_b6; replace x_b3 := x_b3.frame ho ne_b3_b6; replace x_b4 := x_b4.frame ho ne_b4_b6; replace x_b5 := x_b5.frame ho ne_b5_b6; replace c1 := c1.fr hnd ho; replace c2 := c2.fr hnd ho; replace d1 := d1.fr hnd ho; replace d2 := d2.fr hnd ho; replace x_b7 := x_b7.frame ho ne_b6_b7.symm; replace hb := belowOnly hb ho kb_b6
  refine hK _ _ rfl (And.intro ⟨x_b1.cell 0 rfl, x_b1.cell 1 rfl, x_b1.cell 2 rfl, x_b1.cell 3 rfl⟩ (And.intro ⟨x_b2.cell 0 rfl, x_b2.cell 1 rfl, x_b2.cell 2 rfl, x_b2.cell 3 rfl⟩ True.intro)) ?_; clear hK K ho hnd
  refine wpTail_call rfl (by kernel_rfl) fun K hK => ?_
  have d0 : w_12.cell? ⟨p_b7, 0, none⟩ = some (.bool false) := x_b7.cell 0 rfl
  have d1 : w_12.cell? ⟨p_b7, 1, none⟩ = some (.slice none 0 0) := x_b7.cell 1 rfl
  have d2 : w_12.cell? ⟨p_b7, 2, none⟩ = some (.bool false) := x_b7.cell 2 rfl
  have d3 : w_12.cell? ⟨p_b7, 3, none⟩ = some (.slice none 0 0) := x_b7.cell 3 rfl
  have d4 : w_12.cell? ⟨p_b7, 4, none⟩ = some (.bool false) := x_b7.cell 4 rfl
  have d5 : w_12.cell? ⟨p_b7, 5, none⟩ = some (.slice none 0 0) := x_b7.cell 5 rfl
  have d6 : w_12.cell? ⟨p_b7, 6, none⟩ = some (.bool false) := x_b7.cell 6 rfl
  have d7 : w_12.cell? ⟨p_b7, 7, none⟩ = some (.slice none 0 0) := x_b7.cell 7 rfl
  have d8 : w_12.cell? ⟨p_b7, 8, none⟩ = some (.bool false) := x_b7.cell 8 rfl
  have d9 : w_12.cell? ⟨p_b7, 9, none⟩ = some (.slice none 0 0) := x_b7.cell 9 rfl
  have d10 : w_12.cell? ⟨p_b7, 10, none⟩ = some (.bool false) := x_b7.cell 10 rfl
  have d11 : w_12.cell? ⟨p_b7, 11, none⟩ = some (.slice none 0 0) := x_b7.cell 11 rfl
  have f0 := x_b7.free 0; have f1 := x_b7.free 1; have f2 := x_b7.free 2; have f3 := x_b7.free 3; have f4 := x_b7.free 4; have f5 := x_b7.free 5; have f6 := x_b7.free 6; have f7 := x_b7.free 7; have f8 := x_b7.free 8; have f9 := x_b7.free 9; have f10 := x_b7.free 10; have f11 := x_b7.free 11
  go_big_op
  have hnd := x_b7.nod rfl rfl
  obtain ⟨w_13_0, eW, x_b7_0, ho_0⟩ : ∃ w', ((((w_12.setCell ⟨p_b7, 0, none⟩ (.bool n_1a)).setCell ⟨p_b7, 1, none⟩ (.slice o_1a k_1a c_1a)).setCell ⟨p_b7, 2, none⟩ (.bool n_1b)).setCell ⟨p_b7, 3, none⟩ (.slice o_1b k_1b c_1b)) = w' ∧ Bs w' p_b7 #[.bool n_1a, .slice o_1a k_1a c_1a, .bool n_1b, .slice o_1b k_1b c_1b, .bool false, .slice none 0 0, .bool false, .slice none 0 0, .bool false, .slice none 0 0, .bool false, .slice none 0 0] 84 ∧ Only p_b7 w_12 w' := x_b7.setN [(0, .bool n_1a), (1, .slice o_1a k_1a c_1a), (2, .bool n_1b), (3, .slice o_1b k_1b c_1b)]
  rw [eW]; clear eW
  obtain ⟨w_13_4, eW, x_b7_4, ho_4⟩ : ∃ w', ((((w_13_0.setCell ⟨p_b7, 4, none⟩ (.bool false)).setCell ⟨p_b7, 5, none⟩ (.slice none 0 0)).setCell ⟨p_b7, 6, none⟩ (.bool false)).setCell ⟨p_b7, 7, none⟩ (.slice none 0 0)) = w' ∧ Bs w' p_b7 #[.bool n_1a, .slice o_1a k_1a c_1a, .bool n_1b, .slice o_1b k_1b c_1b, .bool false, .slice none 0 0, .bool false, .slice none 0 0, .bool false, .slice none 0 0, .bool false, .slice none 0 0] 84 ∧ Only p_b7 w_13_0 w' := x_b7_0.setN [(4, .bool false), (5, .slice none 0 0), (6, .bool false), (7, .slice none 0 0)]
  rw [eW]; clear eW x_b7_0
  obtain ⟨w_13, eW, x_b7', ho_8⟩ : ∃ w', ((((w_13_4.setCell ⟨p_b7, 8, none⟩ (.bool n_da)).setCell ⟨p_b7, 9, none⟩ (.slice o_da k_da c_da)).setCell ⟨p_b7, 10, none⟩ (.bool n_db)).setCell ⟨p_b7, 11, none⟩ (.slice o_db k_db c_db)) = w' ∧ Bs w' p_b7 #[.bool n_1a, .slice o_1a k_1a c_1a, .bool n_1b, .slice o_1b k_1b c_1b, .bool false, .slice none 0 0, .bool false, .slice none 0 0, .bool n_da, .slice o_da k_da c_da, .bool n_db, .slice o_db k_db c_db] 84 ∧ Only p_b7 w_13_4 w' := x_b7_4.setN [(8, .bool n_da), (9, .slice o_da k_da c_da), (10, .bool n_db), (11, .slice o_db k_db c_db)]
  rw [eW]; clear eW x_b7_4
  have ho := ((ho_0.trans ho_4).trans ho_8)
  clear ho_0 ho_4 ho_8 d0 d1 d2 d3 d4 d5 d6 d7 d8 d9 d10 d11 f0 f1 f2 f3 f4 f5 f6 f7 f8 f9 f10 f11 x_b7
  have x_b7 := x_b7'; clear x_b7'
  replace ha1 := ha1.fr hnd ho; replace ha2 := ha2.fr hnd ho; replace hq1 := hq1.fr hnd ho; replace hq2 := hq2.fr hnd ho; replace x_b1 := x_b1.frame ho ne_b1_b7; replace x_b2 := x_b2.frame ho ne_b2_b7; replace x_b3 := x_b3.frame ho ne_b3_b7; replace x_b4 := x_b4.frame ho ne_b4_b7; replace x_b5 := x_b5.frame ho ne_b5_b7; replace c1 := c1.fr hnd ho; replace c2 := c2.fr hnd ho; replace d1 := d1.fr hnd ho; replace d2 := d2.fr hnd ho; replace x_b6 := x_b6.frame ho ne_b6_b7; replace hb := belowOnly hb ho kb_b7
  refine hK _ _ rfl (And.intro ⟨x_b1.cell 0 rfl, x_b1.cell 1 rfl, x_b1.cell 2 rfl, x_b1.cell 3 rfl⟩ (And.intro ⟨x_b2.cell 0 rfl, x_b2.cell 1 rfl, x_b2.cell 2 rfl, x_b2.cell 3 rfl⟩ True.intro)) ?_; clear hK K ho hnd
  apply wpTail_end
  refine hK2 _ _ ?_
  refine wp_seq_k ?_
  intro K3 hK3
  refine wp_block ?_
  go_loopg [] N (fun k wr => ∃ t : GS, Hid (GI x y u v t ∧ t.fin = F ∧ (gN t.s1 t.s2).toNat ≤ k) ∧ BN (L + 1) wr p_b6 84 t.r1 t.r2 t.x1 t.x2 t.y1 t.y2 ∧ BN (L + 1) wr p_b7 84 t.s1 t.s2 t.u1 t.u2 t.v1 t.v2 ∧ Bs wr p_b3 #[.bool false, .slice none 0 0, .bool false, .slice none 0 0] 26 ∧ Bs wr p_b4 #[.bool false, .slice none 0 0, .bool false, .slice none 0 0] 26 ∧ Bs wr p_b5 #[.bool false, .slice none 0 0, .bool false, .slice none 0 0] 26 ∧ Below w.heap.size w wr)
  case atStart =>
    exact ⟨GS.start x y u v, hide ⟨HST.out, HF.out, by rw [← HN.out]; exact Nat.le_refl _⟩,
      ⟨_, _, _, _, _, _, _, _, _, _, _, _, _, _, _, _, _, _, _, _, _, _, _, _, x_b6, ha1.mono (Nat.le_succ _), ha2.mono (Nat.le_succ _), c1.zn L1.out, c2.zn L0.out, (zc_zero w_13).zn L0.out, (zc_zero w_13).zn L0.out⟩,
      ⟨_, _, _, _, _, _, _, _, _, _, _, _, _, _, _, _, _, _, _, _, _, _, _, _, x_b7, hq1.mono (Nat.le_succ _), hq2.mono (Nat.le_succ _), (zc_zero w_13).zn L0.out, (zc_zero w_13).zn L0.out, d1.zn L1.out, d2.zn L0.out⟩, x_b3, x_b4, x_b5, hb⟩
  case round =>
  clear ha1 ha2 hq1 hq2 x_b1 x_b2 x_b3 x_b4 x_b5 c1 c2 d1 d2 x_b6 x_b7
  obtain ⟨t, HT, ⟨an1, ao1, ak1, ac1, an2, ao2, ak2, ac2, an3, ao3, ak3, ac3, an4, ao4, ak4, ac4, an5, ao5, ak5, ac5, an6, ao6, ak6, ac6, x_b6, a1, a2, a3, a4, a5, a6⟩, ⟨bn1, bo1, bk1, bc1, bn2, bo2, bk2, bc2, bn3, bo3, bk3, bc3, bn4, bo4, bk4, bc4, bn5, bo5, bk5, bc5, bn6, bo6, bk6, bc6, x_b7, b1, b2, b3, b4, b5, b6⟩, x_b3, x_b4, x_b5, hb⟩ := hrel
  by_cases h0 : gN t.s1 t.s2 = 0
  · have hs := gN_zero.1 h0
    have hft : t = F := by rw [← HT.out.2.1]; exact (fin_done h0).symm
    have HK := hide (show kq t.r1 t.r2 = kq F.r1 F.r2 by rw [hft])
    have HFT := hide hft
    rw [hs.1] at b1
    rw [hs.2] at b2
    clear h0 hs hft
    refine wp_seq_k ?_
    intro K4 hK4
    refine wp_seq_k ?_
    intro K5 hK5
    refine wp_region_sq [0, 1, 2, 3] (by kernel_rfl) ?_
    refine wpSq_call rfl (by kernel_rfl) fun K hK => ?_
    go_big_op; refine hK _ _ rfl ?_; clear hK K
    refine wpSq_call rfl (by kernel_rfl) fun K hK => ?_
    have d0 : wr.cell? ⟨p_b7, 0, none⟩ = some (.bool bn1) := x_b7.cell 0 rfl
    have d1 : wr.cell? ⟨p_b7, 1, none⟩ = some (.slice bo1 bk1 bc1) := x_b7.cell 1 rfl
    have d2 : wr.cell? ⟨p_b7, 2, none⟩ = some (.bool bn2) := x_b7.cell 2 rfl
    have d3 : wr.cell? ⟨p_b7, 3, none⟩ = some (.slice bo2 bk2 bc2) := x_b7.cell 3 rfl
    go_big_op; refine hK _ _ rfl ?_; clear hK K d0 d1 d2 d3
    refine wpSq_call rfl (by kernel_rfl) fun K hK => ?_
    go_big_op
    go_fit (isZero_yes (PN.mk' b1 b2) (by omega) (by omega))
    rintro e w_14 ⟨rfl, hb_14⟩
    replace x_b6 := x_b6.bl hb_14; replace a1 := a1.bl hb_14; replace a2 := a2.bl hb_14; replace a3 := a3.bl hb_14; replace a4 := a4.bl hb_14; replace a5 := a5.bl hb_14; replace a6 := a6.bl hb_14; replace x_b7 := x_b7.bl hb_14; replace b1 := b1.bl hb_14; replace b2 := b2.bl hb_14; replace b3 := b3.bl hb_14; replace b4 := b4.bl hb_14; replace b5 := b5.bl hb_14; replace b6 := b6.bl hb_14; replace x_b3 := x_b3.bl hb_14; replace x_b4 := x_b4.bl hb_14; replace x_b5 := x_b5.bl hb_14; replace hb := hb.trans (hb_14.mono hb.size)
    refine hK _ _ rfl ?_
    clear hK K hb_14
    refine wpSq_call rfl (by kernel_rfl) fun K hK => ?_
    go_big_op; refine hK _ _ rfl ?_; clear hK K
    apply wpSq_end
    refine hK5 _ _ ?_
    refine wp_cond_false (congrArg Value.bool (show _ = false from (by first | rfl | assumption | (simp; done) | exact decide_eq_false (by omega) | omega))) ?_
    refine wp_exit ?_
    refine hK3 _ _ ?_
    refine wp_seq_k ?_
    intro K6 hK6
    refine wp_region_sq [0, 1, 2, 3, 4, 5, 6, 7] (by kernel_rfl) ?_
    refine wpSq_call rfl (by kernel_rfl) fun K hK => ?_
    go_big_op; refine hK _ _ rfl ?_; clear hK K
    refine wpSq_call rfl (by kernel_rfl) fun K hK => ?_
    have d0 : w_14.cell? ⟨p_b6, 0, none⟩ = some (.bool an1) := x_b6.cell 0 rfl
    have d1 : w_14.cell? ⟨p_b6, 1, none⟩ = some (.slice ao1 ak1 ac1) := x_b6.cell 1 rfl
    have d2 : w_14.cell? ⟨p_b6, 2, none⟩ = some (.bool an2) := x_b6.cell 2 rfl
    have d3 : w_14.cell? ⟨p_b6, 3, none⟩ = some (.slice ao2 ak2 ac2) := x_b6.cell 3 rfl
    go_big_op; refine hK _ _ rfl ?_; clear hK K d0 d1 d2 d3
    refine wpSq_call rfl (by kernel_rfl) fun K hK => ?_
    go_big_op
    go_fit (gCanon_any (PN.mk' a1 a2) (by omega) (by omega))
    rintro e w_15 ⟨_, rfl, ⟨n_ea, o_ea, k_ea, c_ea, n_eb, o_eb, k_eb, c_eb, rfl, e1, e2⟩, hb_15⟩
    replace x_b6 := x_b6.bl hb_15; replace a1 := a1.bl hb_15; replace a2 := a2.bl hb_15; replace a3 := a3.bl hb_15; replace a4 := a4.bl hb_15; replace a5 := a5.bl hb_15; replace a6 := a6.bl hb_15; replace x_b7 := x_b7.bl hb_15; replace b1 := b1.bl hb_15; replace b2 := b2.bl hb_15; replace b3 := b3.bl hb_15; replace b4 := b4.bl hb_15; replace b5 := b5.bl hb_15; replace b6 := b6.bl hb_15; replace x_b3 := x_b3.bl hb_15; replace x_b4 := x_b4.bl hb_15; replace x_b5 := x_b5.bl hb_15; replace hb := hb.trans (hb_15.mono hb.size)
    refine hK _ _ rfl ?_
    clear hK K hb_15
    refine wpSq_call rfl (by kernel_rfl) fun K hK => ?_
    go_big_move; refine hK _ _ rfl ?_; clear hK K
    refine wpSq_call rfl (by kernel_rfl) fun K hK => ?_
    go_big_op; refine hK _ _ rfl ?_; clear hK K
    refine wpSq_call rfl (by kernel_rfl) fun K hK => ?_
    go_big_op; refine hK _ _ rfl ?_; clear hK K
    refine wpSq_call rfl (by kernel_rfl) fun K hK => ?_
    obtain ⟨d0, d1, d2, d3⟩ := x_b3.f4
    have f0 := x_b3.free 0; have f1 := x_b3.free 1; have f2 := x_b3.free 2; have f3 := x_b3.free 3
    go_big_op
    have hnd := x_b3.nod rfl rfl
    obtain ⟨w_16, eW, x_b3', ho⟩ : ∃ w', ((((w_15.setCell ⟨p_b3, 0, none⟩ (.bool n_ea)).setCell ⟨p_b3, 1, none⟩ (.slice o_ea k_ea c_ea)).setCell ⟨p_b3, 2, none⟩ (.bool n_eb)).setCell ⟨p_b3, 3, none⟩ (.slice o_eb k_eb c_eb)) = w' ∧ Bs w' p_b3 #[.bool n_ea, .slice o_ea k_ea c_ea, .bool n_eb, .slice o_eb k_eb c_eb] 26 ∧ Only p_b3 w_15 w' := x_b3.setN [(0, .bool n_ea), (1, .slice o_ea k_ea c_ea), (2, .bool n_eb), (3, .slice o_eb k_eb c_eb)]
    rw [eW]; clear eW d0 d1 d2 d3 f0 f1 f2 f3 x_b3
    have x_b3 := x_b3'; clear x_b3'
    replace x_b6 := x_b6.frame ho ne_b3_b6.symm; replace a1 := a1.fr hnd ho; replace a2 := a2.fr hnd ho; replace a3 := a3.fr hnd ho; replace a4 := a4.fr hnd ho; replace a5 := a5.fr hnd ho; replace a6 := a6.fr hnd ho; replace x_b7 := x_b7.frame ho ne_b3_b7.symm; replace b1 := b1.fr hnd ho; replace b2 := b2.fr hnd ho; replace b3 := b3.fr hnd ho; replace b4 := b4.fr hnd ho; replace b5 := b5.fr hnd ho; replace b6 := b6.fr hnd ho; replace x_b4 := x_b4.frame ho ne_b3_b4.symm; replace x_b5 := x_b5.frame ho ne_b3_b5.symm; replace e1 := e1.fr hnd ho; replace e2 := e2.fr hnd ho; replace hb := belowOnly hb ho kb_b3
    refine hK _ _ rfl ?_; clear hK K ho hnd
    refine wpSq_call rfl (by kernel_rfl) fun K hK => ?_
    go_big_move; refine hK _ _ rfl ?_; clear hK K
    apply wpSq_end
    refine hK6 _ _ ?_
    refine wp_seq_k ?_
    intro K7 hK7
    refine wp_region_fl2 [(0, false), (1, false), (2, false), (3, false), (5, false), (6, false), (7, false), (4, true), (8, true)] [9, 10, 11] [] (fun _ => default) [0, 99, 1, 99, 99, 99, 1, 99, 99, 99, 99, 99] [(9, 0), (10, 0), (11, 0)] (fun w' => w'.cell? ⟨p_b3, 0, none⟩ = some (.bool n_ea) ∧ w'.cell? ⟨p_b3, 1, none⟩ = some (.slice o_ea k_ea c_ea) ∧ w'.cell? ⟨p_b3, 2, none⟩ = some (.bool n_eb) ∧ w'.cell? ⟨p_b3, 3, none⟩ = some (.slice o_eb k_eb c_eb) ∧ w'.cell? ⟨p_b6, 0, none⟩ = some (.bool an1) ∧ w'.cell? ⟨p_b6, 1, none⟩ = some (.slice ao1 ak1 ac1) ∧ w'.cell? ⟨p_b6, 2, none⟩ = some (.bool an2) ∧ w'.cell? ⟨p_b6, 3, none⟩ = some (.slice ao2 ak2 ac2) ∧ w'.cell? ⟨p_b6, 4, none⟩ = some (.bool an3) ∧ w'.cell? ⟨p_b6, 5, none⟩ = some (.slice ao3 ak3 ac3) ∧ w'.cell? ⟨p_b6, 6, none⟩ = some (.bool an4) ∧ w'.cell? ⟨p_b6, 7, none⟩ = some (.slice ao4 ak4 ac4) ∧ w'.cell? ⟨p_b6, 8, none⟩ = some (.bool an5) ∧ w'.cell? ⟨p_b6, 9, none⟩ = some (.slice ao5 ak5 ac5) ∧ w'.cell? ⟨p_b6, 10, none⟩ = some (.bool an6) ∧ w'.cell? ⟨p_b6, 11, none⟩ = some (.slice ao6 ak6 ac6)) [fun w' => w'.cell? ⟨p_b3, 0, none⟩ = some (.bool n_ea) ∧ w'.cell? ⟨p_b3, 1, none⟩ = some (.slice o_ea k_ea c_ea) ∧ w'.cell? ⟨p_b3, 2, none⟩ = some (.bool n_eb) ∧ w'.cell? ⟨p_b3, 3, none⟩ = some (.slice o_eb k_eb c_eb), fun w' => w'.cell? ⟨p_b6, 0, none⟩ = some (.bool an1) ∧ w'.cell? ⟨p_b6, 1, none⟩ = some (.slice ao1 ak1 ac1) ∧ w'.cell? ⟨p_b6, 2, none⟩ = some (.bool an2) ∧ w'.cell? ⟨p_b6, 3, none⟩ = some (.slice ao2 ak2 ac2) ∧ w'.cell? ⟨p_b6, 4, none⟩ = some (.bool an3) ∧ w'.cell? ⟨p_b6, 5, none⟩ = some (.slice ao3 ak3 ac3) ∧ w'.cell? ⟨p_b6, 6, none⟩ = some (.bool an4) ∧ w'.cell? ⟨p_b6, 7, none⟩ = some (.slice ao4 ak4 ac4) ∧ w'.cell? ⟨p_b6, 8, none⟩ = some (.bool an5) ∧ w'.cell? ⟨p_b6, 9, none⟩ = some (.slice ao5 ak5 ac5) ∧ w'.cell? ⟨p_b6, 10, none⟩ = some (.bool an6) ∧ w'.cell? ⟨p_b6, 11, none⟩ = some (.slice ao6 ak6 ac6)] (by kernel_rfl) (by kernel_rfl) (by kernel_rfl) (by kernel_rfl) (by kernel_rfl) (by kernel_rfl) (by kernel_rfl) (by kernel_rfl) (by decide) (by intro j hj; cases hj) (by intro w' o hC; obtain ⟨c0, c1, c2, c3, c4, c5, c6, c7, c8, c9, c10, c11, c12, c13, c14, c15⟩ := hC; exact ⟨cell_alloc c0 o, cell_alloc c1 o, cell_alloc c2 o, cell_alloc c3 o, cell_alloc c4 o, cell_alloc c5 o, cell_alloc c6 o, cell_alloc c7 o, cell_alloc c8 o, cell_alloc c9 o, cell_alloc c10 o, cell_alloc c11 o, cell_alloc c12 o, cell_alloc c13 o, cell_alloc c14 o, cell_alloc c15 o⟩) (by intro w' hC G hG; obtain ⟨c0, c1, c2, c3, c4, c5, c6, c7, c8, c9, c10, c11, c12, c13, c14, c15⟩ := hC; simp only [List.mem_cons, List.not_mem_nil, or_false] at hG; rcases hG with rfl | rfl <;> first | exact ⟨c0, c1, c2, c3⟩ | exact ⟨c4, c5, c6, c7, c8, c9, c10, c11, c12, c13, c14, c15⟩) ?_
    have lt_b3 := x_b3.lt
    have lt_b4 := x_b4.lt
    have lt_b5 := x_b5.lt
    have lt_b6 := x_b6.lt
    have lt_b7 := x_b7.lt
    intro w_17 hn
    replace lt_b3 := Nat.lt_of_lt_of_le lt_b3 hn.size
    replace lt_b4 := Nat.lt_of_lt_of_le lt_b4 hn.size
    replace lt_b5 := Nat.lt_of_lt_of_le lt_b5 hn.size
    replace lt_b6 := Nat.lt_of_lt_of_le lt_b6 hn.size
    replace lt_b7 := Nat.lt_of_lt_of_le lt_b7 hn.size
    replace x_b6 := x_b6.bl hn; replace a1 := a1.bl hn; replace a2 := a2.bl hn; replace a3 := a3.bl hn; replace a4 := a4.bl hn; replace a5 := a5.bl hn; replace a6 := a6.bl hn; replace x_b7 := x_b7.bl hn; replace b1 := b1.bl hn; replace b2 := b2.bl hn; replace b3 := b3.bl hn; replace b4 := b4.bl hn; replace b5 := b5.bl hn; replace b6 := b6.bl hn; replace x_b3 := x_b3.bl hn; replace x_b4 := x_b4.bl hn; replace x_b5 := x_b5.bl hn; replace e1 := e1.bl hn; replace e2 := e2.bl hn; replace hb := hb.trans (hn.mono hb.size)
    clear hn
    have kb0 := hb.size
    refine ⟨⟨x_b3.cell 0 rfl, x_b3.cell 1 rfl, x_b3.cell 2 rfl, x_b3.cell 3 rfl, x_b6.cell 0 rfl, x_b6.cell 1 rfl, x_b6.cell 2 rfl, x_b6.cell 3 rfl, x_b6.cell 4 rfl, x_b6.cell 5 rfl, x_b6.cell 6 rfl, x_b6.cell 7 rfl, x_b6.cell 8 rfl, x_b6.cell 9 rfl, x_b6.cell 10 rfl, x_b6.cell 11 rfl⟩, ?_⟩
    apply wpFl_ld rfl rfl; (case h1 => intro w' hC K hK; obtain ⟨c0, c1, c2, c3⟩ := hC; go_big_op; exact hK); iterate 4 kernel_rfl
    apply wpFl_ld rfl rfl; (case h1 => intro w' hC K hK; go_big_op; exact hK); iterate 4 kernel_rfl
    apply wpFl_ld rfl rfl; (case h1 => intro w' hC K hK; obtain ⟨-, -, -, -, c4, c5, c6, c7, -, -, -, -⟩ := hC; go_big_op; exact hK); iterate 4 kernel_rfl
    apply wpFl_ld rfl rfl; (case h1 => intro w' hC K hK; go_big_move; exact hK); iterate 4 kernel_rfl
    apply wpFl_ld rfl rfl; (case h1 => intro w' hC K hK; go_big_op; exact hK); iterate 4 kernel_rfl
    apply wpFl_ld rfl rfl; (case h1 => intro w' hC K hK; obtain ⟨-, -, -, -, -, -, -, -, c8, c9, c10, c11⟩ := hC; go_big_op; exact hK); iterate 4 kernel_rfl
    apply wpFl_ld rfl rfl; (case h1 => intro w' hC K hK; go_big_move; exact hK); iterate 4 kernel_rfl
    refine wpFl_call rfl (by kernel_rfl) fun w_18 hn hC => ?_; clear hC
    replace x_b6 := x_b6.bl hn; replace a1 := a1.bl hn; replace a2 := a2.bl hn; replace a3 := a3.bl hn; replace a4 := a4.bl hn; replace a5 := a5.bl hn; replace a6 := a6.bl hn; replace x_b7 := x_b7.bl hn; replace b1 := b1.bl hn; replace b2 := b2.bl hn; replace b3 := b3.bl hn; replace b4 := b4.bl hn; replace b5 := b5.bl hn; replace b6 := b6.bl hn; replace x_b3 := x_b3.bl hn; replace x_b4 := x_b4.bl hn; replace x_b5 := x_b5.bl hn; replace e1 := e1.bl hn; replace e2 := e2.bl hn; replace hb := hb.trans (hn.mono hb.size)
    clear hn; intro K hK
    go_big_op
    go_fit (gTurn_any ((kq t.r1 t.r2 : Nat) : Int) (PN.mk' a3 a4) (by omega) (by omega))
    rintro e w_19 ⟨_, rfl, ⟨n_fa, o_fa, k_fa, c_fa, n_fb, o_fb, k_fb, c_fb, rfl, f1, f2⟩, hb_19⟩
    replace x_b6 := x_b6.bl hb_19; replace a1 := a1.bl hb_19; replace a2 := a2.bl hb_19; replace a3 := a3.bl hb_19; replace a4 := a4.bl hb_19; replace a5 := a5.bl hb_19; replace a6 := a6.bl hb_19; replace x_b7 := x_b7.bl hb_19; replace b1 := b1.bl hb_19; replace b2 := b2.bl hb_19; replace b3 := b3.bl hb_19; replace b4 := b4.bl hb_19; replace b5 := b5.bl hb_19; replace b6 := b6.bl hb_19; replace x_b3 := x_b3.bl hb_19; replace x_b4 := x_b4.bl hb_19; replace x_b5 := x_b5.bl hb_19; replace e1 := e1.bl hb_19; replace e2 := e2.bl hb_19; replace hb := hb.trans (hb_19.mono hb.size)
    rw [HK.out, HM.out] at f1 f2
    refine hK _ _ rfl hb_19 ⟨x_b3.cell 0 rfl, x_b3.cell 1 rfl, x_b3.cell 2 rfl, x_b3.cell 3 rfl, x_b6.cell 0 rfl, x_b6.cell 1 rfl, x_b6.cell 2 rfl, x_b6.cell 3 rfl, x_b6.cell 4 rfl, x_b6.cell 5 rfl, x_b6.cell 6 rfl, x_b6.cell 7 rfl, x_b6.cell 8 rfl, x_b6.cell 9 rfl, x_b6.cell 10 rfl, x_b6.cell 11 rfl⟩ ?_
    clear hK K hb_19
    refine wpFl_call rfl (by kernel_rfl) fun w_20 hn hC => ?_; clear hC
    replace x_b6 := x_b6.bl hn; replace a1 := a1.bl hn; replace a2 := a2.bl hn; replace a3 := a3.bl hn; replace a4 := a4.bl hn; replace a5 := a5.bl hn; replace a6 := a6.bl hn; replace x_b7 := x_b7.bl hn; replace b1 := b1.bl hn; replace b2 := b2.bl hn; replace b3 := b3.bl hn; replace b4 := b4.bl hn; replace b5 := b5.bl hn; replace b6 := b6.bl hn; replace x_b3 := x_b3.bl hn; replace x_b4 := x_b4.bl hn; replace x_b5 := x_b5.bl hn; replace e1 := e1.bl hn; replace e2 := e2.bl hn; replace f1 := f1.bl hn; replace f2 := f2.bl hn; replace hb := hb.trans (hn.mono hb.size)
    clear hn; intro K hK
    go_big_op
    go_fit (gTurn_any ((kq t.r1 t.r2 : Nat) : Int) (PN.mk' a5 a6) (by omega) (by omega))
    rintro e w_21 ⟨_, rfl, ⟨n_ga, o_ga, k_ga, c_ga, n_gb, o_gb, k_gb, c_gb, rfl, g1, g2⟩, hb_21⟩
    replace x_b6 := x_b6.bl hb_21; replace a1 := a1.bl hb_21; replace a2 := a2.bl hb_21; replace a3 := a3.bl hb_21; replace a4 := a4.bl hb_21; replace a5 := a5.bl hb_21; replace a6 := a6.bl hb_21; replace x_b7 := x_b7.bl hb_21; replace b1 := b1.bl hb_21; replace b2 := b2.bl hb_21; replace b3 := b3.bl hb_21; replace b4 := b4.bl hb_21; replace b5 := b5.bl hb_21; replace b6 := b6.bl hb_21; replace x_b3 := x_b3.bl hb_21; replace x_b4 := x_b4.bl hb_21; replace x_b5 := x_b5.bl hb_21; replace e1 := e1.bl hb_21; replace e2 := e2.bl hb_21; replace f1 := f1.bl hb_21; replace f2 := f2.bl hb_21; replace hb := hb.trans (hb_21.mono hb.size)
    rw [HK.out, HM.out] at g1 g2
    refine hK _ _ rfl hb_21 ⟨x_b3.cell 0 rfl, x_b3.cell 1 rfl, x_b3.cell 2 rfl, x_b3.cell 3 rfl, x_b6.cell 0 rfl, x_b6.cell 1 rfl, x_b6.cell 2 rfl, x_b6.cell 3 rfl, x_b6.cell 4 rfl, x_b6.cell 5 rfl, x_b6.cell 6 rfl, x_b6.cell 7 rfl, x_b6.cell 8 rfl, x_b6.cell 9 rfl, x_b6.cell 10 rfl, x_b6.cell 11 rfl⟩ ?_
    clear hK K hb_21
    apply wpFl_end
    case ha => intro pt; simp only [putF]; rfl
    case h =>
    intro w_22 pt hn hC hF hD
    clear hC
    replace x_b6 := x_b6.bl hn; replace a1 := a1.bl hn; replace a2 := a2.bl hn; replace a3 := a3.bl hn; replace a4 := a4.bl hn; replace a5 := a5.bl hn; replace a6 := a6.bl hn; replace x_b7 := x_b7.bl hn; replace b1 := b1.bl hn; replace b2 := b2.bl hn; replace b3 := b3.bl hn; replace b4 := b4.bl hn; replace b5 := b5.bl hn; replace b6 := b6.bl hn; replace x_b3 := x_b3.bl hn; replace x_b4 := x_b4.bl hn; replace x_b5 := x_b5.bl hn; replace e1 := e1.bl hn; replace e2 := e2.bl hn; replace f1 := f1.bl hn; replace f2 := f2.bl hn; replace g1 := g1.bl hn; replace g2 := g2.bl hn; replace hb := hb.trans (hn.mono hb.size)
    clear hn
    clear hF hD
    clear pt
    clear kb0 lt_b3 lt_b4 lt_b5 lt_b6 lt_b7
    refine wpTail_call rfl (by kernel_rfl) fun K hK => ?_
    obtain ⟨d0, d1, d2, d3⟩ := x_b3.f4
    have f0 := x_b3.free 0; have f1 := x_b3.free 1; have f2 := x_b3.free 2; have f3 := x_b3.free 3
    go_big_op
    have hnd := x_b3.nod rfl rfl
    obtain ⟨w_23, eW, x_b3', ho⟩ : ∃ w', ((((w_22.setCell ⟨p_b3, 0, none⟩ (.bool n_ea)).setCell ⟨p_b3, 1, none⟩ (.slice o_ea k_ea c_ea)).setCell ⟨p_b3, 2, none⟩ (.bool n_eb)).setCell ⟨p_b3, 3, none⟩ (.slice o_eb k_eb c_eb)) = w' ∧ Bs w' p_b3 #[.bool n_ea, .slice o_ea k_ea c_ea, .bool n_eb, .slice o_eb k_eb c_eb] 26 ∧ Only p_b3 w_22 w' := x_b3.setN [(0, .bool n_ea), (1, .slice o_ea k_ea c_ea), (2, .bool n_eb), (3, .slice o_eb k_eb c_eb)]
    rw [eW]; clear eW d0 d1 d2 d3 f0 f1 f2 f3 x_b3
    have x_b3 := x_b3'; clear x_b3'
    replace x_b6 := x_b6.frame ho ne_b3_b6.symm; replace a1 := a1.fr hnd ho; replace a2 := a2.fr hnd ho; replace a3 := a3.fr hnd ho; replace a4 := a4.fr hnd ho; replace a5 := a5.fr hnd ho; replace a6 := a6.fr hnd ho; replace x_b7 := x_b7.frame ho ne_b3_b7.symm; replace b1 := b1.fr hnd ho; replace b2 := b2.fr hnd ho; replace b3 := b3.fr hnd ho; replace b4 := b4.fr hnd ho; replace b5 := b5.fr hnd ho; replace b6 := b6.fr hnd ho; replace x_b4 := x_b4.frame ho ne_b3_b4.symm; replace x_b5 := x_b5.frame ho ne_b3_b5.symm; replace e1 := e1.fr hnd ho; replace e2 := e2.fr hnd ho; replace f1 := f1.fr hnd ho; replace f2 := f2.fr hnd ho; replace g1 := g1.fr hnd ho; replace g2 := g2.fr hnd ho; replace hb := belowOnly hb ho kb_b3
    refine hK _ _ rfl (And.intro True.intro (And.intro ⟨x_b6.cell 0 rfl, x_b6.cell 1 rfl, x_b6.cell 2 rfl, x_b6.cell 3 rfl, x_b6.cell 4 rfl, x_b6.cell 5 rfl, x_b6.cell 6 rfl, x_b6.cell 7 rfl, x_b6.cell 8 rfl, x_b6.cell 9 rfl, x_b6.cell 10 rfl, x_b6.cell 11 rfl⟩ True.intro)) ?_; clear hK K ho hnd
    refine wpTail_call rfl (by kernel_rfl) fun K hK => ?_
    obtain ⟨d0, d1, d2, d3⟩ := x_b4.f4
    have f0 := x_b4.free 0; have f1 := x_b4.free 1; have f2 := x_b4.free 2; have f3 := x_b4.free 3
    go_big_op
    have hnd := x_b4.nod rfl rfl
    obtain ⟨w_24, eW, x_b4', ho⟩ : ∃ w', ((((w_23.setCell ⟨p_b4, 0, none⟩ (.bool n_fa)).setCell ⟨p_b4, 1, none⟩ (.slice o_fa k_fa c_fa)).setCell ⟨p_b4, 2, none⟩ (.bool n_fb)).setCell ⟨p_b4, 3, none⟩ (.slice o_fb k_fb c_fb)) = w' ∧ Bs w' p_b4 #[.bool n_fa, .slice o_fa k_fa c_fa, .bool n_fb, .slice o_fb k_fb c_fb] 26 ∧ Only p_b4 w_23 w' := x_b4.setN [(0, .bool n_fa), (1, .slice o_fa k_fa c_fa), (2, .bool n_fb), (3, .slice o_fb k_fb c_fb)]
    rw [eW]; clear eW d0 d1 d2 d3 f0 f1 f2 f3 x_b4
    have x_b4 := x_b4'; clear x_b4'
    replace x_b6 := x_b6.frame ho ne_b4_b6.symm; replace a1 := a1.fr hnd ho; replace a2 := a2.fr hnd ho; replace a3 := a3.fr hnd ho; replace a4 := a4.fr hnd ho; replace a5 := a5.fr hnd ho; replace a6 := a6.fr hnd ho; replace x_b7 := x_b7.frame ho ne_b4_b7.symm; replace b1 := b1.fr hnd ho; replace b2 := b2.fr hnd ho; replace b3 := b3.fr hnd ho; replace b4 := b4.fr hnd ho; replace b5 := b5.fr hnd ho; replace b6 := b6.fr hnd ho; replace x_b3 := x_b3.frame ho ne_b3_b4; replace x_b5 := x_b5.frame ho ne_b4_b5.symm; replace e1 := e1.fr hnd ho; replace e2 := e2.fr hnd ho; replace f1 := f1.fr hnd ho; replace f2 := f2.fr hnd ho; replace g1 := g1.fr hnd ho; replace g2 := g2.fr hnd ho; replace hb := belowOnly hb ho kb_b4
    refine hK _ _ rfl (And.intro True.intro (And.intro ⟨x_b6.cell 0 rfl, x_b6.cell 1 rfl, x_b6.cell 2 rfl, x_b6.cell 3 rfl, x_b6.cell 4 rfl, x_b6.cell 5 rfl, x_b6.cell 6 rfl, x_b6.cell 7 rfl, x_b6.cell 8 rfl, x_b6.cell 9 rfl, x_b6.cell 10 rfl, x_b6.cell 11 rfl⟩ True.intro)) ?_; clear hK K ho hnd
    refine wpTail_call rfl (by kernel_rfl) fun K hK => ?_
    obtain ⟨d0, d1, d2, d3⟩ := x_b5.f4
    have f0 := x_b5.free 0; have f1 := x_b5.free 1; have f2 := x_b5.free 2; have f3 := x_b5.free 3
    go_big_op
    have hnd := x_b5.nod rfl rfl
    obtain ⟨w_25, eW, x_b5', ho⟩ : ∃ w', ((((w_24.setCell ⟨p_b5, 0, none⟩ (.bool n_ga)).setCell ⟨p_b5, 1, none⟩ (.slice o_ga k_ga c_ga)).setCell ⟨p_b5, 2, none⟩ (.bool n_gb)).setCell ⟨p_b5, 3, none⟩ (.slice o_gb k_gb c_gb)) = w' ∧ Bs w' p_b5 #[.bool n_ga, .slice o_ga k_ga c_ga, .bool n_gb, .slice o_gb k_gb c_gb] 26 ∧ Only p_b5 w_24 w' := x_b5.setN [(0, .bool n_ga), (1, .slice o_ga k_ga c_ga), (2, .bool n_gb), (3, .slice o_gb k_gb c_gb)]
    rw [eW]; clear eW d0 d1 d2 d3 f0 f1 f2 f3 x_b5
    have x_b5 := x_b5'; clear x_b5'
    replace x_b6 := x_b6.frame ho ne_b5_b6.symm; replace a1 := a1.fr hnd ho; replace a2 := a2.fr hnd ho; replace a3 := a3.fr hnd ho; replace a4 := a4.fr hnd ho; replace a5 := a5.fr hnd ho; replace a6 := a6.fr hnd ho; replace x_b7 := x_b7.frame ho ne_b5_b7.symm; replace b1 := b1.fr hnd ho; replace b2 := b2.fr hnd ho; replace b3 := b3.fr hnd ho; replace b4 := b4.fr hnd ho; replace b5 := b5.fr hnd ho; replace b6 := b6.fr hnd ho; replace x_b3 := x_b3.frame ho ne_b3_b5; replace x_b4 := x_b4.frame ho ne_b4_b5; replace e1 := e1.fr hnd ho; replace e2 := e2.fr hnd ho; replace f1 := f1.fr hnd ho; replace f2 := f2.fr hnd ho; replace g1 := g1.fr hnd ho; replace g2 := g2.fr hnd ho; replace hb := belowOnly hb ho kb_b5
    refine hK _ _ rfl (And.intro True.intro (And.intro ⟨x_b6.cell 0 rfl, x_b6.cell 1 rfl, x_b6.cell 2 rfl, x_b6.cell 3 rfl, x_b6.cell 4 rfl, x_b6.cell 5 rfl, x_b6.cell 6 rfl, x_b6.cell 7 rfl, x_b6.cell 8 rfl, x_b6.cell 9 rfl, x_b6.cell 10 rfl, x_b6.cell 11 rfl⟩ True.intro)) ?_; clear hK K ho hnd
    apply wpTail_end
    refine hK7 _ _ ?_
    refine wp_ret ?_
    rw [HK.out] at e1 e2
    rw [HFT.out] at e1 e2 f1 f2 g1 g2
    try dsimp only [Exit.then, Exit.inBlock]
    obtain ⟨r0_0, r0_1, r0_2, r0_3⟩ := x_b3.f4
    obtain ⟨r4_0, r4_1, r4_2, r4_3⟩ := x_b4.f4
    obtain ⟨r8_0, r8_1, r8_2, r8_3⟩ := x_b5.f4
    refine bodyPost_ret (v := (.tuple #[(.agg #[.bool n_ea, .slice o_ea k_ea c_ea, .bool n_eb, .slice o_eb k_eb c_eb]), (.agg #[.bool n_fa, .slice o_fa k_fa c_fa, .bool n_fb, .slice o_fb k_fb c_fb]), (.agg #[.bool n_ga, .slice o_ga k_ga c_ga, .bool n_gb, .slice o_gb k_gb c_gb])])) (by simp [results, Tryd.results47, go_sem, r0_0, r0_1, r0_2, r0_3, r4_0, r4_1, r4_2, r4_3, r8_0, r8_1, r8_2, r8_3]) rfl ?_
    exact ⟨_, _, _, rfl, .mk' e1 e2, .mk' f1 f2, .mk' g1 g2, hb⟩
  · have H0 := hide h0
    have HI := hide (HT.out.1.step h0)
    have HL := hide (step_less h0)
    have HP := hide (gN_pos h0)
    clear h0
    refine wp_seq_k ?_
    intro K4 hK4
    refine wp_seq_k ?_
    intro K5 hK5
    refine wp_region_sq [0, 1, 2, 3] (by kernel_rfl) ?_
    refine wpSq_call rfl (by kernel_rfl) fun K hK => ?_
    go_big_op; refine hK _ _ rfl ?_; clear hK K
    refine wpSq_call rfl (by kernel_rfl) fun K hK => ?_
    have d0 : wr.cell? ⟨p_b7, 0, none⟩ = some (.bool bn1) := x_b7.cell 0 rfl
    have d1 : wr.cell? ⟨p_b7, 1, none⟩ = some (.slice bo1 bk1 bc1) := x_b7.cell 1 rfl
    have d2 : wr.cell? ⟨p_b7, 2, none⟩ = some (.bool bn2) := x_b7.cell 2 rfl
    have d3 : wr.cell? ⟨p_b7, 3, none⟩ = some (.slice bo2 bk2 bc2) := x_b7.cell 3 rfl
    go_big_op; refine hK _ _ rfl ?_; clear hK K d0 d1 d2 d3
    refine wpSq_call rfl (by kernel_rfl) fun K hK => ?_
    go_big_op
    go_fit (isZero_no (PN.mk' b1 b2) (by omega) (by omega) H0.out)
    rintro e w_14 ⟨rfl, hb_14⟩
    replace x_b6 := x_b6.bl hb_14; replace a1 := a1.bl hb_14; replace a2 := a2.bl hb_14; replace a3 := a3.bl hb_14; replace a4 := a4.bl hb_14; replace a5 := a5.bl hb_14; replace a6 := a6.bl hb_14; replace x_b7 := x_b7.bl hb_14; replace b1 := b1.bl hb_14; replace b2 := b2.bl hb_14; replace b3 := b3.bl hb_14; replace b4 := b4.bl hb_14; replace b5 := b5.bl hb_14; replace b6 := b6.bl hb_14; replace x_b3 := x_b3.bl hb_14; replace x_b4 := x_b4.bl hb_14; replace x_b5 := x_b5.bl hb_14; replace hb := hb.trans (hb_14.mono hb.size)
    refine hK _ _ rfl ?_
    clear hK K hb_14
    refine wpSq_call rfl (by kernel_rfl) fun K hK => ?_
    go_big_op; refine hK _ _ rfl ?_; clear hK K
    apply wpSq_end
    refine hK5 _ _ ?_
    refine wp_cond_true (congrArg Value.bool (show _ = true from (by first | rfl | assumption | (simp; done) | exact decide_eq_true (by omega) | omega))) ?_
    refine wp_skip ?_
    refine hK4 _ _ ?_
    refine wp_block ?_
    refine wp_seq_k ?_
    intro K6 hK6
    refine wp_region_sq [0, 1, 2, 3, 4, 5, 6] (by kernel_rfl) ?_
    refine wpSq_call rfl (by kernel_rfl) fun K hK => ?_
    go_big_op; refine hK _ _ rfl ?_; clear hK K
    refine wpSq_call rfl (by kernel_rfl) fun K hK => ?_
    have d0 : w_14.cell? ⟨p_b6, 0, none⟩ = some (.bool an1) := x_b6.cell 0 rfl
    have d1 : w_14.cell? ⟨p_b6, 1, none⟩ = some (.slice ao1 ak1 ac1) := x_b6.cell 1 rfl
    have d2 : w_14.cell? ⟨p_b6, 2, none⟩ = some (.bool an2) := x_b6.cell 2 rfl
    have d3 : w_14.cell? ⟨p_b6, 3, none⟩ = some (.slice ao2 ak2 ac2) := x_b6.cell 3 rfl
    go_big_op; refine hK _ _ rfl ?_; clear hK K d0 d1 d2 d3
    refine wpSq_call rfl (by kernel_rfl) fun K hK => ?_
    go_big_op; refine hK _ _ rfl ?_; clear hK K
    refine wpSq_call rfl (by kernel_rfl) fun K hK => ?_
    have d0 : w_14.cell? ⟨p_b7, 0, none⟩ = some (.bool bn1) := x_b7.cell 0 rfl
    have d1 : w_14.cell? ⟨p_b7, 1, none⟩ = some (.slice bo1 bk1 bc1) := x_b7.cell 1 rfl
    have d2 : w_14.cell? ⟨p_b7, 2, none⟩ = some (.bool bn2) := x_b7.cell 2 rfl
    have d3 : w_14.cell? ⟨p_b7, 3, none⟩ = some (.slice bo2 bk2 bc2) := x_b7.cell 3 rfl
    go_big_op; refine hK _ _ rfl ?_; clear hK K d0 d1 d2 d3
    refine wpSq_call rfl (by kernel_rfl) fun K hK => ?_
    go_big_op
    go_fit (quot_any (PN.mk' a1 a2) (PN.mk' b1 b2) (by omega) (by omega) (by omega) (by omega) H0.out)
    rintro e w_15 ⟨_, rfl, ⟨n_qa, o_qa, k_qa, c_qa, n_qb, o_qb, k_qb, c_qb, rfl, q1, q2⟩, hb_15⟩
    replace x_b6 := x_b6.bl hb_15; replace a1 := a1.bl hb_15; replace a2 := a2.bl hb_15; replace a3 := a3.bl hb_15; replace a4 := a4.bl hb_15; replace a5 := a5.bl hb_15; replace a6 := a6.bl hb_15; replace x_b7 := x_b7.bl hb_15; replace b1 := b1.bl hb_15; replace b2 := b2.bl hb_15; replace b3 := b3.bl hb_15; replace b4 := b4.bl hb_15; replace b5 := b5.bl hb_15; replace b6 := b6.bl hb_15; replace x_b3 := x_b3.bl hb_15; replace x_b4 := x_b4.bl hb_15; replace x_b5 := x_b5.bl hb_15; replace hb := hb.trans (hb_15.mono hb.size)
    have Lq1 := hide (q1.lenOf (rnd_len H0.out (zlen_gT1 a1.len a2.len b1.len b2.len)))
    have Lq2 := hide (q2.lenOf (rnd_len H0.out (zlen_gT2 a1.len a2.len b1.len b2.len)))
    refine hK _ _ rfl ?_
    clear hK K hb_15
    refine wpSq_call rfl (by kernel_rfl) fun K hK => ?_
    go_big_op
    have lt_b3 := x_b3.lt
    have lt_b4 := x_b4.lt
    have lt_b5 := x_b5.lt
    have lt_b6 := x_b6.lt
    have lt_b7 := x_b7.lt
    obtain ⟨p_b8, w_16, eP, eW, x_b8, hn, kb_b8⟩ := newBox w_15 #[.bool false, .slice none 0 0, .bool false, .slice none 0 0] 26 hb.size
    have ne_b3_b8 : Hid (p_b3 ≠ p_b8) := Nat.ne_of_lt (eP ▸ lt_b3)
    have ne_b4_b8 : Hid (p_b4 ≠ p_b8) := Nat.ne_of_lt (eP ▸ lt_b4)
    have ne_b5_b8 : Hid (p_b5 ≠ p_b8) := Nat.ne_of_lt (eP ▸ lt_b5)
    have ne_b6_b8 : Hid (p_b6 ≠ p_b8) := Nat.ne_of_lt (eP ▸ lt_b6)
    have ne_b7_b8 : Hid (p_b7 ≠ p_b8) := Nat.ne_of_lt (eP ▸ lt_b7)
    rw [eW, eP]
    clear eW eP lt_b3 lt_b4 lt_b5 lt_b6 lt_b7
    replace x_b6 := x_b6.bl hn; replace a1 := a1.bl hn; replace a2 := a2.bl hn; replace a3 := a3.bl hn; replace a4 := a4.bl hn; replace a5 := a5.bl hn; replace a6 := a6.bl hn; replace x_b7 := x_b7.bl hn; replace b1 := b1.bl hn; replace b2 := b2.bl hn; replace b3 := b3.bl hn; replace b4 := b4.bl hn; replace b5 := b5.bl hn; replace b6 := b6.bl hn; replace x_b3 := x_b3.bl hn; replace x_b4 := x_b4.bl hn; replace x_b5 := x_b5.bl hn; replace q1 := q1.bl hn; replace q2 := q2.bl hn; replace hb := hb.trans (hn.mono hb.size)
    refine hK _ _ rfl ?_; clear hK K hn
    refine wpSq_call rfl (by kernel_rfl) fun K hK => ?_
    obtain ⟨d0, d1, d2, d3⟩ := x_b8.f4
    have f0 := x_b8.free 0; have f1 := x_b8.free 1; have f2 := x_b8.free 2; have f3 := x_b8.free 3
    go_big_op
    have hnd := x_b8.nod rfl rfl
    obtain ⟨w_17, eW, x_b8', ho⟩ : ∃ w', ((((w_16.setCell ⟨p_b8, 0, none⟩ (.bool n_qa)).setCell ⟨p_b8, 1, none⟩ (.slice o_qa k_qa c_qa)).setCell ⟨p_b8, 2, none⟩ (.bool n_qb)).setCell ⟨p_b8, 3, none⟩ (.slice o_qb k_qb c_qb)) = w' ∧ Bs w' p_b8 #[.bool n_qa, .slice o_qa k_qa c_qa, .bool n_qb, .slice o_qb k_qb c_qb] 26 ∧ Only p_b8 w_16 w' := x_b8.setN [(0, .bool n_qa), (1, .slice o_qa k_qa c_qa), (2, .bool n_qb), (3, .slice o_qb k_qb c_qb)]
    rw [eW]; clear eW d0 d1 d2 d3 f0 f1 f2 f3 x_b8
    have x_b8 := x_b8'; clear x_b8'
    replace x_b6 := x_b6.frame ho ne_b6_b8; replace a1 := a1.fr hnd ho; replace a2 := a2.fr hnd ho; replace a3 := a3.fr hnd ho; replace a4 := a4.fr hnd ho; replace a5 := a5.fr hnd ho; replace a6 := a6.fr hnd ho; replace x_b7 := x_b7.frame ho ne_b7_b8; replace b1 := b1.fr hnd ho; replace b2 := b2.fr hnd ho; replace b3 := b3.fr hnd ho; replace b4 := b4.fr hnd ho; replace b5 := b5.fr hnd ho; replace b6 := b6.fr hnd ho; replace x_b3 := x_b3.frame ho ne_b3_b8; replace x_b4 := x_b4.frame ho ne_b4_b8; replace x_b5 := x_b5.frame ho ne_b5_b8; replace q1 := q1.fr hnd ho; replace q2 := q2.fr hnd ho; replace hb := belowOnly hb ho kb_b8
    refine hK _ _ rfl ?_; clear hK K ho hnd
    apply wpSq_end
    refine hK6 _ _ ?_
    refine wp_region_fl2 [(0, false), (1, false), (2, false), (3, false), (4, true)] [5, 6] [] (fun _ => default) [0, 1, 2, 0, 99, 99, 99] [(5, 1), (6, 1), (6, 0)] (fun w' => w'.cell? ⟨p_b7, 0, none⟩ = some (.bool bn1) ∧ w'.cell? ⟨p_b7, 1, none⟩ = some (.slice bo1 bk1 bc1) ∧ w'.cell? ⟨p_b7, 2, none⟩ = some (.bool bn2) ∧ w'.cell? ⟨p_b7, 3, none⟩ = some (.slice bo2 bk2 bc2) ∧ w'.cell? ⟨p_b7, 4, none⟩ = some (.bool bn3) ∧ w'.cell? ⟨p_b7, 5, none⟩ = some (.slice bo3 bk3 bc3) ∧ w'.cell? ⟨p_b7, 6, none⟩ = some (.bool bn4) ∧ w'.cell? ⟨p_b7, 7, none⟩ = some (.slice bo4 bk4 bc4) ∧ w'.cell? ⟨p_b7, 8, none⟩ = some (.bool bn5) ∧ w'.cell? ⟨p_b7, 9, none⟩ = some (.slice bo5 bk5 bc5) ∧ w'.cell? ⟨p_b7, 10, none⟩ = some (.bool bn6) ∧ w'.cell? ⟨p_b7, 11, none⟩ = some (.slice bo6 bk6 bc6) ∧ w'.cell? ⟨p_b6, 0, none⟩ = some (.bool an1) ∧ w'.cell? ⟨p_b6, 1, none⟩ = some (.slice ao1 ak1 ac1) ∧ w'.cell? ⟨p_b6, 2, none⟩ = some (.bool an2) ∧ w'.cell? ⟨p_b6, 3, none⟩ = some (.slice ao2 ak2 ac2) ∧ w'.cell? ⟨p_b6, 4, none⟩ = some (.bool an3) ∧ w'.cell? ⟨p_b6, 5, none⟩ = some (.slice ao3 ak3 ac3) ∧ w'.cell? ⟨p_b6, 6, none⟩ = some (.bool an4) ∧ w'.cell? ⟨p_b6, 7, none⟩ = some (.slice ao4 ak4 ac4) ∧ w'.cell? ⟨p_b6, 8, none⟩ = some (.bool an5) ∧ w'.cell? ⟨p_b6, 9, none⟩ = some (.slice ao5 ak5 ac5) ∧ w'.cell? ⟨p_b6, 10, none⟩ = some (.bool an6) ∧ w'.cell? ⟨p_b6, 11, none⟩ = some (.slice ao6 ak6 ac6) ∧ w'.cell? ⟨p_b8, 0, none⟩ = some (.bool n_qa) ∧ w'.cell? ⟨p_b8, 1, none⟩ = some (.slice o_qa k_qa c_qa) ∧ w'.cell? ⟨p_b8, 2, none⟩ = some (.bool n_qb) ∧ w'.cell? ⟨p_b8, 3, none⟩ = some (.slice o_qb k_qb c_qb)) [fun w' => w'.cell? ⟨p_b7, 0, none⟩ = some (.bool bn1) ∧ w'.cell? ⟨p_b7, 1, none⟩ = some (.slice bo1 bk1 bc1) ∧ w'.cell? ⟨p_b7, 2, none⟩ = some (.bool bn2) ∧ w'.cell? ⟨p_b7, 3, none⟩ = some (.slice bo2 bk2 bc2) ∧ w'.cell? ⟨p_b7, 4, none⟩ = some (.bool bn3) ∧ w'.cell? ⟨p_b7, 5, none⟩ = some (.slice bo3 bk3 bc3) ∧ w'.cell? ⟨p_b7, 6, none⟩ = some (.bool bn4) ∧ w'.cell? ⟨p_b7, 7, none⟩ = some (.slice bo4 bk4 bc4) ∧ w'.cell? ⟨p_b7, 8, none⟩ = some (.bool bn5) ∧ w'.cell? ⟨p_b7, 9, none⟩ = some (.slice bo5 bk5 bc5) ∧ w'.cell? ⟨p_b7, 10, none⟩ = some (.bool bn6) ∧ w'.cell? ⟨p_b7, 11, none⟩ = some (.slice bo6 bk6 bc6), fun w' => w'.cell? ⟨p_b6, 0, none⟩ = some (.bool an1) ∧ w'.cell? ⟨p_b6, 1, none⟩ = some (.slice ao1 ak1 ac1) ∧ w'.cell? ⟨p_b6, 2, none⟩ = some (.bool an2) ∧ w'.cell? ⟨p_b6, 3, none⟩ = some (.slice ao2 ak2 ac2) ∧ w'.cell? ⟨p_b6, 4, none⟩ = some (.bool an3) ∧ w'.cell? ⟨p_b6, 5, none⟩ = some (.slice ao3 ak3 ac3) ∧ w'.cell? ⟨p_b6, 6, none⟩ = some (.bool an4) ∧ w'.cell? ⟨p_b6, 7, none⟩ = some (.slice ao4 ak4 ac4) ∧ w'.cell? ⟨p_b6, 8, none⟩ = some (.bool an5) ∧ w'.cell? ⟨p_b6, 9, none⟩ = some (.slice ao5 ak5 ac5) ∧ w'.cell? ⟨p_b6, 10, none⟩ = some (.bool an6) ∧ w'.cell? ⟨p_b6, 11, none⟩ = some (.slice ao6 ak6 ac6), fun w' => w'.cell? ⟨p_b8, 0, none⟩ = some (.bool n_qa) ∧ w'.cell? ⟨p_b8, 1, none⟩ = some (.slice o_qa k_qa c_qa) ∧ w'.cell? ⟨p_b8, 2, none⟩ = some (.bool n_qb) ∧ w'.cell? ⟨p_b8, 3, none⟩ = some (.slice o_qb k_qb c_qb)] (by kernel_rfl) (by kernel_rfl) (by kernel_rfl) (by kernel_rfl) (by kernel_rfl) (by kernel_rfl) (by kernel_rfl) (by kernel_rfl) (by decide) (by intro j hj; cases hj) (by intro w' o hC; obtain ⟨c0, c1, c2, c3, c4, c5, c6, c7, c8, c9, c10, c11, c12, c13, c14, c15, c16, c17, c18, c19, c20, c21, c22, c23, c24, c25, c26, c27⟩ := hC; exact ⟨cell_alloc c0 o, cell_alloc c1 o, cell_alloc c2 o, cell_alloc c3 o, cell_alloc c4 o, cell_alloc c5 o, cell_alloc c6 o, cell_alloc c7 o, cell_alloc c8 o, cell_alloc c9 o, cell_alloc c10 o, cell_alloc c11 o, cell_alloc c12 o, cell_alloc c13 o, cell_alloc c14 o, cell_alloc c15 o, cell_alloc c16 o, cell_alloc c17 o, cell_alloc c18 o, cell_alloc c19 o, cell_alloc c20 o, cell_alloc c21 o, cell_alloc c22 o, cell_alloc c23 o, cell_alloc c24 o, cell_alloc c25 o, cell_alloc c26 o, cell_alloc c27 o⟩) (by intro w' hC G hG; obtain ⟨c0, c1, c2, c3, c4, c5, c6, c7, c8, c9, c10, c11, c12, c13, c14, c15, c16, c17, c18, c19, c20, c21, c22, c23, c24, c25, c26, c27⟩ := hC; simp only [List.mem_cons, List.not_mem_nil, or_false] at hG; rcases hG with rfl | rfl | rfl <;> first | exact ⟨c0, c1, c2, c3, c4, c5, c6, c7, c8, c9, c10, c11⟩ | exact ⟨c12, c13, c14, c15, c16, c17, c18, c19, c20, c21, c22, c23⟩ | exact ⟨c24, c25, c26, c27⟩) ?_
    have lt_b3 := x_b3.lt
    have lt_b4 := x_b4.lt
    have lt_b5 := x_b5.lt
    have lt_b6 := x_b6.lt
    have lt_b7 := x_b7.lt
    have lt_b8 := x_b8.lt
    intro w_18 hn
    replace lt_b3 := Nat.lt_of_lt_of_le lt_b3 hn.size
    replace lt_b4 := Nat.lt_of_lt_of_le lt_b4 hn.size
    replace lt_b5 := Nat.lt_of_lt_of_le lt_b5 hn.size
    replace lt_b6 := Nat.lt_of_lt_of_le lt_b6 hn.size
    replace lt_b7 := Nat.lt_of_lt_of_le lt_b7 hn.size
    replace lt_b8 := Nat.lt_of_lt_of_le lt_b8 hn.size
    replace x_b6 := x_b6.bl hn; replace a1 := a1.bl hn; replace a2 := a2.bl hn; replace a3 := a3.bl hn; replace a4 := a4.bl hn; replace a5 := a5.bl hn; replace a6 := a6.bl hn; replace x_b7 := x_b7.bl hn; replace b1 := b1.bl hn; replace b2 := b2.bl hn; replace b3 := b3.bl hn; replace b4 := b4.bl hn; replace b5 := b5.bl hn; replace b6 := b6.bl hn; replace x_b3 := x_b3.bl hn; replace x_b4 := x_b4.bl hn; replace x_b5 := x_b5.bl hn; replace q1 := q1.bl hn; replace q2 := q2.bl hn; replace x_b8 := x_b8.bl hn; replace hb := hb.trans (hn.mono hb.size)
    clear hn
    have kb0 := hb.size
    refine ⟨⟨x_b7.cell 0 rfl, x_b7.cell 1 rfl, x_b7.cell 2 rfl, x_b7.cell 3 rfl, x_b7.cell 4 rfl, x_b7.cell 5 rfl, x_b7.cell 6 rfl, x_b7.cell 7 rfl, x_b7.cell 8 rfl, x_b7.cell 9 rfl, x_b7.cell 10 rfl, x_b7.cell 11 rfl, x_b6.cell 0 rfl, x_b6.cell 1 rfl, x_b6.cell 2 rfl, x_b6.cell 3 rfl, x_b6.cell 4 rfl, x_b6.cell 5 rfl, x_b6.cell 6 rfl, x_b6.cell 7 rfl, x_b6.cell 8 rfl, x_b6.cell 9 rfl, x_b6.cell 10 rfl, x_b6.cell 11 rfl, x_b8.cell 0 rfl, x_b8.cell 1 rfl, x_b8.cell 2 rfl, x_b8.cell 3 rfl⟩, ?_⟩
    apply wpFl_ld rfl rfl; (case h1 => intro w' hC K hK; obtain ⟨c0, c1, c2, c3, c4, c5, c6, c7, c8, c9, c10, c11⟩ := hC; go_big_op; exact hK); iterate 4 kernel_rfl
    apply wpFl_ld rfl rfl; (case h1 => intro w' hC K hK; obtain ⟨c0, c1, c2, c3, c4, c5, c6, c7, c8, c9, c10, c11⟩ := hC; go_big_op; exact hK); iterate 4 kernel_rfl
    apply wpFl_ld rfl rfl; (case h1 => intro w' hC K hK; obtain ⟨c0, c1, c2, c3⟩ := hC; go_big_op; exact hK); iterate 4 kernel_rfl
    apply wpFl_ld rfl rfl; (case h1 => intro w' hC K hK; obtain ⟨c0, c1, c2, c3, c4, c5, c6, c7, c8, c9, c10, c11⟩ := hC; go_big_op; exact hK); iterate 4 kernel_rfl
    refine wpFl_call rfl (by kernel_rfl) fun w_19 hn hC => ?_; clear hC
    replace x_b6 := x_b6.bl hn; replace a1 := a1.bl hn; replace a2 := a2.bl hn; replace a3 := a3.bl hn; replace a4 := a4.bl hn; replace a5 := a5.bl hn; replace a6 := a6.bl hn; replace x_b7 := x_b7.bl hn; replace b1 := b1.bl hn; replace b2 := b2.bl hn; replace b3 := b3.bl hn; replace b4 := b4.bl hn; replace b5 := b5.bl hn; replace b6 := b6.bl hn; replace x_b3 := x_b3.bl hn; replace x_b4 := x_b4.bl hn; replace x_b5 := x_b5.bl hn; replace q1 := q1.bl hn; replace q2 := q2.bl hn; replace x_b8 := x_b8.bl hn; replace hb := hb.trans (hn.mono hb.size)
    clear hn; intro K hK
    go_big_op
    go_fit (less_any (L := L + 1) (by omega) a1 a2 a3 a4 a5 a6 b1 b2 b3 b4 b5 b6 (.mk' (q1.zn Lq1.out) (q2.zn Lq2.out)) (by omega) (by omega))
    rintro e w_20 ⟨_, rfl, ⟨n_g1, o_g1, k_g1, c_g1, n_g2, o_g2, k_g2, c_g2, n_g3, o_g3, k_g3, c_g3, n_g4, o_g4, k_g4, c_g4, n_g5, o_g5, k_g5, c_g5, n_g6, o_g6, k_g6, c_g6, rfl, g1, g2, g3, g4, g5, g6⟩, hb_20⟩
    replace x_b6 := x_b6.bl hb_20; replace a1 := a1.bl hb_20; replace a2 := a2.bl hb_20; replace a3 := a3.bl hb_20; replace a4 := a4.bl hb_20; replace a5 := a5.bl hb_20; replace a6 := a6.bl hb_20; replace x_b7 := x_b7.bl hb_20; replace b1 := b1.bl hb_20; replace b2 := b2.bl hb_20; replace b3 := b3.bl hb_20; replace b4 := b4.bl hb_20; replace b5 := b5.bl hb_20; replace b6 := b6.bl hb_20; replace x_b3 := x_b3.bl hb_20; replace x_b4 := x_b4.bl hb_20; replace x_b5 := x_b5.bl hb_20; replace q1 := q1.bl hb_20; replace q2 := q2.bl hb_20; replace x_b8 := x_b8.bl hb_20; replace hb := hb.trans (hb_20.mono hb.size)
    refine hK _ _ rfl hb_20 ⟨x_b7.cell 0 rfl, x_b7.cell 1 rfl, x_b7.cell 2 rfl, x_b7.cell 3 rfl, x_b7.cell 4 rfl, x_b7.cell 5 rfl, x_b7.cell 6 rfl, x_b7.cell 7 rfl, x_b7.cell 8 rfl, x_b7.cell 9 rfl, x_b7.cell 10 rfl, x_b7.cell 11 rfl, x_b6.cell 0 rfl, x_b6.cell 1 rfl, x_b6.cell 2 rfl, x_b6.cell 3 rfl, x_b6.cell 4 rfl, x_b6.cell 5 rfl, x_b6.cell 6 rfl, x_b6.cell 7 rfl, x_b6.cell 8 rfl, x_b6.cell 9 rfl, x_b6.cell 10 rfl, x_b6.cell 11 rfl, x_b8.cell 0 rfl, x_b8.cell 1 rfl, x_b8.cell 2 rfl, x_b8.cell 3 rfl⟩ ?_
    clear hK K hb_20
    apply wpFl_end
    case ha => intro pt; simp only [putF]; rfl
    case h =>
    intro w_21 pt hn hC hF hD
    clear hC
    replace x_b6 := x_b6.bl hn; replace a1 := a1.bl hn; replace a2 := a2.bl hn; replace a3 := a3.bl hn; replace a4 := a4.bl hn; replace a5 := a5.bl hn; replace a6 := a6.bl hn; replace x_b7 := x_b7.bl hn; replace b1 := b1.bl hn; replace b2 := b2.bl hn; replace b3 := b3.bl hn; replace b4 := b4.bl hn; replace b5 := b5.bl hn; replace b6 := b6.bl hn; replace x_b3 := x_b3.bl hn; replace x_b4 := x_b4.bl hn; replace x_b5 := x_b5.bl hn; replace q1 := q1.bl hn; replace q2 := q2.bl hn; replace x_b8 := x_b8.bl hn; replace g1 := g1.bl hn; replace g2 := g2.bl hn; replace g3 := g3.bl hn; replace g4 := g4.bl hn; replace g5 := g5.bl hn; replace g6 := g6.bl hn; replace hb := hb.trans (hn.mono hb.size)
    clear hn
    clear hF hD
    clear pt
    clear kb0 lt_b3 lt_b4 lt_b5 lt_b6 lt_b7 lt_b8
    refine wpTail_call rfl (by kernel_rfl) fun K hK => ?_
    have d0 : w_21.cell? ⟨p_b6, 0, none⟩ = some (.bool an1) := x_b6.cell 0 rfl
    have d1 : w_21.cell? ⟨p_b6, 1, none⟩ = some (.slice ao1 ak1 ac1) := x_b6.cell 1 rfl
    have d2 : w_21.cell? ⟨p_b6, 2, none⟩ = some (.bool an2) := x_b6.cell 2 rfl
    have d3 : w_21.cell? ⟨p_b6, 3, none⟩ = some (.slice ao2 ak2 ac2) := x_b6.cell 3 rfl
    have d4 : w_21.cell? ⟨p_b6, 4, none⟩ = some (.bool an3) := x_b6.cell 4 rfl
    have d5 : w_21.cell? ⟨p_b6, 5, none⟩ = some (.slice ao3 ak3 ac3) := x_b6.cell 5 rfl
    have d6 : w_21.cell? ⟨p_b6, 6, none⟩ = some (.bool an4) := x_b6.cell 6 rfl
    have d7 : w_21.cell? ⟨p_b6, 7, none⟩ = some (.slice ao4 ak4 ac4) := x_b6.cell 7 rfl
    have d8 : w_21.cell? ⟨p_b6, 8, none⟩ = some (.bool an5) := x_b6.cell 8 rfl
    have d9 : w_21.cell? ⟨p_b6, 9, none⟩ = some (.slice ao5 ak5 ac5) := x_b6.cell 9 rfl
    have d10 : w_21.cell? ⟨p_b6, 10, none⟩ = some (.bool an6) := x_b6.cell 10 rfl
    have d11 : w_21.cell? ⟨p_b6, 11, none⟩ = some (.slice ao6 ak6 ac6) := x_b6.cell 11 rfl
    have f0 := x_b6.free 0; have f1 := x_b6.free 1; have f2 := x_b6.free 2; have f3 := x_b6.free 3; have f4 := x_b6.free 4; have f5 := x_b6.free 5; have f6 := x_b6.free 6; have f7 := x_b6.free 7; have f8 := x_b6.free 8; have f9 := x_b6.free 9; have f10 := x_b6.free 10; have f11 := x_b6.free 11
    go_big_op
    have hnd := x_b6.nod rfl rfl
    obtain ⟨w_22_0, eW, x_b6_0, ho_0⟩ : ∃ w', ((((w_21.setCell ⟨p_b6, 0, none⟩ (.bool bn1)).setCell ⟨p_b6, 1, none⟩ (.slice bo1 bk1 bc1)).setCell ⟨p_b6, 2, none⟩ (.bool bn2)).setCell ⟨p_b6, 3, none⟩ (.slice bo2 bk2 bc2)) = w' ∧ Bs w' p_b6 #[.bool bn1, .slice bo1 bk1 bc1, .bool bn2, .slice bo2 bk2 bc2, .bool an3, .slice ao3 ak3 ac3, .bool an4, .slice ao4 ak4 ac4, .bool an5, .slice ao5 ak5 ac5, .bool an6, .slice ao6 ak6 ac6] 84 ∧ Only p_b6 w_21 w' := x_b6.setN [(0, .bool bn1), (1, .slice bo1 bk1 bc1), (2, .bool bn2), (3, .slice bo2 bk2 bc2)]
    rw [eW]; clear eW
    obtain ⟨w_22_4, eW, x_b6_4, ho_4⟩ : ∃ w', ((((w_22_0.setCell ⟨p_b6, 4, none⟩ (.bool bn3)).setCell ⟨p_b6, 5, none⟩ (.slice bo3 bk3 bc3)).setCell ⟨p_b6, 6, none⟩ (.bool bn4)).setCell ⟨p_b6, 7, none⟩ (.slice bo4 bk4 bc4)) = w' ∧ Bs w' p_b6 #[.bool bn1, .slice bo1 bk1 bc1, .bool bn2, .slice bo2 bk2 bc2, .bool bn3, .slice bo3 bk3 bc3, .bool bn4, .slice bo4 bk4 bc4, .bool an5, .slice ao5 ak5 ac5, .bool an6, .slice ao6 ak6 ac6] 84 ∧ Only p_b6 w_22_0 w' := x_b6_0.setN [(4, .bool bn3), (5, .slice bo3 bk3 bc3), (6, .bool bn4), (7, .slice bo4 bk4 bc4)]
    rw [eW]; clear eW x_b6_0
    obtain ⟨w_22, eW, x_b6', ho_8⟩ : ∃ w', ((((w_22_4.setCell ⟨p_b6, 8, none⟩ (.bool bn5)).setCell ⟨p_b6, 9, none⟩ (.slice bo5 bk5 bc5)).setCell ⟨p_b6, 10, none⟩ (.bool bn6)).setCell ⟨p_b6, 11, none⟩ (.slice bo6 bk6 bc6)) = w' ∧ Bs w' p_b6 #[.bool bn1, .slice bo1 bk1 bc1, .bool bn2, .slice bo2 bk2 bc2, .bool bn3, .slice bo3 bk3 bc3, .bool bn4, .slice bo4 bk4 bc4, .bool bn5, .slice bo5 bk5 bc5, .bool bn6, .slice bo6 bk6 bc6] 84 ∧ Only p_b6 w_22_4 w' := x_b6_4.setN [(8, .bool bn5), (9, .slice bo5 bk5 bc5), (10, .bool bn6), (11, .slice bo6 bk6 bc6)]
    rw [eW]; clear eW x_b6_4
    have ho := ((ho_0.trans ho_4).trans ho_8)
    clear ho_0 ho_4 ho_8 d0 d1 d2 d3 d4 d5 d6 d7 d8 d9 d10 d11 f0 f1 f2 f3 f4 f5 f6 f7 f8 f9 f10 f11 x_b6
    have x_b6 := x_b6'; clear x_b6'
    clear a1 a2 a3 a4 a5 a6
    replace x_b7 := x_b7.frame ho ne_b6_b7.symm; replace b1 := b1.fr hnd ho; replace b2 := b2.fr hnd ho; replace b3 := b3.fr hnd ho; replace b4 := b4.fr hnd ho; replace b5 := b5.fr hnd ho; replace b6 := b6.fr hnd ho; replace x_b3 := x_b3.frame ho ne_b3_b6; replace x_b4 := x_b4.frame ho ne_b4_b6; replace x_b5 := x_b5.frame ho ne_b5_b6; replace q1 := q1.fr hnd ho; replace q2 := q2.fr hnd ho; replace x_b8 := x_b8.frame ho ne_b6_b8.symm; replace g1 := g1.fr hnd ho; replace g2 := g2.fr hnd ho; replace g3 := g3.fr hnd ho; replace g4 := g4.fr hnd ho; replace g5 := g5.fr hnd ho; replace g6 := g6.fr hnd ho; replace hb := belowOnly hb ho kb_b6
    refine hK _ _ rfl (And.intro ⟨x_b7.cell 0 rfl, x_b7.cell 1 rfl, x_b7.cell 2 rfl, x_b7.cell 3 rfl, x_b7.cell 4 rfl, x_b7.cell 5 rfl, x_b7.cell 6 rfl, x_b7.cell 7 rfl, x_b7.cell 8 rfl, x_b7.cell 9 rfl, x_b7.cell 10 rfl, x_b7.cell 11 rfl⟩ (And.intro True.intro (And.intro ⟨x_b8.cell 0 rfl, x_b8.cell 1 rfl, x_b8.cell 2 rfl, x_b8.cell 3 rfl⟩ True.intro))) ?_; clear hK K ho hnd
    refine wpTail_call rfl (by kernel_rfl) fun K hK => ?_
    have d0 : w_22.cell? ⟨p_b7, 0, none⟩ = some (.bool bn1) := x_b7.cell 0 rfl
    have d1 : w_22.cell? ⟨p_b7, 1, none⟩ = some (.slice bo1 bk1 bc1) := x_b7.cell 1 rfl
    have d2 : w_22.cell? ⟨p_b7, 2, none⟩ = some (.bool bn2) := x_b7.cell 2 rfl
    have d3 : w_22.cell? ⟨p_b7, 3, none⟩ = some (.slice bo2 bk2 bc2) := x_b7.cell 3 rfl
    have d4 : w_22.cell? ⟨p_b7, 4, none⟩ = some (.bool bn3) := x_b7.cell 4 rfl
    have d5 : w_22.cell? ⟨p_b7, 5, none⟩ = some (.slice bo3 bk3 bc3) := x_b7.cell 5 rfl
    have d6 : w_22.cell? ⟨p_b7, 6, none⟩ = some (.bool bn4) := x_b7.cell 6 rfl
    have d7 : w_22.cell? ⟨p_b7, 7, none⟩ = some (.slice bo4 bk4 bc4) := x_b7.cell 7 rfl
    have d8 : w_22.cell? ⟨p_b7, 8, none⟩ = some (.bool bn5) := x_b7.cell 8 rfl
    have d9 : w_22.cell? ⟨p_b7, 9, none⟩ = some (.slice bo5 bk5 bc5) := x_b7.cell 9 rfl
    have d10 : w_22.cell? ⟨p_b7, 10, none⟩ = some (.bool bn6) := x_b7.cell 10 rfl
    have d11 : w_22.cell? ⟨p_b7, 11, none⟩ = some (.slice bo6 bk6 bc6) := x_b7.cell 11 rfl
    have f0 := x_b7.free 0; have f1 := x_b7.free 1; have f2 := x_b7.free 2; have f3 := x_b7.free 3; have f4 := x_b7.free 4; have f5 := x_b7.free 5; have f6 := x_b7.free 6; have f7 := x_b7.free 7; have f8 := x_b7.free 8; have f9 := x_b7.free 9; have f10 := x_b7.free 10; have f11 := x_b7.free 11
    go_big_op
    have hnd := x_b7.nod rfl rfl
    obtain ⟨w_23_0, eW, x_b7_0, ho_0⟩ : ∃ w', ((((w_22.setCell ⟨p_b7, 0, none⟩ (.bool n_g1)).setCell ⟨p_b7, 1, none⟩ (.slice o_g1 k_g1 c_g1)).setCell ⟨p_b7, 2, none⟩ (.bool n_g2)).setCell ⟨p_b7, 3, none⟩ (.slice o_g2 k_g2 c_g2)) = w' ∧ Bs w' p_b7 #[.bool n_g1, .slice o_g1 k_g1 c_g1, .bool n_g2, .slice o_g2 k_g2 c_g2, .bool bn3, .slice bo3 bk3 bc3, .bool bn4, .slice bo4 bk4 bc4, .bool bn5, .slice bo5 bk5 bc5, .bool bn6, .slice bo6 bk6 bc6] 84 ∧ Only p_b7 w_22 w' := x_b7.setN [(0, .bool n_g1), (1, .slice o_g1 k_g1 c_g1), (2, .bool n_g2), (3, .slice o_g2 k_g2 c_g2)]
    rw [eW]; clear eW
    obtain ⟨w_23_4, eW, x_b7_4, ho_4⟩ : ∃ w', ((((w_23_0.setCell ⟨p_b7, 4, none⟩ (.bool n_g3)).setCell ⟨p_b7, 5, none⟩ (.slice o_g3 k_g3 c_g3)).setCell ⟨p_b7, 6, none⟩ (.bool n_g4)).setCell ⟨p_b7, 7, none⟩ (.slice o_g4 k_g4 c_g4)) = w' ∧ Bs w' p_b7 #[.bool n_g1, .slice o_g1 k_g1 c_g1, .bool n_g2, .slice o_g2 k_g2 c_g2, .bool n_g3, .slice o_g3 k_g3 c_g3, .bool n_g4, .slice o_g4 k_g4 c_g4, .bool bn5, .slice bo5 bk5 bc5, .bool bn6, .slice bo6 bk6 bc6] 84 ∧ Only p_b7 w_23_0 w' := x_b7_0.setN [(4, .bool n_g3), (5, .slice o_g3 k_g3 c_g3), (6, .bool n_g4), (7, .slice o_g4 k_g4 c_g4)]
    rw [eW]; clear eW x_b7_0
    obtain ⟨w_23, eW, x_b7', ho_8⟩ : ∃ w', ((((w_23_4.setCell ⟨p_b7, 8, none⟩ (.bool n_g5)).setCell ⟨p_b7, 9, none⟩ (.slice o_g5 k_g5 c_g5)).setCell ⟨p_b7, 10, none⟩ (.bool n_g6)).setCell ⟨p_b7, 11, none⟩ (.slice o_g6 k_g6 c_g6)) = w' ∧ Bs w' p_b7 #[.bool n_g1, .slice o_g1 k_g1 c_g1, .bool n_g2, .slice o_g2 k_g2 c_g2, .bool n_g3, .slice o_g3 k_g3 c_g3, .bool n_g4, .slice o_g4 k_g4 c_g4, .bool n_g5, .slice o_g5 k_g5 c_g5, .bool n_g6, .slice o_g6 k_g6 c_g6] 84 ∧ Only p_b7 w_23_4 w' := x_b7_4.setN [(8, .bool n_g5), (9, .slice o_g5 k_g5 c_g5), (10, .bool n_g6), (11, .slice o_g6 k_g6 c_g6)]
    rw [eW]; clear eW x_b7_4
    have ho := ((ho_0.trans ho_4).trans ho_8)
    clear ho_0 ho_4 ho_8 d0 d1 d2 d3 d4 d5 d6 d7 d8 d9 d10 d11 f0 f1 f2 f3 f4 f5 f6 f7 f8 f9 f10 f11 x_b7
    have x_b7 := x_b7'; clear x_b7'
    replace x_b6 := x_b6.frame ho ne_b6_b7; replace b1 := b1.fr hnd ho; replace b2 := b2.fr hnd ho; replace b3 := b3.fr hnd ho; replace b4 := b4.fr hnd ho; replace b5 := b5.fr hnd ho; replace b6 := b6.fr hnd ho; replace x_b3 := x_b3.frame ho ne_b3_b7; replace x_b4 := x_b4.frame ho ne_b4_b7; replace x_b5 := x_b5.frame ho ne_b5_b7; replace q1 := q1.fr hnd ho; replace q2 := q2.fr hnd ho; replace x_b8 := x_b8.frame ho ne_b7_b8.symm; replace g1 := g1.fr hnd ho; replace g2 := g2.fr hnd ho; replace g3 := g3.fr hnd ho; replace g4 := g4.fr hnd ho; replace g5 := g5.fr hnd ho; replace g6 := g6.fr hnd ho; replace hb := belowOnly hb ho kb_b7
    refine hK _ _ rfl (And.intro True.intro (And.intro True.intro (And.intro ⟨x_b8.cell 0 rfl, x_b8.cell 1 rfl, x_b8.cell 2 rfl, x_b8.cell 3 rfl⟩ True.intro))) ?_; clear hK K ho hnd
    apply wpTail_end
    refine ‹∀ (a' : Act) (w' : World), Handed _ _ a' w' → _› _ _ ?_
    go_roundg (gN t.step.s1 t.step.s2).toNat
    case rel =>
      have i1 := len_norm (Int.le_trans HI.out.ns (by have := gN_nonneg x y; have := gN_nonneg u v; omega)) LL.out.1.1 LL.out.1.2 LL.out.2.1 LL.out.2.2
      have i2 := len_norm HI.out.nu LL.out.1.1 LL.out.1.2 LL.out.2.1 LL.out.2.2
      have i3 := len_norm HI.out.nv LL.out.1.1 LL.out.1.2 LL.out.2.1 LL.out.2.2
      rw [GS.step_s1] at g1
      rw [GS.step_s2] at g2
      rw [GS.step_u1] at g3
      rw [GS.step_u2] at g4
      rw [GS.step_v1] at g5
      rw [GS.step_v2] at g6
      refine ⟨t.step, hide ⟨HI.out, (fin_step H0.out).trans HT.out.2.1, Nat.le_refl _⟩, BN.mk' x_b6 b1 b2 b3 b4 b5 b6, BN.mk' x_b7 (g1.zn i1.1) (g2.zn i1.2) (g3.zn i2.1) (g4.zn i2.2) (g5.zn i3.1) (g6.zn i3.2), x_b3, x_b4, x_b5, hb⟩
    case measure =>
      have h1 := HT.out.2.2
      have h2 := HL.out
      have h3 := HP.out
      have h4 := gN_nonneg t.step.s1 t.step.s2
      omega
end
end Go.Proofs.YtgjainmfilkjmaaDoor

/- What Xgcd tells. -/
namespace Go.Proofs.YtgjainmfilkjmaaDoor
open Go Go.RowKit Dig
set_option linter.unusedVariables false

theorem turn_cases {k : Nat} (hk : k < 4) : k = 0 ∨ k = 1 ∨ k = 2 ∨ k = 3 := by omega
/-- Turning goes through sums of products. -/
theorem turn_lin {k : Nat} (hk : k < 4) {a1 a2 b1 b2 r1 r2 x1 x2 y1 y2 : Int} (h1 : r1 = a1 * x1 - a2 * x2 + (b1 * y1 - b2 * y2)) (h2 : r2 = a1 * x2 + a2 * x1 + (b1 * y2 + b2 * y1)) :
    a1 * (turn k (x1, x2)).1 - a2 * (turn k (x1, x2)).2 + (b1 * (turn k (y1, y2)).1 - b2 * (turn k (y1, y2)).2) = (turn k (r1, r2)).1 ∧
    a1 * (turn k (x1, x2)).2 + a2 * (turn k (x1, x2)).1 + (b1 * (turn k (y1, y2)).2 + b2 * (turn k (y1, y2)).1) = (turn k (r1, r2)).2 := by
  rcases turn_cases hk with rfl | rfl | rfl | rfl <;> simp only [turn_0, turn_1, turn_2, turn_3] <;> rw [h1, h2] <;> clear h1 h2 <;> constructor <;> grind
theorem turn_norm {k : Nat} (hk : k < 4) (r1 r2 : Int) : gN (turn k (r1, r2)).1 (turn k (r1, r2)).2 = gN r1 r2 := by
  rcases turn_cases hk with rfl | rfl | rfl | rfl <;> simp only [turn_0, turn_1, turn_2, turn_3] <;> unfold gN <;> grind
/-- What a number divides, it divides turned. -/
theorem turn_dvd {k : Nat} (hk : k < 4) {r1 r2 c1 c2 X1 X2 : Int} (h1 : X1 = r1 * c1 - r2 * c2) (h2 : X2 = r1 * c2 + r2 * c1) :
    ∃ w1 w2, X1 = (turn k (r1, r2)).1 * w1 - (turn k (r1, r2)).2 * w2 ∧ X2 = (turn k (r1, r2)).1 * w2 + (turn k (r1, r2)).2 * w1 := by
  rcases turn_cases hk with rfl | rfl | rfl | rfl <;> simp only [turn_0, turn_1, turn_2, turn_3]
  · exact ⟨c1, c2, h1, h2⟩
  · exact ⟨c2, -c1, by rw [h1]; grind, by rw [h2]; grind⟩
  · exact ⟨-c1, -c2, by rw [h1]; grind, by rw [h2]; grind⟩
  · exact ⟨-c2, c1, by rw [h1]; grind, by rw [h2]; grind⟩
/-- A multiple leaves no rest. -/
theorem mul_exact {d1 d2 w1 w2 X1 X2 : Int} (h1 : X1 = d1 * w1 - d2 * w2) (h2 : X2 = d1 * w2 + d2 * w1) : (gT1 X1 X2 d1 d2).fmod (gN d1 d2) = 0 ∧ (gT2 X1 X2 d1 d2).fmod (gN d1 d2) = 0 := by
  have e1 : gT1 X1 X2 d1 d2 = w1 * gN d1 d2 := by rw [h1, h2]; clear h1 h2; unfold gT1 gN; grind
  have e2 : gT2 X1 X2 d1 d2 = w2 * gN d1 d2 := by rw [h1, h2]; clear h1 h2; unfold gT2 gN; grind
  rw [e1, e2]
  exact ⟨Int.fmod_eq_zero_of_dvd (Int.dvd_mul_left _ _), Int.fmod_eq_zero_of_dvd (Int.dvd_mul_left _ _)⟩
/-- What Xgcd tells of two multiples of c. -/
structure BZ (x y u v p q D1 D2 S1 S2 T1 T2 : Int) : Prop where
  sum : (x * p - y * q) * S1 - (x * q + y * p) * S2 + ((u * p - v * q) * T1 - (u * q + v * p) * T2) = D1 ∧ (x * p - y * q) * S2 + (x * q + y * p) * S1 + ((u * p - v * q) * T2 + (u * q + v * p) * T1) = D2
  quad : gN D1 D2 = 0 ∨ (0 < D1 ∧ 0 ≤ D2)
  z1 : gN D1 D2 = 0 → gN (x * p - y * q) (x * q + y * p) = 0 ∧ gN (u * p - v * q) (u * q + v * p) = 0
  e1 : (gT1 (x * p - y * q) (x * q + y * p) D1 D2).fmod (gN D1 D2) = 0 ∧ (gT2 (x * p - y * q) (x * q + y * p) D1 D2).fmod (gN D1 D2) = 0
  e2 : (gT1 (u * p - v * q) (u * q + v * p) D1 D2).fmod (gN D1 D2) = 0 ∧ (gT2 (u * p - v * q) (u * q + v * p) D1 D2).fmod (gN D1 D2) = 0
  e3 : gN D1 D2 ≠ 0 → gN p q ≠ 0 ∧ (gT1 D1 D2 p q).fmod (gN p q) = 0 ∧ (gT2 D1 D2 p q).fmod (gN p q) = 0
theorem bz_of {x y u v p q : Int} {F : GS} (h : GI (x * p - y * q) (x * q + y * p) (u * p - v * q) (u * q + v * p) F) (hs : gN F.s1 F.s2 = 0) :
    BZ x y u v p q (turn (kq F.r1 F.r2) (F.r1, F.r2)).1 (turn (kq F.r1 F.r2) (F.r1, F.r2)).2 (turn (kq F.r1 F.r2) (F.x1, F.x2)).1 (turn (kq F.r1 F.r2) (F.x1, F.x2)).2 (turn (kq F.r1 F.r2) (F.y1, F.y2)).1 (turn (kq F.r1 F.r2) (F.y1, F.y2)).2 := by
  have hk := kq_lt F.r1 F.r2
  obtain ⟨hs1, hs2⟩ := gN_zero.1 hs
  have hr := h.r
  obtain ⟨c1, c2, d1, d2, ha1, ha2⟩ := h.da
  obtain ⟨f1, f2, g1, g2, hb1, hb2⟩ := h.db
  rw [hs1, hs2] at ha1 ha2 hb1 hb2
  rw [Int.zero_mul, Int.zero_mul, Int.sub_self, Int.add_zero] at ha1 hb1
  rw [Int.zero_mul, Int.zero_mul, Int.add_zero, Int.add_zero] at ha2 hb2
  have hnr := h.nr
  have hn := turn_norm hk F.r1 F.r2
  have hlin := turn_lin hk hr.1 hr.2
  obtain ⟨w1, w2, hw1, hw2⟩ := turn_dvd hk ha1 ha2
  obtain ⟨o1, o2, ho1, ho2⟩ := turn_dvd hk hb1 hb2
  have hc1 : F.r1 = p * (x * F.x1 - y * F.x2 + (u * F.y1 - v * F.y2)) - q * (x * F.x2 + y * F.x1 + (u * F.y2 + v * F.y1)) := by rw [hr.1]; clear hr ha1 ha2 hb1 hb2 hw1 hw2 ho1 ho2 hlin; grind
  have hc2 : F.r2 = p * (x * F.x2 + y * F.x1 + (u * F.y2 + v * F.y1)) + q * (x * F.x1 - y * F.x2 + (u * F.y1 - v * F.y2)) := by rw [hr.2]; clear hr ha1 ha2 hb1 hb2 hw1 hw2 ho1 ho2 hlin hc1; grind
  refine ⟨hlin, ?_, ?_, mul_exact hw1 hw2, mul_exact ho1 ho2, ?_⟩
  · by_cases h0 : gN F.r1 F.r2 = 0
    · exact .inl (by rw [hn]; exact h0)
    · have hne : ¬ (F.r1 = 0 ∧ F.r2 = 0) := fun c => h0 (gN_zero.2 c)
      right
      rcases kq_cases F.r1 F.r2 with ⟨e, hc⟩ | ⟨e, hc⟩ | ⟨e, hc⟩ | ⟨e, hc | hc⟩ <;> rw [e] <;> simp only [turn_0, turn_1, turn_2, turn_3]
      · omega
      · omega
      · omega
      · omega
      · exact absurd hc hne
  · intro h0
    rw [hn] at h0
    obtain ⟨e1, e2⟩ := gN_zero.1 h0
    rw [e1, e2] at ha1 ha2 hb1 hb2
    constructor
    · rw [ha1, ha2]; exact gN_zero.2 (by constructor <;> grind)
    · rw [hb1, hb2]; exact gN_zero.2 (by constructor <;> grind)
  · intro h0
    rw [hn] at h0
    have hpq : gN p q ≠ 0 := by
      intro c
      obtain ⟨e1, e2⟩ := gN_zero.1 c
      apply h0
      rw [hc1, hc2, e1, e2]
      exact gN_zero.2 (by constructor <;> grind)
    refine ⟨hpq, ?_⟩
    have hl2 := turn_lin (k := kq F.r1 F.r2) hk (a1 := p) (a2 := q) (b1 := 0) (b2 := 0) (r1 := F.r1) (r2 := F.r2) (x1 := x * F.x1 - y * F.x2 + (u * F.y1 - v * F.y2)) (x2 := x * F.x2 + y * F.x1 + (u * F.y2 + v * F.y1)) (y1 := 0) (y2 := 0) (by rw [hc1]; simp) (by rw [hc2]; simp)
    simp only [Int.zero_mul, Int.sub_self, Int.add_zero] at hl2
    exact mul_exact hl2.1.symm hl2.2.symm
/-- A product is hardly longer than its parts together. -/
theorem mul_tight {x y p q : Int} {L : Nat} (h1 : (dig x.natAbs).length ≤ L) (h2 : (dig y.natAbs).length ≤ L) (h3 : (dig p.natAbs).length ≤ L) (h4 : (dig q.natAbs).length ≤ L) :
    (dig (x * p - y * q).natAbs).length ≤ 2 * L + 1 ∧ (dig (x * q + y * p).natAbs).length ≤ 2 * L + 1 := by
  have bd : ∀ z : Int, (dig z.natAbs).length ≤ L → -(pw L : Int) ≤ z ∧ z ≤ (pw L : Int) := by
    intro z hz
    have := Nat.lt_of_lt_of_le (lt_pw_dig z.natAbs) (pw_mono hz)
    omega
  have b1 := abs_mul_le (bd _ h1) (bd _ h3)
  have b2 := abs_mul_le (bd _ h2) (bd _ h4)
  have b3 := abs_mul_le (bd _ h1) (bd _ h4)
  have b4 := abs_mul_le (bd _ h2) (bd _ h3)
  have hp : 0 < (pw L : Int) * (pw L : Int) := by have := pw_pos L; exact Int.mul_pos (by omega) (by omega)
  have hpw : ((pw (2 * L + 1) : Nat) : Int) = (pw L : Int) * (pw L : Int) * 4294967296 := by
    rw [show 2 * L + 1 = L + L + 1 by omega, pw_add, pw_add]; push_cast; rfl
  exact ⟨dig_length_le (by omega), dig_length_le (by omega)⟩
end Go.Proofs.YtgjainmfilkjmaaDoor

