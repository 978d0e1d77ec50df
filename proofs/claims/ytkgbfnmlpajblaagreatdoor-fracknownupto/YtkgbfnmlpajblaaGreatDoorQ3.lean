/- frac: Add, Sub, Mul, Quo. -/
import Derived.Test.YtkgbfnmlpajblaaGreatDoorWkToQ2
namespace Go.Proofs.YtkgbfnmlpajblaaGreatDoor
open Go Go.RowKit Dig
set_option linter.unusedVariables false

def opAdd (x y : Int) : Int := x + y
section
variable {w : World} {pa pb : Nat} {n1 n2 n3 n4 : Bool} {o1 o2 o3 o4 : Option Addr} {k1 k2 k3 k4 c1 c2 c3 c4 : Nat} {x y u v : Int} {l m k n : Nat}

set_option maxHeartbeats 4000000 in
set_option maxRecDepth 20000 in
theorem fAdd_c (hxa : Bs w pa #[.bool n1, .slice o1 k1 c1, .bool n2, .slice o2 k2 c2] 26) (hxb : Bs w pb #[.bool n3, .slice o3 k3 c3, .bool n4, .slice o4 k4 c4] 26)
    (h1 : ZN w (.agg #[.bool n1, .slice o1 k1 c1]) x l) (h2 : ZN w (.agg #[.bool n2, .slice o2 k2 c2]) y m) (h3 : ZN w (.agg #[.bool n3, .slice o3 k3 c3]) u k) (h4 : ZN w (.agg #[.bool n4, .slice o4 k4 c4]) v n)
    (hl : l ≤ 10000000) (hm : m ≤ 10000000) (hk : k ≤ 10000000) (hn : n ≤ 10000000) :
    Calls Tryz.prog 80 #[.pointer (some ⟨pa, 0, none⟩), .pointer (some ⟨pb, 0, none⟩)] w fun e w' => ∃ v1 v2, e = .returned (.tuple #[v1, v2]) ∧ ZC w' v1 (opAdd (x * v) (u * y)) ∧ ZC w' v2 (y * v) ∧ Below w.heap.size w w' := by
  unfold opAdd
  go_enter Tryz.func80, Tryz.ntmps80
  have hb := Below.refl w.heap.size w
  refine wp_seq_k ?_
  intro K1 hK1
  refine wp_region_sq [0, 1] (by kernel_rfl) ?_
  refine wpSq_call rfl (by kernel_rfl) fun K hK => ?_
  go_big_op
  have lt_xa := hxa.lt
  have lt_xb := hxb.lt
  obtain ⟨p_b1, w_1, eP, eW, x_b1, hn, kb_b1⟩ := newBox w #[.bool false, .slice none 0 0] 24 hb.size
  have ne_xa_b1 : Hid (pa ≠ p_b1) := Nat.ne_of_lt (eP ▸ lt_xa)
  have ne_xb_b1 : Hid (pb ≠ p_b1) := Nat.ne_of_lt (eP ▸ lt_xb)
  rw [eW, eP]
  clear eW eP lt_xa lt_xb
  replace hxa := hxa.bl hn; replace h1 := h1.bl hn; replace h2 := h2.bl hn; replace hxb := hxb.bl hn; replace h3 := h3.bl hn; replace h4 := h4.bl hn; replace hb := hb.trans (hn.mono hb.size)
  refine hK _ _ rfl ?_; clear hK K hn
  refine wpSq_call rfl (by kernel_rfl) fun K hK => ?_
  go_big_op
  have lt_xa := hxa.lt
  have lt_xb := hxb.lt
  have lt_b1 := x_b1.lt
  obtain ⟨p_b2, w_2, eP, eW, x_b2, hn, kb_b2⟩ := newBox w_1 #[.bool false, .slice none 0 0] 24 hb.size
  have ne_xa_b2 : Hid (pa ≠ p_b2) := Nat.ne_of_lt (eP ▸ lt_xa)
  have ne_xb_b2 : Hid (pb ≠ p_b2) := Nat.ne_of_lt (eP ▸ lt_xb)
  have ne_b1_b2 : Hid (p_b1 ≠ p_b2) := Nat.ne_of_lt (eP ▸ lt_b1)
  rw [eW, eP]
  clear eW eP lt_xa lt_xb lt_b1
  replace hxa := hxa.bl hn; replace h1 := h1.bl hn; replace h2 := h2.bl hn; replace hxb := hxb.bl hn; replace h3 := h3.bl hn; replace h4 := h4.bl hn; replace x_b1 := x_b1.bl hn; replace hb := hb.trans (hn.mono hb.size)
  refine hK _ _ rfl ?_; clear hK K hn
  apply wpSq_end
  refine hK1 _ _ ?_
  refine wp_seq_k ?_
  intro K2 hK2
  refine wp_region_sq [0, 1, 2, 3, 4, 5, 6, 7, 8, 9] (by kernel_rfl) ?_
  refine wpSq_call rfl (by kernel_rfl) fun K hK => ?_
  obtain ⟨d0, d1, d2, d3⟩ := hxa.f4
  go_big_op; refine hK _ _ rfl ?_; clear hK K d0 d1 d2 d3
  refine wpSq_call rfl (by kernel_rfl) fun K hK => ?_
  obtain ⟨d0, d1, d2, d3⟩ := hxb.f4
  go_big_op; refine hK _ _ rfl ?_; clear hK K d0 d1 d2 d3
  refine wpSq_call rfl (by kernel_rfl) fun K hK => ?_
  go_big_op
  go_fit (over_any (PN.mk' h1 h2) (PN.mk' h3 h4) (by omega) (by omega) (by omega) (by omega) )
  rintro e w_3 ⟨v_g1, v_g2, rfl, g1, g2, hb_3⟩
  replace hxa := hxa.bl hb_3; replace h1 := h1.bl hb_3; replace h2 := h2.bl hb_3; replace hxb := hxb.bl hb_3; replace h3 := h3.bl hb_3; replace h4 := h4.bl hb_3; replace x_b1 := x_b1.bl hb_3; replace x_b2 := x_b2.bl hb_3; replace hb := hb.trans (hb_3.mono hb.size)
  obtain ⟨n_g1, o_g1, k_g1, c_g1, rfl⟩ := g1.open2
  obtain ⟨n_g2, o_g2, k_g2, c_g2, rfl⟩ := g2.open2
  have Lg1 := hide (g1.lenOf (zlen_mul (h1.len) (h4.len)))
  have Lg2 := hide (g2.lenOf (zlen_mul (h3.len) (h2.len)))
  refine hK _ _ rfl ?_
  clear hK K hb_3
  refine wpSq_call rfl (by kernel_rfl) fun K hK => ?_
  go_big_move; refine hK _ _ rfl ?_; clear hK K
  refine wpSq_call rfl (by kernel_rfl) fun K hK => ?_
  go_big_op; refine hK _ _ rfl ?_; clear hK K
  refine wpSq_call rfl (by kernel_rfl) fun K hK => ?_
  go_big_op; refine hK _ _ rfl ?_; clear hK K
  refine wpSq_call rfl (by kernel_rfl) fun K hK => ?_
  go_big_op
  have lt_xa := hxa.lt
  have lt_xb := hxb.lt
  have lt_b1 := x_b1.lt
  have lt_b2 := x_b2.lt
  obtain ⟨p_b3, w_4, eP, eW, x_b3, hn, kb_b3⟩ := newBox w_3 #[.bool false, .slice none 0 0] 24 hb.size
  have ne_xa_b3 : Hid (pa ≠ p_b3) := Nat.ne_of_lt (eP ▸ lt_xa)
  have ne_xb_b3 : Hid (pb ≠ p_b3) := Nat.ne_of_lt (eP ▸ lt_xb)
  have ne_b1_b3 : Hid (p_b1 ≠ p_b3) := Nat.ne_of_lt (eP ▸ lt_b1)
  have ne_b2_b3 : Hid (p_b2 ≠ p_b3) := Nat.ne_of_lt (eP ▸ lt_b2)
  rw [eW, eP]
  clear eW eP lt_xa lt_xb lt_b1 lt_b2
  replace hxa := hxa.bl hn; replace h1 := h1.bl hn; replace h2 := h2.bl hn; replace hxb := hxb.bl hn; replace h3 := h3.bl hn; replace h4 := h4.bl hn; replace x_b1 := x_b1.bl hn; replace x_b2 := x_b2.bl hn; replace g1 := g1.bl hn; replace g2 := g2.bl hn; replace hb := hb.trans (hn.mono hb.size)
  refine hK _ _ rfl ?_; clear hK K hn
  refine wpSq_call rfl (by kernel_rfl) fun K hK => ?_
  go_big_op
  have lt_xa := hxa.lt
  have lt_xb := hxb.lt
  have lt_b1 := x_b1.lt
  have lt_b2 := x_b2.lt
  have lt_b3 := x_b3.lt
  obtain ⟨p_b4, w_5, eP, eW, x_b4, hn, kb_b4⟩ := newBox w_4 #[.bool false, .slice none 0 0] 24 hb.size
  have ne_xa_b4 : Hid (pa ≠ p_b4) := Nat.ne_of_lt (eP ▸ lt_xa)
  have ne_xb_b4 : Hid (pb ≠ p_b4) := Nat.ne_of_lt (eP ▸ lt_xb)
  have ne_b1_b4 : Hid (p_b1 ≠ p_b4) := Nat.ne_of_lt (eP ▸ lt_b1)
  have ne_b2_b4 : Hid (p_b2 ≠ p_b4) := Nat.ne_of_lt (eP ▸ lt_b2)
  have ne_b3_b4 : Hid (p_b3 ≠ p_b4) := Nat.ne_of_lt (eP ▸ lt_b3)
  rw [eW, eP]
  clear eW eP lt_xa lt_xb lt_b1 lt_b2 lt_b3
  replace hxa := hxa.bl hn; replace h1 := h1.bl hn; replace h2 := h2.bl hn; replace hxb := hxb.bl hn; replace h3 := h3.bl hn; replace h4 := h4.bl hn; replace x_b1 := x_b1.bl hn; replace x_b2 := x_b2.bl hn; replace g1 := g1.bl hn; replace g2 := g2.bl hn; replace x_b3 := x_b3.bl hn; replace hb := hb.trans (hn.mono hb.size)
  refine hK _ _ rfl ?_; clear hK K hn
  refine wpSq_call rfl (by kernel_rfl) fun K hK => ?_
  obtain ⟨d0, d1⟩ := x_b3.f2
  have f0 := x_b3.free 0; have f1 := x_b3.free 1
  go_big_op
  have hnd := x_b3.nod rfl rfl
  obtain ⟨w_6, eW, x_b3', ho⟩ : ∃ w', ((w_5.setCell ⟨p_b3, 0, none⟩ (.bool n_g1)).setCell ⟨p_b3, 1, none⟩ (.slice o_g1 k_g1 c_g1)) = w' ∧ Bs w' p_b3 #[.bool n_g1, .slice o_g1 k_g1 c_g1] 24 ∧ Only p_b3 w_5 w' := x_b3.setN [(0, .bool n_g1), (1, .slice o_g1 k_g1 c_g1)]
  rw [eW]; clear eW d0 d1 f0 f1 x_b3
  have x_b3 := x_b3'; clear x_b3'
  replace hxa := hxa.frame ho ne_xa_b3; replace h1 := h1.fr hnd ho; replace h2 := h2.fr hnd ho; replace hxb := hxb.frame ho ne_xb_b3; replace h3 := h3.fr hnd ho; replace h4 := h4.fr hnd ho; replace x_b1 := x_b1.frame ho ne_b1_b3; replace x_b2 := x_b2.frame ho ne_b2_b3; replace g1 := g1.fr hnd ho; replace g2 := g2.fr hnd ho; replace x_b4 := x_b4.frame ho ne_b3_b4.symm; replace hb := belowOnly hb ho kb_b3
  refine hK _ _ rfl ?_; clear hK K ho hnd
  refine wpSq_call rfl (by kernel_rfl) fun K hK => ?_
  obtain ⟨d0, d1⟩ := x_b4.f2
  have f0 := x_b4.free 0; have f1 := x_b4.free 1
  go_big_op
  have hnd := x_b4.nod rfl rfl
  obtain ⟨w_7, eW, x_b4', ho⟩ : ∃ w', ((w_6.setCell ⟨p_b4, 0, none⟩ (.bool n_g2)).setCell ⟨p_b4, 1, none⟩ (.slice o_g2 k_g2 c_g2)) = w' ∧ Bs w' p_b4 #[.bool n_g2, .slice o_g2 k_g2 c_g2] 24 ∧ Only p_b4 w_6 w' := x_b4.setN [(0, .bool n_g2), (1, .slice o_g2 k_g2 c_g2)]
  rw [eW]; clear eW d0 d1 f0 f1 x_b4
  have x_b4 := x_b4'; clear x_b4'
  replace hxa := hxa.frame ho ne_xa_b4; replace h1 := h1.fr hnd ho; replace h2 := h2.fr hnd ho; replace hxb := hxb.frame ho ne_xb_b4; replace h3 := h3.fr hnd ho; replace h4 := h4.fr hnd ho; replace x_b1 := x_b1.frame ho ne_b1_b4; replace x_b2 := x_b2.frame ho ne_b2_b4; replace g1 := g1.fr hnd ho; replace g2 := g2.fr hnd ho; replace x_b3 := x_b3.frame ho ne_b3_b4; replace hb := belowOnly hb ho kb_b4
  refine hK _ _ rfl ?_; clear hK K ho hnd
  apply wpSq_end
  refine hK2 _ _ ?_
  refine wp_seq_k ?_
  intro K3 hK3
  refine wp_region_fl2 [(0, false), (1, false), (3, false), (4, false), (5, false), (6, false), (2, true), (7, true)] [8, 9] [] (fun _ => default) [0, 1, 99, 99, 2, 99, 3, 99, 99, 99] [] (fun w' => w'.cell? ⟨p_b3, 0, none⟩ = some (.bool n_g1) ∧ w'.cell? ⟨p_b3, 1, none⟩ = some (.slice o_g1 k_g1 c_g1) ∧ w'.cell? ⟨p_b4, 0, none⟩ = some (.bool n_g2) ∧ w'.cell? ⟨p_b4, 1, none⟩ = some (.slice o_g2 k_g2 c_g2) ∧ w'.cell? ⟨pa, 0, none⟩ = some (.bool n1) ∧ w'.cell? ⟨pa, 1, none⟩ = some (.slice o1 k1 c1) ∧ w'.cell? ⟨pa, 2, none⟩ = some (.bool n2) ∧ w'.cell? ⟨pa, 3, none⟩ = some (.slice o2 k2 c2) ∧ w'.cell? ⟨pb, 0, none⟩ = some (.bool n3) ∧ w'.cell? ⟨pb, 1, none⟩ = some (.slice o3 k3 c3) ∧ w'.cell? ⟨pb, 2, none⟩ = some (.bool n4) ∧ w'.cell? ⟨pb, 3, none⟩ = some (.slice o4 k4 c4)) [fun w' => w'.cell? ⟨p_b3, 0, none⟩ = some (.bool n_g1) ∧ w'.cell? ⟨p_b3, 1, none⟩ = some (.slice o_g1 k_g1 c_g1), fun w' => w'.cell? ⟨p_b4, 0, none⟩ = some (.bool n_g2) ∧ w'.cell? ⟨p_b4, 1, none⟩ = some (.slice o_g2 k_g2 c_g2), fun w' => w'.cell? ⟨pa, 0, none⟩ = some (.bool n1) ∧ w'.cell? ⟨pa, 1, none⟩ = some (.slice o1 k1 c1) ∧ w'.cell? ⟨pa, 2, none⟩ = some (.bool n2) ∧ w'.cell? ⟨pa, 3, none⟩ = some (.slice o2 k2 c2), fun w' => w'.cell? ⟨pb, 0, none⟩ = some (.bool n3) ∧ w'.cell? ⟨pb, 1, none⟩ = some (.slice o3 k3 c3) ∧ w'.cell? ⟨pb, 2, none⟩ = some (.bool n4) ∧ w'.cell? ⟨pb, 3, none⟩ = some (.slice o4 k4 c4)] (by kernel_rfl) (by kernel_rfl) (by kernel_rfl) (by kernel_rfl) (by kernel_rfl) (by kernel_rfl) (by kernel_rfl) (by kernel_rfl) (by decide) (by intro j hj; cases hj) (by intro w' o hC; obtain ⟨c0, c1, c2, c3, c4, c5, c6, c7, c8, c9, c10, c11⟩ := hC; exact ⟨cell_alloc c0 o, cell_alloc c1 o, cell_alloc c2 o, cell_alloc c3 o, cell_alloc c4 o, cell_alloc c5 o, cell_alloc c6 o, cell_alloc c7 o, cell_alloc c8 o, cell_alloc c9 o, cell_alloc c10 o, cell_alloc c11 o⟩) (by intro w' hC G hG; obtain ⟨c0, c1, c2, c3, c4, c5, c6, c7, c8, c9, c10, c11⟩ := hC; simp only [List.mem_cons, List.not_mem_nil, or_false] at hG; rcases hG with rfl | rfl | rfl | rfl <;> first | exact ⟨c0, c1⟩ | exact ⟨c2, c3⟩ | exact ⟨c4, c5, c6, c7⟩ | exact ⟨c8, c9, c10, c11⟩) ?_
  have lt_xa := hxa.lt
  have lt_xb := hxb.lt
  have lt_b1 := x_b1.lt
  have lt_b2 := x_b2.lt
  have lt_b3 := x_b3.lt
  have lt_b4 := x_b4.lt
  intro w_8 hn
  replace lt_xa := Nat.lt_of_lt_of_le lt_xa hn.size
  replace lt_xb := Nat.lt_of_lt_of_le lt_xb hn.size
  replace lt_b1 := Nat.lt_of_lt_of_le lt_b1 hn.size
  replace lt_b2 := Nat.lt_of_lt_of_le lt_b2 hn.size
  replace lt_b3 := Nat.lt_of_lt_of_le lt_b3 hn.size
  replace lt_b4 := Nat.lt_of_lt_of_le lt_b4 hn.size
  replace hxa := hxa.bl hn; replace h1 := h1.bl hn; replace h2 := h2.bl hn; replace hxb := hxb.bl hn; replace h3 := h3.bl hn; replace h4 := h4.bl hn; replace x_b1 := x_b1.bl hn; replace x_b2 := x_b2.bl hn; replace g1 := g1.bl hn; replace g2 := g2.bl hn; replace x_b3 := x_b3.bl hn; replace x_b4 := x_b4.bl hn; replace hb := hb.trans (hn.mono hb.size)
  clear hn
  have kb0 := hb.size
  refine ⟨⟨x_b3.cell 0 rfl, x_b3.cell 1 rfl, x_b4.cell 0 rfl, x_b4.cell 1 rfl, hxa.cell 0 rfl, hxa.cell 1 rfl, hxa.cell 2 rfl, hxa.cell 3 rfl, hxb.cell 0 rfl, hxb.cell 1 rfl, hxb.cell 2 rfl, hxb.cell 3 rfl⟩, ?_⟩
  apply wpFl_ld rfl rfl; (case h1 => intro w' hC K hK; obtain ⟨c0, c1⟩ := hC; go_big_op; exact hK); iterate 4 kernel_rfl
  apply wpFl_ld rfl rfl; (case h1 => intro w' hC K hK; obtain ⟨c0, c1⟩ := hC; go_big_op; exact hK); iterate 4 kernel_rfl
  apply wpFl_ld rfl rfl; (case h1 => intro w' hC K hK; go_big_op; exact hK); iterate 4 kernel_rfl
  apply wpFl_ld rfl rfl; (case h1 => intro w' hC K hK; obtain ⟨c0, c1, c2, c3⟩ := hC; go_big_op; exact hK); iterate 4 kernel_rfl
  apply wpFl_ld rfl rfl; (case h1 => intro w' hC K hK; go_big_op; exact hK); iterate 4 kernel_rfl
  apply wpFl_ld rfl rfl; (case h1 => intro w' hC K hK; obtain ⟨c0, c1, c2, c3⟩ := hC; go_big_op; exact hK); iterate 4 kernel_rfl
  refine wpFl_call rfl (by kernel_rfl) fun w_9 hn hC => ?_; clear hC
  replace hxa := hxa.bl hn; replace h1 := h1.bl hn; replace h2 := h2.bl hn; replace hxb := hxb.bl hn; replace h3 := h3.bl hn; replace h4 := h4.bl hn; replace x_b1 := x_b1.bl hn; replace x_b2 := x_b2.bl hn; replace g1 := g1.bl hn; replace g2 := g2.bl hn; replace x_b3 := x_b3.bl hn; replace x_b4 := x_b4.bl hn; replace hb := hb.trans (hn.mono hb.size)
  clear hn; intro K hK
  go_big_op
  go_fit (zfAdd_any (g1.zn Lg1.out) (g2.zn Lg2.out) (by omega) (by omega) )
  rintro e w_10 ⟨v_g3, rfl, g3, hb_10⟩
  replace hxa := hxa.bl hb_10; replace h1 := h1.bl hb_10; replace h2 := h2.bl hb_10; replace hxb := hxb.bl hb_10; replace h3 := h3.bl hb_10; replace h4 := h4.bl hb_10; replace x_b1 := x_b1.bl hb_10; replace x_b2 := x_b2.bl hb_10; replace g1 := g1.bl hb_10; replace g2 := g2.bl hb_10; replace x_b3 := x_b3.bl hb_10; replace x_b4 := x_b4.bl hb_10; replace hb := hb.trans (hb_10.mono hb.size)
  replace g3 := g3.rd
  obtain ⟨n_g3, o_g3, k_g3, c_g3, rfl⟩ := g3.open2
  have Lg3 := hide (g3.lenOf (zlen_add (Lg1.out) (Lg2.out)))
  refine hK _ _ rfl hb_10 ⟨x_b3.cell 0 rfl, x_b3.cell 1 rfl, x_b4.cell 0 rfl, x_b4.cell 1 rfl, hxa.cell 0 rfl, hxa.cell 1 rfl, hxa.cell 2 rfl, hxa.cell 3 rfl, hxb.cell 0 rfl, hxb.cell 1 rfl, hxb.cell 2 rfl, hxb.cell 3 rfl⟩ ?_
  clear hK K hb_10
  refine wpFl_call rfl (by kernel_rfl) fun w_11 hn hC => ?_; clear hC
  replace hxa := hxa.bl hn; replace h1 := h1.bl hn; replace h2 := h2.bl hn; replace hxb := hxb.bl hn; replace h3 := h3.bl hn; replace h4 := h4.bl hn; replace x_b1 := x_b1.bl hn; replace x_b2 := x_b2.bl hn; replace g1 := g1.bl hn; replace g2 := g2.bl hn; replace x_b3 := x_b3.bl hn; replace x_b4 := x_b4.bl hn; replace g3 := g3.bl hn; replace hb := hb.trans (hn.mono hb.size)
  clear hn; intro K hK
  go_big_op
  go_fit (zmul_any h2 h4 (by omega) (by omega) )
  rintro e w_12 ⟨v_g4, rfl, g4, hb_12⟩
  replace hxa := hxa.bl hb_12; replace h1 := h1.bl hb_12; replace h2 := h2.bl hb_12; replace hxb := hxb.bl hb_12; replace h3 := h3.bl hb_12; replace h4 := h4.bl hb_12; replace x_b1 := x_b1.bl hb_12; replace x_b2 := x_b2.bl hb_12; replace g1 := g1.bl hb_12; replace g2 := g2.bl hb_12; replace x_b3 := x_b3.bl hb_12; replace x_b4 := x_b4.bl hb_12; replace g3 := g3.bl hb_12; replace hb := hb.trans (hb_12.mono hb.size)
  replace g4 := g4.rd
  obtain ⟨n_g4, o_g4, k_g4, c_g4, rfl⟩ := g4.open2
  have Lg4 := hide (g4.lenOf (zlen_mul (h2.len) (h4.len)))
  refine hK _ _ rfl hb_12 ⟨x_b3.cell 0 rfl, x_b3.cell 1 rfl, x_b4.cell 0 rfl, x_b4.cell 1 rfl, hxa.cell 0 rfl, hxa.cell 1 rfl, hxa.cell 2 rfl, hxa.cell 3 rfl, hxb.cell 0 rfl, hxb.cell 1 rfl, hxb.cell 2 rfl, hxb.cell 3 rfl⟩ ?_
  clear hK K hb_12
  apply wpFl_end
  case ha => intro pt; simp only [putF]; rfl
  case h =>
  intro w_13 pt hn hC hF hD
  clear hC
  replace hxa := hxa.bl hn; replace h1 := h1.bl hn; replace h2 := h2.bl hn; replace hxb := hxb.bl hn; replace h3 := h3.bl hn; replace h4 := h4.bl hn; replace x_b1 := x_b1.bl hn; replace x_b2 := x_b2.bl hn; replace g1 := g1.bl hn; replace g2 := g2.bl hn; replace x_b3 := x_b3.bl hn; replace x_b4 := x_b4.bl hn; replace g3 := g3.bl hn; replace g4 := g4.bl hn; replace hb := hb.trans (hn.mono hb.size)
  clear hn
  clear hF hD
  clear pt
  clear kb0 lt_xa lt_xb lt_b1 lt_b2 lt_b3 lt_b4
  refine wpTail_call rfl (by kernel_rfl) fun K hK => ?_
  obtain ⟨d0, d1⟩ := x_b1.f2
  have f0 := x_b1.free 0; have f1 := x_b1.free 1
  go_big_op
  have hnd := x_b1.nod rfl rfl
  obtain ⟨w_14, eW, x_b1', ho⟩ : ∃ w', ((w_13.setCell ⟨p_b1, 0, none⟩ (.bool n_g3)).setCell ⟨p_b1, 1, none⟩ (.slice o_g3 k_g3 c_g3)) = w' ∧ Bs w' p_b1 #[.bool n_g3, .slice o_g3 k_g3 c_g3] 24 ∧ Only p_b1 w_13 w' := x_b1.setN [(0, .bool n_g3), (1, .slice o_g3 k_g3 c_g3)]
  rw [eW]; clear eW d0 d1 f0 f1 x_b1
  have x_b1 := x_b1'; clear x_b1'
  replace hxa := hxa.frame ho ne_xa_b1; replace h1 := h1.fr hnd ho; replace h2 := h2.fr hnd ho; replace hxb := hxb.frame ho ne_xb_b1; replace h3 := h3.fr hnd ho; replace h4 := h4.fr hnd ho; replace x_b2 := x_b2.frame ho ne_b1_b2.symm; replace g1 := g1.fr hnd ho; replace g2 := g2.fr hnd ho; replace x_b3 := x_b3.frame ho ne_b1_b3.symm; replace x_b4 := x_b4.frame ho ne_b1_b4.symm; replace g3 := g3.fr hnd ho; replace g4 := g4.fr hnd ho; replace hb := belowOnly hb ho kb_b1
  refine hK _ _ rfl (And.intro ⟨x_b3.cell 0 rfl, x_b3.cell 1 rfl⟩ (And.intro ⟨x_b4.cell 0 rfl, x_b4.cell 1 rfl⟩ (And.intro ⟨hxa.cell 0 rfl, hxa.cell 1 rfl, hxa.cell 2 rfl, hxa.cell 3 rfl⟩ (And.intro ⟨hxb.cell 0 rfl, hxb.cell 1 rfl, hxb.cell 2 rfl, hxb.cell 3 rfl⟩ True.intro)))) ?_; clear hK K ho hnd
  refine wpTail_call rfl (by kernel_rfl) fun K hK => ?_
  obtain ⟨d0, d1⟩ := x_b2.f2
  have f0 := x_b2.free 0; have f1 := x_b2.free 1
  go_big_op
  have hnd := x_b2.nod rfl rfl
  obtain ⟨w_15, eW, x_b2', ho⟩ : ∃ w', ((w_14.setCell ⟨p_b2, 0, none⟩ (.bool n_g4)).setCell ⟨p_b2, 1, none⟩ (.slice o_g4 k_g4 c_g4)) = w' ∧ Bs w' p_b2 #[.bool n_g4, .slice o_g4 k_g4 c_g4] 24 ∧ Only p_b2 w_14 w' := x_b2.setN [(0, .bool n_g4), (1, .slice o_g4 k_g4 c_g4)]
  rw [eW]; clear eW d0 d1 f0 f1 x_b2
  have x_b2 := x_b2'; clear x_b2'
  replace hxa := hxa.frame ho ne_xa_b2; replace h1 := h1.fr hnd ho; replace h2 := h2.fr hnd ho; replace hxb := hxb.frame ho ne_xb_b2; replace h3 := h3.fr hnd ho; replace h4 := h4.fr hnd ho; replace x_b1 := x_b1.frame ho ne_b1_b2; replace g1 := g1.fr hnd ho; replace g2 := g2.fr hnd ho; replace x_b3 := x_b3.frame ho ne_b2_b3.symm; replace x_b4 := x_b4.frame ho ne_b2_b4.symm; replace g3 := g3.fr hnd ho; replace g4 := g4.fr hnd ho; replace hb := belowOnly hb ho kb_b2
  refine hK _ _ rfl (And.intro ⟨x_b3.cell 0 rfl, x_b3.cell 1 rfl⟩ (And.intro ⟨x_b4.cell 0 rfl, x_b4.cell 1 rfl⟩ (And.intro ⟨hxa.cell 0 rfl, hxa.cell 1 rfl, hxa.cell 2 rfl, hxa.cell 3 rfl⟩ (And.intro ⟨hxb.cell 0 rfl, hxb.cell 1 rfl, hxb.cell 2 rfl, hxb.cell 3 rfl⟩ True.intro)))) ?_; clear hK K ho hnd
  apply wpTail_end
  refine hK3 _ _ ?_
  refine wp_ret ?_
  try dsimp only [Exit.then, Exit.inBlock]
  obtain ⟨r0_0, r0_1⟩ := x_b1.f2
  obtain ⟨r2_0, r2_1⟩ := x_b2.f2
  refine bodyPost_ret (v := (.tuple #[(.agg #[.bool n_g3, .slice o_g3 k_g3 c_g3]), (.agg #[.bool n_g4, .slice o_g4 k_g4 c_g4])])) (by simp [results, Tryz.results80, go_sem, r0_0, r0_1, r2_0, r2_1]) rfl ?_
  exact ⟨_, _, rfl, g3, g4, hb⟩
set_option maxHeartbeats 4000000 in
set_option maxRecDepth 20000 in
theorem fQuo_c (hxa : Bs w pa #[.bool n1, .slice o1 k1 c1, .bool n2, .slice o2 k2 c2] 26) (hxb : Bs w pb #[.bool n3, .slice o3 k3 c3, .bool n4, .slice o4 k4 c4] 26)
    (h1 : ZN w (.agg #[.bool n1, .slice o1 k1 c1]) x l) (h2 : ZN w (.agg #[.bool n2, .slice o2 k2 c2]) y m) (h3 : ZN w (.agg #[.bool n3, .slice o3 k3 c3]) u k) (h4 : ZN w (.agg #[.bool n4, .slice o4 k4 c4]) v n)
    (hl : l ≤ 10000000) (hm : m ≤ 10000000) (hk : k ≤ 10000000) (hn : n ≤ 10000000) :
    Calls Tryz.prog 64 #[.pointer (some ⟨pa, 0, none⟩), .pointer (some ⟨pb, 0, none⟩)] w fun e w' => ∃ v1 v2, e = .returned (.tuple #[v1, v2]) ∧ ZC w' v1 (x * v) ∧ ZC w' v2 (u * y) ∧ Below w.heap.size w w' := by
  go_enter Tryz.func64, Tryz.ntmps64
  have hb := Below.refl w.heap.size w
  refine wp_seq_k ?_
  intro K1 hK1
  refine wp_region_sq [0, 1] (by kernel_rfl) ?_
  refine wpSq_call rfl (by kernel_rfl) fun K hK => ?_
  go_big_op
  have lt_xa := hxa.lt
  have lt_xb := hxb.lt
  obtain ⟨p_b1, w_1, eP, eW, x_b1, hn, kb_b1⟩ := newBox w #[.bool false, .slice none 0 0] 24 hb.size
  have ne_xa_b1 : Hid (pa ≠ p_b1) := Nat.ne_of_lt (eP ▸ lt_xa)
  have ne_xb_b1 : Hid (pb ≠ p_b1) := Nat.ne_of_lt (eP ▸ lt_xb)
  rw [eW, eP]
  clear eW eP lt_xa lt_xb
  replace hxa := hxa.bl hn; replace h1 := h1.bl hn; replace h2 := h2.bl hn; replace hxb := hxb.bl hn; replace h3 := h3.bl hn; replace h4 := h4.bl hn; replace hb := hb.trans (hn.mono hb.size)
  refine hK _ _ rfl ?_; clear hK K hn
  refine wpSq_call rfl (by kernel_rfl) fun K hK => ?_
  go_big_op
  have lt_xa := hxa.lt
  have lt_xb := hxb.lt
  have lt_b1 := x_b1.lt
  obtain ⟨p_b2, w_2, eP, eW, x_b2, hn, kb_b2⟩ := newBox w_1 #[.bool false, .slice none 0 0] 24 hb.size
  have ne_xa_b2 : Hid (pa ≠ p_b2) := Nat.ne_of_lt (eP ▸ lt_xa)
  have ne_xb_b2 : Hid (pb ≠ p_b2) := Nat.ne_of_lt (eP ▸ lt_xb)
  have ne_b1_b2 : Hid (p_b1 ≠ p_b2) := Nat.ne_of_lt (eP ▸ lt_b1)
  rw [eW, eP]
  clear eW eP lt_xa lt_xb lt_b1
  replace hxa := hxa.bl hn; replace h1 := h1.bl hn; replace h2 := h2.bl hn; replace hxb := hxb.bl hn; replace h3 := h3.bl hn; replace h4 := h4.bl hn; replace x_b1 := x_b1.bl hn; replace hb := hb.trans (hn.mono hb.size)
  refine hK _ _ rfl ?_; clear hK K hn
  apply wpSq_end
  refine hK1 _ _ ?_
  refine wp_seq_k ?_
  intro K2 hK2
  refine wp_region_sq [0, 1, 2, 3, 4, 5, 6] (by kernel_rfl) ?_
  refine wpSq_call rfl (by kernel_rfl) fun K hK => ?_
  obtain ⟨d0, d1, d2, d3⟩ := hxa.f4
  go_big_op; refine hK _ _ rfl ?_; clear hK K d0 d1 d2 d3
  refine wpSq_call rfl (by kernel_rfl) fun K hK => ?_
  obtain ⟨d0, d1, d2, d3⟩ := hxb.f4
  go_big_op; refine hK _ _ rfl ?_; clear hK K d0 d1 d2 d3
  refine wpSq_call rfl (by kernel_rfl) fun K hK => ?_
  go_big_op
  go_fit (over_any (PN.mk' h1 h2) (PN.mk' h3 h4) (by omega) (by omega) (by omega) (by omega) )
  rintro e w_3 ⟨v_g1, v_g2, rfl, g1, g2, hb_3⟩
  clear hxa hxb
  replace h1 := h1.bl hb_3; replace h2 := h2.bl hb_3; replace h3 := h3.bl hb_3; replace h4 := h4.bl hb_3; replace x_b1 := x_b1.bl hb_3; replace x_b2 := x_b2.bl hb_3; replace hb := hb.trans (hb_3.mono hb.size)
  obtain ⟨n_g1, o_g1, k_g1, c_g1, rfl⟩ := g1.open2
  obtain ⟨n_g2, o_g2, k_g2, c_g2, rfl⟩ := g2.open2
  have Lg1 := hide (g1.lenOf (zlen_mul (h1.len) (h4.len)))
  have Lg2 := hide (g2.lenOf (zlen_mul (h3.len) (h2.len)))
  refine hK _ _ rfl ?_
  clear hK K hb_3
  refine wpSq_call rfl (by kernel_rfl) fun K hK => ?_
  go_big_op; refine hK _ _ rfl ?_; clear hK K
  refine wpSq_call rfl (by kernel_rfl) fun K hK => ?_
  go_big_op; refine hK _ _ rfl ?_; clear hK K
  refine wpSq_call rfl (by kernel_rfl) fun K hK => ?_
  obtain ⟨d0, d1⟩ := x_b1.f2
  have f0 := x_b1.free 0; have f1 := x_b1.free 1
  go_big_op
  have hnd := x_b1.nod rfl rfl
  obtain ⟨w_4, eW, x_b1', ho⟩ : ∃ w', ((w_3.setCell ⟨p_b1, 0, none⟩ (.bool n_g1)).setCell ⟨p_b1, 1, none⟩ (.slice o_g1 k_g1 c_g1)) = w' ∧ Bs w' p_b1 #[.bool n_g1, .slice o_g1 k_g1 c_g1] 24 ∧ Only p_b1 w_3 w' := x_b1.setN [(0, .bool n_g1), (1, .slice o_g1 k_g1 c_g1)]
  rw [eW]; clear eW d0 d1 f0 f1 x_b1
  have x_b1 := x_b1'; clear x_b1'
  clear h1 h2 h3 h4
  replace x_b2 := x_b2.frame ho ne_b1_b2.symm; replace g1 := g1.fr hnd ho; replace g2 := g2.fr hnd ho; replace hb := belowOnly hb ho kb_b1
  refine hK _ _ rfl ?_; clear hK K ho hnd
  refine wpSq_call rfl (by kernel_rfl) fun K hK => ?_
  obtain ⟨d0, d1⟩ := x_b2.f2
  have f0 := x_b2.free 0; have f1 := x_b2.free 1
  go_big_op
  have hnd := x_b2.nod rfl rfl
  obtain ⟨w_5, eW, x_b2', ho⟩ : ∃ w', ((w_4.setCell ⟨p_b2, 0, none⟩ (.bool n_g2)).setCell ⟨p_b2, 1, none⟩ (.slice o_g2 k_g2 c_g2)) = w' ∧ Bs w' p_b2 #[.bool n_g2, .slice o_g2 k_g2 c_g2] 24 ∧ Only p_b2 w_4 w' := x_b2.setN [(0, .bool n_g2), (1, .slice o_g2 k_g2 c_g2)]
  rw [eW]; clear eW d0 d1 f0 f1 x_b2
  have x_b2 := x_b2'; clear x_b2'
  replace x_b1 := x_b1.frame ho ne_b1_b2; replace g1 := g1.fr hnd ho; replace g2 := g2.fr hnd ho; replace hb := belowOnly hb ho kb_b2
  refine hK _ _ rfl ?_; clear hK K ho hnd
  apply wpSq_end
  refine hK2 _ _ ?_
  refine wp_ret ?_
  try dsimp only [Exit.then, Exit.inBlock]
  obtain ⟨r0_0, r0_1⟩ := x_b1.f2
  obtain ⟨r2_0, r2_1⟩ := x_b2.f2
  refine bodyPost_ret (v := (.tuple #[(.agg #[.bool n_g1, .slice o_g1 k_g1 c_g1]), (.agg #[.bool n_g2, .slice o_g2 k_g2 c_g2])])) (by simp [results, Tryz.results64, go_sem, r0_0, r0_1, r2_0, r2_1]) rfl ?_
  exact ⟨_, _, rfl, g1, g2, hb⟩
set_option maxHeartbeats 4000000 in
set_option maxRecDepth 20000 in
theorem of2Add_any (hxa : Bs w pa #[.bool n1, .slice o1 k1 c1, .bool n2, .slice o2 k2 c2] 26) (hxb : Bs w pb #[.bool n3, .slice o3 k3 c3, .bool n4, .slice o4 k4 c4] 26)
    (h1 : ZN w (.agg #[.bool n1, .slice o1 k1 c1]) x l) (h2 : ZN w (.agg #[.bool n2, .slice o2 k2 c2]) y m) (h3 : ZN w (.agg #[.bool n3, .slice o3 k3 c3]) u k) (h4 : ZN w (.agg #[.bool n4, .slice o4 k4 c4]) v n)
    (hl : l ≤ 10000000) (hm : m ≤ 10000000) (hk : k ≤ 10000000) (hn : n ≤ 10000000) (hy : y ≠ 0) (hv : v ≠ 0) (h0 : y * v ≠ 0) :
    Calls Tryz.prog 63 #[.agg #[.bool n1, .slice o1 k1 c1, .bool n2, .slice o2 k2 c2], .agg #[.bool n3, .slice o3 k3 c3, .bool n4, .slice o4 k4 c4], .func (.func 80) #[] #[.pointer (some ⟨pa, 0, none⟩), .pointer (some ⟨pb, 0, none⟩)]] w
      fun e w' => ∃ r, e = .returned (.tuple #[r, .int .i64 0]) ∧ PC w' r (qN (opAdd (x * v) (u * y)) (y * v)) (qD (opAdd (x * v) (u * y)) (y * v)) ∧ Below w.heap.size w w' := by
  have LN := hide (show (dig (opAdd (x * v) (u * y)).natAbs).length ≤ _ from (by rw [opAdd]; exact zlen_add (zlen_mul h1.len h4.len) (zlen_mul h3.len h2.len)))
  have LD := hide (show (dig (y * v).natAbs).length ≤ _ from zlen_mul h2.len h4.len)
  have HY := hide hy
  have HV := hide hv
  have H0 := hide h0
  clear hy hv h0
  go_enter Tryz.func63, Tryz.ntmps63
  have hb := Below.refl w.heap.size w
  refine wp_seq_k ?_
  intro K1 hK1
  refine wp_region_sq [0, 1, 2, 3] (by kernel_rfl) ?_
  refine wpSq_call rfl (by kernel_rfl) fun K hK => ?_
  go_big_op
  have lt_xa := hxa.lt
  have lt_xb := hxb.lt
  obtain ⟨p_b1, w_1, eP, eW, x_b1, hn, kb_b1⟩ := newBox w #[.bool n1, .slice o1 k1 c1, .bool n2, .slice o2 k2 c2] 26 hb.size
  have ne_xa_b1 : Hid (pa ≠ p_b1) := Nat.ne_of_lt (eP ▸ lt_xa)
  have ne_xb_b1 : Hid (pb ≠ p_b1) := Nat.ne_of_lt (eP ▸ lt_xb)
  rw [eW, eP]
  clear eW eP lt_xa lt_xb
  replace hxa := hxa.bl hn; replace h1 := h1.bl hn; replace h2 := h2.bl hn; replace hxb := hxb.bl hn; replace h3 := h3.bl hn; replace h4 := h4.bl hn; replace hb := hb.trans (hn.mono hb.size)
  refine hK _ _ rfl ?_; clear hK K hn
  refine wpSq_call rfl (by kernel_rfl) fun K hK => ?_
  go_big_op
  have lt_xa := hxa.lt
  have lt_xb := hxb.lt
  have lt_b1 := x_b1.lt
  obtain ⟨p_b2, w_2, eP, eW, x_b2, hn, kb_b2⟩ := newBox w_1 #[.bool n3, .slice o3 k3 c3, .bool n4, .slice o4 k4 c4] 26 hb.size
  have ne_xa_b2 : Hid (pa ≠ p_b2) := Nat.ne_of_lt (eP ▸ lt_xa)
  have ne_xb_b2 : Hid (pb ≠ p_b2) := Nat.ne_of_lt (eP ▸ lt_xb)
  have ne_b1_b2 : Hid (p_b1 ≠ p_b2) := Nat.ne_of_lt (eP ▸ lt_b1)
  rw [eW, eP]
  clear eW eP lt_xa lt_xb lt_b1
  replace hxa := hxa.bl hn; replace h1 := h1.bl hn; replace h2 := h2.bl hn; replace hxb := hxb.bl hn; replace h3 := h3.bl hn; replace h4 := h4.bl hn; replace x_b1 := x_b1.bl hn; replace hb := hb.trans (hn.mono hb.size)
  refine hK _ _ rfl ?_; clear hK K hn
  refine wpSq_call rfl (by kernel_rfl) fun K hK => ?_
  go_big_op
  have lt_xa := hxa.lt
  have lt_xb := hxb.lt
  have lt_b1 := x_b1.lt
  have lt_b2 := x_b2.lt
  obtain ⟨p_b3, w_3, eP, eW, x_b3, hn, kb_b3⟩ := newBox w_2 #[.bool false, .slice none 0 0, .bool false, .slice none 0 0] 26 hb.size
  have ne_xa_b3 : Hid (pa ≠ p_b3) := Nat.ne_of_lt (eP ▸ lt_xa)
  have ne_xb_b3 : Hid (pb ≠ p_b3) := Nat.ne_of_lt (eP ▸ lt_xb)
  have ne_b1_b3 : Hid (p_b1 ≠ p_b3) := Nat.ne_of_lt (eP ▸ lt_b1)
  have ne_b2_b3 : Hid (p_b2 ≠ p_b3) := Nat.ne_of_lt (eP ▸ lt_b2)
  rw [eW, eP]
  clear eW eP lt_xa lt_xb lt_b1 lt_b2
  replace hxa := hxa.bl hn; replace h1 := h1.bl hn; replace h2 := h2.bl hn; replace hxb := hxb.bl hn; replace h3 := h3.bl hn; replace h4 := h4.bl hn; replace x_b1 := x_b1.bl hn; replace x_b2 := x_b2.bl hn; replace hb := hb.trans (hn.mono hb.size)
  refine hK _ _ rfl ?_; clear hK K hn
  refine wpSq_call rfl (by kernel_rfl) fun K hK => ?_
  go_big_move; refine hK _ _ rfl ?_; clear hK K
  apply wpSq_end
  refine hK1 _ _ ?_
  refine wp_seq_k ?_
  intro K2 hK2
  refine wp_seq_k ?_
  intro K3 hK3
  refine wp_region_sq [0, 1, 2, 3] (by kernel_rfl) ?_
  refine wpSq_call rfl (by kernel_rfl) fun K hK => ?_
  obtain ⟨d0, d1, d2, d3⟩ := x_b1.f4
  go_big_op; refine hK _ _ rfl ?_; clear hK K d0 d1 d2 d3
  refine wpSq_call rfl (by kernel_rfl) fun K hK => ?_
  obtain ⟨d0, d1, d2, d3⟩ := x_b2.f4
  go_big_op; refine hK _ _ rfl ?_; clear hK K d0 d1 d2 d3
  refine wpSq_call rfl (by kernel_rfl) fun K hK => ?_
  go_big_op
  clear x_b1 x_b2
  have lt_xa := hxa.lt
  have lt_xb := hxb.lt
  have lt_b3 := x_b3.lt
  obtain ⟨p_b4, w_4, eP, eW, x_b4, hn, kb_b4⟩ := newBox w_3 #[.bool n1, .slice o1 k1 c1, .bool n2, .slice o2 k2 c2, .bool n3, .slice o3 k3 c3, .bool n4, .slice o4 k4 c4] 26 hb.size
  have ne_xa_b4 : Hid (pa ≠ p_b4) := Nat.ne_of_lt (eP ▸ lt_xa)
  have ne_xb_b4 : Hid (pb ≠ p_b4) := Nat.ne_of_lt (eP ▸ lt_xb)
  have ne_b3_b4 : Hid (p_b3 ≠ p_b4) := Nat.ne_of_lt (eP ▸ lt_b3)
  rw [eW, eP]
  clear eW eP lt_xa lt_xb lt_b3
  replace hxa := hxa.bl hn; replace h1 := h1.bl hn; replace h2 := h2.bl hn; replace hxb := hxb.bl hn; replace h3 := h3.bl hn; replace h4 := h4.bl hn; replace x_b3 := x_b3.bl hn; replace hb := hb.trans (hn.mono hb.size)
  refine hK _ _ rfl ?_; clear hK K hn
  refine wpSq_call rfl (by kernel_rfl) fun K hK => ?_
  go_big_op
  go_fit (div0_none x_b4 h2 h4 (by omega) (by omega) HY.out HV.out)
  rintro e w_5 ⟨rfl, hb_5⟩
  replace hxa := hxa.bl hb_5; replace h1 := h1.bl hb_5; replace h2 := h2.bl hb_5; replace hxb := hxb.bl hb_5; replace h3 := h3.bl hb_5; replace h4 := h4.bl hb_5; replace x_b3 := x_b3.bl hb_5; replace x_b4 := x_b4.bl hb_5; replace hb := hb.trans (hb_5.mono hb.size)
  refine hK _ _ rfl ?_
  clear hK K hb_5
  apply wpSq_end
  refine hK3 _ _ ?_
  refine wp_cond_false (congrArg Value.bool (show _ = false from (by first | rfl | assumption | (simp; done) | omega))) ?_
  refine wp_skip ?_
  refine hK2 _ _ ?_
  refine wp_seq_k ?_
  intro K4 hK4
  refine wp_region_sq [0, 1, 2, 3, 4, 5, 6, 7, 8] (by kernel_rfl) ?_
  refine wpSq_call rfl (by kernel_rfl) fun K hK => ?_
  go_big_move; refine hK _ _ rfl ?_; clear hK K
  refine wpSq_call rfl (by kernel_rfl) fun K hK => ?_
  go_big_op
  go_fit (fAdd_c hxa hxb h1 h2 h3 h4 hl hm hk hn)
  rintro e w_6 ⟨v_g1, v_g2, rfl, g1, g2, hb_6⟩
  clear hxa h1 h2 hxb h3 h4 x_b4
  replace x_b3 := x_b3.bl hb_6; replace hb := hb.trans (hb_6.mono hb.size)
  obtain ⟨n_g1, o_g1, k_g1, c_g1, rfl⟩ := g1.open2
  obtain ⟨n_g2, o_g2, k_g2, c_g2, rfl⟩ := g2.open2
  refine hK _ _ rfl ?_
  clear hK K hb_6
  refine wpSq_call rfl (by kernel_rfl) fun K hK => ?_
  go_big_op; refine hK _ _ rfl ?_; clear hK K
  refine wpSq_call rfl (by kernel_rfl) fun K hK => ?_
  go_big_op; refine hK _ _ rfl ?_; clear hK K
  have Lg1 := hide (g1.lenOf (LN.out))
  have Lg2 := hide (g2.lenOf (LD.out))
  refine wpSq_call rfl (by kernel_rfl) fun K hK => ?_
  go_big_op
  go_fit (fmake_any (g1.zn Lg1.out) (g2.zn Lg2.out) (by omega) (by omega) H0.out)
  rintro e w_7 ⟨_, rfl, ⟨n_g3a, o_g3a, k_g3a, c_g3a, n_g3b, o_g3b, k_g3b, c_g3b, rfl, g31, g32⟩, hb_7⟩
  replace x_b3 := x_b3.bl hb_7; replace g1 := g1.bl hb_7; replace g2 := g2.bl hb_7; replace hb := hb.trans (hb_7.mono hb.size)
  have Lg31 := hide (g31.lenOf (qN_len (H0.out) (Lg1.out)))
  have Lg32 := hide (g32.lenOf (qD_len (H0.out) (Lg2.out)))
  refine hK _ _ rfl ?_
  clear hK K hb_7
  refine wpSq_call rfl (by kernel_rfl) fun K hK => ?_
  go_big_op; refine hK _ _ rfl ?_; clear hK K
  refine wpSq_call rfl (by kernel_rfl) fun K hK => ?_
  go_big_op; refine hK _ _ rfl ?_; clear hK K
  refine wpSq_call rfl (by kernel_rfl) fun K hK => ?_
  obtain ⟨d0, d1, d2, d3⟩ := x_b3.f4
  have f0 := x_b3.free 0; have f1 := x_b3.free 1; have f2 := x_b3.free 2; have f3 := x_b3.free 3
  go_big_op
  have hnd := x_b3.nod rfl rfl
  obtain ⟨w_8, eW, x_b3', ho⟩ : ∃ w', ((((w_7.setCell ⟨p_b3, 0, none⟩ (.bool n_g3a)).setCell ⟨p_b3, 1, none⟩ (.slice o_g3a k_g3a c_g3a)).setCell ⟨p_b3, 2, none⟩ (.bool n_g3b)).setCell ⟨p_b3, 3, none⟩ (.slice o_g3b k_g3b c_g3b)) = w' ∧ Bs w' p_b3 #[.bool n_g3a, .slice o_g3a k_g3a c_g3a, .bool n_g3b, .slice o_g3b k_g3b c_g3b] 26 ∧ Only p_b3 w_7 w' := x_b3.setN [(0, .bool n_g3a), (1, .slice o_g3a k_g3a c_g3a), (2, .bool n_g3b), (3, .slice o_g3b k_g3b c_g3b)]
  rw [eW]; clear eW d0 d1 d2 d3 f0 f1 f2 f3 x_b3
  have x_b3 := x_b3'; clear x_b3'
  clear g1 g2
  replace g31 := g31.fr hnd ho; replace g32 := g32.fr hnd ho; replace hb := belowOnly hb ho kb_b3
  refine hK _ _ rfl ?_; clear hK K ho hnd
  refine wpSq_call rfl (by kernel_rfl) fun K hK => ?_
  go_big_move; refine hK _ _ rfl ?_; clear hK K
  apply wpSq_end
  refine hK4 _ _ ?_
  refine wp_ret ?_
  try dsimp only [Exit.then, Exit.inBlock]
  obtain ⟨r0_0, r0_1, r0_2, r0_3⟩ := x_b3.f4
  refine bodyPost_ret (v := (.tuple #[(.agg #[.bool n_g3a, .slice o_g3a k_g3a c_g3a, .bool n_g3b, .slice o_g3b k_g3b c_g3b]), (.int .i64 0)])) (by simp [results, Tryz.results63, go_sem, r0_0, r0_1, r0_2, r0_3]) rfl ?_
  exact ⟨_, rfl, .mk' g31 g32, hb⟩
set_option maxHeartbeats 4000000 in
set_option maxRecDepth 20000 in
theorem of2Quo_zero (hxa : Bs w pa #[.bool n1, .slice o1 k1 c1, .bool n2, .slice o2 k2 c2] 26) (hxb : Bs w pb #[.bool n3, .slice o3 k3 c3, .bool n4, .slice o4 k4 c4] 26)
    (h1 : ZN w (.agg #[.bool n1, .slice o1 k1 c1]) x l) (h2 : ZN w (.agg #[.bool n2, .slice o2 k2 c2]) y m) (h3 : ZN w (.agg #[.bool n3, .slice o3 k3 c3]) 0 k) (h4 : ZN w (.agg #[.bool n4, .slice o4 k4 c4]) v n)
    (hl : l ≤ 10000000) (hm : m ≤ 10000000) (hk : k ≤ 10000000) (hn : n ≤ 10000000) (hy : y ≠ 0) (hv : v ≠ 0) :
    Calls Tryz.prog 63 #[.agg #[.bool n1, .slice o1 k1 c1, .bool n2, .slice o2 k2 c2], .agg #[.bool n3, .slice o3 k3 c3, .bool n4, .slice o4 k4 c4], .func (.func 64) #[] #[.pointer (some ⟨pa, 0, none⟩), .pointer (some ⟨pb, 0, none⟩)]] w
      fun e w' => e = .returned (.tuple #[.agg #[.bool false, .slice none 0 0, .bool false, .slice none 0 0], .int .i64 5]) ∧ Below w.heap.size w w' := by
  have LN := hide (zlen_mul h1.len h4.len)
  have HY := hide hy
  have HV := hide hv
  have E := hide (Int.zero_mul y)
  clear hy hv
  go_enter Tryz.func63, Tryz.ntmps63
  have hb := Below.refl w.heap.size w
  refine wp_seq_k ?_
  intro K1 hK1
  refine wp_region_sq [0, 1, 2, 3] (by kernel_rfl) ?_
  refine wpSq_call rfl (by kernel_rfl) fun K hK => ?_
  go_big_op
  have lt_xa := hxa.lt
  have lt_xb := hxb.lt
  obtain ⟨p_b1, w_1, eP, eW, x_b1, hn, kb_b1⟩ := newBox w #[.bool n1, .slice o1 k1 c1, .bool n2, .slice o2 k2 c2] 26 hb.size
  have ne_xa_b1 : Hid (pa ≠ p_b1) := Nat.ne_of_lt (eP ▸ lt_xa)
  have ne_xb_b1 : Hid (pb ≠ p_b1) := Nat.ne_of_lt (eP ▸ lt_xb)
  rw [eW, eP]
  clear eW eP lt_xa lt_xb
  replace hxa := hxa.bl hn; replace h1 := h1.bl hn; replace h2 := h2.bl hn; replace hxb := hxb.bl hn; replace h3 := h3.bl hn; replace h4 := h4.bl hn; replace hb := hb.trans (hn.mono hb.size)
  refine hK _ _ rfl ?_; clear hK K hn
  refine wpSq_call rfl (by kernel_rfl) fun K hK => ?_
  go_big_op
  have lt_xa := hxa.lt
  have lt_xb := hxb.lt
  have lt_b1 := x_b1.lt
  obtain ⟨p_b2, w_2, eP, eW, x_b2, hn, kb_b2⟩ := newBox w_1 #[.bool n3, .slice o3 k3 c3, .bool n4, .slice o4 k4 c4] 26 hb.size
  have ne_xa_b2 : Hid (pa ≠ p_b2) := Nat.ne_of_lt (eP ▸ lt_xa)
  have ne_xb_b2 : Hid (pb ≠ p_b2) := Nat.ne_of_lt (eP ▸ lt_xb)
  have ne_b1_b2 : Hid (p_b1 ≠ p_b2) := Nat.ne_of_lt (eP ▸ lt_b1)
  rw [eW, eP]
  clear eW eP lt_xa lt_xb lt_b1
  replace hxa := hxa.bl hn; replace h1 := h1.bl hn; replace h2 := h2.bl hn; replace hxb := hxb.bl hn; replace h3 := h3.bl hn; replace h4 := h4.bl hn; replace x_b1 := x_b1.bl hn; replace hb := hb.trans (hn.mono hb.size)
  refine hK _ _ rfl ?_; clear hK K hn
  refine wpSq_call rfl (by kernel_rfl) fun K hK => ?_
  go_big_op
  have lt_xa := hxa.lt
  have lt_xb := hxb.lt
  have lt_b1 := x_b1.lt
  have lt_b2 := x_b2.lt
  obtain ⟨p_b3, w_3, eP, eW, x_b3, hn, kb_b3⟩ := newBox w_2 #[.bool false, .slice none 0 0, .bool false, .slice none 0 0] 26 hb.size
  have ne_xa_b3 : Hid (pa ≠ p_b3) := Nat.ne_of_lt (eP ▸ lt_xa)
  have ne_xb_b3 : Hid (pb ≠ p_b3) := Nat.ne_of_lt (eP ▸ lt_xb)
  have ne_b1_b3 : Hid (p_b1 ≠ p_b3) := Nat.ne_of_lt (eP ▸ lt_b1)
  have ne_b2_b3 : Hid (p_b2 ≠ p_b3) := Nat.ne_of_lt (eP ▸ lt_b2)
  rw [eW, eP]
  clear eW eP lt_xa lt_xb lt_b1 lt_b2
  replace hxa := hxa.bl hn; replace h1 := h1.bl hn; replace h2 := h2.bl hn; replace hxb := hxb.bl hn; replace h3 := h3.bl hn; replace h4 := h4.bl hn; replace x_b1 := x_b1.bl hn; replace x_b2 := x_b2.bl hn; replace hb := hb.trans (hn.mono hb.size)
  refine hK _ _ rfl ?_; clear hK K hn
  refine wpSq_call rfl (by kernel_rfl) fun K hK => ?_
  go_big_move; refine hK _ _ rfl ?_; clear hK K
  apply wpSq_end
  refine hK1 _ _ ?_
  refine wp_seq_k ?_
  intro K2 hK2
  refine wp_seq_k ?_
  intro K3 hK3
  refine wp_region_sq [0, 1, 2, 3] (by kernel_rfl) ?_
  refine wpSq_call rfl (by kernel_rfl) fun K hK => ?_
  obtain ⟨d0, d1, d2, d3⟩ := x_b1.f4
  go_big_op; refine hK _ _ rfl ?_; clear hK K d0 d1 d2 d3
  refine wpSq_call rfl (by kernel_rfl) fun K hK => ?_
  obtain ⟨d0, d1, d2, d3⟩ := x_b2.f4
  go_big_op; refine hK _ _ rfl ?_; clear hK K d0 d1 d2 d3
  refine wpSq_call rfl (by kernel_rfl) fun K hK => ?_
  go_big_op
  clear x_b1 x_b2
  have lt_xa := hxa.lt
  have lt_xb := hxb.lt
  have lt_b3 := x_b3.lt
  obtain ⟨p_b4, w_4, eP, eW, x_b4, hn, kb_b4⟩ := newBox w_3 #[.bool n1, .slice o1 k1 c1, .bool n2, .slice o2 k2 c2, .bool n3, .slice o3 k3 c3, .bool n4, .slice o4 k4 c4] 26 hb.size
  have ne_xa_b4 : Hid (pa ≠ p_b4) := Nat.ne_of_lt (eP ▸ lt_xa)
  have ne_xb_b4 : Hid (pb ≠ p_b4) := Nat.ne_of_lt (eP ▸ lt_xb)
  have ne_b3_b4 : Hid (p_b3 ≠ p_b4) := Nat.ne_of_lt (eP ▸ lt_b3)
  rw [eW, eP]
  clear eW eP lt_xa lt_xb lt_b3
  replace hxa := hxa.bl hn; replace h1 := h1.bl hn; replace h2 := h2.bl hn; replace hxb := hxb.bl hn; replace h3 := h3.bl hn; replace h4 := h4.bl hn; replace x_b3 := x_b3.bl hn; replace hb := hb.trans (hn.mono hb.size)
  refine hK _ _ rfl ?_; clear hK K hn
  refine wpSq_call rfl (by kernel_rfl) fun K hK => ?_
  go_big_op
  go_fit (div0_none x_b4 h2 h4 (by omega) (by omega) HY.out HV.out)
  rintro e w_5 ⟨rfl, hb_5⟩
  replace hxa := hxa.bl hb_5; replace h1 := h1.bl hb_5; replace h2 := h2.bl hb_5; replace hxb := hxb.bl hb_5; replace h3 := h3.bl hb_5; replace h4 := h4.bl hb_5; replace x_b3 := x_b3.bl hb_5; replace x_b4 := x_b4.bl hb_5; replace hb := hb.trans (hb_5.mono hb.size)
  refine hK _ _ rfl ?_
  clear hK K hb_5
  apply wpSq_end
  refine hK3 _ _ ?_
  refine wp_cond_false (congrArg Value.bool (show _ = false from (by first | rfl | assumption | (simp; done) | omega))) ?_
  refine wp_skip ?_
  refine hK2 _ _ ?_
  refine wp_seq_k ?_
  intro K4 hK4
  refine wp_region_sq [0, 1, 2, 3, 4, 5, 6, 7, 8] (by kernel_rfl) ?_
  refine wpSq_call rfl (by kernel_rfl) fun K hK => ?_
  go_big_move; refine hK _ _ rfl ?_; clear hK K
  refine wpSq_call rfl (by kernel_rfl) fun K hK => ?_
  go_big_op
  go_fit (fQuo_c hxa hxb h1 h2 h3 h4 hl hm hk hn)
  rintro e w_6 ⟨v_g1, v_g2, rfl, g1, g2, hb_6⟩
  clear hxa h1 h2 hxb h3 h4 x_b4
  replace x_b3 := x_b3.bl hb_6; replace hb := hb.trans (hb_6.mono hb.size)
  obtain ⟨n_g1, o_g1, k_g1, c_g1, rfl⟩ := g1.open2
  obtain ⟨n_g2, o_g2, k_g2, c_g2, rfl⟩ := g2.open2
  rw [E.out] at g2
  refine hK _ _ rfl ?_
  clear hK K hb_6
  refine wpSq_call rfl (by kernel_rfl) fun K hK => ?_
  go_big_op; refine hK _ _ rfl ?_; clear hK K
  refine wpSq_call rfl (by kernel_rfl) fun K hK => ?_
  go_big_op; refine hK _ _ rfl ?_; clear hK K
  have Lg1 := hide (g1.lenOf (LN.out))
  have Lg2 := hide (g2.lenOf (zlen_0))
  refine wpSq_call rfl (by kernel_rfl) fun K hK => ?_
  go_big_op
  go_fit (fmake_zero (g1.zn Lg1.out) (g2.zn Lg2.out) (by omega) (by omega) )
  rintro e w_7 ⟨rfl, hb_7⟩
  replace x_b3 := x_b3.bl hb_7; replace g1 := g1.bl hb_7; replace g2 := g2.bl hb_7; replace hb := hb.trans (hb_7.mono hb.size)
  refine hK _ _ rfl ?_
  clear hK K hb_7
  refine wpSq_call rfl (by kernel_rfl) fun K hK => ?_
  go_big_op; refine hK _ _ rfl ?_; clear hK K
  refine wpSq_call rfl (by kernel_rfl) fun K hK => ?_
  go_big_op; refine hK _ _ rfl ?_; clear hK K
  refine wpSq_call rfl (by kernel_rfl) fun K hK => ?_
  obtain ⟨d0, d1, d2, d3⟩ := x_b3.f4
  have f0 := x_b3.free 0; have f1 := x_b3.free 1; have f2 := x_b3.free 2; have f3 := x_b3.free 3
  go_big_op
  have hnd := x_b3.nod rfl rfl
  obtain ⟨w_8, eW, x_b3', ho⟩ : ∃ w', ((((w_7.setCell ⟨p_b3, 0, none⟩ (.bool false)).setCell ⟨p_b3, 1, none⟩ (.slice none 0 0)).setCell ⟨p_b3, 2, none⟩ (.bool false)).setCell ⟨p_b3, 3, none⟩ (.slice none 0 0)) = w' ∧ Bs w' p_b3 #[.bool false, .slice none 0 0, .bool false, .slice none 0 0] 26 ∧ Only p_b3 w_7 w' := x_b3.setN [(0, .bool false), (1, .slice none 0 0), (2, .bool false), (3, .slice none 0 0)]
  rw [eW]; clear eW d0 d1 d2 d3 f0 f1 f2 f3 x_b3
  have x_b3 := x_b3'; clear x_b3'
  clear g1 g2
  replace hb := belowOnly hb ho kb_b3
  refine hK _ _ rfl ?_; clear hK K ho hnd
  refine wpSq_call rfl (by kernel_rfl) fun K hK => ?_
  go_big_move; refine hK _ _ rfl ?_; clear hK K
  apply wpSq_end
  refine hK4 _ _ ?_
  refine wp_ret ?_
  try dsimp only [Exit.then, Exit.inBlock]
  obtain ⟨r0_0, r0_1, r0_2, r0_3⟩ := x_b3.f4
  refine bodyPost_ret (v := (.tuple #[(.agg #[.bool false, .slice none 0 0, .bool false, .slice none 0 0]), (.int .i64 5)])) (by simp [results, Tryz.results63, go_sem, r0_0, r0_1, r0_2, r0_3]) rfl ?_
  exact ⟨rfl, hb⟩
end
end Go.Proofs.YtkgbfnmlpajblaaGreatDoor

