/- The reference's Gaussian integers; the law's is and g. -/
import Derived.Test.YtgjainmfilkjmaaGreatDoorWkToG2
import Derived.Test.YtgjainmfilkjmaaGreatDoorY8
import Derived.Test.YtgjainmfilkjmaaGreatDoorZ8
import Derived.Test.YtgjainmfilkjmaaGreatDoorR7
import Derived.Test.YtgjainmfilkjmaaGreatDoorMx
import Derived.Test.YtgjainmfilkjmaaGreatDoorR2aToR6
import Derived.Test.YtgjainmfilkjmaaGreatDoorW8
import Derived.Test.YtgjainmfilkjmaaGreatDoorR1
import Derived.Lib.Strings

namespace Go.Proofs.YtgjainmfilkjmaaGreatDoor
open Go Go.RowKit Dig
set_option linter.unusedVariables false

section
variable {w : World} {va vb : Value} {x y u v : Int} {l m k n : Nat}
set_option maxHeartbeats 4000000 in
set_option maxRecDepth 20000 in
theorem rgSub_any (ha : PN w va x l y m) (hq : PN w vb u k v n) (hl : l ≤ 100000000) (hm : m ≤ 100000000) (hk : k ≤ 100000000) (hn : n ≤ 100000000) :
    Calls Tryz.prog 53 #[va, vb] w fun e w' => ∃ r, e = .returned r ∧ PC w' r (x - u) (y - v) ∧ Below w.heap.size w w' := by
  obtain ⟨n_0a, o_0a, k_0a, c_0a, n_0b, o_0b, k_0b, c_0b, rfl, ha1, ha2⟩ := ha
  obtain ⟨n_1a, o_1a, k_1a, c_1a, n_1b, o_1b, k_1b, c_1b, rfl, hq1, hq2⟩ := hq
  go_enter Tryz.func53, Tryz.ntmps53
  have hb := Below.refl w.heap.size w
  refine wp_seq_k ?_
  intro K1 hK1
  refine wp_region_sq [0, 1, 2] (by kernel_rfl) ?_
  refine wpSq_call rfl (by kernel_rfl) fun K hK => ?_
  go_big_op
  obtain ⟨p_b1, w_1, eP, eW, x_b1, hn, kb_b1⟩ := newBox w #[.bool n_0a, .slice o_0a k_0a c_0a, .bool n_0b, .slice o_0b k_0b c_0b] 29 hb.size
  rw [eW, eP]
  clear eW eP
  replace ha1 := ha1.bl hn; replace ha2 := ha2.bl hn; replace hq1 := hq1.bl hn; replace hq2 := hq2.bl hn; replace hb := hb.trans (hn.mono hb.size)
  refine hK _ _ rfl ?_; clear hK K hn
  refine wpSq_call rfl (by kernel_rfl) fun K hK => ?_
  go_big_op
  have lt_b1 := x_b1.lt
  obtain ⟨p_b2, w_2, eP, eW, x_b2, hn, kb_b2⟩ := newBox w_1 #[.bool n_1a, .slice o_1a k_1a c_1a, .bool n_1b, .slice o_1b k_1b c_1b] 29 hb.size
  have ne_b1_b2 : Hid (p_b1 ≠ p_b2) := Nat.ne_of_lt (eP ▸ lt_b1)
  rw [eW, eP]
  clear eW eP lt_b1
  replace ha1 := ha1.bl hn; replace ha2 := ha2.bl hn; replace hq1 := hq1.bl hn; replace hq2 := hq2.bl hn; replace x_b1 := x_b1.bl hn; replace hb := hb.trans (hn.mono hb.size)
  refine hK _ _ rfl ?_; clear hK K hn
  refine wpSq_call rfl (by kernel_rfl) fun K hK => ?_
  go_big_op
  have lt_b1 := x_b1.lt
  have lt_b2 := x_b2.lt
  obtain ⟨p_b3, w_3, eP, eW, x_b3, hn, kb_b3⟩ := newBox w_2 #[.bool false, .slice none 0 0, .bool false, .slice none 0 0] 29 hb.size
  have ne_b1_b3 : Hid (p_b1 ≠ p_b3) := Nat.ne_of_lt (eP ▸ lt_b1)
  have ne_b2_b3 : Hid (p_b2 ≠ p_b3) := Nat.ne_of_lt (eP ▸ lt_b2)
  rw [eW, eP]
  clear eW eP lt_b1 lt_b2
  replace ha1 := ha1.bl hn; replace ha2 := ha2.bl hn; replace hq1 := hq1.bl hn; replace hq2 := hq2.bl hn; replace x_b1 := x_b1.bl hn; replace x_b2 := x_b2.bl hn; replace hb := hb.trans (hn.mono hb.size)
  refine hK _ _ rfl ?_; clear hK K hn
  apply wpSq_end
  refine hK1 _ _ ?_
  refine wp_seq_k ?_
  intro K2 hK2
  refine wp_region_fl2 [(0, false), (1, false), (2, false), (3, false), (5, false), (6, false), (7, false), (8, false), (4, true), (9, true), (10, false)] [11] [] (fun _ => default) [99, 0, 99, 1, 99, 99, 0, 99, 1, 99, 99, 99] [] (fun w' => w'.cell? ⟨p_b1, 0, none⟩ = some (.bool n_0a) ∧ w'.cell? ⟨p_b1, 1, none⟩ = some (.slice o_0a k_0a c_0a) ∧ w'.cell? ⟨p_b1, 2, none⟩ = some (.bool n_0b) ∧ w'.cell? ⟨p_b1, 3, none⟩ = some (.slice o_0b k_0b c_0b) ∧ w'.cell? ⟨p_b2, 0, none⟩ = some (.bool n_1a) ∧ w'.cell? ⟨p_b2, 1, none⟩ = some (.slice o_1a k_1a c_1a) ∧ w'.cell? ⟨p_b2, 2, none⟩ = some (.bool n_1b) ∧ w'.cell? ⟨p_b2, 3, none⟩ = some (.slice o_1b k_1b c_1b)) [fun w' => w'.cell? ⟨p_b1, 0, none⟩ = some (.bool n_0a) ∧ w'.cell? ⟨p_b1, 1, none⟩ = some (.slice o_0a k_0a c_0a) ∧ w'.cell? ⟨p_b1, 2, none⟩ = some (.bool n_0b) ∧ w'.cell? ⟨p_b1, 3, none⟩ = some (.slice o_0b k_0b c_0b), fun w' => w'.cell? ⟨p_b2, 0, none⟩ = some (.bool n_1a) ∧ w'.cell? ⟨p_b2, 1, none⟩ = some (.slice o_1a k_1a c_1a) ∧ w'.cell? ⟨p_b2, 2, none⟩ = some (.bool n_1b) ∧ w'.cell? ⟨p_b2, 3, none⟩ = some (.slice o_1b k_1b c_1b)] (by kernel_rfl) (by kernel_rfl) (by kernel_rfl) (by kernel_rfl) (by kernel_rfl) (by kernel_rfl) (by kernel_rfl) (by kernel_rfl) (by decide) (by intro j hj; cases hj) (by intro w' o hC; obtain ⟨c0, c1, c2, c3, c4, c5, c6, c7⟩ := hC; exact ⟨cell_alloc c0 o, cell_alloc c1 o, cell_alloc c2 o, cell_alloc c3 o, cell_alloc c4 o, cell_alloc c5 o, cell_alloc c6 o, cell_alloc c7 o⟩) (by intro w' hC G hG; obtain ⟨c0, c1, c2, c3, c4, c5, c6, c7⟩ := hC; simp only [List.mem_cons, List.not_mem_nil, or_false] at hG; rcases hG with rfl | rfl <;> first | exact ⟨c0, c1, c2, c3⟩ | exact ⟨c4, c5, c6, c7⟩) ?_
  have lt_b1 := x_b1.lt
  have lt_b2 := x_b2.lt
  have lt_b3 := x_b3.lt
  intro w_4 hn
  replace lt_b1 := Nat.lt_of_lt_of_le lt_b1 hn.size
  replace lt_b2 := Nat.lt_of_lt_of_le lt_b2 hn.size
  replace lt_b3 := Nat.lt_of_lt_of_le lt_b3 hn.size
  replace ha1 := ha1.bl hn; replace ha2 := ha2.bl hn; replace hq1 := hq1.bl hn; replace hq2 := hq2.bl hn; replace x_b1 := x_b1.bl hn; replace x_b2 := x_b2.bl hn; replace x_b3 := x_b3.bl hn; replace hb := hb.trans (hn.mono hb.size)
  clear hn
  have kb0 := hb.size
  refine ⟨⟨x_b1.cell 0 rfl, x_b1.cell 1 rfl, x_b1.cell 2 rfl, x_b1.cell 3 rfl, x_b2.cell 0 rfl, x_b2.cell 1 rfl, x_b2.cell 2 rfl, x_b2.cell 3 rfl⟩, ?_⟩
  apply wpFl_ld rfl rfl; (case h1 => intro w' hC K hK; go_big_op; exact hK); iterate 4 kernel_rfl
  apply wpFl_ld rfl rfl; (case h1 => intro w' hC K hK; obtain ⟨c0, c1, c2, c3⟩ := hC; go_big_op; exact hK); iterate 4 kernel_rfl
  apply wpFl_ld rfl rfl; (case h1 => intro w' hC K hK; go_big_op; exact hK); iterate 4 kernel_rfl
  apply wpFl_ld rfl rfl; (case h1 => intro w' hC K hK; obtain ⟨c0, c1, c2, c3⟩ := hC; go_big_op; exact hK); iterate 4 kernel_rfl
  apply wpFl_ld rfl rfl; (case h1 => intro w' hC K hK; go_big_op; exact hK); iterate 4 kernel_rfl
  apply wpFl_ld rfl rfl; (case h1 => intro w' hC K hK; obtain ⟨c0, c1, c2, c3⟩ := hC; go_big_op; exact hK); iterate 4 kernel_rfl
  apply wpFl_ld rfl rfl; (case h1 => intro w' hC K hK; go_big_op; exact hK); iterate 4 kernel_rfl
  apply wpFl_ld rfl rfl; (case h1 => intro w' hC K hK; obtain ⟨c0, c1, c2, c3⟩ := hC; go_big_op; exact hK); iterate 4 kernel_rfl
  refine wpFl_call rfl (by kernel_rfl) fun w_5 hn hC => ?_; clear hC
  replace ha1 := ha1.bl hn; replace ha2 := ha2.bl hn; replace hq1 := hq1.bl hn; replace hq2 := hq2.bl hn; replace x_b1 := x_b1.bl hn; replace x_b2 := x_b2.bl hn; replace x_b3 := x_b3.bl hn; replace hb := hb.trans (hn.mono hb.size)
  clear hn; intro K hK
  go_big_op
  go_fit (rzsub_any ha1 hq1 (by omega) (by omega) )
  rintro e w_6 ⟨v_g1, rfl, g1, hb_6⟩
  replace ha1 := ha1.bl hb_6; replace ha2 := ha2.bl hb_6; replace hq1 := hq1.bl hb_6; replace hq2 := hq2.bl hb_6; replace x_b1 := x_b1.bl hb_6; replace x_b2 := x_b2.bl hb_6; replace x_b3 := x_b3.bl hb_6; replace hb := hb.trans (hb_6.mono hb.size)
  replace g1 := g1.rd
  obtain ⟨n_g1, o_g1, k_g1, c_g1, rfl⟩ := g1.open2
  have Lg1 := hide (g1.lenOf (zlen_sub (ha1.len) (hq1.len)))
  refine hK _ _ rfl hb_6 ⟨x_b1.cell 0 rfl, x_b1.cell 1 rfl, x_b1.cell 2 rfl, x_b1.cell 3 rfl, x_b2.cell 0 rfl, x_b2.cell 1 rfl, x_b2.cell 2 rfl, x_b2.cell 3 rfl⟩ ?_
  clear hK K hb_6
  refine wpFl_call rfl (by kernel_rfl) fun w_7 hn hC => ?_; clear hC
  replace ha1 := ha1.bl hn; replace ha2 := ha2.bl hn; replace hq1 := hq1.bl hn; replace hq2 := hq2.bl hn; replace x_b1 := x_b1.bl hn; replace x_b2 := x_b2.bl hn; replace x_b3 := x_b3.bl hn; replace g1 := g1.bl hn; replace hb := hb.trans (hn.mono hb.size)
  clear hn; intro K hK
  go_big_op
  go_fit (rzsub_any ha2 hq2 (by omega) (by omega) )
  rintro e w_8 ⟨v_g2, rfl, g2, hb_8⟩
  replace ha1 := ha1.bl hb_8; replace ha2 := ha2.bl hb_8; replace hq1 := hq1.bl hb_8; replace hq2 := hq2.bl hb_8; replace x_b1 := x_b1.bl hb_8; replace x_b2 := x_b2.bl hb_8; replace x_b3 := x_b3.bl hb_8; replace g1 := g1.bl hb_8; replace hb := hb.trans (hb_8.mono hb.size)
  replace g2 := g2.rd
  obtain ⟨n_g2, o_g2, k_g2, c_g2, rfl⟩ := g2.open2
  have Lg2 := hide (g2.lenOf (zlen_sub (ha2.len) (hq2.len)))
  refine hK _ _ rfl hb_8 ⟨x_b1.cell 0 rfl, x_b1.cell 1 rfl, x_b1.cell 2 rfl, x_b1.cell 3 rfl, x_b2.cell 0 rfl, x_b2.cell 1 rfl, x_b2.cell 2 rfl, x_b2.cell 3 rfl⟩ ?_
  clear hK K hb_8
  apply wpFl_ld rfl rfl; (case h1 => intro w' hC K hK; go_big_op; exact hK); iterate 4 kernel_rfl
  apply wpFl_end
  case ha => intro pt; simp only [putF]; rfl
  case h =>
  intro w_9 pt hn hC hF hD
  clear hC
  replace ha1 := ha1.bl hn; replace ha2 := ha2.bl hn; replace hq1 := hq1.bl hn; replace hq2 := hq2.bl hn; replace x_b1 := x_b1.bl hn; replace x_b2 := x_b2.bl hn; replace x_b3 := x_b3.bl hn; replace g1 := g1.bl hn; replace g2 := g2.bl hn; replace hb := hb.trans (hn.mono hb.size)
  clear hn
  clear hF hD
  clear pt
  clear kb0 lt_b1 lt_b2 lt_b3
  refine wpTail_call rfl (by kernel_rfl) fun K hK => ?_
  obtain ⟨d0, d1, d2, d3⟩ := x_b3.f4
  have f0 := x_b3.free 0; have f1 := x_b3.free 1; have f2 := x_b3.free 2; have f3 := x_b3.free 3
  go_big_op
  have hnd := x_b3.nod rfl rfl
  obtain ⟨w_10, eW, x_b3', ho⟩ : ∃ w', ((((w_9.setCell ⟨p_b3, 0, none⟩ (.bool n_g1)).setCell ⟨p_b3, 1, none⟩ (.slice o_g1 k_g1 c_g1)).setCell ⟨p_b3, 2, none⟩ (.bool n_g2)).setCell ⟨p_b3, 3, none⟩ (.slice o_g2 k_g2 c_g2)) = w' ∧ Bs w' p_b3 #[.bool n_g1, .slice o_g1 k_g1 c_g1, .bool n_g2, .slice o_g2 k_g2 c_g2] 29 ∧ Only p_b3 w_9 w' := x_b3.setN [(0, .bool n_g1), (1, .slice o_g1 k_g1 c_g1), (2, .bool n_g2), (3, .slice o_g2 k_g2 c_g2)]
  rw [eW]; clear eW d0 d1 d2 d3 f0 f1 f2 f3 x_b3
  have x_b3 := x_b3'; clear x_b3'
  replace ha1 := ha1.fr hnd ho; replace ha2 := ha2.fr hnd ho; replace hq1 := hq1.fr hnd ho; replace hq2 := hq2.fr hnd ho; replace x_b1 := x_b1.frame ho ne_b1_b3; replace x_b2 := x_b2.frame ho ne_b2_b3; replace g1 := g1.fr hnd ho; replace g2 := g2.fr hnd ho; replace hb := belowOnly hb ho kb_b3
  refine hK _ _ rfl (And.intro ⟨x_b1.cell 0 rfl, x_b1.cell 1 rfl, x_b1.cell 2 rfl, x_b1.cell 3 rfl⟩ (And.intro ⟨x_b2.cell 0 rfl, x_b2.cell 1 rfl, x_b2.cell 2 rfl, x_b2.cell 3 rfl⟩ True.intro)) ?_; clear hK K ho hnd
  apply wpTail_end
  refine hK2 _ _ ?_
  refine wp_ret ?_
  try dsimp only [Exit.then, Exit.inBlock]
  obtain ⟨r0_0, r0_1, r0_2, r0_3⟩ := x_b3.f4
  refine bodyPost_ret (v := (.agg #[.bool n_g1, .slice o_g1 k_g1 c_g1, .bool n_g2, .slice o_g2 k_g2 c_g2])) (by simp [results, Tryz.results53, go_sem, r0_0, r0_1, r0_2, r0_3]) rfl ?_
  exact ⟨_, rfl, .mk' g1 g2, hb⟩
set_option maxHeartbeats 4000000 in
set_option maxRecDepth 20000 in
theorem rgMul_any (ha : PN w va x l y m) (hq : PN w vb u k v n) (hl : l ≤ 40000000) (hm : m ≤ 40000000) (hk : k ≤ 40000000) (hn : n ≤ 40000000) :
    Calls Tryz.prog 54 #[va, vb] w fun e w' => ∃ r, e = .returned r ∧ PC w' r (x * u - y * v) (x * v + y * u) ∧ Below w.heap.size w w' := by
  obtain ⟨n_0a, o_0a, k_0a, c_0a, n_0b, o_0b, k_0b, c_0b, rfl, ha1, ha2⟩ := ha
  obtain ⟨n_1a, o_1a, k_1a, c_1a, n_1b, o_1b, k_1b, c_1b, rfl, hq1, hq2⟩ := hq
  go_enter Tryz.func54, Tryz.ntmps54
  have hb := Below.refl w.heap.size w
  refine wp_seq_k ?_
  intro K1 hK1
  refine wp_region_sq [0, 1, 2] (by kernel_rfl) ?_
  refine wpSq_call rfl (by kernel_rfl) fun K hK => ?_
  go_big_op
  obtain ⟨p_b1, w_1, eP, eW, x_b1, hn, kb_b1⟩ := newBox w #[.bool n_0a, .slice o_0a k_0a c_0a, .bool n_0b, .slice o_0b k_0b c_0b] 29 hb.size
  rw [eW, eP]
  clear eW eP
  replace ha1 := ha1.bl hn; replace ha2 := ha2.bl hn; replace hq1 := hq1.bl hn; replace hq2 := hq2.bl hn; replace hb := hb.trans (hn.mono hb.size)
  refine hK _ _ rfl ?_; clear hK K hn
  refine wpSq_call rfl (by kernel_rfl) fun K hK => ?_
  go_big_op
  have lt_b1 := x_b1.lt
  obtain ⟨p_b2, w_2, eP, eW, x_b2, hn, kb_b2⟩ := newBox w_1 #[.bool n_1a, .slice o_1a k_1a c_1a, .bool n_1b, .slice o_1b k_1b c_1b] 29 hb.size
  have ne_b1_b2 : Hid (p_b1 ≠ p_b2) := Nat.ne_of_lt (eP ▸ lt_b1)
  rw [eW, eP]
  clear eW eP lt_b1
  replace ha1 := ha1.bl hn; replace ha2 := ha2.bl hn; replace hq1 := hq1.bl hn; replace hq2 := hq2.bl hn; replace x_b1 := x_b1.bl hn; replace hb := hb.trans (hn.mono hb.size)
  refine hK _ _ rfl ?_; clear hK K hn
  refine wpSq_call rfl (by kernel_rfl) fun K hK => ?_
  go_big_op
  have lt_b1 := x_b1.lt
  have lt_b2 := x_b2.lt
  obtain ⟨p_b3, w_3, eP, eW, x_b3, hn, kb_b3⟩ := newBox w_2 #[.bool false, .slice none 0 0, .bool false, .slice none 0 0] 29 hb.size
  have ne_b1_b3 : Hid (p_b1 ≠ p_b3) := Nat.ne_of_lt (eP ▸ lt_b1)
  have ne_b2_b3 : Hid (p_b2 ≠ p_b3) := Nat.ne_of_lt (eP ▸ lt_b2)
  rw [eW, eP]
  clear eW eP lt_b1 lt_b2
  replace ha1 := ha1.bl hn; replace ha2 := ha2.bl hn; replace hq1 := hq1.bl hn; replace hq2 := hq2.bl hn; replace x_b1 := x_b1.bl hn; replace x_b2 := x_b2.bl hn; replace hb := hb.trans (hn.mono hb.size)
  refine hK _ _ rfl ?_; clear hK K hn
  apply wpSq_end
  refine hK1 _ _ ?_
  refine wp_seq_k ?_
  intro K2 hK2
  refine wp_region_fl2 [(0, false), (1, false), (2, false), (3, false), (5, false), (6, false), (7, false), (8, false), (4, true), (9, true), (10, true)] [12] [11] (fun j => (.cells #[.bool false, .slice none 0 0] 26)) [99, 0, 99, 1, 99, 99, 0, 99, 1, 99, 99, 99, 99] [] (fun w' => w'.cell? ⟨p_b1, 0, none⟩ = some (.bool n_0a) ∧ w'.cell? ⟨p_b1, 1, none⟩ = some (.slice o_0a k_0a c_0a) ∧ w'.cell? ⟨p_b1, 2, none⟩ = some (.bool n_0b) ∧ w'.cell? ⟨p_b1, 3, none⟩ = some (.slice o_0b k_0b c_0b) ∧ w'.cell? ⟨p_b2, 0, none⟩ = some (.bool n_1a) ∧ w'.cell? ⟨p_b2, 1, none⟩ = some (.slice o_1a k_1a c_1a) ∧ w'.cell? ⟨p_b2, 2, none⟩ = some (.bool n_1b) ∧ w'.cell? ⟨p_b2, 3, none⟩ = some (.slice o_1b k_1b c_1b)) [fun w' => w'.cell? ⟨p_b1, 0, none⟩ = some (.bool n_0a) ∧ w'.cell? ⟨p_b1, 1, none⟩ = some (.slice o_0a k_0a c_0a) ∧ w'.cell? ⟨p_b1, 2, none⟩ = some (.bool n_0b) ∧ w'.cell? ⟨p_b1, 3, none⟩ = some (.slice o_0b k_0b c_0b), fun w' => w'.cell? ⟨p_b2, 0, none⟩ = some (.bool n_1a) ∧ w'.cell? ⟨p_b2, 1, none⟩ = some (.slice o_1a k_1a c_1a) ∧ w'.cell? ⟨p_b2, 2, none⟩ = some (.bool n_1b) ∧ w'.cell? ⟨p_b2, 3, none⟩ = some (.slice o_1b k_1b c_1b)] (by kernel_rfl) (by kernel_rfl) (by kernel_rfl) (by kernel_rfl) (by kernel_rfl) (by kernel_rfl) (by kernel_rfl) (by kernel_rfl) (by decide) (by intro j hj; simp only [List.mem_cons, List.not_mem_nil, or_false] at hj; rcases hj with rfl; all_goals exact ⟨_, rfl, rfl, fun ρ w => by unfold ptr; simp [go_sem]⟩) (by intro w' o hC; obtain ⟨c0, c1, c2, c3, c4, c5, c6, c7⟩ := hC; exact ⟨cell_alloc c0 o, cell_alloc c1 o, cell_alloc c2 o, cell_alloc c3 o, cell_alloc c4 o, cell_alloc c5 o, cell_alloc c6 o, cell_alloc c7 o⟩) (by intro w' hC G hG; obtain ⟨c0, c1, c2, c3, c4, c5, c6, c7⟩ := hC; simp only [List.mem_cons, List.not_mem_nil, or_false] at hG; rcases hG with rfl | rfl <;> first | exact ⟨c0, c1, c2, c3⟩ | exact ⟨c4, c5, c6, c7⟩) ?_
  have lt_b1 := x_b1.lt
  have lt_b2 := x_b2.lt
  have lt_b3 := x_b3.lt
  intro w_4 hn
  replace lt_b1 := Nat.lt_of_lt_of_le lt_b1 hn.size
  replace lt_b2 := Nat.lt_of_lt_of_le lt_b2 hn.size
  replace lt_b3 := Nat.lt_of_lt_of_le lt_b3 hn.size
  replace ha1 := ha1.bl hn; replace ha2 := ha2.bl hn; replace hq1 := hq1.bl hn; replace hq2 := hq2.bl hn; replace x_b1 := x_b1.bl hn; replace x_b2 := x_b2.bl hn; replace x_b3 := x_b3.bl hn; replace hb := hb.trans (hn.mono hb.size)
  clear hn
  have kb0 := hb.size
  refine ⟨⟨x_b1.cell 0 rfl, x_b1.cell 1 rfl, x_b1.cell 2 rfl, x_b1.cell 3 rfl, x_b2.cell 0 rfl, x_b2.cell 1 rfl, x_b2.cell 2 rfl, x_b2.cell 3 rfl⟩, ?_⟩
  apply wpFl_ld rfl rfl; (case h1 => intro w' hC K hK; go_big_op; exact hK); iterate 4 kernel_rfl
  apply wpFl_ld rfl rfl; (case h1 => intro w' hC K hK; obtain ⟨c0, c1, c2, c3⟩ := hC; go_big_op; exact hK); iterate 4 kernel_rfl
  apply wpFl_ld rfl rfl; (case h1 => intro w' hC K hK; go_big_op; exact hK); iterate 4 kernel_rfl
  apply wpFl_ld rfl rfl; (case h1 => intro w' hC K hK; obtain ⟨c0, c1, c2, c3⟩ := hC; go_big_op; exact hK); iterate 4 kernel_rfl
  apply wpFl_ld rfl rfl; (case h1 => intro w' hC K hK; go_big_op; exact hK); iterate 4 kernel_rfl
  apply wpFl_ld rfl rfl; (case h1 => intro w' hC K hK; obtain ⟨c0, c1, c2, c3⟩ := hC; go_big_op; exact hK); iterate 4 kernel_rfl
  apply wpFl_ld rfl rfl; (case h1 => intro w' hC K hK; go_big_op; exact hK); iterate 4 kernel_rfl
  apply wpFl_ld rfl rfl; (case h1 => intro w' hC K hK; obtain ⟨c0, c1, c2, c3⟩ := hC; go_big_op; exact hK); iterate 4 kernel_rfl
  refine wpFl_call rfl (by kernel_rfl) fun w_5 hn hC => ?_; clear hC
  replace ha1 := ha1.bl hn; replace ha2 := ha2.bl hn; replace hq1 := hq1.bl hn; replace hq2 := hq2.bl hn; replace x_b1 := x_b1.bl hn; replace x_b2 := x_b2.bl hn; replace x_b3 := x_b3.bl hn; replace hb := hb.trans (hn.mono hb.size)
  clear hn; intro K hK
  go_big_op
  go_fit (rzmul_any ha1 hq1 (by omega) (by omega) )
  rintro e w_6 ⟨v_g1, rfl, g1, hb_6⟩
  replace ha1 := ha1.bl hb_6; replace ha2 := ha2.bl hb_6; replace hq1 := hq1.bl hb_6; replace hq2 := hq2.bl hb_6; replace x_b1 := x_b1.bl hb_6; replace x_b2 := x_b2.bl hb_6; replace x_b3 := x_b3.bl hb_6; replace hb := hb.trans (hb_6.mono hb.size)
  replace g1 := g1.rd
  obtain ⟨n_g1, o_g1, k_g1, c_g1, rfl⟩ := g1.open2
  have Lg1 := hide (g1.lenOf (zlen_mul (ha1.len) (hq1.len)))
  refine hK _ _ rfl hb_6 ⟨x_b1.cell 0 rfl, x_b1.cell 1 rfl, x_b1.cell 2 rfl, x_b1.cell 3 rfl, x_b2.cell 0 rfl, x_b2.cell 1 rfl, x_b2.cell 2 rfl, x_b2.cell 3 rfl⟩ ?_
  clear hK K hb_6
  refine wpFl_call rfl (by kernel_rfl) fun w_7 hn hC => ?_; clear hC
  replace ha1 := ha1.bl hn; replace ha2 := ha2.bl hn; replace hq1 := hq1.bl hn; replace hq2 := hq2.bl hn; replace x_b1 := x_b1.bl hn; replace x_b2 := x_b2.bl hn; replace x_b3 := x_b3.bl hn; replace g1 := g1.bl hn; replace hb := hb.trans (hn.mono hb.size)
  clear hn; intro K hK
  go_big_op
  go_fit (rzmul_any ha2 hq2 (by omega) (by omega) )
  rintro e w_8 ⟨v_g2, rfl, g2, hb_8⟩
  replace ha1 := ha1.bl hb_8; replace ha2 := ha2.bl hb_8; replace hq1 := hq1.bl hb_8; replace hq2 := hq2.bl hb_8; replace x_b1 := x_b1.bl hb_8; replace x_b2 := x_b2.bl hb_8; replace x_b3 := x_b3.bl hb_8; replace g1 := g1.bl hb_8; replace hb := hb.trans (hb_8.mono hb.size)
  replace g2 := g2.rd
  obtain ⟨n_g2, o_g2, k_g2, c_g2, rfl⟩ := g2.open2
  have Lg2 := hide (g2.lenOf (zlen_mul (ha2.len) (hq2.len)))
  refine hK _ _ rfl hb_8 ⟨x_b1.cell 0 rfl, x_b1.cell 1 rfl, x_b1.cell 2 rfl, x_b1.cell 3 rfl, x_b2.cell 0 rfl, x_b2.cell 1 rfl, x_b2.cell 2 rfl, x_b2.cell 3 rfl⟩ ?_
  clear hK K hb_8
  refine wpFl_call rfl (by kernel_rfl) fun w_9 hn hC => ?_; clear hC
  replace ha1 := ha1.bl hn; replace ha2 := ha2.bl hn; replace hq1 := hq1.bl hn; replace hq2 := hq2.bl hn; replace x_b1 := x_b1.bl hn; replace x_b2 := x_b2.bl hn; replace x_b3 := x_b3.bl hn; replace g1 := g1.bl hn; replace g2 := g2.bl hn; replace hb := hb.trans (hn.mono hb.size)
  clear hn; intro K hK
  go_big_op
  go_fit (rzsub_any (g1.zn Lg1.out) (g2.zn Lg2.out) (by omega) (by omega) )
  rintro e w_10 ⟨v_g3, rfl, g3, hb_10⟩
  replace ha1 := ha1.bl hb_10; replace ha2 := ha2.bl hb_10; replace hq1 := hq1.bl hb_10; replace hq2 := hq2.bl hb_10; replace x_b1 := x_b1.bl hb_10; replace x_b2 := x_b2.bl hb_10; replace x_b3 := x_b3.bl hb_10; replace g1 := g1.bl hb_10; replace g2 := g2.bl hb_10; replace hb := hb.trans (hb_10.mono hb.size)
  replace g3 := g3.rd
  obtain ⟨n_g3, o_g3, k_g3, c_g3, rfl⟩ := g3.open2
  have Lg3 := hide (g3.lenOf (zlen_sub (Lg1.out) (Lg2.out)))
  refine hK _ _ rfl hb_10 ⟨x_b1.cell 0 rfl, x_b1.cell 1 rfl, x_b1.cell 2 rfl, x_b1.cell 3 rfl, x_b2.cell 0 rfl, x_b2.cell 1 rfl, x_b2.cell 2 rfl, x_b2.cell 3 rfl⟩ ?_
  clear hK K hb_10
  apply wpFl_end
  case ha => intro pt; simp only [putF, nthO, Act.put, ptr, List.setIfInBounds_toArray, List.set_cons_succ, List.set_cons_zero]; rfl
  case h =>
  intro w_11 pt hn hC hF hD
  clear hC
  clear g1 g2
  replace ha1 := ha1.bl hn; replace ha2 := ha2.bl hn; replace hq1 := hq1.bl hn; replace hq2 := hq2.bl hn; replace x_b1 := x_b1.bl hn; replace x_b2 := x_b2.bl hn; replace x_b3 := x_b3.bl hn; replace g3 := g3.bl hn; replace hb := hb.trans (hn.mono hb.size)
  clear hn
  obtain ⟨kB_b4, x_b4⟩ := hF 11 (by decide)
  replace x_b4 : Bs w_11 (pt 11) #[.bool false, .slice none 0 0] 26 := x_b4
  clear hF hD
  generalize pt 11 = p_b4 at *
  clear pt
  have kb_b4 := hide (Nat.le_trans kb0 kB_b4)
  have ne_b1_b4 : Hid (p_b1 ≠ p_b4) := Nat.ne_of_lt (Nat.lt_of_lt_of_le lt_b1 kB_b4)
  have ne_b2_b4 : Hid (p_b2 ≠ p_b4) := Nat.ne_of_lt (Nat.lt_of_lt_of_le lt_b2 kB_b4)
  have ne_b3_b4 : Hid (p_b3 ≠ p_b4) := Nat.ne_of_lt (Nat.lt_of_lt_of_le lt_b3 kB_b4)
  clear kB_b4
  clear kb0 lt_b1 lt_b2 lt_b3
  refine wpTail_call rfl (by kernel_rfl) fun K hK => ?_
  obtain ⟨d0, d1⟩ := x_b4.f2
  have f0 := x_b4.free 0; have f1 := x_b4.free 1
  go_big_op
  have hnd := x_b4.nod rfl rfl
  obtain ⟨w_12, eW, x_b4', ho⟩ : ∃ w', ((w_11.setCell ⟨p_b4, 0, none⟩ (.bool n_g3)).setCell ⟨p_b4, 1, none⟩ (.slice o_g3 k_g3 c_g3)) = w' ∧ Bs w' p_b4 #[.bool n_g3, .slice o_g3 k_g3 c_g3] 26 ∧ Only p_b4 w_11 w' := x_b4.setN [(0, .bool n_g3), (1, .slice o_g3 k_g3 c_g3)]
  rw [eW]; clear eW d0 d1 f0 f1 x_b4
  have x_b4 := x_b4'; clear x_b4'
  replace ha1 := ha1.fr hnd ho; replace ha2 := ha2.fr hnd ho; replace hq1 := hq1.fr hnd ho; replace hq2 := hq2.fr hnd ho; replace x_b1 := x_b1.frame ho ne_b1_b4; replace x_b2 := x_b2.frame ho ne_b2_b4; replace x_b3 := x_b3.frame ho ne_b3_b4; replace g3 := g3.fr hnd ho; replace hb := belowOnly hb ho kb_b4
  refine hK _ _ rfl (And.intro ⟨x_b1.cell 0 rfl, x_b1.cell 1 rfl, x_b1.cell 2 rfl, x_b1.cell 3 rfl⟩ (And.intro ⟨x_b2.cell 0 rfl, x_b2.cell 1 rfl, x_b2.cell 2 rfl, x_b2.cell 3 rfl⟩ True.intro)) ?_; clear hK K ho hnd
  apply wpTail_end
  refine hK2 _ _ ?_
  refine wp_seq_k ?_
  intro K3 hK3
  refine wp_region_fl2 [(0, false), (1, false), (2, false), (3, false), (4, false), (6, false), (7, false), (8, false), (9, false), (5, true), (10, true), (11, true), (12, false)] [13] [] (fun _ => default) [0, 99, 1, 99, 2, 99, 99, 1, 99, 2, 99, 99, 99, 99] [] (fun w' => w'.cell? ⟨p_b4, 0, none⟩ = some (.bool n_g3) ∧ w'.cell? ⟨p_b4, 1, none⟩ = some (.slice o_g3 k_g3 c_g3) ∧ w'.cell? ⟨p_b1, 0, none⟩ = some (.bool n_0a) ∧ w'.cell? ⟨p_b1, 1, none⟩ = some (.slice o_0a k_0a c_0a) ∧ w'.cell? ⟨p_b1, 2, none⟩ = some (.bool n_0b) ∧ w'.cell? ⟨p_b1, 3, none⟩ = some (.slice o_0b k_0b c_0b) ∧ w'.cell? ⟨p_b2, 0, none⟩ = some (.bool n_1a) ∧ w'.cell? ⟨p_b2, 1, none⟩ = some (.slice o_1a k_1a c_1a) ∧ w'.cell? ⟨p_b2, 2, none⟩ = some (.bool n_1b) ∧ w'.cell? ⟨p_b2, 3, none⟩ = some (.slice o_1b k_1b c_1b)) [fun w' => w'.cell? ⟨p_b4, 0, none⟩ = some (.bool n_g3) ∧ w'.cell? ⟨p_b4, 1, none⟩ = some (.slice o_g3 k_g3 c_g3), fun w' => w'.cell? ⟨p_b1, 0, none⟩ = some (.bool n_0a) ∧ w'.cell? ⟨p_b1, 1, none⟩ = some (.slice o_0a k_0a c_0a) ∧ w'.cell? ⟨p_b1, 2, none⟩ = some (.bool n_0b) ∧ w'.cell? ⟨p_b1, 3, none⟩ = some (.slice o_0b k_0b c_0b), fun w' => w'.cell? ⟨p_b2, 0, none⟩ = some (.bool n_1a) ∧ w'.cell? ⟨p_b2, 1, none⟩ = some (.slice o_1a k_1a c_1a) ∧ w'.cell? ⟨p_b2, 2, none⟩ = some (.bool n_1b) ∧ w'.cell? ⟨p_b2, 3, none⟩ = some (.slice o_1b k_1b c_1b)] (by kernel_rfl) (by kernel_rfl) (by kernel_rfl) (by kernel_rfl) (by kernel_rfl) (by kernel_rfl) (by kernel_rfl) (by kernel_rfl) (by decide) (by intro j hj; cases hj) (by intro w' o hC; obtain ⟨c0, c1, c2, c3, c4, c5, c6, c7, c8, c9⟩ := hC; exact ⟨cell_alloc c0 o, cell_alloc c1 o, cell_alloc c2 o, cell_alloc c3 o, cell_alloc c4 o, cell_alloc c5 o, cell_alloc c6 o, cell_alloc c7 o, cell_alloc c8 o, cell_alloc c9 o⟩) (by intro w' hC G hG; obtain ⟨c0, c1, c2, c3, c4, c5, c6, c7, c8, c9⟩ := hC; simp only [List.mem_cons, List.not_mem_nil, or_false] at hG; rcases hG with rfl | rfl | rfl <;> first | exact ⟨c0, c1⟩ | exact ⟨c2, c3, c4, c5⟩ | exact ⟨c6, c7, c8, c9⟩) ?_
  have lt_b1 := x_b1.lt
  have lt_b2 := x_b2.lt
  have lt_b3 := x_b3.lt
  have lt_b4 := x_b4.lt
  intro w_13 hn
  replace lt_b1 := Nat.lt_of_lt_of_le lt_b1 hn.size
  replace lt_b2 := Nat.lt_of_lt_of_le lt_b2 hn.size
  replace lt_b3 := Nat.lt_of_lt_of_le lt_b3 hn.size
  replace lt_b4 := Nat.lt_of_lt_of_le lt_b4 hn.size
  replace ha1 := ha1.bl hn; replace ha2 := ha2.bl hn; replace hq1 := hq1.bl hn; replace hq2 := hq2.bl hn; replace x_b1 := x_b1.bl hn; replace x_b2 := x_b2.bl hn; replace x_b3 := x_b3.bl hn; replace g3 := g3.bl hn; replace x_b4 := x_b4.bl hn; replace hb := hb.trans (hn.mono hb.size)
  clear hn
  have kb0 := hb.size
  refine ⟨⟨x_b4.cell 0 rfl, x_b4.cell 1 rfl, x_b1.cell 0 rfl, x_b1.cell 1 rfl, x_b1.cell 2 rfl, x_b1.cell 3 rfl, x_b2.cell 0 rfl, x_b2.cell 1 rfl, x_b2.cell 2 rfl, x_b2.cell 3 rfl⟩, ?_⟩
  apply wpFl_ld rfl rfl; (case h1 => intro w' hC K hK; obtain ⟨c0, c1⟩ := hC; go_big_op; exact hK); iterate 4 kernel_rfl
  apply wpFl_ld rfl rfl; (case h1 => intro w' hC K hK; go_big_op; exact hK); iterate 4 kernel_rfl
  apply wpFl_ld rfl rfl; (case h1 => intro w' hC K hK; obtain ⟨c0, c1, c2, c3⟩ := hC; go_big_op; exact hK); iterate 4 kernel_rfl
  apply wpFl_ld rfl rfl; (case h1 => intro w' hC K hK; go_big_op; exact hK); iterate 4 kernel_rfl
  apply wpFl_ld rfl rfl; (case h1 => intro w' hC K hK; obtain ⟨c0, c1, c2, c3⟩ := hC; go_big_op; exact hK); iterate 4 kernel_rfl
  apply wpFl_ld rfl rfl; (case h1 => intro w' hC K hK; go_big_op; exact hK); iterate 4 kernel_rfl
  apply wpFl_ld rfl rfl; (case h1 => intro w' hC K hK; obtain ⟨c0, c1, c2, c3⟩ := hC; go_big_op; exact hK); iterate 4 kernel_rfl
  apply wpFl_ld rfl rfl; (case h1 => intro w' hC K hK; go_big_op; exact hK); iterate 4 kernel_rfl
  apply wpFl_ld rfl rfl; (case h1 => intro w' hC K hK; obtain ⟨c0, c1, c2, c3⟩ := hC; go_big_op; exact hK); iterate 4 kernel_rfl
  refine wpFl_call rfl (by kernel_rfl) fun w_14 hn hC => ?_; clear hC
  replace ha1 := ha1.bl hn; replace ha2 := ha2.bl hn; replace hq1 := hq1.bl hn; replace hq2 := hq2.bl hn; replace x_b1 := x_b1.bl hn; replace x_b2 := x_b2.bl hn; replace x_b3 := x_b3.bl hn; replace g3 := g3.bl hn; replace x_b4 := x_b4.bl hn; replace hb := hb.trans (hn.mono hb.size)
  clear hn; intro K hK
  go_big_op
  go_fit (rzmul_any ha1 hq2 (by omega) (by omega) )
  rintro e w_15 ⟨v_g4, rfl, g4, hb_15⟩
  replace ha1 := ha1.bl hb_15; replace ha2 := ha2.bl hb_15; replace hq1 := hq1.bl hb_15; replace hq2 := hq2.bl hb_15; replace x_b1 := x_b1.bl hb_15; replace x_b2 := x_b2.bl hb_15; replace x_b3 := x_b3.bl hb_15; replace g3 := g3.bl hb_15; replace x_b4 := x_b4.bl hb_15; replace hb := hb.trans (hb_15.mono hb.size)
  replace g4 := g4.rd
  obtain ⟨n_g4, o_g4, k_g4, c_g4, rfl⟩ := g4.open2
  have Lg4 := hide (g4.lenOf (zlen_mul (ha1.len) (hq2.len)))
  refine hK _ _ rfl hb_15 ⟨x_b4.cell 0 rfl, x_b4.cell 1 rfl, x_b1.cell 0 rfl, x_b1.cell 1 rfl, x_b1.cell 2 rfl, x_b1.cell 3 rfl, x_b2.cell 0 rfl, x_b2.cell 1 rfl, x_b2.cell 2 rfl, x_b2.cell 3 rfl⟩ ?_
  clear hK K hb_15
  refine wpFl_call rfl (by kernel_rfl) fun w_16 hn hC => ?_; clear hC
  replace ha1 := ha1.bl hn; replace ha2 := ha2.bl hn; replace hq1 := hq1.bl hn; replace hq2 := hq2.bl hn; replace x_b1 := x_b1.bl hn; replace x_b2 := x_b2.bl hn; replace x_b3 := x_b3.bl hn; replace g3 := g3.bl hn; replace x_b4 := x_b4.bl hn; replace g4 := g4.bl hn; replace hb := hb.trans (hn.mono hb.size)
  clear hn; intro K hK
  go_big_op
  go_fit (rzmul_any ha2 hq1 (by omega) (by omega) )
  rintro e w_17 ⟨v_g5, rfl, g5, hb_17⟩
  replace ha1 := ha1.bl hb_17; replace ha2 := ha2.bl hb_17; replace hq1 := hq1.bl hb_17; replace hq2 := hq2.bl hb_17; replace x_b1 := x_b1.bl hb_17; replace x_b2 := x_b2.bl hb_17; replace x_b3 := x_b3.bl hb_17; replace g3 := g3.bl hb_17; replace x_b4 := x_b4.bl hb_17; replace g4 := g4.bl hb_17; replace hb := hb.trans (hb_17.mono hb.size)
  replace g5 := g5.rd
  obtain ⟨n_g5, o_g5, k_g5, c_g5, rfl⟩ := g5.open2
  have Lg5 := hide (g5.lenOf (zlen_mul (ha2.len) (hq1.len)))
  refine hK _ _ rfl hb_17 ⟨x_b4.cell 0 rfl, x_b4.cell 1 rfl, x_b1.cell 0 rfl, x_b1.cell 1 rfl, x_b1.cell 2 rfl, x_b1.cell 3 rfl, x_b2.cell 0 rfl, x_b2.cell 1 rfl, x_b2.cell 2 rfl, x_b2.cell 3 rfl⟩ ?_
  clear hK K hb_17
  refine wpFl_call rfl (by kernel_rfl) fun w_18 hn hC => ?_; clear hC
  replace ha1 := ha1.bl hn; replace ha2 := ha2.bl hn; replace hq1 := hq1.bl hn; replace hq2 := hq2.bl hn; replace x_b1 := x_b1.bl hn; replace x_b2 := x_b2.bl hn; replace x_b3 := x_b3.bl hn; replace g3 := g3.bl hn; replace x_b4 := x_b4.bl hn; replace g4 := g4.bl hn; replace g5 := g5.bl hn; replace hb := hb.trans (hn.mono hb.size)
  clear hn; intro K hK
  go_big_op
  go_fit (rzadd_any (g4.zn Lg4.out) (g5.zn Lg5.out) (by omega) (by omega) )
  rintro e w_19 ⟨v_g6, rfl, g6, hb_19⟩
  replace ha1 := ha1.bl hb_19; replace ha2 := ha2.bl hb_19; replace hq1 := hq1.bl hb_19; replace hq2 := hq2.bl hb_19; replace x_b1 := x_b1.bl hb_19; replace x_b2 := x_b2.bl hb_19; replace x_b3 := x_b3.bl hb_19; replace g3 := g3.bl hb_19; replace x_b4 := x_b4.bl hb_19; replace g4 := g4.bl hb_19; replace g5 := g5.bl hb_19; replace hb := hb.trans (hb_19.mono hb.size)
  replace g6 := g6.rd
  obtain ⟨n_g6, o_g6, k_g6, c_g6, rfl⟩ := g6.open2
  have Lg6 := hide (g6.lenOf (zlen_add (Lg4.out) (Lg5.out)))
  refine hK _ _ rfl hb_19 ⟨x_b4.cell 0 rfl, x_b4.cell 1 rfl, x_b1.cell 0 rfl, x_b1.cell 1 rfl, x_b1.cell 2 rfl, x_b1.cell 3 rfl, x_b2.cell 0 rfl, x_b2.cell 1 rfl, x_b2.cell 2 rfl, x_b2.cell 3 rfl⟩ ?_
  clear hK K hb_19
  apply wpFl_ld rfl rfl; (case h1 => intro w' hC K hK; go_big_op; exact hK); iterate 4 kernel_rfl
  apply wpFl_end
  case ha => intro pt; simp only [putF]; rfl
  case h =>
  intro w_20 pt hn hC hF hD
  clear hC
  clear g4 g5
  replace ha1 := ha1.bl hn; replace ha2 := ha2.bl hn; replace hq1 := hq1.bl hn; replace hq2 := hq2.bl hn; replace x_b1 := x_b1.bl hn; replace x_b2 := x_b2.bl hn; replace x_b3 := x_b3.bl hn; replace g3 := g3.bl hn; replace x_b4 := x_b4.bl hn; replace g6 := g6.bl hn; replace hb := hb.trans (hn.mono hb.size)
  clear hn
  clear hF hD
  clear pt
  clear kb0 lt_b1 lt_b2 lt_b3 lt_b4
  refine wpTail_call rfl (by kernel_rfl) fun K hK => ?_
  obtain ⟨d0, d1, d2, d3⟩ := x_b3.f4
  have f0 := x_b3.free 0; have f1 := x_b3.free 1; have f2 := x_b3.free 2; have f3 := x_b3.free 3
  go_big_op
  have hnd := x_b3.nod rfl rfl
  obtain ⟨w_21, eW, x_b3', ho⟩ : ∃ w', ((((w_20.setCell ⟨p_b3, 0, none⟩ (.bool n_g3)).setCell ⟨p_b3, 1, none⟩ (.slice o_g3 k_g3 c_g3)).setCell ⟨p_b3, 2, none⟩ (.bool n_g6)).setCell ⟨p_b3, 3, none⟩ (.slice o_g6 k_g6 c_g6)) = w' ∧ Bs w' p_b3 #[.bool n_g3, .slice o_g3 k_g3 c_g3, .bool n_g6, .slice o_g6 k_g6 c_g6] 29 ∧ Only p_b3 w_20 w' := x_b3.setN [(0, .bool n_g3), (1, .slice o_g3 k_g3 c_g3), (2, .bool n_g6), (3, .slice o_g6 k_g6 c_g6)]
  rw [eW]; clear eW d0 d1 d2 d3 f0 f1 f2 f3 x_b3
  have x_b3 := x_b3'; clear x_b3'
  replace ha1 := ha1.fr hnd ho; replace ha2 := ha2.fr hnd ho; replace hq1 := hq1.fr hnd ho; replace hq2 := hq2.fr hnd ho; replace x_b1 := x_b1.frame ho ne_b1_b3; replace x_b2 := x_b2.frame ho ne_b2_b3; replace g3 := g3.fr hnd ho; replace x_b4 := x_b4.frame ho ne_b3_b4.symm; replace g6 := g6.fr hnd ho; replace hb := belowOnly hb ho kb_b3
  refine hK _ _ rfl (And.intro ⟨x_b4.cell 0 rfl, x_b4.cell 1 rfl⟩ (And.intro ⟨x_b1.cell 0 rfl, x_b1.cell 1 rfl, x_b1.cell 2 rfl, x_b1.cell 3 rfl⟩ (And.intro ⟨x_b2.cell 0 rfl, x_b2.cell 1 rfl, x_b2.cell 2 rfl, x_b2.cell 3 rfl⟩ True.intro))) ?_; clear hK K ho hnd
  apply wpTail_end
  refine hK3 _ _ ?_
  refine wp_ret ?_
  try dsimp only [Exit.then, Exit.inBlock]
  obtain ⟨r0_0, r0_1, r0_2, r0_3⟩ := x_b3.f4
  refine bodyPost_ret (v := (.agg #[.bool n_g3, .slice o_g3 k_g3 c_g3, .bool n_g6, .slice o_g6 k_g6 c_g6])) (by simp [results, Tryz.results54, go_sem, r0_0, r0_1, r0_2, r0_3]) rfl ?_
  exact ⟨_, rfl, .mk' g3 g6, hb⟩
set_option maxHeartbeats 4000000 in
set_option maxRecDepth 20000 in
theorem rgConj_any (ha : PN w va x l y m) (hl : l ≤ 100000000) (hm : m ≤ 100000000) :
    Calls Tryz.prog 89 #[va] w fun e w' => ∃ r, e = .returned r ∧ PC w' r x (-y) ∧ Below w.heap.size w w' := by
  obtain ⟨n_0a, o_0a, k_0a, c_0a, n_0b, o_0b, k_0b, c_0b, rfl, ha1, ha2⟩ := ha
  go_enter Tryz.func89, Tryz.ntmps89
  have hb := Below.refl w.heap.size w
  refine wp_seq_k ?_
  intro K1 hK1
  refine wp_region_sq [0, 1] (by kernel_rfl) ?_
  refine wpSq_call rfl (by kernel_rfl) fun K hK => ?_
  go_big_op
  obtain ⟨p_b1, w_1, eP, eW, x_b1, hn, kb_b1⟩ := newBox w #[.bool n_0a, .slice o_0a k_0a c_0a, .bool n_0b, .slice o_0b k_0b c_0b] 29 hb.size
  rw [eW, eP]
  clear eW eP
  replace ha1 := ha1.bl hn; replace ha2 := ha2.bl hn; replace hb := hb.trans (hn.mono hb.size)
  refine hK _ _ rfl ?_; clear hK K hn
  refine wpSq_call rfl (by kernel_rfl) fun K hK => ?_
  go_big_op
  have lt_b1 := x_b1.lt
  obtain ⟨p_b2, w_2, eP, eW, x_b2, hn, kb_b2⟩ := newBox w_1 #[.bool false, .slice none 0 0, .bool false, .slice none 0 0] 29 hb.size
  have ne_b1_b2 : Hid (p_b1 ≠ p_b2) := Nat.ne_of_lt (eP ▸ lt_b1)
  rw [eW, eP]
  clear eW eP lt_b1
  replace ha1 := ha1.bl hn; replace ha2 := ha2.bl hn; replace x_b1 := x_b1.bl hn; replace hb := hb.trans (hn.mono hb.size)
  refine hK _ _ rfl ?_; clear hK K hn
  apply wpSq_end
  refine hK1 _ _ ?_
  refine wp_seq_k ?_
  intro K2 hK2
  refine wp_region_fl2 [(0, false), (1, false), (3, false), (4, false), (2, true), (5, true), (6, false)] [7] [] (fun _ => default) [99, 0, 99, 99, 0, 99, 99, 99] [] (fun w' => w'.cell? ⟨p_b1, 0, none⟩ = some (.bool n_0a) ∧ w'.cell? ⟨p_b1, 1, none⟩ = some (.slice o_0a k_0a c_0a) ∧ w'.cell? ⟨p_b1, 2, none⟩ = some (.bool n_0b) ∧ w'.cell? ⟨p_b1, 3, none⟩ = some (.slice o_0b k_0b c_0b)) [fun w' => w'.cell? ⟨p_b1, 0, none⟩ = some (.bool n_0a) ∧ w'.cell? ⟨p_b1, 1, none⟩ = some (.slice o_0a k_0a c_0a) ∧ w'.cell? ⟨p_b1, 2, none⟩ = some (.bool n_0b) ∧ w'.cell? ⟨p_b1, 3, none⟩ = some (.slice o_0b k_0b c_0b)] (by kernel_rfl) (by kernel_rfl) (by kernel_rfl) (by kernel_rfl) (by kernel_rfl) (by kernel_rfl) (by kernel_rfl) (by kernel_rfl) (by decide) (by intro j hj; cases hj) (by intro w' o hC; obtain ⟨c0, c1, c2, c3⟩ := hC; exact ⟨cell_alloc c0 o, cell_alloc c1 o, cell_alloc c2 o, cell_alloc c3 o⟩) (by intro w' hC G hG; obtain ⟨c0, c1, c2, c3⟩ := hC; simp only [List.mem_cons, List.not_mem_nil, or_false] at hG; rcases hG with rfl <;> first | exact ⟨c0, c1, c2, c3⟩) ?_
  have lt_b1 := x_b1.lt
  have lt_b2 := x_b2.lt
  intro w_3 hn
  replace lt_b1 := Nat.lt_of_lt_of_le lt_b1 hn.size
  replace lt_b2 := Nat.lt_of_lt_of_le lt_b2 hn.size
  replace ha1 := ha1.bl hn; replace ha2 := ha2.bl hn; replace x_b1 := x_b1.bl hn; replace x_b2 := x_b2.bl hn; replace hb := hb.trans (hn.mono hb.size)
  clear hn
  have kb0 := hb.size
  refine ⟨⟨x_b1.cell 0 rfl, x_b1.cell 1 rfl, x_b1.cell 2 rfl, x_b1.cell 3 rfl⟩, ?_⟩
  apply wpFl_ld rfl rfl; (case h1 => intro w' hC K hK; go_big_op; exact hK); iterate 4 kernel_rfl
  apply wpFl_ld rfl rfl; (case h1 => intro w' hC K hK; obtain ⟨c0, c1, c2, c3⟩ := hC; go_big_op; exact hK); iterate 4 kernel_rfl
  apply wpFl_ld rfl rfl; (case h1 => intro w' hC K hK; go_big_op; exact hK); iterate 4 kernel_rfl
  apply wpFl_ld rfl rfl; (case h1 => intro w' hC K hK; obtain ⟨c0, c1, c2, c3⟩ := hC; go_big_op; exact hK); iterate 4 kernel_rfl
  refine wpFl_call rfl (by kernel_rfl) fun w_4 hn hC => ?_; clear hC
  replace ha1 := ha1.bl hn; replace ha2 := ha2.bl hn; replace x_b1 := x_b1.bl hn; replace x_b2 := x_b2.bl hn; replace hb := hb.trans (hn.mono hb.size)
  clear hn; intro K hK
  go_big_op
  go_fit (rnorm_any ha1 (by omega) )
  rintro e w_5 ⟨v_g1, rfl, g1, hb_5⟩
  replace ha1 := ha1.bl hb_5; replace ha2 := ha2.bl hb_5; replace x_b1 := x_b1.bl hb_5; replace x_b2 := x_b2.bl hb_5; replace hb := hb.trans (hb_5.mono hb.size)
  replace g1 := g1.rd
  obtain ⟨n_g1, o_g1, k_g1, c_g1, rfl⟩ := g1.open2
  have Lg1 := hide (g1.lenOf ((ha1.len)))
  refine hK _ _ rfl hb_5 ⟨x_b1.cell 0 rfl, x_b1.cell 1 rfl, x_b1.cell 2 rfl, x_b1.cell 3 rfl⟩ ?_
  clear hK K hb_5
  refine wpFl_call rfl (by kernel_rfl) fun w_6 hn hC => ?_; clear hC
  replace ha1 := ha1.bl hn; replace ha2 := ha2.bl hn; replace x_b1 := x_b1.bl hn; replace x_b2 := x_b2.bl hn; replace g1 := g1.bl hn; replace hb := hb.trans (hn.mono hb.size)
  clear hn; intro K hK
  go_big_op
  go_fit (rneg_any ha2 (by omega) )
  rintro e w_7 ⟨v_g2, rfl, g2, hb_7⟩
  replace ha1 := ha1.bl hb_7; replace ha2 := ha2.bl hb_7; replace x_b1 := x_b1.bl hb_7; replace x_b2 := x_b2.bl hb_7; replace g1 := g1.bl hb_7; replace hb := hb.trans (hb_7.mono hb.size)
  replace g2 := g2.rd
  obtain ⟨n_g2, o_g2, k_g2, c_g2, rfl⟩ := g2.open2
  have Lg2 := hide (g2.lenOf (zlen_neg (ha2.len)))
  refine hK _ _ rfl hb_7 ⟨x_b1.cell 0 rfl, x_b1.cell 1 rfl, x_b1.cell 2 rfl, x_b1.cell 3 rfl⟩ ?_
  clear hK K hb_7
  apply wpFl_ld rfl rfl; (case h1 => intro w' hC K hK; go_big_op; exact hK); iterate 4 kernel_rfl
  apply wpFl_end
  case ha => intro pt; simp only [putF]; rfl
  case h =>
  intro w_8 pt hn hC hF hD
  clear hC
  replace ha1 := ha1.bl hn; replace ha2 := ha2.bl hn; replace x_b1 := x_b1.bl hn; replace x_b2 := x_b2.bl hn; replace g1 := g1.bl hn; replace g2 := g2.bl hn; replace hb := hb.trans (hn.mono hb.size)
  clear hn
  clear hF hD
  clear pt
  clear kb0 lt_b1 lt_b2
  refine wpTail_call rfl (by kernel_rfl) fun K hK => ?_
  obtain ⟨d0, d1, d2, d3⟩ := x_b2.f4
  have f0 := x_b2.free 0; have f1 := x_b2.free 1; have f2 := x_b2.free 2; have f3 := x_b2.free 3
  go_big_op
  have hnd := x_b2.nod rfl rfl
  obtain ⟨w_9, eW, x_b2', ho⟩ : ∃ w', ((((w_8.setCell ⟨p_b2, 0, none⟩ (.bool n_g1)).setCell ⟨p_b2, 1, none⟩ (.slice o_g1 k_g1 c_g1)).setCell ⟨p_b2, 2, none⟩ (.bool n_g2)).setCell ⟨p_b2, 3, none⟩ (.slice o_g2 k_g2 c_g2)) = w' ∧ Bs w' p_b2 #[.bool n_g1, .slice o_g1 k_g1 c_g1, .bool n_g2, .slice o_g2 k_g2 c_g2] 29 ∧ Only p_b2 w_8 w' := x_b2.setN [(0, .bool n_g1), (1, .slice o_g1 k_g1 c_g1), (2, .bool n_g2), (3, .slice o_g2 k_g2 c_g2)]
  rw [eW]; clear eW d0 d1 d2 d3 f0 f1 f2 f3 x_b2
  have x_b2 := x_b2'; clear x_b2'
  replace ha1 := ha1.fr hnd ho; replace ha2 := ha2.fr hnd ho; replace x_b1 := x_b1.frame ho ne_b1_b2; replace g1 := g1.fr hnd ho; replace g2 := g2.fr hnd ho; replace hb := belowOnly hb ho kb_b2
  refine hK _ _ rfl (And.intro ⟨x_b1.cell 0 rfl, x_b1.cell 1 rfl, x_b1.cell 2 rfl, x_b1.cell 3 rfl⟩ True.intro) ?_; clear hK K ho hnd
  apply wpTail_end
  refine hK2 _ _ ?_
  refine wp_ret ?_
  try dsimp only [Exit.then, Exit.inBlock]
  obtain ⟨r0_0, r0_1, r0_2, r0_3⟩ := x_b2.f4
  refine bodyPost_ret (v := (.agg #[.bool n_g1, .slice o_g1 k_g1 c_g1, .bool n_g2, .slice o_g2 k_g2 c_g2])) (by simp [results, Tryz.results89, go_sem, r0_0, r0_1, r0_2, r0_3]) rfl ?_
  exact ⟨_, rfl, .mk' g1 g2, hb⟩
set_option maxHeartbeats 4000000 in
set_option maxRecDepth 20000 in
theorem rgCanonical_any (ha : PN w va x l y m) (hl : l ≤ 100000000) (hm : m ≤ 100000000) :
    Calls Tryz.prog 50 #[va] w fun e w' => ∃ r, e = .returned r ∧ PC w' r x y ∧ Below w.heap.size w w' := by
  obtain ⟨n_0a, o_0a, k_0a, c_0a, n_0b, o_0b, k_0b, c_0b, rfl, ha1, ha2⟩ := ha
  go_enter Tryz.func50, Tryz.ntmps50
  have hb := Below.refl w.heap.size w
  refine wp_seq_k ?_
  intro K1 hK1
  refine wp_region_sq [0, 1] (by kernel_rfl) ?_
  refine wpSq_call rfl (by kernel_rfl) fun K hK => ?_
  go_big_op
  obtain ⟨p_b1, w_1, eP, eW, x_b1, hn, kb_b1⟩ := newBox w #[.bool n_0a, .slice o_0a k_0a c_0a, .bool n_0b, .slice o_0b k_0b c_0b] 29 hb.size
  rw [eW, eP]
  clear eW eP
  replace ha1 := ha1.bl hn; replace ha2 := ha2.bl hn; replace hb := hb.trans (hn.mono hb.size)
  refine hK _ _ rfl ?_; clear hK K hn
  refine wpSq_call rfl (by kernel_rfl) fun K hK => ?_
  go_big_op
  have lt_b1 := x_b1.lt
  obtain ⟨p_b2, w_2, eP, eW, x_b2, hn, kb_b2⟩ := newBox w_1 #[.bool false, .slice none 0 0, .bool false, .slice none 0 0] 29 hb.size
  have ne_b1_b2 : Hid (p_b1 ≠ p_b2) := Nat.ne_of_lt (eP ▸ lt_b1)
  rw [eW, eP]
  clear eW eP lt_b1
  replace ha1 := ha1.bl hn; replace ha2 := ha2.bl hn; replace x_b1 := x_b1.bl hn; replace hb := hb.trans (hn.mono hb.size)
  refine hK _ _ rfl ?_; clear hK K hn
  apply wpSq_end
  refine hK1 _ _ ?_
  refine wp_seq_k ?_
  intro K2 hK2
  refine wp_region_fl2 [(0, false), (1, false), (3, false), (4, false), (2, true), (5, true), (6, false)] [7] [] (fun _ => default) [99, 0, 99, 99, 0, 99, 99, 99] [] (fun w' => w'.cell? ⟨p_b1, 0, none⟩ = some (.bool n_0a) ∧ w'.cell? ⟨p_b1, 1, none⟩ = some (.slice o_0a k_0a c_0a) ∧ w'.cell? ⟨p_b1, 2, none⟩ = some (.bool n_0b) ∧ w'.cell? ⟨p_b1, 3, none⟩ = some (.slice o_0b k_0b c_0b)) [fun w' => w'.cell? ⟨p_b1, 0, none⟩ = some (.bool n_0a) ∧ w'.cell? ⟨p_b1, 1, none⟩ = some (.slice o_0a k_0a c_0a) ∧ w'.cell? ⟨p_b1, 2, none⟩ = some (.bool n_0b) ∧ w'.cell? ⟨p_b1, 3, none⟩ = some (.slice o_0b k_0b c_0b)] (by kernel_rfl) (by kernel_rfl) (by kernel_rfl) (by kernel_rfl) (by kernel_rfl) (by kernel_rfl) (by kernel_rfl) (by kernel_rfl) (by decide) (by intro j hj; cases hj) (by intro w' o hC; obtain ⟨c0, c1, c2, c3⟩ := hC; exact ⟨cell_alloc c0 o, cell_alloc c1 o, cell_alloc c2 o, cell_alloc c3 o⟩) (by intro w' hC G hG; obtain ⟨c0, c1, c2, c3⟩ := hC; simp only [List.mem_cons, List.not_mem_nil, or_false] at hG; rcases hG with rfl <;> first | exact ⟨c0, c1, c2, c3⟩) ?_
  have lt_b1 := x_b1.lt
  have lt_b2 := x_b2.lt
  intro w_3 hn
  replace lt_b1 := Nat.lt_of_lt_of_le lt_b1 hn.size
  replace lt_b2 := Nat.lt_of_lt_of_le lt_b2 hn.size
  replace ha1 := ha1.bl hn; replace ha2 := ha2.bl hn; replace x_b1 := x_b1.bl hn; replace x_b2 := x_b2.bl hn; replace hb := hb.trans (hn.mono hb.size)
  clear hn
  have kb0 := hb.size
  refine ⟨⟨x_b1.cell 0 rfl, x_b1.cell 1 rfl, x_b1.cell 2 rfl, x_b1.cell 3 rfl⟩, ?_⟩
  apply wpFl_ld rfl rfl; (case h1 => intro w' hC K hK; go_big_op; exact hK); iterate 4 kernel_rfl
  apply wpFl_ld rfl rfl; (case h1 => intro w' hC K hK; obtain ⟨c0, c1, c2, c3⟩ := hC; go_big_op; exact hK); iterate 4 kernel_rfl
  apply wpFl_ld rfl rfl; (case h1 => intro w' hC K hK; go_big_op; exact hK); iterate 4 kernel_rfl
  apply wpFl_ld rfl rfl; (case h1 => intro w' hC K hK; obtain ⟨c0, c1, c2, c3⟩ := hC; go_big_op; exact hK); iterate 4 kernel_rfl
  refine wpFl_call rfl (by kernel_rfl) fun w_4 hn hC => ?_; clear hC
  replace ha1 := ha1.bl hn; replace ha2 := ha2.bl hn; replace x_b1 := x_b1.bl hn; replace x_b2 := x_b2.bl hn; replace hb := hb.trans (hn.mono hb.size)
  clear hn; intro K hK
  go_big_op
  go_fit (rnorm_any ha1 (by omega) )
  rintro e w_5 ⟨v_g1, rfl, g1, hb_5⟩
  replace ha1 := ha1.bl hb_5; replace ha2 := ha2.bl hb_5; replace x_b1 := x_b1.bl hb_5; replace x_b2 := x_b2.bl hb_5; replace hb := hb.trans (hb_5.mono hb.size)
  replace g1 := g1.rd
  obtain ⟨n_g1, o_g1, k_g1, c_g1, rfl⟩ := g1.open2
  have Lg1 := hide (g1.lenOf ((ha1.len)))
  refine hK _ _ rfl hb_5 ⟨x_b1.cell 0 rfl, x_b1.cell 1 rfl, x_b1.cell 2 rfl, x_b1.cell 3 rfl⟩ ?_
  clear hK K hb_5
  refine wpFl_call rfl (by kernel_rfl) fun w_6 hn hC => ?_; clear hC
  replace ha1 := ha1.bl hn; replace ha2 := ha2.bl hn; replace x_b1 := x_b1.bl hn; replace x_b2 := x_b2.bl hn; replace g1 := g1.bl hn; replace hb := hb.trans (hn.mono hb.size)
  clear hn; intro K hK
  go_big_op
  go_fit (rnorm_any ha2 (by omega) )
  rintro e w_7 ⟨v_g2, rfl, g2, hb_7⟩
  replace ha1 := ha1.bl hb_7; replace ha2 := ha2.bl hb_7; replace x_b1 := x_b1.bl hb_7; replace x_b2 := x_b2.bl hb_7; replace g1 := g1.bl hb_7; replace hb := hb.trans (hb_7.mono hb.size)
  replace g2 := g2.rd
  obtain ⟨n_g2, o_g2, k_g2, c_g2, rfl⟩ := g2.open2
  have Lg2 := hide (g2.lenOf ((ha2.len)))
  refine hK _ _ rfl hb_7 ⟨x_b1.cell 0 rfl, x_b1.cell 1 rfl, x_b1.cell 2 rfl, x_b1.cell 3 rfl⟩ ?_
  clear hK K hb_7
  apply wpFl_ld rfl rfl; (case h1 => intro w' hC K hK; go_big_op; exact hK); iterate 4 kernel_rfl
  apply wpFl_end
  case ha => intro pt; simp only [putF]; rfl
  case h =>
  intro w_8 pt hn hC hF hD
  clear hC
  replace ha1 := ha1.bl hn; replace ha2 := ha2.bl hn; replace x_b1 := x_b1.bl hn; replace x_b2 := x_b2.bl hn; replace g1 := g1.bl hn; replace g2 := g2.bl hn; replace hb := hb.trans (hn.mono hb.size)
  clear hn
  clear hF hD
  clear pt
  clear kb0 lt_b1 lt_b2
  refine wpTail_call rfl (by kernel_rfl) fun K hK => ?_
  obtain ⟨d0, d1, d2, d3⟩ := x_b2.f4
  have f0 := x_b2.free 0; have f1 := x_b2.free 1; have f2 := x_b2.free 2; have f3 := x_b2.free 3
  go_big_op
  have hnd := x_b2.nod rfl rfl
  obtain ⟨w_9, eW, x_b2', ho⟩ : ∃ w', ((((w_8.setCell ⟨p_b2, 0, none⟩ (.bool n_g1)).setCell ⟨p_b2, 1, none⟩ (.slice o_g1 k_g1 c_g1)).setCell ⟨p_b2, 2, none⟩ (.bool n_g2)).setCell ⟨p_b2, 3, none⟩ (.slice o_g2 k_g2 c_g2)) = w' ∧ Bs w' p_b2 #[.bool n_g1, .slice o_g1 k_g1 c_g1, .bool n_g2, .slice o_g2 k_g2 c_g2] 29 ∧ Only p_b2 w_8 w' := x_b2.setN [(0, .bool n_g1), (1, .slice o_g1 k_g1 c_g1), (2, .bool n_g2), (3, .slice o_g2 k_g2 c_g2)]
  rw [eW]; clear eW d0 d1 d2 d3 f0 f1 f2 f3 x_b2
  have x_b2 := x_b2'; clear x_b2'
  replace ha1 := ha1.fr hnd ho; replace ha2 := ha2.fr hnd ho; replace x_b1 := x_b1.frame ho ne_b1_b2; replace g1 := g1.fr hnd ho; replace g2 := g2.fr hnd ho; replace hb := belowOnly hb ho kb_b2
  refine hK _ _ rfl (And.intro ⟨x_b1.cell 0 rfl, x_b1.cell 1 rfl, x_b1.cell 2 rfl, x_b1.cell 3 rfl⟩ True.intro) ?_; clear hK K ho hnd
  apply wpTail_end
  refine hK2 _ _ ?_
  refine wp_ret ?_
  try dsimp only [Exit.then, Exit.inBlock]
  obtain ⟨r0_0, r0_1, r0_2, r0_3⟩ := x_b2.f4
  refine bodyPost_ret (v := (.agg #[.bool n_g1, .slice o_g1 k_g1 c_g1, .bool n_g2, .slice o_g2 k_g2 c_g2])) (by simp [results, Tryz.results50, go_sem, r0_0, r0_1, r0_2, r0_3]) rfl ?_
  exact ⟨_, rfl, .mk' g1 g2, hb⟩
set_option maxHeartbeats 4000000 in
set_option maxRecDepth 20000 in
theorem rgNorm_any (ha : PN w va x l y m) (hl : l ≤ 40000000) (hm : m ≤ 40000000) :
    Calls Tryz.prog 88 #[va] w fun e w' => ∃ r, e = .returned r ∧ ZC w' r (gN x y) ∧ Below w.heap.size w w' := by
  unfold gN
  obtain ⟨n_0a, o_0a, k_0a, c_0a, n_0b, o_0b, k_0b, c_0b, rfl, ha1, ha2⟩ := ha
  go_enter Tryz.func88, Tryz.ntmps88
  have hb := Below.refl w.heap.size w
  refine wp_seq_k ?_
  intro K1 hK1
  refine wp_region_sq [0, 1] (by kernel_rfl) ?_
  refine wpSq_call rfl (by kernel_rfl) fun K hK => ?_
  go_big_op
  obtain ⟨p_b1, w_1, eP, eW, x_b1, hn, kb_b1⟩ := newBox w #[.bool n_0a, .slice o_0a k_0a c_0a, .bool n_0b, .slice o_0b k_0b c_0b] 29 hb.size
  rw [eW, eP]
  clear eW eP
  replace ha1 := ha1.bl hn; replace ha2 := ha2.bl hn; replace hb := hb.trans (hn.mono hb.size)
  refine hK _ _ rfl ?_; clear hK K hn
  refine wpSq_call rfl (by kernel_rfl) fun K hK => ?_
  go_big_op
  have lt_b1 := x_b1.lt
  obtain ⟨p_b2, w_2, eP, eW, x_b2, hn, kb_b2⟩ := newBox w_1 #[.bool false, .slice none 0 0] 26 hb.size
  have ne_b1_b2 : Hid (p_b1 ≠ p_b2) := Nat.ne_of_lt (eP ▸ lt_b1)
  rw [eW, eP]
  clear eW eP lt_b1
  replace ha1 := ha1.bl hn; replace ha2 := ha2.bl hn; replace x_b1 := x_b1.bl hn; replace hb := hb.trans (hn.mono hb.size)
  refine hK _ _ rfl ?_; clear hK K hn
  apply wpSq_end
  refine hK1 _ _ ?_
  refine wp_seq_k ?_
  intro K2 hK2
  refine wp_region_fl2 [(0, false), (1, false), (2, false), (3, false), (5, false), (6, false), (7, false), (8, false), (4, true), (9, true), (10, true)] [11] [] (fun _ => default) [99, 0, 99, 0, 99, 99, 0, 99, 0, 99, 99, 99] [] (fun w' => w'.cell? ⟨p_b1, 0, none⟩ = some (.bool n_0a) ∧ w'.cell? ⟨p_b1, 1, none⟩ = some (.slice o_0a k_0a c_0a) ∧ w'.cell? ⟨p_b1, 2, none⟩ = some (.bool n_0b) ∧ w'.cell? ⟨p_b1, 3, none⟩ = some (.slice o_0b k_0b c_0b)) [fun w' => w'.cell? ⟨p_b1, 0, none⟩ = some (.bool n_0a) ∧ w'.cell? ⟨p_b1, 1, none⟩ = some (.slice o_0a k_0a c_0a) ∧ w'.cell? ⟨p_b1, 2, none⟩ = some (.bool n_0b) ∧ w'.cell? ⟨p_b1, 3, none⟩ = some (.slice o_0b k_0b c_0b)] (by kernel_rfl) (by kernel_rfl) (by kernel_rfl) (by kernel_rfl) (by kernel_rfl) (by kernel_rfl) (by kernel_rfl) (by kernel_rfl) (by decide) (by intro j hj; cases hj) (by intro w' o hC; obtain ⟨c0, c1, c2, c3⟩ := hC; exact ⟨cell_alloc c0 o, cell_alloc c1 o, cell_alloc c2 o, cell_alloc c3 o⟩) (by intro w' hC G hG; obtain ⟨c0, c1, c2, c3⟩ := hC; simp only [List.mem_cons, List.not_mem_nil, or_false] at hG; rcases hG with rfl <;> first | exact ⟨c0, c1, c2, c3⟩) ?_
  have lt_b1 := x_b1.lt
  have lt_b2 := x_b2.lt
  intro w_3 hn
  replace lt_b1 := Nat.lt_of_lt_of_le lt_b1 hn.size
  replace lt_b2 := Nat.lt_of_lt_of_le lt_b2 hn.size
  replace ha1 := ha1.bl hn; replace ha2 := ha2.bl hn; replace x_b1 := x_b1.bl hn; replace x_b2 := x_b2.bl hn; replace hb := hb.trans (hn.mono hb.size)
  clear hn
  have kb0 := hb.size
  refine ⟨⟨x_b1.cell 0 rfl, x_b1.cell 1 rfl, x_b1.cell 2 rfl, x_b1.cell 3 rfl⟩, ?_⟩
  apply wpFl_ld rfl rfl; (case h1 => intro w' hC K hK; go_big_op; exact hK); iterate 4 kernel_rfl
  apply wpFl_ld rfl rfl; (case h1 => intro w' hC K hK; obtain ⟨c0, c1, c2, c3⟩ := hC; go_big_op; exact hK); iterate 4 kernel_rfl
  apply wpFl_ld rfl rfl; (case h1 => intro w' hC K hK; go_big_op; exact hK); iterate 4 kernel_rfl
  apply wpFl_ld rfl rfl; (case h1 => intro w' hC K hK; obtain ⟨c0, c1, c2, c3⟩ := hC; go_big_op; exact hK); iterate 4 kernel_rfl
  apply wpFl_ld rfl rfl; (case h1 => intro w' hC K hK; go_big_op; exact hK); iterate 4 kernel_rfl
  apply wpFl_ld rfl rfl; (case h1 => intro w' hC K hK; obtain ⟨c0, c1, c2, c3⟩ := hC; go_big_op; exact hK); iterate 4 kernel_rfl
  apply wpFl_ld rfl rfl; (case h1 => intro w' hC K hK; go_big_op; exact hK); iterate 4 kernel_rfl
  apply wpFl_ld rfl rfl; (case h1 => intro w' hC K hK; obtain ⟨c0, c1, c2, c3⟩ := hC; go_big_op; exact hK); iterate 4 kernel_rfl
  refine wpFl_call rfl (by kernel_rfl) fun w_4 hn hC => ?_; clear hC
  replace ha1 := ha1.bl hn; replace ha2 := ha2.bl hn; replace x_b1 := x_b1.bl hn; replace x_b2 := x_b2.bl hn; replace hb := hb.trans (hn.mono hb.size)
  clear hn; intro K hK
  go_big_op
  go_fit (rzmul_any ha1 ha1 (by omega) (by omega) )
  rintro e w_5 ⟨v_g1, rfl, g1, hb_5⟩
  replace ha1 := ha1.bl hb_5; replace ha2 := ha2.bl hb_5; replace x_b1 := x_b1.bl hb_5; replace x_b2 := x_b2.bl hb_5; replace hb := hb.trans (hb_5.mono hb.size)
  replace g1 := g1.rd
  obtain ⟨n_g1, o_g1, k_g1, c_g1, rfl⟩ := g1.open2
  have Lg1 := hide (g1.lenOf (zlen_mul (ha1.len) (ha1.len)))
  refine hK _ _ rfl hb_5 ⟨x_b1.cell 0 rfl, x_b1.cell 1 rfl, x_b1.cell 2 rfl, x_b1.cell 3 rfl⟩ ?_
  clear hK K hb_5
  refine wpFl_call rfl (by kernel_rfl) fun w_6 hn hC => ?_; clear hC
  replace ha1 := ha1.bl hn; replace ha2 := ha2.bl hn; replace x_b1 := x_b1.bl hn; replace x_b2 := x_b2.bl hn; replace g1 := g1.bl hn; replace hb := hb.trans (hn.mono hb.size)
  clear hn; intro K hK
  go_big_op
  go_fit (rzmul_any ha2 ha2 (by omega) (by omega) )
  rintro e w_7 ⟨v_g2, rfl, g2, hb_7⟩
  replace ha1 := ha1.bl hb_7; replace ha2 := ha2.bl hb_7; replace x_b1 := x_b1.bl hb_7; replace x_b2 := x_b2.bl hb_7; replace g1 := g1.bl hb_7; replace hb := hb.trans (hb_7.mono hb.size)
  replace g2 := g2.rd
  obtain ⟨n_g2, o_g2, k_g2, c_g2, rfl⟩ := g2.open2
  have Lg2 := hide (g2.lenOf (zlen_mul (ha2.len) (ha2.len)))
  refine hK _ _ rfl hb_7 ⟨x_b1.cell 0 rfl, x_b1.cell 1 rfl, x_b1.cell 2 rfl, x_b1.cell 3 rfl⟩ ?_
  clear hK K hb_7
  refine wpFl_call rfl (by kernel_rfl) fun w_8 hn hC => ?_; clear hC
  replace ha1 := ha1.bl hn; replace ha2 := ha2.bl hn; replace x_b1 := x_b1.bl hn; replace x_b2 := x_b2.bl hn; replace g1 := g1.bl hn; replace g2 := g2.bl hn; replace hb := hb.trans (hn.mono hb.size)
  clear hn; intro K hK
  go_big_op
  go_fit (rzadd_any (g1.zn Lg1.out) (g2.zn Lg2.out) (by omega) (by omega) )
  rintro e w_9 ⟨v_g3, rfl, g3, hb_9⟩
  replace ha1 := ha1.bl hb_9; replace ha2 := ha2.bl hb_9; replace x_b1 := x_b1.bl hb_9; replace x_b2 := x_b2.bl hb_9; replace g1 := g1.bl hb_9; replace g2 := g2.bl hb_9; replace hb := hb.trans (hb_9.mono hb.size)
  replace g3 := g3.rd
  obtain ⟨n_g3, o_g3, k_g3, c_g3, rfl⟩ := g3.open2
  have Lg3 := hide (g3.lenOf (zlen_add (Lg1.out) (Lg2.out)))
  refine hK _ _ rfl hb_9 ⟨x_b1.cell 0 rfl, x_b1.cell 1 rfl, x_b1.cell 2 rfl, x_b1.cell 3 rfl⟩ ?_
  clear hK K hb_9
  apply wpFl_end
  case ha => intro pt; simp only [putF]; rfl
  case h =>
  intro w_10 pt hn hC hF hD
  clear hC
  clear g1 g2
  replace ha1 := ha1.bl hn; replace ha2 := ha2.bl hn; replace x_b1 := x_b1.bl hn; replace x_b2 := x_b2.bl hn; replace g3 := g3.bl hn; replace hb := hb.trans (hn.mono hb.size)
  clear hn
  clear hF hD
  clear pt
  clear kb0 lt_b1 lt_b2
  refine wpTail_call rfl (by kernel_rfl) fun K hK => ?_
  obtain ⟨d0, d1⟩ := x_b2.f2
  have f0 := x_b2.free 0; have f1 := x_b2.free 1
  go_big_op
  have hnd := x_b2.nod rfl rfl
  obtain ⟨w_11, eW, x_b2', ho⟩ : ∃ w', ((w_10.setCell ⟨p_b2, 0, none⟩ (.bool n_g3)).setCell ⟨p_b2, 1, none⟩ (.slice o_g3 k_g3 c_g3)) = w' ∧ Bs w' p_b2 #[.bool n_g3, .slice o_g3 k_g3 c_g3] 26 ∧ Only p_b2 w_10 w' := x_b2.setN [(0, .bool n_g3), (1, .slice o_g3 k_g3 c_g3)]
  rw [eW]; clear eW d0 d1 f0 f1 x_b2
  have x_b2 := x_b2'; clear x_b2'
  replace ha1 := ha1.fr hnd ho; replace ha2 := ha2.fr hnd ho; replace x_b1 := x_b1.frame ho ne_b1_b2; replace g3 := g3.fr hnd ho; replace hb := belowOnly hb ho kb_b2
  refine hK _ _ rfl (And.intro ⟨x_b1.cell 0 rfl, x_b1.cell 1 rfl, x_b1.cell 2 rfl, x_b1.cell 3 rfl⟩ True.intro) ?_; clear hK K ho hnd
  apply wpTail_end
  refine hK2 _ _ ?_
  refine wp_ret ?_
  try dsimp only [Exit.then, Exit.inBlock]
  obtain ⟨r0_0, r0_1⟩ := x_b2.f2
  refine bodyPost_ret (v := (.agg #[.bool n_g3, .slice o_g3 k_g3 c_g3])) (by simp [results, Tryz.results88, go_sem, r0_0, r0_1]) rfl ?_
  exact ⟨_, rfl, g3, hb⟩
set_option maxHeartbeats 4000000 in
set_option maxRecDepth 20000 in
theorem rgSame_any (ha : PC w va x y) (hq : PN w vb x l y m) (hl : l ≤ 100000000) (hm : m ≤ 100000000) :
    Calls Tryz.prog 34 #[va, vb] w fun e w' => e = .returned (.bool true) ∧ Below w.heap.size w w' := by
  obtain ⟨n_0a, o_0a, k_0a, c_0a, n_0b, o_0b, k_0b, c_0b, rfl, ha1, ha2⟩ := ha
  obtain ⟨n_1a, o_1a, k_1a, c_1a, n_1b, o_1b, k_1b, c_1b, rfl, hq1, hq2⟩ := hq
  go_enter Tryz.func34, Tryz.ntmps34
  have hb := Below.refl w.heap.size w
  refine wp_seq_k ?_
  intro K1 hK1
  refine wp_region_sq [0, 1, 2] (by kernel_rfl) ?_
  refine wpSq_call rfl (by kernel_rfl) fun K hK => ?_
  go_big_op
  obtain ⟨p_b1, w_1, eP, eW, x_b1, hn, kb_b1⟩ := newBox w #[.bool n_0a, .slice o_0a k_0a c_0a, .bool n_0b, .slice o_0b k_0b c_0b] 29 hb.size
  rw [eW, eP]
  clear eW eP
  replace ha1 := ha1.bl hn; replace ha2 := ha2.bl hn; replace hq1 := hq1.bl hn; replace hq2 := hq2.bl hn; replace hb := hb.trans (hn.mono hb.size)
  refine hK _ _ rfl ?_; clear hK K hn
  refine wpSq_call rfl (by kernel_rfl) fun K hK => ?_
  go_big_op
  have lt_b1 := x_b1.lt
  obtain ⟨p_b2, w_2, eP, eW, x_b2, hn, kb_b2⟩ := newBox w_1 #[.bool n_1a, .slice o_1a k_1a c_1a, .bool n_1b, .slice o_1b k_1b c_1b] 29 hb.size
  have ne_b1_b2 : Hid (p_b1 ≠ p_b2) := Nat.ne_of_lt (eP ▸ lt_b1)
  rw [eW, eP]
  clear eW eP lt_b1
  replace ha1 := ha1.bl hn; replace ha2 := ha2.bl hn; replace hq1 := hq1.bl hn; replace hq2 := hq2.bl hn; replace x_b1 := x_b1.bl hn; replace hb := hb.trans (hn.mono hb.size)
  refine hK _ _ rfl ?_; clear hK K hn
  refine wpSq_call rfl (by kernel_rfl) fun K hK => ?_
  go_big_move; refine hK _ _ rfl ?_; clear hK K
  apply wpSq_end
  refine hK1 _ _ ?_
  refine wp_seq_k ?_
  intro K2 hK2
  refine wp_region_sq [0, 1, 2, 3, 4, 5, 6, 7, 8, 9, 10, 11, 12] (by kernel_rfl) ?_
  refine wpSq_call rfl (by kernel_rfl) fun K hK => ?_
  go_big_op; refine hK _ _ rfl ?_; clear hK K
  refine wpSq_call rfl (by kernel_rfl) fun K hK => ?_
  obtain ⟨d0, d1, d2, d3⟩ := x_b1.f4
  go_big_op; refine hK _ _ rfl ?_; clear hK K d0 d1 d2 d3
  refine wpSq_call rfl (by kernel_rfl) fun K hK => ?_
  go_big_op; refine hK _ _ rfl ?_; clear hK K
  refine wpSq_call rfl (by kernel_rfl) fun K hK => ?_
  obtain ⟨d0, d1, d2, d3⟩ := x_b2.f4
  go_big_op; refine hK _ _ rfl ?_; clear hK K d0 d1 d2 d3
  refine wpSq_call rfl (by kernel_rfl) fun K hK => ?_
  go_big_op
  go_fit (rsame_zz ha1 hq1 (by omega) )
  rintro e w_3 ⟨rfl, hb_3⟩
  replace ha1 := ha1.bl hb_3; replace ha2 := ha2.bl hb_3; replace hq1 := hq1.bl hb_3; replace hq2 := hq2.bl hb_3; replace x_b1 := x_b1.bl hb_3; replace x_b2 := x_b2.bl hb_3; replace hb := hb.trans (hb_3.mono hb.size)
  refine hK _ _ rfl ?_
  clear hK K hb_3
  refine wpSq_call rfl (by kernel_rfl) fun K hK => ?_
  go_big_move; refine hK _ _ rfl ?_; clear hK K
  refine wpSq_call rfl (by kernel_rfl) fun K hK => ?_
  go_big_op; refine hK _ _ rfl ?_; clear hK K
  refine wpSq_call rfl (by kernel_rfl) fun K hK => ?_
  obtain ⟨d0, d1, d2, d3⟩ := x_b1.f4
  go_big_op; refine hK _ _ rfl ?_; clear hK K d0 d1 d2 d3
  refine wpSq_call rfl (by kernel_rfl) fun K hK => ?_
  go_big_op; refine hK _ _ rfl ?_; clear hK K
  refine wpSq_call rfl (by kernel_rfl) fun K hK => ?_
  obtain ⟨d0, d1, d2, d3⟩ := x_b2.f4
  go_big_op; refine hK _ _ rfl ?_; clear hK K d0 d1 d2 d3
  refine wpSq_call rfl (by kernel_rfl) fun K hK => ?_
  go_big_op
  go_fit (rsame_zz ha2 hq2 (by omega) )
  rintro e w_4 ⟨rfl, hb_4⟩
  clear ha1 hq1 x_b1 x_b2
  replace ha2 := ha2.bl hb_4; replace hq2 := hq2.bl hb_4; replace hb := hb.trans (hb_4.mono hb.size)
  refine hK _ _ rfl ?_
  clear hK K hb_4
  refine wpSq_call rfl (by kernel_rfl) fun K hK => ?_
  go_big_op; refine hK _ _ rfl ?_; clear hK K
  refine wpSq_call rfl (by kernel_rfl) fun K hK => ?_
  go_big_move; refine hK _ _ rfl ?_; clear hK K
  apply wpSq_end
  refine hK2 _ _ ?_
  refine wp_ret ?_
  try dsimp only [Exit.then, Exit.inBlock]
  refine bodyPost_ret (v := (.bool true)) (by simp [results, Tryz.results34, go_sem]) rfl ?_
  exact ⟨rfl, hb⟩
set_option maxHeartbeats 4000000 in
set_option maxRecDepth 20000 in
theorem gis_any (ha : PC w va x y) (hq : PN w vb x l y m) (hl : l ≤ 90000000) (hm : m ≤ 90000000) :
    Calls Tryz.prog 11 #[va, vb] w fun e w' => e = .returned (.bool true) ∧ Below w.heap.size w w' := by
  obtain ⟨n_0a, o_0a, k_0a, c_0a, n_0b, o_0b, k_0b, c_0b, rfl, ha1, ha2⟩ := ha
  obtain ⟨n_1a, o_1a, k_1a, c_1a, n_1b, o_1b, k_1b, c_1b, rfl, hq1, hq2⟩ := hq
  go_enter Tryz.func11, Tryz.ntmps11
  have hb := Below.refl w.heap.size w
  refine wp_seq_k ?_
  intro K1 hK1
  refine wp_region_sq [0, 1, 2] (by kernel_rfl) ?_
  refine wpSq_call rfl (by kernel_rfl) fun K hK => ?_
  go_big_op
  obtain ⟨p_b1, w_1, eP, eW, x_b1, hn, kb_b1⟩ := newBox w #[.bool n_0a, .slice o_0a k_0a c_0a, .bool n_0b, .slice o_0b k_0b c_0b] 29 hb.size
  rw [eW, eP]
  clear eW eP
  replace ha1 := ha1.bl hn; replace ha2 := ha2.bl hn; replace hq1 := hq1.bl hn; replace hq2 := hq2.bl hn; replace hb := hb.trans (hn.mono hb.size)
  refine hK _ _ rfl ?_; clear hK K hn
  refine wpSq_call rfl (by kernel_rfl) fun K hK => ?_
  go_big_op
  have lt_b1 := x_b1.lt
  obtain ⟨p_b2, w_2, eP, eW, x_b2, hn, kb_b2⟩ := newBox w_1 #[.bool n_1a, .slice o_1a k_1a c_1a, .bool n_1b, .slice o_1b k_1b c_1b] 29 hb.size
  have ne_b1_b2 : Hid (p_b1 ≠ p_b2) := Nat.ne_of_lt (eP ▸ lt_b1)
  rw [eW, eP]
  clear eW eP lt_b1
  replace ha1 := ha1.bl hn; replace ha2 := ha2.bl hn; replace hq1 := hq1.bl hn; replace hq2 := hq2.bl hn; replace x_b1 := x_b1.bl hn; replace hb := hb.trans (hn.mono hb.size)
  refine hK _ _ rfl ?_; clear hK K hn
  refine wpSq_call rfl (by kernel_rfl) fun K hK => ?_
  go_big_move; refine hK _ _ rfl ?_; clear hK K
  apply wpSq_end
  refine hK1 _ _ ?_
  refine wp_seq_k ?_
  intro K2 hK2
  refine wp_region_sq [0, 1, 2, 3] (by kernel_rfl) ?_
  refine wpSq_call rfl (by kernel_rfl) fun K hK => ?_
  obtain ⟨d0, d1, d2, d3⟩ := x_b1.f4
  go_big_op; refine hK _ _ rfl ?_; clear hK K d0 d1 d2 d3
  refine wpSq_call rfl (by kernel_rfl) fun K hK => ?_
  obtain ⟨d0, d1, d2, d3⟩ := x_b2.f4
  go_big_op; refine hK _ _ rfl ?_; clear hK K d0 d1 d2 d3
  refine wpSq_call rfl (by kernel_rfl) fun K hK => ?_
  go_big_op
  go_fit (rgSame_any (PC.mk' ha1 ha2) (PN.mk' hq1 hq2) (by omega) (by omega) )
  rintro e w_3 ⟨rfl, hb_3⟩
  clear x_b1 x_b2
  replace ha1 := ha1.bl hb_3; replace ha2 := ha2.bl hb_3; replace hq1 := hq1.bl hb_3; replace hq2 := hq2.bl hb_3; replace hb := hb.trans (hb_3.mono hb.size)
  refine hK _ _ rfl ?_
  clear hK K hb_3
  refine wpSq_call rfl (by kernel_rfl) fun K hK => ?_
  go_big_move; refine hK _ _ rfl ?_; clear hK K
  apply wpSq_end
  refine hK2 _ _ ?_
  refine wp_ret ?_
  try dsimp only [Exit.then, Exit.inBlock]
  refine bodyPost_ret (v := (.bool true)) (by simp [results, Tryz.results11, go_sem]) rfl ?_
  exact ⟨rfl, hb⟩
set_option maxHeartbeats 4000000 in
set_option maxRecDepth 20000 in
theorem rgI_any (a b : Int) (w : World) (h1 : -9223372036854775808 ≤ a) (h2 : a ≤ 9223372036854775807) (h3 : -9223372036854775808 ≤ b) (h4 : b ≤ 9223372036854775807) :
    Calls Tryz.prog 32 #[.int .i64 a, .int .i64 b] w fun e w' => ∃ r, e = .returned r ∧ PC w' r a b ∧ Below w.heap.size w w' := by
  go_enter Tryz.func32, Tryz.ntmps32
  have hb := Below.refl w.heap.size w
  refine wp_seq_k ?_
  intro K1 hK1
  refine wp_region_sq [0] (by kernel_rfl) ?_
  refine wpSq_call rfl (by kernel_rfl) fun K hK => ?_
  go_big_op
  obtain ⟨p_b1, w_1, eP, eW, x_b1, hn, kb_b1⟩ := newBox w #[.bool false, .slice none 0 0, .bool false, .slice none 0 0] 29 hb.size
  rw [eW, eP]
  clear eW eP
  replace hb := hb.trans (hn.mono hb.size)
  refine hK _ _ rfl ?_; clear hK K hn
  apply wpSq_end
  refine hK1 _ _ ?_
  refine wp_seq_k ?_
  intro K2 hK2
  refine wp_region_sq [0, 1, 2, 3, 4, 5] (by kernel_rfl) ?_
  refine wpSq_call rfl (by kernel_rfl) fun K hK => ?_
  go_big_move; refine hK _ _ rfl ?_; clear hK K
  refine wpSq_call rfl (by kernel_rfl) fun K hK => ?_
  go_big_op
  go_fit (ri_any a _ h1 h2)
  rintro e w_2 ⟨v_g1, rfl, g1, hb_2⟩
  replace x_b1 := x_b1.bl hb_2; replace hb := hb.trans (hb_2.mono hb.size)
  replace g1 := g1.rd
  obtain ⟨n_g1, o_g1, k_g1, c_g1, rfl⟩ := g1.open2
  refine hK _ _ rfl ?_
  clear hK K hb_2
  refine wpSq_call rfl (by kernel_rfl) fun K hK => ?_
  go_big_move; refine hK _ _ rfl ?_; clear hK K
  refine wpSq_call rfl (by kernel_rfl) fun K hK => ?_
  go_big_op
  go_fit (ri_any b _ h3 h4)
  rintro e w_3 ⟨v_g2, rfl, g2, hb_3⟩
  replace x_b1 := x_b1.bl hb_3; replace g1 := g1.bl hb_3; replace hb := hb.trans (hb_3.mono hb.size)
  replace g2 := g2.rd
  obtain ⟨n_g2, o_g2, k_g2, c_g2, rfl⟩ := g2.open2
  refine hK _ _ rfl ?_
  clear hK K hb_3
  refine wpSq_call rfl (by kernel_rfl) fun K hK => ?_
  go_big_op; refine hK _ _ rfl ?_; clear hK K
  refine wpSq_call rfl (by kernel_rfl) fun K hK => ?_
  obtain ⟨d0, d1, d2, d3⟩ := x_b1.f4
  have f0 := x_b1.free 0; have f1 := x_b1.free 1; have f2 := x_b1.free 2; have f3 := x_b1.free 3
  go_big_op
  have hnd := x_b1.nod rfl rfl
  obtain ⟨w_4, eW, x_b1', ho⟩ : ∃ w', ((((w_3.setCell ⟨p_b1, 0, none⟩ (.bool n_g1)).setCell ⟨p_b1, 1, none⟩ (.slice o_g1 k_g1 c_g1)).setCell ⟨p_b1, 2, none⟩ (.bool n_g2)).setCell ⟨p_b1, 3, none⟩ (.slice o_g2 k_g2 c_g2)) = w' ∧ Bs w' p_b1 #[.bool n_g1, .slice o_g1 k_g1 c_g1, .bool n_g2, .slice o_g2 k_g2 c_g2] 29 ∧ Only p_b1 w_3 w' := x_b1.setN [(0, .bool n_g1), (1, .slice o_g1 k_g1 c_g1), (2, .bool n_g2), (3, .slice o_g2 k_g2 c_g2)]
  rw [eW]; clear eW d0 d1 d2 d3 f0 f1 f2 f3 x_b1
  have x_b1 := x_b1'; clear x_b1'
  replace g1 := g1.fr hnd ho; replace g2 := g2.fr hnd ho; replace hb := belowOnly hb ho kb_b1
  refine hK _ _ rfl ?_; clear hK K ho hnd
  apply wpSq_end
  refine hK2 _ _ ?_
  refine wp_ret ?_
  try dsimp only [Exit.then, Exit.inBlock]
  obtain ⟨r0_0, r0_1, r0_2, r0_3⟩ := x_b1.f4
  refine bodyPost_ret (v := (.agg #[.bool n_g1, .slice o_g1 k_g1 c_g1, .bool n_g2, .slice o_g2 k_g2 c_g2])) (by simp [results, Tryz.results32, go_sem, r0_0, r0_1, r0_2, r0_3]) rfl ?_
  exact ⟨_, rfl, .mk' g1 g2, hb⟩
set_option maxHeartbeats 4000000 in
set_option maxRecDepth 20000 in
theorem gg_any (a b : Int) (w : World) (h1 : -9223372036854775808 ≤ a) (h2 : a ≤ 9223372036854775807) (h3 : -9223372036854775808 ≤ b) (h4 : b ≤ 9223372036854775807) :
    Calls Tryz.prog 9 #[.int .i64 a, .int .i64 b] w fun e w' => ∃ r, e = .returned r ∧ PC w' r a b ∧ Below w.heap.size w w' := by
  go_enter Tryz.func9, Tryz.ntmps9
  have hb := Below.refl w.heap.size w
  refine wp_seq_k ?_
  intro K1 hK1
  refine wp_region_sq [0] (by kernel_rfl) ?_
  refine wpSq_call rfl (by kernel_rfl) fun K hK => ?_
  go_big_op
  obtain ⟨p_b1, w_1, eP, eW, x_b1, hn, kb_b1⟩ := newBox w #[.bool false, .slice none 0 0, .bool false, .slice none 0 0] 29 hb.size
  rw [eW, eP]
  clear eW eP
  replace hb := hb.trans (hn.mono hb.size)
  refine hK _ _ rfl ?_; clear hK K hn
  apply wpSq_end
  refine hK1 _ _ ?_
  refine wp_seq_k ?_
  intro K2 hK2
  refine wp_region_sq [0, 1, 2, 3] (by kernel_rfl) ?_
  refine wpSq_call rfl (by kernel_rfl) fun K hK => ?_
  go_big_move; refine hK _ _ rfl ?_; clear hK K
  refine wpSq_call rfl (by kernel_rfl) fun K hK => ?_
  go_big_move; refine hK _ _ rfl ?_; clear hK K
  refine wpSq_call rfl (by kernel_rfl) fun K hK => ?_
  go_big_op
  go_fit (rgI_any a b _ h1 h2 h3 h4)
  rintro e w_2 ⟨_, rfl, ⟨n_g1a, o_g1a, k_g1a, c_g1a, n_g1b, o_g1b, k_g1b, c_g1b, rfl, g11, g12⟩, hb_2⟩
  replace x_b1 := x_b1.bl hb_2; replace hb := hb.trans (hb_2.mono hb.size)
  refine hK _ _ rfl ?_
  clear hK K hb_2
  refine wpSq_call rfl (by kernel_rfl) fun K hK => ?_
  obtain ⟨d0, d1, d2, d3⟩ := x_b1.f4
  have f0 := x_b1.free 0; have f1 := x_b1.free 1; have f2 := x_b1.free 2; have f3 := x_b1.free 3
  go_big_op
  have hnd := x_b1.nod rfl rfl
  obtain ⟨w_3, eW, x_b1', ho⟩ : ∃ w', ((((w_2.setCell ⟨p_b1, 0, none⟩ (.bool n_g1a)).setCell ⟨p_b1, 1, none⟩ (.slice o_g1a k_g1a c_g1a)).setCell ⟨p_b1, 2, none⟩ (.bool n_g1b)).setCell ⟨p_b1, 3, none⟩ (.slice o_g1b k_g1b c_g1b)) = w' ∧ Bs w' p_b1 #[.bool n_g1a, .slice o_g1a k_g1a c_g1a, .bool n_g1b, .slice o_g1b k_g1b c_g1b] 29 ∧ Only p_b1 w_2 w' := x_b1.setN [(0, .bool n_g1a), (1, .slice o_g1a k_g1a c_g1a), (2, .bool n_g1b), (3, .slice o_g1b k_g1b c_g1b)]
  rw [eW]; clear eW d0 d1 d2 d3 f0 f1 f2 f3 x_b1
  have x_b1 := x_b1'; clear x_b1'
  replace g11 := g11.fr hnd ho; replace g12 := g12.fr hnd ho; replace hb := belowOnly hb ho kb_b1
  refine hK _ _ rfl ?_; clear hK K ho hnd
  apply wpSq_end
  refine hK2 _ _ ?_
  refine wp_ret ?_
  try dsimp only [Exit.then, Exit.inBlock]
  obtain ⟨r0_0, r0_1, r0_2, r0_3⟩ := x_b1.f4
  refine bodyPost_ret (v := (.agg #[.bool n_g1a, .slice o_g1a k_g1a c_g1a, .bool n_g1b, .slice o_g1b k_g1b c_g1b])) (by simp [results, Tryz.results9, go_sem, r0_0, r0_1, r0_2, r0_3]) rfl ?_
  exact ⟨_, rfl, .mk' g11 g12, hb⟩
set_option maxHeartbeats 4000000 in
set_option maxRecDepth 20000 in
theorem gFrom_any (a b : Int) (w : World) (h1 : -9223372036854775808 ≤ a) (h2 : a ≤ 9223372036854775807) (h3 : -9223372036854775808 ≤ b) (h4 : b ≤ 9223372036854775807) :
    Calls Tryz.prog 27 #[.int .i64 a, .int .i64 b] w fun e w' => ∃ r, e = .returned r ∧ PC w' r a b ∧ Below w.heap.size w w' := by
  go_enter Tryz.func27, Tryz.ntmps27
  have hb := Below.refl w.heap.size w
  refine wp_seq_k ?_
  intro K1 hK1
  refine wp_region_sq [0] (by kernel_rfl) ?_
  refine wpSq_call rfl (by kernel_rfl) fun K hK => ?_
  go_big_op
  obtain ⟨p_b1, w_1, eP, eW, x_b1, hn, kb_b1⟩ := newBox w #[.bool false, .slice none 0 0, .bool false, .slice none 0 0] 29 hb.size
  rw [eW, eP]
  clear eW eP
  replace hb := hb.trans (hn.mono hb.size)
  refine hK _ _ rfl ?_; clear hK K hn
  apply wpSq_end
  refine hK1 _ _ ?_
  refine wp_seq_k ?_
  intro K2 hK2
  refine wp_region_sq [0, 1, 2, 3, 4, 5] (by kernel_rfl) ?_
  refine wpSq_call rfl (by kernel_rfl) fun K hK => ?_
  go_big_move; refine hK _ _ rfl ?_; clear hK K
  refine wpSq_call rfl (by kernel_rfl) fun K hK => ?_
  go_big_op
  go_fit (from_any a _ h1 h2)
  rintro e w_2 ⟨v_g1, rfl, g1, hb_2⟩
  replace x_b1 := x_b1.bl hb_2; replace hb := hb.trans (hb_2.mono hb.size)
  replace g1 := g1.rd
  obtain ⟨n_g1, o_g1, k_g1, c_g1, rfl⟩ := g1.open2
  refine hK _ _ rfl ?_
  clear hK K hb_2
  refine wpSq_call rfl (by kernel_rfl) fun K hK => ?_
  go_big_move; refine hK _ _ rfl ?_; clear hK K
  refine wpSq_call rfl (by kernel_rfl) fun K hK => ?_
  go_big_op
  go_fit (from_any b _ h3 h4)
  rintro e w_3 ⟨v_g2, rfl, g2, hb_3⟩
  replace x_b1 := x_b1.bl hb_3; replace g1 := g1.bl hb_3; replace hb := hb.trans (hb_3.mono hb.size)
  replace g2 := g2.rd
  obtain ⟨n_g2, o_g2, k_g2, c_g2, rfl⟩ := g2.open2
  refine hK _ _ rfl ?_
  clear hK K hb_3
  refine wpSq_call rfl (by kernel_rfl) fun K hK => ?_
  go_big_op; refine hK _ _ rfl ?_; clear hK K
  refine wpSq_call rfl (by kernel_rfl) fun K hK => ?_
  obtain ⟨d0, d1, d2, d3⟩ := x_b1.f4
  have f0 := x_b1.free 0; have f1 := x_b1.free 1; have f2 := x_b1.free 2; have f3 := x_b1.free 3
  go_big_op
  have hnd := x_b1.nod rfl rfl
  obtain ⟨w_4, eW, x_b1', ho⟩ : ∃ w', ((((w_3.setCell ⟨p_b1, 0, none⟩ (.bool n_g1)).setCell ⟨p_b1, 1, none⟩ (.slice o_g1 k_g1 c_g1)).setCell ⟨p_b1, 2, none⟩ (.bool n_g2)).setCell ⟨p_b1, 3, none⟩ (.slice o_g2 k_g2 c_g2)) = w' ∧ Bs w' p_b1 #[.bool n_g1, .slice o_g1 k_g1 c_g1, .bool n_g2, .slice o_g2 k_g2 c_g2] 29 ∧ Only p_b1 w_3 w' := x_b1.setN [(0, .bool n_g1), (1, .slice o_g1 k_g1 c_g1), (2, .bool n_g2), (3, .slice o_g2 k_g2 c_g2)]
  rw [eW]; clear eW d0 d1 d2 d3 f0 f1 f2 f3 x_b1
  have x_b1 := x_b1'; clear x_b1'
  replace g1 := g1.fr hnd ho; replace g2 := g2.fr hnd ho; replace hb := belowOnly hb ho kb_b1
  refine hK _ _ rfl ?_; clear hK K ho hnd
  apply wpSq_end
  refine hK2 _ _ ?_
  refine wp_ret ?_
  try dsimp only [Exit.then, Exit.inBlock]
  obtain ⟨r0_0, r0_1, r0_2, r0_3⟩ := x_b1.f4
  refine bodyPost_ret (v := (.agg #[.bool n_g1, .slice o_g1 k_g1 c_g1, .bool n_g2, .slice o_g2 k_g2 c_g2])) (by simp [results, Tryz.results27, go_sem, r0_0, r0_1, r0_2, r0_3]) rfl ?_
  exact ⟨_, rfl, .mk' g1 g2, hb⟩
set_option maxHeartbeats 4000000 in
set_option maxRecDepth 20000 in
theorem rgNull_yes (ha : PN w va 0 l 0 m) (hl : l ≤ 100000000) (hm : m ≤ 100000000) :
    Calls Tryz.prog 51 #[va] w fun e w' => e = .returned (.bool true) ∧ Below w.heap.size w w' := by
  obtain ⟨n_0a, o_0a, k_0a, c_0a, n_0b, o_0b, k_0b, c_0b, rfl, ha1, ha2⟩ := ha
  go_enter Tryz.func51, Tryz.ntmps51
  have hb := Below.refl w.heap.size w
  refine wp_seq_k ?_
  intro K1 hK1
  refine wp_region_sq [0, 1] (by kernel_rfl) ?_
  refine wpSq_call rfl (by kernel_rfl) fun K hK => ?_
  go_big_op
  obtain ⟨p_b1, w_1, eP, eW, x_b1, hn, kb_b1⟩ := newBox w #[.bool n_0a, .slice o_0a k_0a c_0a, .bool n_0b, .slice o_0b k_0b c_0b] 29 hb.size
  rw [eW, eP]
  clear eW eP
  replace ha1 := ha1.bl hn; replace ha2 := ha2.bl hn; replace hb := hb.trans (hn.mono hb.size)
  refine hK _ _ rfl ?_; clear hK K hn
  refine wpSq_call rfl (by kernel_rfl) fun K hK => ?_
  go_big_move; refine hK _ _ rfl ?_; clear hK K
  apply wpSq_end
  refine hK1 _ _ ?_
  refine wp_seq_k ?_
  intro K2 hK2
  refine wp_region_sq [0, 1, 2, 3, 4, 5, 6, 7, 8, 9, 10] (by kernel_rfl) ?_
  refine wpSq_call rfl (by kernel_rfl) fun K hK => ?_
  go_big_op; refine hK _ _ rfl ?_; clear hK K
  refine wpSq_call rfl (by kernel_rfl) fun K hK => ?_
  obtain ⟨d0, d1, d2, d3⟩ := x_b1.f4
  go_big_op; refine hK _ _ rfl ?_; clear hK K d0 d1 d2 d3
  refine wpSq_call rfl (by kernel_rfl) fun K hK => ?_
  go_big_op
  go_fit (rzsign_any ha1 (by omega) )
  rintro e w_2 ⟨rfl, hb_2⟩
  replace ha1 := ha1.bl hb_2; replace ha2 := ha2.bl hb_2; replace x_b1 := x_b1.bl hb_2; replace hb := hb.trans (hb_2.mono hb.size)
  refine hK _ _ rfl ?_
  clear hK K hb_2
  refine wpSq_call rfl (by kernel_rfl) fun K hK => ?_
  go_big_op; refine hK _ _ rfl ?_; clear hK K
  refine wpSq_call rfl (by kernel_rfl) fun K hK => ?_
  go_big_move; refine hK _ _ rfl ?_; clear hK K
  refine wpSq_call rfl (by kernel_rfl) fun K hK => ?_
  go_big_op; refine hK _ _ rfl ?_; clear hK K
  refine wpSq_call rfl (by kernel_rfl) fun K hK => ?_
  obtain ⟨d0, d1, d2, d3⟩ := x_b1.f4
  go_big_op; refine hK _ _ rfl ?_; clear hK K d0 d1 d2 d3
  refine wpSq_call rfl (by kernel_rfl) fun K hK => ?_
  go_big_op
  go_fit (rzsign_any ha2 (by omega) )
  rintro e w_3 ⟨rfl, hb_3⟩
  clear ha1 x_b1
  replace ha2 := ha2.bl hb_3; replace hb := hb.trans (hb_3.mono hb.size)
  refine hK _ _ rfl ?_
  clear hK K hb_3
  refine wpSq_call rfl (by kernel_rfl) fun K hK => ?_
  go_big_op; refine hK _ _ rfl ?_; clear hK K
  refine wpSq_call rfl (by kernel_rfl) fun K hK => ?_
  go_big_op; refine hK _ _ rfl ?_; clear hK K
  refine wpSq_call rfl (by kernel_rfl) fun K hK => ?_
  go_big_move; refine hK _ _ rfl ?_; clear hK K
  apply wpSq_end
  refine hK2 _ _ ?_
  refine wp_ret ?_
  try dsimp only [Exit.then, Exit.inBlock]
  refine bodyPost_ret (v := (.bool true)) (by simp [results, Tryz.results51, go_sem]) rfl ?_
  exact ⟨rfl, hb⟩
set_option maxHeartbeats 4000000 in
set_option maxRecDepth 20000 in
theorem rgNull_no1 (ha : PN w va x l y m) (hl : l ≤ 100000000) (hm : m ≤ 100000000) (h : x ≠ 0) :
    Calls Tryz.prog 51 #[va] w fun e w' => e = .returned (.bool false) ∧ Below w.heap.size w w' := by
  have H0 : (x.sign == 0) = false := by simpa using h
  obtain ⟨S, hS⟩ : ∃ S, x.sign = S := ⟨_, rfl⟩
  rw [hS] at H0
  have HS := hide hS
  clear h hS
  obtain ⟨n_0a, o_0a, k_0a, c_0a, n_0b, o_0b, k_0b, c_0b, rfl, ha1, ha2⟩ := ha
  go_enter Tryz.func51, Tryz.ntmps51
  have hb := Below.refl w.heap.size w
  refine wp_seq_k ?_
  intro K1 hK1
  refine wp_region_sq [0, 1] (by kernel_rfl) ?_
  refine wpSq_call rfl (by kernel_rfl) fun K hK => ?_
  go_big_op
  obtain ⟨p_b1, w_1, eP, eW, x_b1, hn, kb_b1⟩ := newBox w #[.bool n_0a, .slice o_0a k_0a c_0a, .bool n_0b, .slice o_0b k_0b c_0b] 29 hb.size
  rw [eW, eP]
  clear eW eP
  replace ha1 := ha1.bl hn; replace ha2 := ha2.bl hn; replace hb := hb.trans (hn.mono hb.size)
  refine hK _ _ rfl ?_; clear hK K hn
  refine wpSq_call rfl (by kernel_rfl) fun K hK => ?_
  go_big_move; refine hK _ _ rfl ?_; clear hK K
  apply wpSq_end
  refine hK1 _ _ ?_
  refine wp_seq_k ?_
  intro K2 hK2
  refine wp_region_sq [0, 1, 2, 3, 4, 5, 6, 7, 8, 9, 10] (by kernel_rfl) ?_
  refine wpSq_call rfl (by kernel_rfl) fun K hK => ?_
  go_big_op; refine hK _ _ rfl ?_; clear hK K
  refine wpSq_call rfl (by kernel_rfl) fun K hK => ?_
  obtain ⟨d0, d1, d2, d3⟩ := x_b1.f4
  go_big_op; refine hK _ _ rfl ?_; clear hK K d0 d1 d2 d3
  refine wpSq_call rfl (by kernel_rfl) fun K hK => ?_
  go_big_op
  go_fit (rzsign_any ha1 (by omega) )
  rintro e w_2 ⟨rfl, hb_2⟩
  replace ha1 := ha1.bl hb_2; replace ha2 := ha2.bl hb_2; replace x_b1 := x_b1.bl hb_2; replace hb := hb.trans (hb_2.mono hb.size)
  rw [HS.out]
  refine hK _ _ rfl ?_
  clear hK K hb_2
  refine wpSq_call rfl (by kernel_rfl) fun K hK => ?_
  go_big_op; refine hK _ _ rfl ?_; clear hK K
  refine wpSq_call rfl (by kernel_rfl) fun K hK => ?_
  go_big_move; refine hK _ _ rfl ?_; clear hK K
  apply wpSq_skip
  case hi => rfl
  case hw => kernel_rfl
  case hp => unfold Act.put; simp only [List.setIfInBounds_toArray, List.set_cons_succ, List.set_cons_zero]; rfl
  apply wpSq_skip
  case hi => rfl
  case hw => kernel_rfl
  case hp => unfold Act.put; simp only [List.setIfInBounds_toArray, List.set_cons_succ, List.set_cons_zero]; rfl
  apply wpSq_skip
  case hi => rfl
  case hw => kernel_rfl
  case hp => unfold Act.put; simp only [List.setIfInBounds_toArray, List.set_cons_succ, List.set_cons_zero]; rfl
  apply wpSq_skip
  case hi => rfl
  case hw => kernel_rfl
  case hp => unfold Act.put; simp only [List.setIfInBounds_toArray, List.set_cons_succ, List.set_cons_zero]; rfl
  refine wpSq_call rfl (by kernel_rfl) fun K hK => ?_
  go_big_op; refine hK _ _ rfl ?_; clear hK K
  refine wpSq_call rfl (by kernel_rfl) fun K hK => ?_
  go_big_move; refine hK _ _ rfl ?_; clear hK K
  apply wpSq_end
  refine hK2 _ _ ?_
  refine wp_ret ?_
  try dsimp only [Exit.then, Exit.inBlock]
  refine bodyPost_ret (v := (.bool false)) (by simp [results, Tryz.results51, go_sem]) rfl ?_
  exact ⟨rfl, hb⟩
set_option maxHeartbeats 4000000 in
set_option maxRecDepth 20000 in
theorem rgNull_no2 (ha : PN w va 0 l y m) (hl : l ≤ 100000000) (hm : m ≤ 100000000) (h : y ≠ 0) :
    Calls Tryz.prog 51 #[va] w fun e w' => e = .returned (.bool false) ∧ Below w.heap.size w w' := by
  have H0 : (y.sign == 0) = false := by simpa using h
  obtain ⟨S, hS⟩ : ∃ S, y.sign = S := ⟨_, rfl⟩
  rw [hS] at H0
  have HS := hide hS
  clear h hS
  obtain ⟨n_0a, o_0a, k_0a, c_0a, n_0b, o_0b, k_0b, c_0b, rfl, ha1, ha2⟩ := ha
  go_enter Tryz.func51, Tryz.ntmps51
  have hb := Below.refl w.heap.size w
  refine wp_seq_k ?_
  intro K1 hK1
  refine wp_region_sq [0, 1] (by kernel_rfl) ?_
  refine wpSq_call rfl (by kernel_rfl) fun K hK => ?_
  go_big_op
  obtain ⟨p_b1, w_1, eP, eW, x_b1, hn, kb_b1⟩ := newBox w #[.bool n_0a, .slice o_0a k_0a c_0a, .bool n_0b, .slice o_0b k_0b c_0b] 29 hb.size
  rw [eW, eP]
  clear eW eP
  replace ha1 := ha1.bl hn; replace ha2 := ha2.bl hn; replace hb := hb.trans (hn.mono hb.size)
  refine hK _ _ rfl ?_; clear hK K hn
  refine wpSq_call rfl (by kernel_rfl) fun K hK => ?_
  go_big_move; refine hK _ _ rfl ?_; clear hK K
  apply wpSq_end
  refine hK1 _ _ ?_
  refine wp_seq_k ?_
  intro K2 hK2
  refine wp_region_sq [0, 1, 2, 3, 4, 5, 6, 7, 8, 9, 10] (by kernel_rfl) ?_
  refine wpSq_call rfl (by kernel_rfl) fun K hK => ?_
  go_big_op; refine hK _ _ rfl ?_; clear hK K
  refine wpSq_call rfl (by kernel_rfl) fun K hK => ?_
  obtain ⟨d0, d1, d2, d3⟩ := x_b1.f4
  go_big_op; refine hK _ _ rfl ?_; clear hK K d0 d1 d2 d3
  refine wpSq_call rfl (by kernel_rfl) fun K hK => ?_
  go_big_op
  go_fit (rzsign_any ha1 (by omega) )
  rintro e w_2 ⟨rfl, hb_2⟩
  replace ha1 := ha1.bl hb_2; replace ha2 := ha2.bl hb_2; replace x_b1 := x_b1.bl hb_2; replace hb := hb.trans (hb_2.mono hb.size)
  refine hK _ _ rfl ?_
  clear hK K hb_2
  refine wpSq_call rfl (by kernel_rfl) fun K hK => ?_
  go_big_op; refine hK _ _ rfl ?_; clear hK K
  refine wpSq_call rfl (by kernel_rfl) fun K hK => ?_
  go_big_move; refine hK _ _ rfl ?_; clear hK K
  refine wpSq_call rfl (by kernel_rfl) fun K hK => ?_
  go_big_op; refine hK _ _ rfl ?_; clear hK K
  refine wpSq_call rfl (by kernel_rfl) fun K hK => ?_
  obtain ⟨d0, d1, d2, d3⟩ := x_b1.f4
  go_big_op; refine hK _ _ rfl ?_; clear hK K d0 d1 d2 d3
  refine wpSq_call rfl (by kernel_rfl) fun K hK => ?_
  go_big_op
  go_fit (rzsign_any ha2 (by omega) )
  rintro e w_3 ⟨rfl, hb_3⟩
  clear ha1 x_b1
  replace ha2 := ha2.bl hb_3; replace hb := hb.trans (hb_3.mono hb.size)
  rw [HS.out]
  refine hK _ _ rfl ?_
  clear hK K hb_3
  refine wpSq_call rfl (by kernel_rfl) fun K hK => ?_
  go_big_op; refine hK _ _ rfl ?_; clear hK K
  refine wpSq_call rfl (by kernel_rfl) fun K hK => ?_
  go_big_op; refine hK _ _ rfl ?_; clear hK K
  refine wpSq_call rfl (by kernel_rfl) fun K hK => ?_
  go_big_move; refine hK _ _ rfl ?_; clear hK K
  apply wpSq_end
  refine hK2 _ _ ?_
  refine wp_ret ?_
  try dsimp only [Exit.then, Exit.inBlock]
  refine bodyPost_ret (v := (.bool false)) (by simp [results, Tryz.results51, go_sem]) rfl ?_
  exact ⟨rfl, hb⟩
theorem rgNull_any (ha : PN w va x l y m) (hl : l ≤ 100000000) (hm : m ≤ 100000000) :
    Calls Tryz.prog 51 #[va] w fun e w' => e = .returned (.bool (decide (x = 0 ∧ y = 0))) ∧ Below w.heap.size w w' := by
  by_cases h : x = 0
  · by_cases h2 : y = 0
    · rw [decide_eq_true (And.intro h h2)]
      subst h h2
      exact rgNull_yes ha hl hm
    · rw [decide_eq_false (fun c => h2 c.2)]
      subst h
      exact rgNull_no2 ha hl hm h2
  · rw [decide_eq_false (fun c => h c.1)]; exact rgNull_no1 ha hl hm h
end
end Go.Proofs.YtgjainmfilkjmaaGreatDoor

/- zint.Int. -/
namespace Go.Proofs.YtgjainmfilkjmaaGreatDoor
open Go.RowKit Dig
theorem take1 {ds : List Nat} (h : 0 < ds.length) : ds.take 1 = [ds[0]?.getD 0] := by
  match ds, h with
  | d :: _, _ => rfl
theorem take2 {ds : List Nat} (h : 1 < ds.length) : ds.take 2 = [ds[0]?.getD 0, ds[1]?.getD 0] := by
  match ds, h with
  | _ :: _ :: _, _ => rfl

end Go.Proofs.YtgjainmfilkjmaaGreatDoor

/- nat.isDigits, groupValue and putGroup: what a text's digits are worth. -/
namespace Go.Proofs.YtgjainmfilkjmaaGreatDoor
open Go.RowKit Dig

/-- A decimal digit. -/
def isD (c : UInt8) : Bool := decide (48 ≤ c.toNat ∧ c.toNat ≤ 57)
/-- What decimal digits are worth. -/
def pval (l : List UInt8) : Nat := l.foldl (fun v c => v * 10 + (c.toNat - 48)) 0
def digitsB (l : List UInt8) : Bool := l.all isD && !l.isEmpty

theorem pval_snoc (l : List UInt8) (c : UInt8) : pval (l ++ [c]) = pval l * 10 + (c.toNat - 48) := by simp [pval]

theorem take_snoc (s : ByteArray) (k : Nat) (h : k < s.size) : s.data.toList.take (k + 1) = s.data.toList.take k ++ [s[k]] := by
  rw [List.take_succ_eq_append_getElem (by simpa using h)]; rfl
theorem take_size (s : ByteArray) : s.data.toList.take s.size = s.data.toList := List.take_of_length_le (Nat.le_of_eq (by rw [Array.length_toList]; rfl))
theorem revInd {p : List UInt8 → Prop} (h0 : p []) (h1 : ∀ l c, p l → p (l ++ [c])) (l : List UInt8) : p l := by
  rw [← List.reverse_reverse l]
  induction l.reverse with
  | nil => exact h0
  | cons c l ih => rw [List.reverse_cons]; exact h1 _ c ih
theorem pval_lt {l : List UInt8} {k : Nat} (hd : l.all isD = true) (hl : l.length ≤ k) : pval l < 10 ^ k := by
  have h : ∀ (l : List UInt8), l.all isD = true → pval l < 10 ^ l.length := by
    intro l
    refine revInd (p := fun l => l.all isD = true → pval l < 10 ^ l.length) ?_ ?_ l
    · intro _; simp [pval]
    · intro l c ih hd
      rw [List.all_append, Bool.and_eq_true] at hd
      have h1 := ih hd.1
      have h2 : isD c = true := by simpa using hd.2
      simp only [isD, decide_eq_true_eq] at h2
      rw [pval_snoc, List.length_append, List.length_singleton, Nat.pow_succ]
      omega
  exact Nat.lt_of_lt_of_le (h l hd) (Nat.pow_le_pow_right (by decide) hl)

set_option maxHeartbeats 400000 in
set_option maxRecDepth 20000 in
theorem isDigits_any (s : ByteArray) (w : World) (hs : s.size ≤ 1000000) :
    Calls Tryz.prog 128 #[.string s] w fun e w' => e = .returned (.bool (digitsB s.data.toList)) ∧ w = w' := by
  obtain ⟨r, Hr⟩ : ∃ r, Hid (digitsB s.data.toList = r) := ⟨_, rfl⟩
  rw [Hr.out]
  go_enter Tryz.func128, Tryz.ntmps128
  go_wp2_with fail
  go_loop [6] (fun i => ∃ k : Nat, k ≤ s.size ∧ i = .int .i64 (k : Int) ∧ (s.data.toList.take k).all isD = true) (fun i => s.size - (intOf i).toNat)
  case atStart => exact ⟨0, Nat.zero_le _, rfl, by simp⟩
  case round =>
    obtain ⟨k, hk, rfl, hall⟩ := hrel
    have Hall := hide hall
    clear hall
    by_cases hlt : k < s.size
    · have hts := take_snoc s k hlt
      by_cases hd : 48 ≤ s[k].toNat ∧ s[k].toNat ≤ 57
      · have h1 : ¬ (s[k].toNat : Int) < 48 := by omega
        have h2 : ¬ (57 : Int) < (s[k].toNat : Int) := by omega
        have HS : Hid ((s.data.toList.take (k + 1)).all isD = true) := by
          show _ = true
          rw [hts, List.all_append, Hall.out]; simp [isD, hd]
        clear hts hd
        go_wp2
        all_goals go_round
        case rel => exact ⟨k + 1, hlt, by go_num, HS.out⟩
        case measure => simp [intOf]; omega
      · have hr : r = false := by
          rw [← Hr.out]
          unfold digitsB
          have : s.data.toList.all isD = false := by
            have e := List.take_append_drop (k + 1) s.data.toList
            rw [← e, List.all_append, hts, List.all_append]
            have : isD s[k] = false := by simp [isD]; omega
            simp [this]
          rw [this]; rfl
        have HR := hide hr
        clear hr hts
        by_cases h1 : s[k].toNat < 48
        · have h1' : (s[k].toNat : Int) < 48 := by omega
          go_wp2
          all_goals go_ret
          all_goals exact ⟨by rw [HR.out]; rfl, rfl⟩
        · have h1' : ¬ (s[k].toNat : Int) < 48 := by omega
          have h2' : (57 : Int) < (s[k].toNat : Int) := by omega
          go_wp2
          all_goals go_ret
          all_goals exact ⟨by rw [HR.out]; rfl, rfl⟩
    · obtain rfl : k = s.size := by omega
      have hr : decide (0 < s.size) = r := by
        rw [← Hr.out]
        have h1 := Hall.out
        rw [take_size] at h1
        unfold digitsB
        rw [h1, Bool.true_and]
        have e : s.size = s.data.toList.length := by rw [Array.length_toList]; rfl
        rw [e]
        cases s.data.toList <;> simp
      have HR := hide hr
      clear hr
      go_wp2_with fail
      go_ret
      refine ⟨?_, rfl⟩
      rw [← HR.out]
      simp

set_option maxHeartbeats 400000 in
set_option maxRecDepth 20000 in
theorem groupValue_any (s : ByteArray) (w : World) (hs : s.size ≤ 9) (hd : s.data.toList.all isD = true) :
    Calls Tryz.prog 130 #[.string s] w fun e w' => e = .returned (.int .u64 (pval s.data.toList : Nat)) ∧ w = w' := by
  have HD := hide hd
  clear hd
  go_enter Tryz.func130, Tryz.ntmps130
  go_wp2_with fail
  go_loop [3, 7] (fun v i => ∃ k : Nat, k ≤ s.size ∧ i = .int .i64 (k : Int) ∧ v = .int .u64 ((pval (s.data.toList.take k) : Nat) : Int)) (fun _ i => s.size - (intOf i).toNat)
  case atStart => exact ⟨0, Nat.zero_le _, rfl, rfl⟩
  case round =>
    obtain ⟨k, hk, rfl, rfl⟩ := hrel
    by_cases hlt : k < s.size
    · have hts := take_snoc s k hlt
      have hall : (s.data.toList.take (k + 1)).all isD = true := by
        have h := HD.out
        rw [← List.take_append_drop (k + 1) s.data.toList, List.all_append, Bool.and_eq_true] at h
        exact h.1
      have hbound := pval_lt (k := 9) (l := s.data.toList.take k) (by
        have h := HD.out
        rw [← List.take_append_drop k s.data.toList, List.all_append, Bool.and_eq_true] at h
        exact h.1) (by rw [List.length_take]; omega)
      have hc : 48 ≤ s[k].toNat ∧ s[k].toNat ≤ 57 := by
        rw [hts, List.all_append, Bool.and_eq_true] at hall
        simpa [isD] using hall.2
      have HP : Hid (pval (s.data.toList.take (k + 1)) = pval (s.data.toList.take k) * 10 + (s[k].toNat - 48)) := by
        show _ = _
        rw [hts, pval_snoc]
      have h1 : 48 ≤ s[k].toNat := hc.1
      have h2 : s[k].toNat ≤ 57 := hc.2
      clear hts hall hc
      generalize pval (s.data.toList.take k) = p at *
      have hp : p < 1000000000 := by simpa using hbound
      clear hbound
      go_wp2
      go_round
      case rel => exact ⟨k + 1, hlt, by go_num, congrArg (fun z : Int => Value.int .u64 z) (by rw [HP.out]; omega)⟩
      case measure => simp [intOf]; omega
    · obtain rfl : k = s.size := by omega
      have e := take_size s
      have E := hide e
      clear e
      go_wp2_with fail
      go_ret
      exact ⟨by rw [E.out]; rfl, rfl⟩

/-- One digit with its carry, and the whole times M. -/
theorem put_step {ds ys : List Nat} {k c x t M g : Nat} (hk : k < ds.length) (hl : ys.length = ds.length) (hx : ds[k]?.getD 0 = x) (heq : val (ys.take k) + pw k * c = val (ds.take k) * M + g) (ht : t = c + x * M) :
    val ((ys.set k (t % 4294967296)).take (k + 1)) + pw (k + 1) * (t / 4294967296) = val (ds.take (k + 1)) * M + g := by
  rw [val_take_succ (by simpa [hl] using hk), val_take_succ hk, hx, getD_set_same (by omega), List.take_set_of_le (Nat.le_refl k), Nat.add_mul, Nat.mul_assoc]
  simp only [pw]
  have e1 : pw k * t = pw k * (t % 4294967296) + 4294967296 * pw k * (t / 4294967296) := by
    conv => lhs; rw [← Nat.mod_add_div t 4294967296]
    rw [Nat.mul_add, Nat.mul_comm 4294967296 (pw k), Nat.mul_assoc]
  have e2 : pw k * t = pw k * c + pw k * (x * M) := by rw [ht, Nat.mul_add]
  omega

theorem canon_snoc {ys : List Nat} {c : Nat} (ok : OK ys) (hc : c < 4294967296) (h0 : c ≠ 0) : ys ++ [c] = dig (val (ys ++ [c])) := by
  rw [dig_val (ok.append (OK.cons hc OK.nil))]
  induction ys with
  | nil => simp [strip, h0]
  | cons y ys ih =>
    have := ih ok.tail
    simp only [List.cons_append, strip]
    rw [← this, if_neg]
    rintro ⟨h, _⟩
    simp at h

theorem canon_top {ys : List Nat} (ok : OK ys) (h : ys.length ≤ (dig (val ys)).length) : ys = dig (val ys) := by
  rw [dig_val ok] at h ⊢
  have h1 := strip_take ys
  have h2 := strip_length_le ys
  rw [show (strip ys).length = ys.length by omega, List.take_length] at h1
  exact h1.symm

set_option maxHeartbeats 1000000 in
set_option maxRecDepth 20000 in
/-- putGroup: an own canonical number times 10^9 and the group. -/
theorem putGroup_any (B n g : Nat) (v : Value) (w : World) (hg : g < 1000000000) (hown : w.ownsRow B 56 1 v (dig n).length ((dig n).map dv)) (hB : B ≤ w.heap.size) (hl : (dig n).length ≤ 1000000000) :
    Calls Tryz.prog 129 #[v, .int .u64 (g : Int)] w fun e w' => ∃ v', e = .returned v' ∧ w'.ownsRow B 56 1 v' (dig (n * 1000000000 + g)).length ((dig (n * 1000000000 + g)).map dv) ∧ Below B w w' := by
  obtain ⟨i0, hi, hz0, hz1, hz2⟩ := info_parts info32
  have okd := OK_dig n
  have hvd := val_dig n
  obtain ⟨ds, Hds⟩ : ∃ ds, Hid (dig n = ds) := ⟨_, rfl⟩
  rw [Hds.out] at hown okd hl hvd
  obtain ⟨oa, cap, hv, hcl⟩ : ∃ oa cap, v = .slice oa ds.length cap ∧ (ds = [] ∨ ∃ gb, oa = some ⟨gb, 0, none⟩ ∧ B ≤ gb) := by
    rcases own_slice hown with ⟨h1, h2, h3⟩ | ⟨gb, cap, h1, h2, _, _⟩
    · have : ds = [] := List.length_eq_zero_iff.1 h2
      subst this
      exact ⟨none, 0, h1, .inl rfl⟩
    · exact ⟨_, cap, h1, .inr ⟨gb, rfl, h2⟩⟩
  subst hv
  go_enter Tryz.func129, Tryz.ntmps129
  go_wp2_with fail
  go_loopw [5, 11] (fun c i wr => ∃ (k c0 : Nat) (ys : List Nat), k ≤ ds.length ∧ c = .int .u64 (c0 : Int) ∧ i = .int .i64 (k : Int) ∧ wr.ownsRow B 56 1 (.slice oa ds.length cap) ds.length (ys.map dv) ∧ ys.length = ds.length ∧ OK ys ∧
    (∀ t, k ≤ t → ys[t]?.getD 0 = ds[t]?.getD 0) ∧ val (ys.take k) + pw k * c0 = val (ds.take k) * 1000000000 + g ∧ c0 < 4294967296 ∧ Below B w wr) (fun _ i _ => ds.length - (intOf i).toNat)
  case atStart => exact ⟨0, g, ds, Nat.zero_le _, rfl, rfl, hown, rfl, okd, fun _ _ => rfl, by simp [val, pw], by omega, Below.refl _ _⟩
  case round =>
    obtain ⟨k, c0, ys, hk, rfl, rfl, hown, hyl, oky, hsame, heq, hc0, hb⟩ := hrel
    have Heq := hide heq
    have Hsame := hide hsame
    have Hyl := hide hyl
    clear heq hsame hyl
    by_cases hlt : k < ds.length
    · obtain ⟨gb, hoa, hgB⟩ := hcl.resolve_left (fun e => by rw [e] at hlt; simp at hlt)
      subst hoa
      obtain ⟨x, Hx⟩ : ∃ x, Hid (ds[k]?.getD 0 = x) := ⟨_, rfl⟩
      have hxb : x < 4294967296 := by have := okd.get k; rw [Hx.out] at this; exact this
      have gu : wr.cell? ⟨gb, k, none⟩ = some (.int .u32 (x : Int)) := by
        rcases own_slice hown with ⟨h1, _⟩ | ⟨g', cap', h1, _, _, h4⟩
        · cases h1
        · cases h1
          rw [h4 k hlt, List.getElem?_map, List.getElem?_eq_getElem (by have := Hyl.out; omega)]
          have h5 := Hsame.out k (Nat.le_refl _)
          rw [Hx.out, List.getElem?_eq_getElem (by have := Hyl.out; omega)] at h5
          simp at h5
          simp [dv, h5]
      have gf := own_frozen hown k
      obtain ⟨t, ht⟩ : ∃ t, c0 + x * 1000000000 = t := ⟨_, rfl⟩
      have hs := put_step hlt Hyl.out Hx.out Heq.out ht.symm
      have HS := hide hs
      have e1 : ((c0 : Int) + (x : Int) * 1000000000) / 4294967296 = ((t / 4294967296 : Nat) : Int) := by omega
      have e2 : ((c0 : Int) + (x : Int) * 1000000000) % 4294967296 = ((t % 4294967296 : Nat) : Int) := by omega
      have E1 := hide e1
      have E2 := hide e2
      have htb : t / 4294967296 < 4294967296 := by omega
      clear hs ht e1 e2
      go_wp2_with fail
      rw [E1.out, E2.out]
      go_roundw
      case rel =>
        exact ⟨k + 1, _, ys.set k (t % 4294967296), hlt, rfl, by go_num, by have := own_setCell hown k hlt (dv (t % 4294967296)); rw [← List.map_set] at this; exact this, by simpa using Hyl.out, oky.set _ (by omega),
          fun i hi => by rw [getD_set_other (by omega)]; exact Hsame.out i (by omega), HS.out, htb, hb.setCell hgB _⟩
      case measure => simp [intOf]; omega
    · obtain rfl : k = ds.length := by omega
      have hval : val ys + pw ds.length * c0 = n * 1000000000 + g := by
        have h1 := Heq.out
        have h2 := Hyl.out
        rw [List.take_length, hvd] at h1
        rw [← h2, List.take_length, h2] at h1; exact h1
      by_cases hc : c0 = 0
      · subst hc
        have hfin : ys = dig (n * 1000000000 + g) := by
          have e : val ys = n * 1000000000 + g := by omega
          rw [← e]
          refine canon_top oky ?_
          rw [Hyl.out, ← Hds.out, e]
          exact dig_length_mono (by omega)
        rw [← Hyl.out, hfin] at hown
        have HF : Hid (ds.length = (dig (n * 1000000000 + g)).length) := by rw [← hfin]; exact Hyl.out.symm
        have HYL := Hyl
        clear hval hfin Hyl
        go_wp2
        go_ret
        exact ⟨_, rfl, by rw [HF.out]; exact hown, hb⟩
      · have hcb : ((c0 : Int) == 0) = false := by rw [beq_eq_false_iff_ne]; omega
        have hcm : (c0 : Int) % 4294967296 = (c0 : Int) := by omega
        have hfin : ys ++ [c0] = dig (n * 1000000000 + g) := by
          rw [canon_snoc oky hc0 hc, val_append, Hyl.out]
          simp only [val, Nat.mul_zero, Nat.add_zero]
          rw [hval]
        have HF := hide hfin
        have hBr : B ≤ wr.heap.size := Nat.le_trans hB hb.size
        clear hval hfin hcm
        go_wp2_with (at_builtin; refine wpList_append_own _ rfl _ _ 24 rfl B 56 i0 (.int .u32 0) 1 4 Tryz.underlying24 hi hz0 hz1 hz2 rfl (by decide) _ _ _ rfl (hown.alloc _) ⟨wr.heap.size, 0, none⟩ 1 1 [.int .u32 (c0 : Int)] rfl rfl ?c1 ?c2 ?c3 ?c4 ?c5 ?_)
        case c1 =>
          intro j u hj
          match j, hj with
          | 0, hj => simp at hj; subst hj; simp [Addr.add]
        case c2 => intro u hu; simp at hu; subst hu; rfl
        case c3 => unfold maxLen; omega
        case c4 => omega
        case c5 => simp; omega
        intro v' w1 hown' hgrow _
        have hown2 : w1.ownsRow B 56 1 v' (dig (n * 1000000000 + g)).length ((dig (n * 1000000000 + g)).map dv) := by
          rw [← HF.out, List.map_append, List.length_append, Hyl.out]; exact hown'
        have hb1 := (hb.alloc hBr (.cells #[.int .u32 (c0 : Int)] 56)).grown hgrow (by simp; omega) (fun k hk => (hown.lt k hk).1)
        clear hown' hgrow hown
        go_wp2
        go_ret
        exact ⟨v', rfl, hown2, hb1⟩
end Go.Proofs.YtgjainmfilkjmaaGreatDoor

/- nat.Parse: the number of a text of digits, or the error. -/
namespace Go.Proofs.YtgjainmfilkjmaaGreatDoor
open Go.RowKit Dig

def parseI (s : ByteArray) : Int := if 65536 < s.size then 12 else if digitsB s.data.toList then 0 else 7
def parseD (s : ByteArray) : List Nat := if 65536 < s.size then [] else if digitsB s.data.toList then dig (pval s.data.toList) else []

theorem pval_append (a b : List UInt8) : pval (a ++ b) = pval a * 10 ^ b.length + pval b := by
  refine revInd (p := fun b => pval (a ++ b) = pval a * 10 ^ b.length + pval b) ?_ ?_ b
  · simp [pval]
  · intro l c ih
    rw [← List.append_assoc, pval_snoc, pval_snoc, ih, List.length_append, List.length_singleton, Nat.pow_succ, Nat.add_mul, Nat.mul_assoc, Nat.add_assoc]

theorem two_le_pw' {n m : Nat} (h : n ≤ 32 * m) : 2 ^ n ≤ pw m := by
  rw [pw_eq]; exact Nat.pow_le_pow_right (by decide) h

theorem pval_dig_length {l : List UInt8} (hd : l.all isD = true) (hl : l.length ≤ 65536) : (dig (pval l)).length ≤ 8192 := by
  have h := pval_lt hd (Nat.le_refl _)
  refine dig_length_le (Nat.lt_of_lt_of_le h ?_)
  have e : (10 : Nat) ^ l.length ≤ 16 ^ l.length := Nat.pow_le_pow_left (by decide) _
  have e2 : (16 : Nat) ^ l.length = 2 ^ (4 * l.length) := by rw [Nat.pow_mul]
  rw [e2] at e
  exact Nat.le_trans e (two_le_pw' (by omega))

set_option maxHeartbeats 1000000 in
set_option maxRecDepth 20000 in
theorem parse_any (s : ByteArray) (w : World) (hs : s.size ≤ 1000000000) :
    Calls Tryz.prog 98 #[.string s] w fun e w' => ∃ v, e = .returned (.tuple #[v, .int .i64 (parseI s)]) ∧ Rd w' v (parseD s) ∧ Below w.heap.size w w' := by
  by_cases h1 : 65536 < s.size
  · have e1 : parseI s = 12 := by unfold parseI; rw [if_pos h1]
    have e2 : parseD s = [] := by unfold parseD; rw [if_pos h1]
    rw [e1, e2]
    go_enter Tryz.func98, Tryz.ntmps98
    go_wp2_with fail
    go_ret2
    exact ⟨_, rfl, ⟨none, 0, rfl, Nat.le_refl _, OK.nil, .inl rfl⟩, Below.refl _ _⟩
  · by_cases h2 : digitsB s.data.toList = true
    · have e1 : parseI s = 0 := by unfold parseI; rw [if_neg h1, if_pos h2]
      have e2 : parseD s = dig (pval s.data.toList) := by unfold parseD; rw [if_neg h1, if_pos h2]
      rw [e1, e2]
      have hall : s.data.toList.all isD = true := by unfold digitsB at h2; rw [Bool.and_eq_true] at h2; exact h2.1
      have hne : 0 < s.size := by
        unfold digitsB at h2
        rw [Bool.and_eq_true] at h2
        rcases Nat.eq_zero_or_pos s.size with h | h
        · have e : s.data.toList = [] := List.length_eq_zero_iff.1 (by rw [Array.length_toList]; exact h)
          rw [e] at h2; simp at h2
        · exact h
      have Hall := hide hall
      clear e1 e2 hall
      go_enter Tryz.func98, Tryz.ntmps98
      go_wp2_with fail
      refine (isDigits_any s w (by omega)).mono ?_
      rintro e w' ⟨rfl, rfl⟩
      rw [h2]
      clear h2
      go_wp2_with fail
      go_loopw [4, 5] (fun v i wr => ∃ e q : Nat, i = .int .i64 (e : Int) ∧ 1 ≤ e ∧ e + 9 * q = s.size + 9 ∧ wr.ownsRow w.heap.size 56 1 v (dig (pval (s.data.toList.take (e - 9)))).length ((dig (pval (s.data.toList.take (e - 9)))).map dv) ∧ Below w.heap.size w wr) (fun _ i _ => s.size + 9 - (intOf i).toNat)
      case atStart =>
        refine ⟨(s.size - 1) % 9 + 1, (s.size - 1) / 9 + 1, congrArg (fun z : Int => Value.int .i64 z) (by omega), by omega, by omega, ?_, Below.refl _ _⟩
        rw [show (s.size - 1) % 9 + 1 - 9 = 0 by omega]
        exact World.ownsRow_nil _ _ _ _
      case round =>
        obtain ⟨e, q, rfl, he1, heq, hown, hb⟩ := hrel
        by_cases hq : e ≤ s.size
        · have hpre : (s.data.toList.take (e - 9)).all isD = true := by
            have h := Hall.out
            rw [← List.take_append_drop (e - 9) s.data.toList, List.all_append, Bool.and_eq_true] at h
            exact h.1
          have hlen := pval_dig_length hpre (by rw [List.length_take]; omega)
          have hgd : (s.extract (e - 9) e).data.toList = (s.data.toList.drop (e - 9)).take (e - (e - 9)) := Lib.extract_data s (e - 9) e
          have hgall : (s.extract (e - 9) e).data.toList.all isD = true := by
            rw [hgd]
            have h := Hall.out
            rw [List.all_eq_true] at h ⊢
            exact fun x hx => h x (List.mem_of_mem_drop (List.mem_of_mem_take hx))
          have hgs : (s.extract (e - 9) e).size ≤ 9 := by rw [ByteArray.size_extract]; omega
          have hgv := groupValue_any (s.extract (e - 9) e)
          have hgl : (s.extract (e - 9) e).data.toList.length ≤ 9 := by rw [Array.length_toList]; exact hgs
          have hgb := pval_lt hgall hgl
          have hstep : pval (s.data.toList.take (e - 9)) * 1000000000 + pval (s.extract (e - 9) e).data.toList = pval (s.data.toList.take (e + 9 - 9)) := by
            rw [Nat.add_sub_cancel]
            have hsp : s.data.toList.take e = s.data.toList.take (e - 9) ++ (s.extract (e - 9) e).data.toList := by
              rw [hgd]
              have h1 := List.take_append_drop (e - 9) (s.data.toList.take e)
              rw [List.take_take, Nat.min_eq_left (by omega), List.drop_take] at h1
              exact h1.symm
            rw [hsp, pval_append]
            by_cases h9 : 9 ≤ e
            · have : (s.extract (e - 9) e).data.toList.length = 9 := by
                rw [hgd, List.length_take, List.length_drop, Array.length_toList]
                show min (e - (e - 9)) (s.size - (e - 9)) = 9
                omega
              rw [this]
            · have h0 : e - 9 = 0 := by omega
              rw [h0]; simp [pval]
          have HSt := hide hstep
          have hgb' : pval (s.extract (e - 9) e).data.toList < 1000000000 := by simpa using hgb
          clear hstep hgb hgl hgd hpre
          go_wp2_with fail
          rw [show (max (0 : Int) ((e : Int) - 9)).toNat = e - 9 from by omega]
          refine (hgv wr hgs hgall).mono ?_
          rintro e' w' ⟨rfl, rfl⟩
          generalize hP : pval (s.extract (e - 9) e).data.toList = P at *
          go_wp2_with fail
          refine (putGroup_any w.heap.size _ P _ wr hgb' hown hb.size (by omega)).mono ?_
          rintro e' w2 ⟨v', rfl, hown2, hb2⟩
          rw [HSt.out] at hown2
          clear hP
          go_wp2
          go_roundw
          case rel => exact ⟨e + 9, q - 1, by go_num, by omega, by omega, hown2, hb.trans hb2⟩
          case measure => simp [intOf]; omega
        · have hqe : e = s.size + 9 := by omega
          subst hqe
          rw [Nat.add_sub_cancel, take_size] at hown
          have okd := OK_dig (pval s.data.toList)
          go_wp2_with fail
          go_ret2
          exact ⟨_, rfl, Rd.of_owns okd hown, hb⟩
    · have e1 : parseI s = 7 := by unfold parseI; rw [if_neg h1, if_neg h2]
      have e2 : parseD s = [] := by unfold parseD; rw [if_neg h1, if_neg h2]
      rw [e1, e2]
      have h2' : digitsB s.data.toList = false := by simpa using h2
      clear h2
      go_enter Tryz.func98, Tryz.ntmps98
      go_wp2_with fail
      refine (isDigits_any s w (by omega)).mono ?_
      rintro e w' ⟨rfl, rfl⟩
      rw [h2']
      go_wp2
      go_ret2
      exact ⟨_, rfl, ⟨none, 0, rfl, Nat.le_refl _, OK.nil, .inl rfl⟩, Below.refl _ _⟩
end Go.Proofs.YtgjainmfilkjmaaGreatDoor

/- The reference's Digits and Parse: what a text's digits are worth. -/
namespace Go.Proofs.YtgjainmfilkjmaaGreatDoor
open Go.RowKit Dig

set_option maxHeartbeats 400000 in
set_option maxRecDepth 20000 in
theorem rDigits_any (s : ByteArray) (w : World) (hs : s.size ≤ 1000000) :
    Calls Tryz.prog 99 #[.string s] w fun e w' => e = .returned (.bool (digitsB s.data.toList)) ∧ w = w' := by
  obtain ⟨r, Hr⟩ : ∃ r, Hid (digitsB s.data.toList = r) := ⟨_, rfl⟩
  rw [Hr.out]
  go_enter Tryz.func99, Tryz.ntmps99
  go_wp2_with fail
  go_loop [3] (fun i => ∃ k : Nat, k ≤ s.size ∧ i = .int .i64 (k : Int) ∧ (s.data.toList.take k).all isD = true) (fun i => s.size - (intOf i).toNat)
  case atStart => exact ⟨0, Nat.zero_le _, rfl, by simp⟩
  case round =>
    obtain ⟨k, hk, rfl, hall⟩ := hrel
    have Hall := hide hall
    clear hall
    by_cases hlt : k < s.size
    · have hts := take_snoc s k hlt
      by_cases hd : 48 ≤ s[k].toNat ∧ s[k].toNat ≤ 57
      · have h1 : ¬ (s[k].toNat : Int) < 48 := by omega
        have h2 : ¬ (57 : Int) < (s[k].toNat : Int) := by omega
        have HS : Hid ((s.data.toList.take (k + 1)).all isD = true) := by
          show _ = true
          rw [hts, List.all_append, Hall.out]; simp [isD, hd]
        clear hts hd
        go_wp2
        all_goals go_round
        case rel => exact ⟨k + 1, hlt, by go_num, HS.out⟩
        case measure => simp [intOf]; omega
      · have hr : r = false := by
          rw [← Hr.out]
          unfold digitsB
          have : s.data.toList.all isD = false := by
            have e := List.take_append_drop (k + 1) s.data.toList
            rw [← e, List.all_append, hts, List.all_append]
            have : isD s[k] = false := by simp [isD]; omega
            simp [this]
          rw [this]; rfl
        have HR := hide hr
        clear hr hts
        by_cases h1 : s[k].toNat < 48
        · have h1' : (s[k].toNat : Int) < 48 := by omega
          go_wp2
          all_goals go_ret
          all_goals exact ⟨by rw [HR.out]; rfl, rfl⟩
        · have h1' : ¬ (s[k].toNat : Int) < 48 := by omega
          have h2' : (57 : Int) < (s[k].toNat : Int) := by omega
          go_wp2
          all_goals go_ret
          all_goals exact ⟨by rw [HR.out]; rfl, rfl⟩
    · obtain rfl : k = s.size := by omega
      have hr : decide (0 < s.size) = r := by
        rw [← Hr.out]
        have h1 := Hall.out
        rw [take_size] at h1
        unfold digitsB
        rw [h1, Bool.true_and]
        have e : s.size = s.data.toList.length := by rw [Array.length_toList]; rfl
        rw [e]
        cases s.data.toList <;> simp
      have HR := hide hr
      clear hr
      go_wp2_with fail
      go_ret
      refine ⟨?_, rfl⟩
      rw [← HR.out]
      simp

end Go.Proofs.YtgjainmfilkjmaaGreatDoor
