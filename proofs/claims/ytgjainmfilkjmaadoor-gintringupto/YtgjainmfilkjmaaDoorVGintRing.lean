/- GintRing: the law's walk. -/
import Derived.Test.YtgjainmfilkjmaaDoorT1ToG6
namespace Go.Proofs.YtgjainmfilkjmaaDoor
open Go Go.RowKit Dig
set_option linter.unusedVariables false

section
variable {w : World} {va vb vc : Value} {x y u v p q : Int} {l m k n s t : Nat}
set_option maxHeartbeats 8000000 in
set_option maxRecDepth 20000 in
theorem gring_walk (ha : PN w va x l y m) (hq : PN w vb u k v n) (hc : PN w vc p s q t) (hl : l ≤ 1048576) (hm : m ≤ 1048576) (hk : k ≤ 1048576) (hn : n ≤ 1048576) (hs : s ≤ 1048576) (ht : t ≤ 1048576) (htab : Lib.TabIs Tryd.prog w p10 .u64 Lib.pow10Tab) :
    Calls Tryd.prog 6 #[va, vb, vc] w fun e w' => e = .returned (.bool true) ∧ Below w.heap.size w w' := by
  have htabs := Lib.tabBelow_of_tabIs htab
  have E1 := hide (show x * (u + p) - y * (v + q) = x * u - y * v + (x * p - y * q) ∧ x * (v + q) + y * (u + p) = x * v + y * u + (x * q + y * p) by constructor <;> grind)
  have E2 := hide (show (x * u - y * v) * p - (x * v + y * u) * q = x * (u * p - v * q) - y * (u * q + v * p) ∧ (x * u - y * v) * q + (x * v + y * u) * p = x * (u * q + v * p) + y * (u * p - v * q) by constructor <;> grind)
  have E3 := hide (gN_mul x y u v)
  have E4 := hide (show x * u - y * v = x * u - -y * -v ∧ -(x * v + y * u) = x * -v + -y * u by constructor <;> grind)
  have E5 := hide (show x * x - y * -y = gN x y ∧ x * -y + y * x = 0 from ⟨by unfold gN; grind, by grind⟩)
  have E6 := hide (show x + u - u = x + 0 ∧ y + v - v = y + 0 by omega)
  obtain ⟨n_0a, o_0a, k_0a, c_0a, n_0b, o_0b, k_0b, c_0b, rfl, ha1, ha2⟩ := ha
  obtain ⟨n_1a, o_1a, k_1a, c_1a, n_1b, o_1b, k_1b, c_1b, rfl, hq1, hq2⟩ := hq
  obtain ⟨n_2a, o_2a, k_2a, c_2a, n_2b, o_2b, k_2b, c_2b, rfl, hc1, hc2⟩ := hc
  go_enter Tryd.func6, Tryd.ntmps6
  have hb := Below.refl w.heap.size w
  refine wp_seq_k ?_
  intro K1 hK1
  refine wp_region_sq [0, 1, 2, 3] (by kernel_rfl) ?_
  refine wpSq_call rfl (by kernel_rfl) fun K hK => ?_
  go_big_op
  obtain ⟨p_b1, w_1, eP, eW, x_b1, hn, kb_b1⟩ := newBox w #[.bool n_0a, .slice o_0a k_0a c_0a, .bool n_0b, .slice o_0b k_0b c_0b] 26 hb.size
  rw [eW, eP]
  clear eW eP
  replace ha1 := ha1.bl hn; replace ha2 := ha2.bl hn; replace hq1 := hq1.bl hn; replace hq2 := hq2.bl hn; replace hc1 := hc1.bl hn; replace hc2 := hc2.bl hn; replace hb := hb.trans (hn.mono hb.size)
  refine hK _ _ rfl ?_; clear hK K hn
  refine wpSq_call rfl (by kernel_rfl) fun K hK => ?_
  go_big_op
  have lt_b1 := x_b1.lt
  obtain ⟨p_b2, w_2, eP, eW, x_b2, hn, kb_b2⟩ := newBox w_1 #[.bool n_1a, .slice o_1a k_1a c_1a, .bool n_1b, .slice o_1b k_1b c_1b] 26 hb.size
  have ne_b1_b2 : Hid (p_b1 ≠ p_b2) := Nat.ne_of_lt (eP ▸ lt_b1)
  rw [eW, eP]
  clear eW eP lt_b1
  replace ha1 := ha1.bl hn; replace ha2 := ha2.bl hn; replace hq1 := hq1.bl hn; replace hq2 := hq2.bl hn; replace hc1 := hc1.bl hn; replace hc2 := hc2.bl hn; replace x_b1 := x_b1.bl hn; replace hb := hb.trans (hn.mono hb.size)
  refine hK _ _ rfl ?_; clear hK K hn
  refine wpSq_call rfl (by kernel_rfl) fun K hK => ?_
  go_big_op
  have lt_b1 := x_b1.lt
  have lt_b2 := x_b2.lt
  obtain ⟨p_b3, w_3, eP, eW, x_b3, hn, kb_b3⟩ := newBox w_2 #[.bool n_2a, .slice o_2a k_2a c_2a, .bool n_2b, .slice o_2b k_2b c_2b] 26 hb.size
  have ne_b1_b3 : Hid (p_b1 ≠ p_b3) := Nat.ne_of_lt (eP ▸ lt_b1)
  have ne_b2_b3 : Hid (p_b2 ≠ p_b3) := Nat.ne_of_lt (eP ▸ lt_b2)
  rw [eW, eP]
  clear eW eP lt_b1 lt_b2
  replace ha1 := ha1.bl hn; replace ha2 := ha2.bl hn; replace hq1 := hq1.bl hn; replace hq2 := hq2.bl hn; replace hc1 := hc1.bl hn; replace hc2 := hc2.bl hn; replace x_b1 := x_b1.bl hn; replace x_b2 := x_b2.bl hn; replace hb := hb.trans (hn.mono hb.size)
  refine hK _ _ rfl ?_; clear hK K hn
  refine wpSq_call rfl (by kernel_rfl) fun K hK => ?_
  go_big_move; refine hK _ _ rfl ?_; clear hK K
  apply wpSq_end
  refine hK1 _ _ ?_
  refine wp_seq_k ?_
  intro K2 hK2
  refine wp_region_fl2 [(0, false), (1, false), (2, false), (3, true), (4, true)] [6] [5] (fun j => (.cells #[.bool false, .slice none 0 0, .bool false, .slice none 0 0] 26)) [0, 1, 2, 99, 99, 99, 99] [] (fun w' => w'.cell? ⟨p_b1, 0, none⟩ = some (.bool n_0a) ∧ w'.cell? ⟨p_b1, 1, none⟩ = some (.slice o_0a k_0a c_0a) ∧ w'.cell? ⟨p_b1, 2, none⟩ = some (.bool n_0b) ∧ w'.cell? ⟨p_b1, 3, none⟩ = some (.slice o_0b k_0b c_0b) ∧ w'.cell? ⟨p_b2, 0, none⟩ = some (.bool n_1a) ∧ w'.cell? ⟨p_b2, 1, none⟩ = some (.slice o_1a k_1a c_1a) ∧ w'.cell? ⟨p_b2, 2, none⟩ = some (.bool n_1b) ∧ w'.cell? ⟨p_b2, 3, none⟩ = some (.slice o_1b k_1b c_1b) ∧ w'.cell? ⟨p_b3, 0, none⟩ = some (.bool n_2a) ∧ w'.cell? ⟨p_b3, 1, none⟩ = some (.slice o_2a k_2a c_2a) ∧ w'.cell? ⟨p_b3, 2, none⟩ = some (.bool n_2b) ∧ w'.cell? ⟨p_b3, 3, none⟩ = some (.slice o_2b k_2b c_2b)) [fun w' => w'.cell? ⟨p_b1, 0, none⟩ = some (.bool n_0a) ∧ w'.cell? ⟨p_b1, 1, none⟩ = some (.slice o_0a k_0a c_0a) ∧ w'.cell? ⟨p_b1, 2, none⟩ = some (.bool n_0b) ∧ w'.cell? ⟨p_b1, 3, none⟩ = some (.slice o_0b k_0b c_0b), fun w' => w'.cell? ⟨p_b2, 0, none⟩ = some (.bool n_1a) ∧ w'.cell? ⟨p_b2, 1, none⟩ = some (.slice o_1a k_1a c_1a) ∧ w'.cell? ⟨p_b2, 2, none⟩ = some (.bool n_1b) ∧ w'.cell? ⟨p_b2, 3, none⟩ = some (.slice o_1b k_1b c_1b), fun w' => w'.cell? ⟨p_b3, 0, none⟩ = some (.bool n_2a) ∧ w'.cell? ⟨p_b3, 1, none⟩ = some (.slice o_2a k_2a c_2a) ∧ w'.cell? ⟨p_b3, 2, none⟩ = some (.bool n_2b) ∧ w'.cell? ⟨p_b3, 3, none⟩ = some (.slice o_2b k_2b c_2b)] (by kernel_rfl) (by kernel_rfl) (by kernel_rfl) (by kernel_rfl) (by kernel_rfl) (by kernel_rfl) (by kernel_rfl) (by kernel_rfl) (by decide) (by intro j hj; simp only [List.mem_cons, List.not_mem_nil, or_false] at hj; rcases hj with rfl; all_goals exact ⟨_, rfl, rfl, fun ρ w => by unfold ptr; simp [go_sem]⟩) (by intro w' o hC; obtain ⟨c0, c1, c2, c3, c4, c5, c6, c7, c8, c9, c10, c11⟩ := hC; exact ⟨cell_alloc c0 o, cell_alloc c1 o, cell_alloc c2 o, cell_alloc c3 o, cell_alloc c4 o, cell_alloc c5 o, cell_alloc c6 o, cell_alloc c7 o, cell_alloc c8 o, cell_alloc c9 o, cell_alloc c10 o, cell_alloc c11 o⟩) (by intro w' hC G hG; obtain ⟨c0, c1, c2, c3, c4, c5, c6, c7, c8, c9, c10, c11⟩ := hC; simp only [List.mem_cons, List.not_mem_nil, or_false] at hG; rcases hG with rfl | rfl | rfl <;> first | exact ⟨c0, c1, c2, c3⟩ | exact ⟨c4, c5, c6, c7⟩ | exact ⟨c8, c9, c10, c11⟩) ?_
  have lt_b1 := x_b1.lt
  have lt_b2 := x_b2.lt
  have lt_b3 := x_b3.lt
  intro w_4 hn
  replace lt_b1 := Nat.lt_of_lt_of_le lt_b1 hn.size
  replace lt_b2 := Nat.lt_of_lt_of_le lt_b2 hn.size
  replace lt_b3 := Nat.lt_of_lt_of_le lt_b3 hn.size
  replace ha1 := ha1.bl hn; replace ha2 := ha2.bl hn; replace hq1 := hq1.bl hn; replace hq2 := hq2.bl hn; replace hc1 := hc1.bl hn; replace hc2 := hc2.bl hn; replace x_b1 := x_b1.bl hn; replace x_b2 := x_b2.bl hn; replace x_b3 := x_b3.bl hn; replace hb := hb.trans (hn.mono hb.size)
  clear hn
  have kb0 := hb.size
  refine ⟨⟨x_b1.cell 0 rfl, x_b1.cell 1 rfl, x_b1.cell 2 rfl, x_b1.cell 3 rfl, x_b2.cell 0 rfl, x_b2.cell 1 rfl, x_b2.cell 2 rfl, x_b2.cell 3 rfl, x_b3.cell 0 rfl, x_b3.cell 1 rfl, x_b3.cell 2 rfl, x_b3.cell 3 rfl⟩, ?_⟩
  apply wpFl_ld rfl rfl; (case h1 => intro w' hC K hK; obtain ⟨c0, c1, c2, c3⟩ := hC; go_big_op; exact hK); iterate 4 kernel_rfl
  apply wpFl_ld rfl rfl; (case h1 => intro w' hC K hK; obtain ⟨c0, c1, c2, c3⟩ := hC; go_big_op; exact hK); iterate 4 kernel_rfl
  apply wpFl_ld rfl rfl; (case h1 => intro w' hC K hK; obtain ⟨c0, c1, c2, c3⟩ := hC; go_big_op; exact hK); iterate 4 kernel_rfl
  refine wpFl_call rfl (by kernel_rfl) fun w_5 hn hC => ?_; clear hC
  replace ha1 := ha1.bl hn; replace ha2 := ha2.bl hn; replace hq1 := hq1.bl hn; replace hq2 := hq2.bl hn; replace hc1 := hc1.bl hn; replace hc2 := hc2.bl hn; replace x_b1 := x_b1.bl hn; replace x_b2 := x_b2.bl hn; replace x_b3 := x_b3.bl hn; replace hb := hb.trans (hn.mono hb.size)
  clear hn; intro K hK
  go_big_op
  go_fit (gAdd_any (PN.mk' hq1 hq2) (PN.mk' hc1 hc2) (by omega) (by omega) (by omega) (by omega) )
  rintro e w_6 ⟨_, rfl, ⟨n_aa, o_aa, k_aa, c_aa, n_ab, o_ab, k_ab, c_ab, rfl, a1, a2⟩, hb_6⟩
  replace ha1 := ha1.bl hb_6; replace ha2 := ha2.bl hb_6; replace hq1 := hq1.bl hb_6; replace hq2 := hq2.bl hb_6; replace hc1 := hc1.bl hb_6; replace hc2 := hc2.bl hb_6; replace x_b1 := x_b1.bl hb_6; replace x_b2 := x_b2.bl hb_6; replace x_b3 := x_b3.bl hb_6; replace hb := hb.trans (hb_6.mono hb.size)
  have La1 := hide (a1.lenOf (zlen_add (hq1.len) (hc1.len)))
  have La2 := hide (a2.lenOf (zlen_add (hq2.len) (hc2.len)))
  refine hK _ _ rfl hb_6 ⟨x_b1.cell 0 rfl, x_b1.cell 1 rfl, x_b1.cell 2 rfl, x_b1.cell 3 rfl, x_b2.cell 0 rfl, x_b2.cell 1 rfl, x_b2.cell 2 rfl, x_b2.cell 3 rfl, x_b3.cell 0 rfl, x_b3.cell 1 rfl, x_b3.cell 2 rfl, x_b3.cell 3 rfl⟩ ?_
  clear hK K hb_6
  refine wpFl_call rfl (by kernel_rfl) fun w_7 hn hC => ?_; clear hC
  replace ha1 := ha1.bl hn; replace ha2 := ha2.bl hn; replace hq1 := hq1.bl hn; replace hq2 := hq2.bl hn; replace hc1 := hc1.bl hn; replace hc2 := hc2.bl hn; replace x_b1 := x_b1.bl hn; replace x_b2 := x_b2.bl hn; replace x_b3 := x_b3.bl hn; replace a1 := a1.bl hn; replace a2 := a2.bl hn; replace hb := hb.trans (hn.mono hb.size)
  clear hn; intro K hK
  go_big_op
  go_fit (gMul_any (PN.mk' ha1 ha2) (PN.mk' (a1.zn La1.out) (a2.zn La2.out)) (by omega) (by omega) (by omega) (by omega) )
  rintro e w_8 ⟨_, rfl, ⟨n_ba, o_ba, k_ba, c_ba, n_bb, o_bb, k_bb, c_bb, rfl, b1, b2⟩, hb_8⟩
  replace ha1 := ha1.bl hb_8; replace ha2 := ha2.bl hb_8; replace hq1 := hq1.bl hb_8; replace hq2 := hq2.bl hb_8; replace hc1 := hc1.bl hb_8; replace hc2 := hc2.bl hb_8; replace x_b1 := x_b1.bl hb_8; replace x_b2 := x_b2.bl hb_8; replace x_b3 := x_b3.bl hb_8; replace a1 := a1.bl hb_8; replace a2 := a2.bl hb_8; replace hb := hb.trans (hb_8.mono hb.size)
  have Lb1 := hide (b1.lenOf (zlen_sub (zlen_mul (ha1.len) (La1.out)) (zlen_mul (ha2.len) (La2.out))))
  have Lb2 := hide (b2.lenOf (zlen_add (zlen_mul (ha1.len) (La2.out)) (zlen_mul (ha2.len) (La1.out))))
  rw [E1.out.1] at b1
  rw [E1.out.2] at b2
  refine hK _ _ rfl hb_8 ⟨x_b1.cell 0 rfl, x_b1.cell 1 rfl, x_b1.cell 2 rfl, x_b1.cell 3 rfl, x_b2.cell 0 rfl, x_b2.cell 1 rfl, x_b2.cell 2 rfl, x_b2.cell 3 rfl, x_b3.cell 0 rfl, x_b3.cell 1 rfl, x_b3.cell 2 rfl, x_b3.cell 3 rfl⟩ ?_
  clear hK K hb_8
  apply wpFl_end
  case ha => intro pt; simp only [putF, nthO, Act.put, ptr, List.setIfInBounds_toArray, List.set_cons_succ, List.set_cons_zero]; rfl
  case h =>
  intro w_9 pt hn hC hF hD
  clear hC
  clear a1 a2
  replace ha1 := ha1.bl hn; replace ha2 := ha2.bl hn; replace hq1 := hq1.bl hn; replace hq2 := hq2.bl hn; replace hc1 := hc1.bl hn; replace hc2 := hc2.bl hn; replace x_b1 := x_b1.bl hn; replace x_b2 := x_b2.bl hn; replace x_b3 := x_b3.bl hn; replace b1 := b1.bl hn; replace b2 := b2.bl hn; replace hb := hb.trans (hn.mono hb.size)
  clear hn
  obtain ⟨kB_b4, x_b4⟩ := hF 5 (by decide)
  replace x_b4 : Bs w_9 (pt 5) #[.bool false, .slice none 0 0, .bool false, .slice none 0 0] 26 := x_b4
  clear hF hD
  generalize pt 5 = p_b4 at *
  clear pt
  have kb_b4 := hide (Nat.le_trans kb0 kB_b4)
  have ne_b1_b4 : Hid (p_b1 ≠ p_b4) := Nat.ne_of_lt (Nat.lt_of_lt_of_le lt_b1 kB_b4)
  have ne_b2_b4 : Hid (p_b2 ≠ p_b4) := Nat.ne_of_lt (Nat.lt_of_lt_of_le lt_b2 kB_b4)
  have ne_b3_b4 : Hid (p_b3 ≠ p_b4) := Nat.ne_of_lt (Nat.lt_of_lt_of_le lt_b3 kB_b4)
  clear kB_b4
  clear kb0 lt_b1 lt_b2 lt_b3
  refine wpTail_call rfl (by kernel_rfl) fun K hK => ?_
  obtain ⟨d0, d1, d2, d3⟩ := x_b4.f4
  have f0 := x_b4.free 0; have f1 := x_b4.free 1; have f2 := x_b4.free 2; have f3 := x_b4.free 3
  go_big_op
  have hnd := x_b4.nod rfl rfl
  obtain ⟨w_10, eW, x_b4', ho⟩ : ∃ w', ((((w_9.setCell ⟨p_b4, 0, none⟩ (.bool n_ba)).setCell ⟨p_b4, 1, none⟩ (.slice o_ba k_ba c_ba)).setCell ⟨p_b4, 2, none⟩ (.bool n_bb)).setCell ⟨p_b4, 3, none⟩ (.slice o_bb k_bb c_bb)) = w' ∧ Bs w' p_b4 #[.bool n_ba, .slice o_ba k_ba c_ba, .bool n_bb, .slice o_bb k_bb c_bb] 26 ∧ Only p_b4 w_9 w' := x_b4.setN [(0, .bool n_ba), (1, .slice o_ba k_ba c_ba), (2, .bool n_bb), (3, .slice o_bb k_bb c_bb)]
  rw [eW]; clear eW d0 d1 d2 d3 f0 f1 f2 f3 x_b4
  have x_b4 := x_b4'; clear x_b4'
  replace ha1 := ha1.fr hnd ho; replace ha2 := ha2.fr hnd ho; replace hq1 := hq1.fr hnd ho; replace hq2 := hq2.fr hnd ho; replace hc1 := hc1.fr hnd ho; replace hc2 := hc2.fr hnd ho; replace x_b1 := x_b1.frame ho ne_b1_b4; replace x_b2 := x_b2.frame ho ne_b2_b4; replace x_b3 := x_b3.frame ho ne_b3_b4; replace b1 := b1.fr hnd ho; replace b2 := b2.fr hnd ho; replace hb := belowOnly hb ho kb_b4
  refine hK _ _ rfl (And.intro ⟨x_b1.cell 0 rfl, x_b1.cell 1 rfl, x_b1.cell 2 rfl, x_b1.cell 3 rfl⟩ (And.intro ⟨x_b2.cell 0 rfl, x_b2.cell 1 rfl, x_b2.cell 2 rfl, x_b2.cell 3 rfl⟩ (And.intro ⟨x_b3.cell 0 rfl, x_b3.cell 1 rfl, x_b3.cell 2 rfl, x_b3.cell 3 rfl⟩ True.intro))) ?_; clear hK K ho hnd
  apply wpTail_end
  refine hK2 _ _ ?_
  refine wp_seq_k ?_
  intro K3 hK3
  refine wp_region_fl2 [(0, false), (1, false), (3, false), (4, false), (2, true), (5, true), (6, true)] [8] [7] (fun j => (.cells #[.bool false, .slice none 0 0, .bool false, .slice none 0 0] 26)) [0, 1, 99, 0, 2, 99, 99, 99, 99] [] (fun w' => w'.cell? ⟨p_b1, 0, none⟩ = some (.bool n_0a) ∧ w'.cell? ⟨p_b1, 1, none⟩ = some (.slice o_0a k_0a c_0a) ∧ w'.cell? ⟨p_b1, 2, none⟩ = some (.bool n_0b) ∧ w'.cell? ⟨p_b1, 3, none⟩ = some (.slice o_0b k_0b c_0b) ∧ w'.cell? ⟨p_b2, 0, none⟩ = some (.bool n_1a) ∧ w'.cell? ⟨p_b2, 1, none⟩ = some (.slice o_1a k_1a c_1a) ∧ w'.cell? ⟨p_b2, 2, none⟩ = some (.bool n_1b) ∧ w'.cell? ⟨p_b2, 3, none⟩ = some (.slice o_1b k_1b c_1b) ∧ w'.cell? ⟨p_b3, 0, none⟩ = some (.bool n_2a) ∧ w'.cell? ⟨p_b3, 1, none⟩ = some (.slice o_2a k_2a c_2a) ∧ w'.cell? ⟨p_b3, 2, none⟩ = some (.bool n_2b) ∧ w'.cell? ⟨p_b3, 3, none⟩ = some (.slice o_2b k_2b c_2b)) [fun w' => w'.cell? ⟨p_b1, 0, none⟩ = some (.bool n_0a) ∧ w'.cell? ⟨p_b1, 1, none⟩ = some (.slice o_0a k_0a c_0a) ∧ w'.cell? ⟨p_b1, 2, none⟩ = some (.bool n_0b) ∧ w'.cell? ⟨p_b1, 3, none⟩ = some (.slice o_0b k_0b c_0b), fun w' => w'.cell? ⟨p_b2, 0, none⟩ = some (.bool n_1a) ∧ w'.cell? ⟨p_b2, 1, none⟩ = some (.slice o_1a k_1a c_1a) ∧ w'.cell? ⟨p_b2, 2, none⟩ = some (.bool n_1b) ∧ w'.cell? ⟨p_b2, 3, none⟩ = some (.slice o_1b k_1b c_1b), fun w' => w'.cell? ⟨p_b3, 0, none⟩ = some (.bool n_2a) ∧ w'.cell? ⟨p_b3, 1, none⟩ = some (.slice o_2a k_2a c_2a) ∧ w'.cell? ⟨p_b3, 2, none⟩ = some (.bool n_2b) ∧ w'.cell? ⟨p_b3, 3, none⟩ = some (.slice o_2b k_2b c_2b)] (by kernel_rfl) (by kernel_rfl) (by kernel_rfl) (by kernel_rfl) (by kernel_rfl) (by kernel_rfl) (by kernel_rfl) (by kernel_rfl) (by decide) (by intro j hj; simp only [List.mem_cons, List.not_mem_nil, or_false] at hj; rcases hj with rfl; all_goals exact ⟨_, rfl, rfl, fun ρ w => by unfold ptr; simp [go_sem]⟩) (by intro w' o hC; obtain ⟨c0, c1, c2, c3, c4, c5, c6, c7, c8, c9, c10, c11⟩ := hC; exact ⟨cell_alloc c0 o, cell_alloc c1 o, cell_alloc c2 o, cell_alloc c3 o, cell_alloc c4 o, cell_alloc c5 o, cell_alloc c6 o, cell_alloc c7 o, cell_alloc c8 o, cell_alloc c9 o, cell_alloc c10 o, cell_alloc c11 o⟩) (by intro w' hC G hG; obtain ⟨c0, c1, c2, c3, c4, c5, c6, c7, c8, c9, c10, c11⟩ := hC; simp only [List.mem_cons, List.not_mem_nil, or_false] at hG; rcases hG with rfl | rfl | rfl <;> first | exact ⟨c0, c1, c2, c3⟩ | exact ⟨c4, c5, c6, c7⟩ | exact ⟨c8, c9, c10, c11⟩) ?_
  have lt_b1 := x_b1.lt
  have lt_b2 := x_b2.lt
  have lt_b3 := x_b3.lt
  have lt_b4 := x_b4.lt
  intro w_11 hn
  replace lt_b1 := Nat.lt_of_lt_of_le lt_b1 hn.size
  replace lt_b2 := Nat.lt_of_lt_of_le lt_b2 hn.size
  replace lt_b3 := Nat.lt_of_lt_of_le lt_b3 hn.size
  replace lt_b4 := Nat.lt_of_lt_of_le lt_b4 hn.size
  replace ha1 := ha1.bl hn; replace ha2 := ha2.bl hn; replace hq1 := hq1.bl hn; replace hq2 := hq2.bl hn; replace hc1 := hc1.bl hn; replace hc2 := hc2.bl hn; replace x_b1 := x_b1.bl hn; replace x_b2 := x_b2.bl hn; replace x_b3 := x_b3.bl hn; replace b1 := b1.bl hn; replace b2 := b2.bl hn; replace x_b4 := x_b4.bl hn; replace hb := hb.trans (hn.mono hb.size)
  clear hn
  have kb0 := hb.size
  refine ⟨⟨x_b1.cell 0 rfl, x_b1.cell 1 rfl, x_b1.cell 2 rfl, x_b1.cell 3 rfl, x_b2.cell 0 rfl, x_b2.cell 1 rfl, x_b2.cell 2 rfl, x_b2.cell 3 rfl, x_b3.cell 0 rfl, x_b3.cell 1 rfl, x_b3.cell 2 rfl, x_b3.cell 3 rfl⟩, ?_⟩
  apply wpFl_ld rfl rfl; (case h1 => intro w' hC K hK; obtain ⟨c0, c1, c2, c3⟩ := hC; go_big_op; exact hK); iterate 4 kernel_rfl
  apply wpFl_ld rfl rfl; (case h1 => intro w' hC K hK; obtain ⟨c0, c1, c2, c3⟩ := hC; go_big_op; exact hK); iterate 4 kernel_rfl
  apply wpFl_ld rfl rfl; (case h1 => intro w' hC K hK; obtain ⟨c0, c1, c2, c3⟩ := hC; go_big_op; exact hK); iterate 4 kernel_rfl
  apply wpFl_ld rfl rfl; (case h1 => intro w' hC K hK; obtain ⟨c0, c1, c2, c3⟩ := hC; go_big_op; exact hK); iterate 4 kernel_rfl
  refine wpFl_call rfl (by kernel_rfl) fun w_12 hn hC => ?_; clear hC
  replace ha1 := ha1.bl hn; replace ha2 := ha2.bl hn; replace hq1 := hq1.bl hn; replace hq2 := hq2.bl hn; replace hc1 := hc1.bl hn; replace hc2 := hc2.bl hn; replace x_b1 := x_b1.bl hn; replace x_b2 := x_b2.bl hn; replace x_b3 := x_b3.bl hn; replace b1 := b1.bl hn; replace b2 := b2.bl hn; replace x_b4 := x_b4.bl hn; replace hb := hb.trans (hn.mono hb.size)
  clear hn; intro K hK
  go_big_op
  go_fit (gMul_any (PN.mk' ha1 ha2) (PN.mk' hq1 hq2) (by omega) (by omega) (by omega) (by omega) )
  rintro e w_13 ⟨_, rfl, ⟨n_ca, o_ca, k_ca, c_ca, n_cb, o_cb, k_cb, c_cb, rfl, c1, c2⟩, hb_13⟩
  replace ha1 := ha1.bl hb_13; replace ha2 := ha2.bl hb_13; replace hq1 := hq1.bl hb_13; replace hq2 := hq2.bl hb_13; replace hc1 := hc1.bl hb_13; replace hc2 := hc2.bl hb_13; replace x_b1 := x_b1.bl hb_13; replace x_b2 := x_b2.bl hb_13; replace x_b3 := x_b3.bl hb_13; replace b1 := b1.bl hb_13; replace b2 := b2.bl hb_13; replace x_b4 := x_b4.bl hb_13; replace hb := hb.trans (hb_13.mono hb.size)
  have Lc1 := hide (c1.lenOf (zlen_sub (zlen_mul (ha1.len) (hq1.len)) (zlen_mul (ha2.len) (hq2.len))))
  have Lc2 := hide (c2.lenOf (zlen_add (zlen_mul (ha1.len) (hq2.len)) (zlen_mul (ha2.len) (hq1.len))))
  refine hK _ _ rfl hb_13 ⟨x_b1.cell 0 rfl, x_b1.cell 1 rfl, x_b1.cell 2 rfl, x_b1.cell 3 rfl, x_b2.cell 0 rfl, x_b2.cell 1 rfl, x_b2.cell 2 rfl, x_b2.cell 3 rfl, x_b3.cell 0 rfl, x_b3.cell 1 rfl, x_b3.cell 2 rfl, x_b3.cell 3 rfl⟩ ?_
  clear hK K hb_13
  refine wpFl_call rfl (by kernel_rfl) fun w_14 hn hC => ?_; clear hC
  replace ha1 := ha1.bl hn; replace ha2 := ha2.bl hn; replace hq1 := hq1.bl hn; replace hq2 := hq2.bl hn; replace hc1 := hc1.bl hn; replace hc2 := hc2.bl hn; replace x_b1 := x_b1.bl hn; replace x_b2 := x_b2.bl hn; replace x_b3 := x_b3.bl hn; replace b1 := b1.bl hn; replace b2 := b2.bl hn; replace x_b4 := x_b4.bl hn; replace c1 := c1.bl hn; replace c2 := c2.bl hn; replace hb := hb.trans (hn.mono hb.size)
  clear hn; intro K hK
  go_big_op
  go_fit (gMul_any (PN.mk' ha1 ha2) (PN.mk' hc1 hc2) (by omega) (by omega) (by omega) (by omega) )
  rintro e w_15 ⟨_, rfl, ⟨n_da, o_da, k_da, c_da, n_db, o_db, k_db, c_db, rfl, d1, d2⟩, hb_15⟩
  replace ha1 := ha1.bl hb_15; replace ha2 := ha2.bl hb_15; replace hq1 := hq1.bl hb_15; replace hq2 := hq2.bl hb_15; replace hc1 := hc1.bl hb_15; replace hc2 := hc2.bl hb_15; replace x_b1 := x_b1.bl hb_15; replace x_b2 := x_b2.bl hb_15; replace x_b3 := x_b3.bl hb_15; replace b1 := b1.bl hb_15; replace b2 := b2.bl hb_15; replace x_b4 := x_b4.bl hb_15; replace c1 := c1.bl hb_15; replace c2 := c2.bl hb_15; replace hb := hb.trans (hb_15.mono hb.size)
  have Ld1 := hide (d1.lenOf (zlen_sub (zlen_mul (ha1.len) (hc1.len)) (zlen_mul (ha2.len) (hc2.len))))
  have Ld2 := hide (d2.lenOf (zlen_add (zlen_mul (ha1.len) (hc2.len)) (zlen_mul (ha2.len) (hc1.len))))
  refine hK _ _ rfl hb_15 ⟨x_b1.cell 0 rfl, x_b1.cell 1 rfl, x_b1.cell 2 rfl, x_b1.cell 3 rfl, x_b2.cell 0 rfl, x_b2.cell 1 rfl, x_b2.cell 2 rfl, x_b2.cell 3 rfl, x_b3.cell 0 rfl, x_b3.cell 1 rfl, x_b3.cell 2 rfl, x_b3.cell 3 rfl⟩ ?_
  clear hK K hb_15
  refine wpFl_call rfl (by kernel_rfl) fun w_16 hn hC => ?_; clear hC
  replace ha1 := ha1.bl hn; replace ha2 := ha2.bl hn; replace hq1 := hq1.bl hn; replace hq2 := hq2.bl hn; replace hc1 := hc1.bl hn; replace hc2 := hc2.bl hn; replace x_b1 := x_b1.bl hn; replace x_b2 := x_b2.bl hn; replace x_b3 := x_b3.bl hn; replace b1 := b1.bl hn; replace b2 := b2.bl hn; replace x_b4 := x_b4.bl hn; replace c1 := c1.bl hn; replace c2 := c2.bl hn; replace d1 := d1.bl hn; replace d2 := d2.bl hn; replace hb := hb.trans (hn.mono hb.size)
  clear hn; intro K hK
  go_big_op
  go_fit (gAdd_any (PN.mk' (c1.zn Lc1.out) (c2.zn Lc2.out)) (PN.mk' (d1.zn Ld1.out) (d2.zn Ld2.out)) (by omega) (by omega) (by omega) (by omega) )
  rintro e w_17 ⟨_, rfl, ⟨n_ea, o_ea, k_ea, c_ea, n_eb, o_eb, k_eb, c_eb, rfl, e1, e2⟩, hb_17⟩
  replace ha1 := ha1.bl hb_17; replace ha2 := ha2.bl hb_17; replace hq1 := hq1.bl hb_17; replace hq2 := hq2.bl hb_17; replace hc1 := hc1.bl hb_17; replace hc2 := hc2.bl hb_17; replace x_b1 := x_b1.bl hb_17; replace x_b2 := x_b2.bl hb_17; replace x_b3 := x_b3.bl hb_17; replace b1 := b1.bl hb_17; replace b2 := b2.bl hb_17; replace x_b4 := x_b4.bl hb_17; replace c1 := c1.bl hb_17; replace c2 := c2.bl hb_17; replace d1 := d1.bl hb_17; replace d2 := d2.bl hb_17; replace hb := hb.trans (hb_17.mono hb.size)
  have Le1 := hide (e1.lenOf (zlen_add (Lc1.out) (Ld1.out)))
  have Le2 := hide (e2.lenOf (zlen_add (Lc2.out) (Ld2.out)))
  refine hK _ _ rfl hb_17 ⟨x_b1.cell 0 rfl, x_b1.cell 1 rfl, x_b1.cell 2 rfl, x_b1.cell 3 rfl, x_b2.cell 0 rfl, x_b2.cell 1 rfl, x_b2.cell 2 rfl, x_b2.cell 3 rfl, x_b3.cell 0 rfl, x_b3.cell 1 rfl, x_b3.cell 2 rfl, x_b3.cell 3 rfl⟩ ?_
  clear hK K hb_17
  apply wpFl_end
  case ha => intro pt; simp only [putF, nthO, Act.put, ptr, List.setIfInBounds_toArray, List.set_cons_succ, List.set_cons_zero]; rfl
  case h =>
  intro w_18 pt hn hC hF hD
  clear hC
  clear c1 c2 d1 d2
  replace ha1 := ha1.bl hn; replace ha2 := ha2.bl hn; replace hq1 := hq1.bl hn; replace hq2 := hq2.bl hn; replace hc1 := hc1.bl hn; replace hc2 := hc2.bl hn; replace x_b1 := x_b1.bl hn; replace x_b2 := x_b2.bl hn; replace x_b3 := x_b3.bl hn; replace b1 := b1.bl hn; replace b2 := b2.bl hn; replace x_b4 := x_b4.bl hn; replace e1 := e1.bl hn; replace e2 := e2.bl hn; replace hb := hb.trans (hn.mono hb.size)
  clear hn
  obtain ⟨kB_b5, x_b5⟩ := hF 7 (by decide)
  replace x_b5 : Bs w_18 (pt 7) #[.bool false, .slice none 0 0, .bool false, .slice none 0 0] 26 := x_b5
  clear hF hD
  generalize pt 7 = p_b5 at *
  clear pt
  have kb_b5 := hide (Nat.le_trans kb0 kB_b5)
  have ne_b1_b5 : Hid (p_b1 ≠ p_b5) := Nat.ne_of_lt (Nat.lt_of_lt_of_le lt_b1 kB_b5)
  have ne_b2_b5 : Hid (p_b2 ≠ p_b5) := Nat.ne_of_lt (Nat.lt_of_lt_of_le lt_b2 kB_b5)
  have ne_b3_b5 : Hid (p_b3 ≠ p_b5) := Nat.ne_of_lt (Nat.lt_of_lt_of_le lt_b3 kB_b5)
  have ne_b4_b5 : Hid (p_b4 ≠ p_b5) := Nat.ne_of_lt (Nat.lt_of_lt_of_le lt_b4 kB_b5)
  clear kB_b5
  clear kb0 lt_b1 lt_b2 lt_b3 lt_b4
  refine wpTail_call rfl (by kernel_rfl) fun K hK => ?_
  obtain ⟨d0, d1, d2, d3⟩ := x_b5.f4
  have f0 := x_b5.free 0; have f1 := x_b5.free 1; have f2 := x_b5.free 2; have f3 := x_b5.free 3
  go_big_op
  have hnd := x_b5.nod rfl rfl
  obtain ⟨w_19, eW, x_b5', ho⟩ : ∃ w', ((((w_18.setCell ⟨p_b5, 0, none⟩ (.bool n_ea)).setCell ⟨p_b5, 1, none⟩ (.slice o_ea k_ea c_ea)).setCell ⟨p_b5, 2, none⟩ (.bool n_eb)).setCell ⟨p_b5, 3, none⟩ (.slice o_eb k_eb c_eb)) = w' ∧ Bs w' p_b5 #[.bool n_ea, .slice o_ea k_ea c_ea, .bool n_eb, .slice o_eb k_eb c_eb] 26 ∧ Only p_b5 w_18 w' := x_b5.setN [(0, .bool n_ea), (1, .slice o_ea k_ea c_ea), (2, .bool n_eb), (3, .slice o_eb k_eb c_eb)]
  rw [eW]; clear eW d0 d1 d2 d3 f0 f1 f2 f3 x_b5
  have x_b5 := x_b5'; clear x_b5'
  replace ha1 := ha1.fr hnd ho; replace ha2 := ha2.fr hnd ho; replace hq1 := hq1.fr hnd ho; replace hq2 := hq2.fr hnd ho; replace hc1 := hc1.fr hnd ho; replace hc2 := hc2.fr hnd ho; replace x_b1 := x_b1.frame ho ne_b1_b5; replace x_b2 := x_b2.frame ho ne_b2_b5; replace x_b3 := x_b3.frame ho ne_b3_b5; replace b1 := b1.fr hnd ho; replace b2 := b2.fr hnd ho; replace x_b4 := x_b4.frame ho ne_b4_b5; replace e1 := e1.fr hnd ho; replace e2 := e2.fr hnd ho; replace hb := belowOnly hb ho kb_b5
  refine hK _ _ rfl (And.intro ⟨x_b1.cell 0 rfl, x_b1.cell 1 rfl, x_b1.cell 2 rfl, x_b1.cell 3 rfl⟩ (And.intro ⟨x_b2.cell 0 rfl, x_b2.cell 1 rfl, x_b2.cell 2 rfl, x_b2.cell 3 rfl⟩ (And.intro ⟨x_b3.cell 0 rfl, x_b3.cell 1 rfl, x_b3.cell 2 rfl, x_b3.cell 3 rfl⟩ True.intro))) ?_; clear hK K ho hnd
  apply wpTail_end
  refine hK3 _ _ ?_
  refine wp_seq_k ?_
  intro K4 hK4
  refine wp_region_fl2 [(0, false), (1, false), (3, false), (2, true), (4, true)] [6] [5] (fun j => (.cells #[.bool false, .slice none 0 0, .bool false, .slice none 0 0] 26)) [0, 1, 99, 2, 99, 99, 99] [] (fun w' => w'.cell? ⟨p_b1, 0, none⟩ = some (.bool n_0a) ∧ w'.cell? ⟨p_b1, 1, none⟩ = some (.slice o_0a k_0a c_0a) ∧ w'.cell? ⟨p_b1, 2, none⟩ = some (.bool n_0b) ∧ w'.cell? ⟨p_b1, 3, none⟩ = some (.slice o_0b k_0b c_0b) ∧ w'.cell? ⟨p_b2, 0, none⟩ = some (.bool n_1a) ∧ w'.cell? ⟨p_b2, 1, none⟩ = some (.slice o_1a k_1a c_1a) ∧ w'.cell? ⟨p_b2, 2, none⟩ = some (.bool n_1b) ∧ w'.cell? ⟨p_b2, 3, none⟩ = some (.slice o_1b k_1b c_1b) ∧ w'.cell? ⟨p_b3, 0, none⟩ = some (.bool n_2a) ∧ w'.cell? ⟨p_b3, 1, none⟩ = some (.slice o_2a k_2a c_2a) ∧ w'.cell? ⟨p_b3, 2, none⟩ = some (.bool n_2b) ∧ w'.cell? ⟨p_b3, 3, none⟩ = some (.slice o_2b k_2b c_2b)) [fun w' => w'.cell? ⟨p_b1, 0, none⟩ = some (.bool n_0a) ∧ w'.cell? ⟨p_b1, 1, none⟩ = some (.slice o_0a k_0a c_0a) ∧ w'.cell? ⟨p_b1, 2, none⟩ = some (.bool n_0b) ∧ w'.cell? ⟨p_b1, 3, none⟩ = some (.slice o_0b k_0b c_0b), fun w' => w'.cell? ⟨p_b2, 0, none⟩ = some (.bool n_1a) ∧ w'.cell? ⟨p_b2, 1, none⟩ = some (.slice o_1a k_1a c_1a) ∧ w'.cell? ⟨p_b2, 2, none⟩ = some (.bool n_1b) ∧ w'.cell? ⟨p_b2, 3, none⟩ = some (.slice o_1b k_1b c_1b), fun w' => w'.cell? ⟨p_b3, 0, none⟩ = some (.bool n_2a) ∧ w'.cell? ⟨p_b3, 1, none⟩ = some (.slice o_2a k_2a c_2a) ∧ w'.cell? ⟨p_b3, 2, none⟩ = some (.bool n_2b) ∧ w'.cell? ⟨p_b3, 3, none⟩ = some (.slice o_2b k_2b c_2b)] (by kernel_rfl) (by kernel_rfl) (by kernel_rfl) (by kernel_rfl) (by kernel_rfl) (by kernel_rfl) (by kernel_rfl) (by kernel_rfl) (by decide) (by intro j hj; simp only [List.mem_cons, List.not_mem_nil, or_false] at hj; rcases hj with rfl; all_goals exact ⟨_, rfl, rfl, fun ρ w => by unfold ptr; simp [go_sem]⟩) (by intro w' o hC; obtain ⟨c0, c1, c2, c3, c4, c5, c6, c7, c8, c9, c10, c11⟩ := hC; exact ⟨cell_alloc c0 o, cell_alloc c1 o, cell_alloc c2 o, cell_alloc c3 o, cell_alloc c4 o, cell_alloc c5 o, cell_alloc c6 o, cell_alloc c7 o, cell_alloc c8 o, cell_alloc c9 o, cell_alloc c10 o, cell_alloc c11 o⟩) (by intro w' hC G hG; obtain ⟨c0, c1, c2, c3, c4, c5, c6, c7, c8, c9, c10, c11⟩ := hC; simp only [List.mem_cons, List.not_mem_nil, or_false] at hG; rcases hG with rfl | rfl | rfl <;> first | exact ⟨c0, c1, c2, c3⟩ | exact ⟨c4, c5, c6, c7⟩ | exact ⟨c8, c9, c10, c11⟩) ?_
  have lt_b1 := x_b1.lt
  have lt_b2 := x_b2.lt
  have lt_b3 := x_b3.lt
  have lt_b4 := x_b4.lt
  have lt_b5 := x_b5.lt
  intro w_20 hn
  replace lt_b1 := Nat.lt_of_lt_of_le lt_b1 hn.size
  replace lt_b2 := Nat.lt_of_lt_of_le lt_b2 hn.size
  replace lt_b3 := Nat.lt_of_lt_of_le lt_b3 hn.size
  replace lt_b4 := Nat.lt_of_lt_of_le lt_b4 hn.size
  replace lt_b5 := Nat.lt_of_lt_of_le lt_b5 hn.size
  replace ha1 := ha1.bl hn; replace ha2 := ha2.bl hn; replace hq1 := hq1.bl hn; replace hq2 := hq2.bl hn; replace hc1 := hc1.bl hn; replace hc2 := hc2.bl hn; replace x_b1 := x_b1.bl hn; replace x_b2 := x_b2.bl hn; replace x_b3 := x_b3.bl hn; replace b1 := b1.bl hn; replace b2 := b2.bl hn; replace x_b4 := x_b4.bl hn; replace e1 := e1.bl hn; replace e2 := e2.bl hn; replace x_b5 := x_b5.bl hn; replace hb := hb.trans (hn.mono hb.size)
  clear hn
  have kb0 := hb.size
  refine ⟨⟨x_b1.cell 0 rfl, x_b1.cell 1 rfl, x_b1.cell 2 rfl, x_b1.cell 3 rfl, x_b2.cell 0 rfl, x_b2.cell 1 rfl, x_b2.cell 2 rfl, x_b2.cell 3 rfl, x_b3.cell 0 rfl, x_b3.cell 1 rfl, x_b3.cell 2 rfl, x_b3.cell 3 rfl⟩, ?_⟩
  apply wpFl_ld rfl rfl; (case h1 => intro w' hC K hK; obtain ⟨c0, c1, c2, c3⟩ := hC; go_big_op; exact hK); iterate 4 kernel_rfl
  apply wpFl_ld rfl rfl; (case h1 => intro w' hC K hK; obtain ⟨c0, c1, c2, c3⟩ := hC; go_big_op; exact hK); iterate 4 kernel_rfl
  apply wpFl_ld rfl rfl; (case h1 => intro w' hC K hK; obtain ⟨c0, c1, c2, c3⟩ := hC; go_big_op; exact hK); iterate 4 kernel_rfl
  refine wpFl_call rfl (by kernel_rfl) fun w_21 hn hC => ?_; clear hC
  replace ha1 := ha1.bl hn; replace ha2 := ha2.bl hn; replace hq1 := hq1.bl hn; replace hq2 := hq2.bl hn; replace hc1 := hc1.bl hn; replace hc2 := hc2.bl hn; replace x_b1 := x_b1.bl hn; replace x_b2 := x_b2.bl hn; replace x_b3 := x_b3.bl hn; replace b1 := b1.bl hn; replace b2 := b2.bl hn; replace x_b4 := x_b4.bl hn; replace e1 := e1.bl hn; replace e2 := e2.bl hn; replace x_b5 := x_b5.bl hn; replace hb := hb.trans (hn.mono hb.size)
  clear hn; intro K hK
  go_big_op
  go_fit (gMul_any (PN.mk' ha1 ha2) (PN.mk' hq1 hq2) (by omega) (by omega) (by omega) (by omega) )
  rintro e w_22 ⟨_, rfl, ⟨n_fa, o_fa, k_fa, c_fa, n_fb, o_fb, k_fb, c_fb, rfl, f1, f2⟩, hb_22⟩
  replace ha1 := ha1.bl hb_22; replace ha2 := ha2.bl hb_22; replace hq1 := hq1.bl hb_22; replace hq2 := hq2.bl hb_22; replace hc1 := hc1.bl hb_22; replace hc2 := hc2.bl hb_22; replace x_b1 := x_b1.bl hb_22; replace x_b2 := x_b2.bl hb_22; replace x_b3 := x_b3.bl hb_22; replace b1 := b1.bl hb_22; replace b2 := b2.bl hb_22; replace x_b4 := x_b4.bl hb_22; replace e1 := e1.bl hb_22; replace e2 := e2.bl hb_22; replace x_b5 := x_b5.bl hb_22; replace hb := hb.trans (hb_22.mono hb.size)
  have Lf1 := hide (f1.lenOf (zlen_sub (zlen_mul (ha1.len) (hq1.len)) (zlen_mul (ha2.len) (hq2.len))))
  have Lf2 := hide (f2.lenOf (zlen_add (zlen_mul (ha1.len) (hq2.len)) (zlen_mul (ha2.len) (hq1.len))))
  refine hK _ _ rfl hb_22 ⟨x_b1.cell 0 rfl, x_b1.cell 1 rfl, x_b1.cell 2 rfl, x_b1.cell 3 rfl, x_b2.cell 0 rfl, x_b2.cell 1 rfl, x_b2.cell 2 rfl, x_b2.cell 3 rfl, x_b3.cell 0 rfl, x_b3.cell 1 rfl, x_b3.cell 2 rfl, x_b3.cell 3 rfl⟩ ?_
  clear hK K hb_22
  refine wpFl_call rfl (by kernel_rfl) fun w_23 hn hC => ?_; clear hC
  replace ha1 := ha1.bl hn; replace ha2 := ha2.bl hn; replace hq1 := hq1.bl hn; replace hq2 := hq2.bl hn; replace hc1 := hc1.bl hn; replace hc2 := hc2.bl hn; replace x_b1 := x_b1.bl hn; replace x_b2 := x_b2.bl hn; replace x_b3 := x_b3.bl hn; replace b1 := b1.bl hn; replace b2 := b2.bl hn; replace x_b4 := x_b4.bl hn; replace e1 := e1.bl hn; replace e2 := e2.bl hn; replace x_b5 := x_b5.bl hn; replace f1 := f1.bl hn; replace f2 := f2.bl hn; replace hb := hb.trans (hn.mono hb.size)
  clear hn; intro K hK
  go_big_op
  go_fit (gMul_any (PN.mk' (f1.zn Lf1.out) (f2.zn Lf2.out)) (PN.mk' hc1 hc2) (by omega) (by omega) (by omega) (by omega) )
  rintro e w_24 ⟨_, rfl, ⟨n_ga, o_ga, k_ga, c_ga, n_gb, o_gb, k_gb, c_gb, rfl, g1, g2⟩, hb_24⟩
  replace ha1 := ha1.bl hb_24; replace ha2 := ha2.bl hb_24; replace hq1 := hq1.bl hb_24; replace hq2 := hq2.bl hb_24; replace hc1 := hc1.bl hb_24; replace hc2 := hc2.bl hb_24; replace x_b1 := x_b1.bl hb_24; replace x_b2 := x_b2.bl hb_24; replace x_b3 := x_b3.bl hb_24; replace b1 := b1.bl hb_24; replace b2 := b2.bl hb_24; replace x_b4 := x_b4.bl hb_24; replace e1 := e1.bl hb_24; replace e2 := e2.bl hb_24; replace x_b5 := x_b5.bl hb_24; replace f1 := f1.bl hb_24; replace f2 := f2.bl hb_24; replace hb := hb.trans (hb_24.mono hb.size)
  have Lg1 := hide (g1.lenOf (zlen_sub (zlen_mul (Lf1.out) (hc1.len)) (zlen_mul (Lf2.out) (hc2.len))))
  have Lg2 := hide (g2.lenOf (zlen_add (zlen_mul (Lf1.out) (hc2.len)) (zlen_mul (Lf2.out) (hc1.len))))
  rw [E2.out.1] at g1
  rw [E2.out.2] at g2
  refine hK _ _ rfl hb_24 ⟨x_b1.cell 0 rfl, x_b1.cell 1 rfl, x_b1.cell 2 rfl, x_b1.cell 3 rfl, x_b2.cell 0 rfl, x_b2.cell 1 rfl, x_b2.cell 2 rfl, x_b2.cell 3 rfl, x_b3.cell 0 rfl, x_b3.cell 1 rfl, x_b3.cell 2 rfl, x_b3.cell 3 rfl⟩ ?_
  clear hK K hb_24
  apply wpFl_end
  case ha => intro pt; simp only [putF, nthO, Act.put, ptr, List.setIfInBounds_toArray, List.set_cons_succ, List.set_cons_zero]; rfl
  case h =>
  intro w_25 pt hn hC hF hD
  clear hC
  clear f1 f2
  replace ha1 := ha1.bl hn; replace ha2 := ha2.bl hn; replace hq1 := hq1.bl hn; replace hq2 := hq2.bl hn; replace hc1 := hc1.bl hn; replace hc2 := hc2.bl hn; replace x_b1 := x_b1.bl hn; replace x_b2 := x_b2.bl hn; replace x_b3 := x_b3.bl hn; replace b1 := b1.bl hn; replace b2 := b2.bl hn; replace x_b4 := x_b4.bl hn; replace e1 := e1.bl hn; replace e2 := e2.bl hn; replace x_b5 := x_b5.bl hn; replace g1 := g1.bl hn; replace g2 := g2.bl hn; replace hb := hb.trans (hn.mono hb.size)
  clear hn
  obtain ⟨kB_b6, x_b6⟩ := hF 5 (by decide)
  replace x_b6 : Bs w_25 (pt 5) #[.bool false, .slice none 0 0, .bool false, .slice none 0 0] 26 := x_b6
  clear hF hD
  generalize pt 5 = p_b6 at *
  clear pt
  have kb_b6 := hide (Nat.le_trans kb0 kB_b6)
  have ne_b1_b6 : Hid (p_b1 ≠ p_b6) := Nat.ne_of_lt (Nat.lt_of_lt_of_le lt_b1 kB_b6)
  have ne_b2_b6 : Hid (p_b2 ≠ p_b6) := Nat.ne_of_lt (Nat.lt_of_lt_of_le lt_b2 kB_b6)
  have ne_b3_b6 : Hid (p_b3 ≠ p_b6) := Nat.ne_of_lt (Nat.lt_of_lt_of_le lt_b3 kB_b6)
  have ne_b4_b6 : Hid (p_b4 ≠ p_b6) := Nat.ne_of_lt (Nat.lt_of_lt_of_le lt_b4 kB_b6)
  have ne_b5_b6 : Hid (p_b5 ≠ p_b6) := Nat.ne_of_lt (Nat.lt_of_lt_of_le lt_b5 kB_b6)
  clear kB_b6
  clear kb0 lt_b1 lt_b2 lt_b3 lt_b4 lt_b5
  refine wpTail_call rfl (by kernel_rfl) fun K hK => ?_
  obtain ⟨d0, d1, d2, d3⟩ := x_b6.f4
  have f0 := x_b6.free 0; have f1 := x_b6.free 1; have f2 := x_b6.free 2; have f3 := x_b6.free 3
  go_big_op
  have hnd := x_b6.nod rfl rfl
  obtain ⟨w_26, eW, x_b6', ho⟩ : ∃ w', ((((w_25.setCell ⟨p_b6, 0, none⟩ (.bool n_ga)).setCell ⟨p_b6, 1, none⟩ (.slice o_ga k_ga c_ga)).setCell ⟨p_b6, 2, none⟩ (.bool n_gb)).setCell ⟨p_b6, 3, none⟩ (.slice o_gb k_gb c_gb)) = w' ∧ Bs w' p_b6 #[.bool n_ga, .slice o_ga k_ga c_ga, .bool n_gb, .slice o_gb k_gb c_gb] 26 ∧ Only p_b6 w_25 w' := x_b6.setN [(0, .bool n_ga), (1, .slice o_ga k_ga c_ga), (2, .bool n_gb), (3, .slice o_gb k_gb c_gb)]
  rw [eW]; clear eW d0 d1 d2 d3 f0 f1 f2 f3 x_b6
  have x_b6 := x_b6'; clear x_b6'
  replace ha1 := ha1.fr hnd ho; replace ha2 := ha2.fr hnd ho; replace hq1 := hq1.fr hnd ho; replace hq2 := hq2.fr hnd ho; replace hc1 := hc1.fr hnd ho; replace hc2 := hc2.fr hnd ho; replace x_b1 := x_b1.frame ho ne_b1_b6; replace x_b2 := x_b2.frame ho ne_b2_b6; replace x_b3 := x_b3.frame ho ne_b3_b6; replace b1 := b1.fr hnd ho; replace b2 := b2.fr hnd ho; replace x_b4 := x_b4.frame ho ne_b4_b6; replace e1 := e1.fr hnd ho; replace e2 := e2.fr hnd ho; replace x_b5 := x_b5.frame ho ne_b5_b6; replace g1 := g1.fr hnd ho; replace g2 := g2.fr hnd ho; replace hb := belowOnly hb ho kb_b6
  refine hK _ _ rfl (And.intro ⟨x_b1.cell 0 rfl, x_b1.cell 1 rfl, x_b1.cell 2 rfl, x_b1.cell 3 rfl⟩ (And.intro ⟨x_b2.cell 0 rfl, x_b2.cell 1 rfl, x_b2.cell 2 rfl, x_b2.cell 3 rfl⟩ (And.intro ⟨x_b3.cell 0 rfl, x_b3.cell 1 rfl, x_b3.cell 2 rfl, x_b3.cell 3 rfl⟩ True.intro))) ?_; clear hK K ho hnd
  apply wpTail_end
  refine hK4 _ _ ?_
  refine wp_seq_k ?_
  intro K5 hK5
  refine wp_region_fl2 [(0, false), (1, false), (2, false), (3, true), (4, true)] [6] [5] (fun j => (.cells #[.bool false, .slice none 0 0, .bool false, .slice none 0 0] 26)) [0, 1, 2, 99, 99, 99, 99] [] (fun w' => w'.cell? ⟨p_b1, 0, none⟩ = some (.bool n_0a) ∧ w'.cell? ⟨p_b1, 1, none⟩ = some (.slice o_0a k_0a c_0a) ∧ w'.cell? ⟨p_b1, 2, none⟩ = some (.bool n_0b) ∧ w'.cell? ⟨p_b1, 3, none⟩ = some (.slice o_0b k_0b c_0b) ∧ w'.cell? ⟨p_b2, 0, none⟩ = some (.bool n_1a) ∧ w'.cell? ⟨p_b2, 1, none⟩ = some (.slice o_1a k_1a c_1a) ∧ w'.cell? ⟨p_b2, 2, none⟩ = some (.bool n_1b) ∧ w'.cell? ⟨p_b2, 3, none⟩ = some (.slice o_1b k_1b c_1b) ∧ w'.cell? ⟨p_b3, 0, none⟩ = some (.bool n_2a) ∧ w'.cell? ⟨p_b3, 1, none⟩ = some (.slice o_2a k_2a c_2a) ∧ w'.cell? ⟨p_b3, 2, none⟩ = some (.bool n_2b) ∧ w'.cell? ⟨p_b3, 3, none⟩ = some (.slice o_2b k_2b c_2b)) [fun w' => w'.cell? ⟨p_b1, 0, none⟩ = some (.bool n_0a) ∧ w'.cell? ⟨p_b1, 1, none⟩ = some (.slice o_0a k_0a c_0a) ∧ w'.cell? ⟨p_b1, 2, none⟩ = some (.bool n_0b) ∧ w'.cell? ⟨p_b1, 3, none⟩ = some (.slice o_0b k_0b c_0b), fun w' => w'.cell? ⟨p_b2, 0, none⟩ = some (.bool n_1a) ∧ w'.cell? ⟨p_b2, 1, none⟩ = some (.slice o_1a k_1a c_1a) ∧ w'.cell? ⟨p_b2, 2, none⟩ = some (.bool n_1b) ∧ w'.cell? ⟨p_b2, 3, none⟩ = some (.slice o_1b k_1b c_1b), fun w' => w'.cell? ⟨p_b3, 0, none⟩ = some (.bool n_2a) ∧ w'.cell? ⟨p_b3, 1, none⟩ = some (.slice o_2a k_2a c_2a) ∧ w'.cell? ⟨p_b3, 2, none⟩ = some (.bool n_2b) ∧ w'.cell? ⟨p_b3, 3, none⟩ = some (.slice o_2b k_2b c_2b)] (by kernel_rfl) (by kernel_rfl) (by kernel_rfl) (by kernel_rfl) (by kernel_rfl) (by kernel_rfl) (by kernel_rfl) (by kernel_rfl) (by decide) (by intro j hj; simp only [List.mem_cons, List.not_mem_nil, or_false] at hj; rcases hj with rfl; all_goals exact ⟨_, rfl, rfl, fun ρ w => by unfold ptr; simp [go_sem]⟩) (by intro w' o hC; obtain ⟨c0, c1, c2, c3, c4, c5, c6, c7, c8, c9, c10, c11⟩ := hC; exact ⟨cell_alloc c0 o, cell_alloc c1 o, cell_alloc c2 o, cell_alloc c3 o, cell_alloc c4 o, cell_alloc c5 o, cell_alloc c6 o, cell_alloc c7 o, cell_alloc c8 o, cell_alloc c9 o, cell_alloc c10 o, cell_alloc c11 o⟩) (by intro w' hC G hG; obtain ⟨c0, c1, c2, c3, c4, c5, c6, c7, c8, c9, c10, c11⟩ := hC; simp only [List.mem_cons, List.not_mem_nil, or_false] at hG; rcases hG with rfl | rfl | rfl <;> first | exact ⟨c0, c1, c2, c3⟩ | exact ⟨c4, c5, c6, c7⟩ | exact ⟨c8, c9, c10, c11⟩) ?_
  have lt_b1 := x_b1.lt
  have lt_b2 := x_b2.lt
  have lt_b3 := x_b3.lt
  have lt_b4 := x_b4.lt
  have lt_b5 := x_b5.lt
  have lt_b6 := x_b6.lt
  intro w_27 hn
  replace lt_b1 := Nat.lt_of_lt_of_le lt_b1 hn.size
  replace lt_b2 := Nat.lt_of_lt_of_le lt_b2 hn.size
  replace lt_b3 := Nat.lt_of_lt_of_le lt_b3 hn.size
  replace lt_b4 := Nat.lt_of_lt_of_le lt_b4 hn.size
  replace lt_b5 := Nat.lt_of_lt_of_le lt_b5 hn.size
  replace lt_b6 := Nat.lt_of_lt_of_le lt_b6 hn.size
  replace ha1 := ha1.bl hn; replace ha2 := ha2.bl hn; replace hq1 := hq1.bl hn; replace hq2 := hq2.bl hn; replace hc1 := hc1.bl hn; replace hc2 := hc2.bl hn; replace x_b1 := x_b1.bl hn; replace x_b2 := x_b2.bl hn; replace x_b3 := x_b3.bl hn; replace b1 := b1.bl hn; replace b2 := b2.bl hn; replace x_b4 := x_b4.bl hn; replace e1 := e1.bl hn; replace e2 := e2.bl hn; replace x_b5 := x_b5.bl hn; replace g1 := g1.bl hn; replace g2 := g2.bl hn; replace x_b6 := x_b6.bl hn; replace hb := hb.trans (hn.mono hb.size)
  clear hn
  have kb0 := hb.size
  refine ⟨⟨x_b1.cell 0 rfl, x_b1.cell 1 rfl, x_b1.cell 2 rfl, x_b1.cell 3 rfl, x_b2.cell 0 rfl, x_b2.cell 1 rfl, x_b2.cell 2 rfl, x_b2.cell 3 rfl, x_b3.cell 0 rfl, x_b3.cell 1 rfl, x_b3.cell 2 rfl, x_b3.cell 3 rfl⟩, ?_⟩
  apply wpFl_ld rfl rfl; (case h1 => intro w' hC K hK; obtain ⟨c0, c1, c2, c3⟩ := hC; go_big_op; exact hK); iterate 4 kernel_rfl
  apply wpFl_ld rfl rfl; (case h1 => intro w' hC K hK; obtain ⟨c0, c1, c2, c3⟩ := hC; go_big_op; exact hK); iterate 4 kernel_rfl
  apply wpFl_ld rfl rfl; (case h1 => intro w' hC K hK; obtain ⟨c0, c1, c2, c3⟩ := hC; go_big_op; exact hK); iterate 4 kernel_rfl
  refine wpFl_call rfl (by kernel_rfl) fun w_28 hn hC => ?_; clear hC
  replace ha1 := ha1.bl hn; replace ha2 := ha2.bl hn; replace hq1 := hq1.bl hn; replace hq2 := hq2.bl hn; replace hc1 := hc1.bl hn; replace hc2 := hc2.bl hn; replace x_b1 := x_b1.bl hn; replace x_b2 := x_b2.bl hn; replace x_b3 := x_b3.bl hn; replace b1 := b1.bl hn; replace b2 := b2.bl hn; replace x_b4 := x_b4.bl hn; replace e1 := e1.bl hn; replace e2 := e2.bl hn; replace x_b5 := x_b5.bl hn; replace g1 := g1.bl hn; replace g2 := g2.bl hn; replace x_b6 := x_b6.bl hn; replace hb := hb.trans (hn.mono hb.size)
  clear hn; intro K hK
  go_big_op
  go_fit (gMul_any (PN.mk' hq1 hq2) (PN.mk' hc1 hc2) (by omega) (by omega) (by omega) (by omega) )
  rintro e w_29 ⟨_, rfl, ⟨n_ia, o_ia, k_ia, c_ia, n_ib, o_ib, k_ib, c_ib, rfl, i1, i2⟩, hb_29⟩
  replace ha1 := ha1.bl hb_29; replace ha2 := ha2.bl hb_29; replace hq1 := hq1.bl hb_29; replace hq2 := hq2.bl hb_29; replace hc1 := hc1.bl hb_29; replace hc2 := hc2.bl hb_29; replace x_b1 := x_b1.bl hb_29; replace x_b2 := x_b2.bl hb_29; replace x_b3 := x_b3.bl hb_29; replace b1 := b1.bl hb_29; replace b2 := b2.bl hb_29; replace x_b4 := x_b4.bl hb_29; replace e1 := e1.bl hb_29; replace e2 := e2.bl hb_29; replace x_b5 := x_b5.bl hb_29; replace g1 := g1.bl hb_29; replace g2 := g2.bl hb_29; replace x_b6 := x_b6.bl hb_29; replace hb := hb.trans (hb_29.mono hb.size)
  have Li1 := hide (i1.lenOf (zlen_sub (zlen_mul (hq1.len) (hc1.len)) (zlen_mul (hq2.len) (hc2.len))))
  have Li2 := hide (i2.lenOf (zlen_add (zlen_mul (hq1.len) (hc2.len)) (zlen_mul (hq2.len) (hc1.len))))
  refine hK _ _ rfl hb_29 ⟨x_b1.cell 0 rfl, x_b1.cell 1 rfl, x_b1.cell 2 rfl, x_b1.cell 3 rfl, x_b2.cell 0 rfl, x_b2.cell 1 rfl, x_b2.cell 2 rfl, x_b2.cell 3 rfl, x_b3.cell 0 rfl, x_b3.cell 1 rfl, x_b3.cell 2 rfl, x_b3.cell 3 rfl⟩ ?_
  clear hK K hb_29
  refine wpFl_call rfl (by kernel_rfl) fun w_30 hn hC => ?_; clear hC
  replace ha1 := ha1.bl hn; replace ha2 := ha2.bl hn; replace hq1 := hq1.bl hn; replace hq2 := hq2.bl hn; replace hc1 := hc1.bl hn; replace hc2 := hc2.bl hn; replace x_b1 := x_b1.bl hn; replace x_b2 := x_b2.bl hn; replace x_b3 := x_b3.bl hn; replace b1 := b1.bl hn; replace b2 := b2.bl hn; replace x_b4 := x_b4.bl hn; replace e1 := e1.bl hn; replace e2 := e2.bl hn; replace x_b5 := x_b5.bl hn; replace g1 := g1.bl hn; replace g2 := g2.bl hn; replace x_b6 := x_b6.bl hn; replace i1 := i1.bl hn; replace i2 := i2.bl hn; replace hb := hb.trans (hn.mono hb.size)
  clear hn; intro K hK
  go_big_op
  go_fit (gMul_any (PN.mk' ha1 ha2) (PN.mk' (i1.zn Li1.out) (i2.zn Li2.out)) (by omega) (by omega) (by omega) (by omega) )
  rintro e w_31 ⟨_, rfl, ⟨n_ja, o_ja, k_ja, c_ja, n_jb, o_jb, k_jb, c_jb, rfl, j1, j2⟩, hb_31⟩
  replace ha1 := ha1.bl hb_31; replace ha2 := ha2.bl hb_31; replace hq1 := hq1.bl hb_31; replace hq2 := hq2.bl hb_31; replace hc1 := hc1.bl hb_31; replace hc2 := hc2.bl hb_31; replace x_b1 := x_b1.bl hb_31; replace x_b2 := x_b2.bl hb_31; replace x_b3 := x_b3.bl hb_31; replace b1 := b1.bl hb_31; replace b2 := b2.bl hb_31; replace x_b4 := x_b4.bl hb_31; replace e1 := e1.bl hb_31; replace e2 := e2.bl hb_31; replace x_b5 := x_b5.bl hb_31; replace g1 := g1.bl hb_31; replace g2 := g2.bl hb_31; replace x_b6 := x_b6.bl hb_31; replace i1 := i1.bl hb_31; replace i2 := i2.bl hb_31; replace hb := hb.trans (hb_31.mono hb.size)
  have Lj1 := hide (j1.lenOf (zlen_sub (zlen_mul (ha1.len) (Li1.out)) (zlen_mul (ha2.len) (Li2.out))))
  have Lj2 := hide (j2.lenOf (zlen_add (zlen_mul (ha1.len) (Li2.out)) (zlen_mul (ha2.len) (Li1.out))))
  refine hK _ _ rfl hb_31 ⟨x_b1.cell 0 rfl, x_b1.cell 1 rfl, x_b1.cell 2 rfl, x_b1.cell 3 rfl, x_b2.cell 0 rfl, x_b2.cell 1 rfl, x_b2.cell 2 rfl, x_b2.cell 3 rfl, x_b3.cell 0 rfl, x_b3.cell 1 rfl, x_b3.cell 2 rfl, x_b3.cell 3 rfl⟩ ?_
  clear hK K hb_31
  apply wpFl_end
  case ha => intro pt; simp only [putF, nthO, Act.put, ptr, List.setIfInBounds_toArray, List.set_cons_succ, List.set_cons_zero]; rfl
  case h =>
  intro w_32 pt hn hC hF hD
  clear hC
  clear i1 i2
  replace ha1 := ha1.bl hn; replace ha2 := ha2.bl hn; replace hq1 := hq1.bl hn; replace hq2 := hq2.bl hn; replace hc1 := hc1.bl hn; replace hc2 := hc2.bl hn; replace x_b1 := x_b1.bl hn; replace x_b2 := x_b2.bl hn; replace x_b3 := x_b3.bl hn; replace b1 := b1.bl hn; replace b2 := b2.bl hn; replace x_b4 := x_b4.bl hn; replace e1 := e1.bl hn; replace e2 := e2.bl hn; replace x_b5 := x_b5.bl hn; replace g1 := g1.bl hn; replace g2 := g2.bl hn; replace x_b6 := x_b6.bl hn; replace j1 := j1.bl hn; replace j2 := j2.bl hn; replace hb := hb.trans (hn.mono hb.size)
  clear hn
  obtain ⟨kB_b7, x_b7⟩ := hF 5 (by decide)
  replace x_b7 : Bs w_32 (pt 5) #[.bool false, .slice none 0 0, .bool false, .slice none 0 0] 26 := x_b7
  clear hF hD
  generalize pt 5 = p_b7 at *
  clear pt
  have kb_b7 := hide (Nat.le_trans kb0 kB_b7)
  have ne_b1_b7 : Hid (p_b1 ≠ p_b7) := Nat.ne_of_lt (Nat.lt_of_lt_of_le lt_b1 kB_b7)
  have ne_b2_b7 : Hid (p_b2 ≠ p_b7) := Nat.ne_of_lt (Nat.lt_of_lt_of_le lt_b2 kB_b7)
  have ne_b3_b7 : Hid (p_b3 ≠ p_b7) := Nat.ne_of_lt (Nat.lt_of_lt_of_le lt_b3 kB_b7)
  have ne_b4_b7 : Hid (p_b4 ≠ p_b7) := Nat.ne_of_lt (Nat.lt_of_lt_of_le lt_b4 kB_b7)
  have ne_b5_b7 : Hid (p_b5 ≠ p_b7) := Nat.ne_of_lt (Nat.lt_of_lt_of_le lt_b5 kB_b7)
  have ne_b6_b7 : Hid (p_b6 ≠ p_b7) := Nat.ne_of_lt (Nat.lt_of_lt_of_le lt_b6 kB_b7)
  clear kB_b7
  clear kb0 lt_b1 lt_b2 lt_b3 lt_b4 lt_b5 lt_b6
  refine wpTail_call rfl (by kernel_rfl) fun K hK => ?_
  obtain ⟨d0, d1, d2, d3⟩ := x_b7.f4
  have f0 := x_b7.free 0; have f1 := x_b7.free 1; have f2 := x_b7.free 2; have f3 := x_b7.free 3
  go_big_op
  have hnd := x_b7.nod rfl rfl
  obtain ⟨w_33, eW, x_b7', ho⟩ : ∃ w', ((((w_32.setCell ⟨p_b7, 0, none⟩ (.bool n_ja)).setCell ⟨p_b7, 1, none⟩ (.slice o_ja k_ja c_ja)).setCell ⟨p_b7, 2, none⟩ (.bool n_jb)).setCell ⟨p_b7, 3, none⟩ (.slice o_jb k_jb c_jb)) = w' ∧ Bs w' p_b7 #[.bool n_ja, .slice o_ja k_ja c_ja, .bool n_jb, .slice o_jb k_jb c_jb] 26 ∧ Only p_b7 w_32 w' := x_b7.setN [(0, .bool n_ja), (1, .slice o_ja k_ja c_ja), (2, .bool n_jb), (3, .slice o_jb k_jb c_jb)]
  rw [eW]; clear eW d0 d1 d2 d3 f0 f1 f2 f3 x_b7
  have x_b7 := x_b7'; clear x_b7'
  replace ha1 := ha1.fr hnd ho; replace ha2 := ha2.fr hnd ho; replace hq1 := hq1.fr hnd ho; replace hq2 := hq2.fr hnd ho; replace hc1 := hc1.fr hnd ho; replace hc2 := hc2.fr hnd ho; replace x_b1 := x_b1.frame ho ne_b1_b7; replace x_b2 := x_b2.frame ho ne_b2_b7; replace x_b3 := x_b3.frame ho ne_b3_b7; replace b1 := b1.fr hnd ho; replace b2 := b2.fr hnd ho; replace x_b4 := x_b4.frame ho ne_b4_b7; replace e1 := e1.fr hnd ho; replace e2 := e2.fr hnd ho; replace x_b5 := x_b5.frame ho ne_b5_b7; replace g1 := g1.fr hnd ho; replace g2 := g2.fr hnd ho; replace x_b6 := x_b6.frame ho ne_b6_b7; replace j1 := j1.fr hnd ho; replace j2 := j2.fr hnd ho; replace hb := belowOnly hb ho kb_b7
  refine hK _ _ rfl (And.intro ⟨x_b1.cell 0 rfl, x_b1.cell 1 rfl, x_b1.cell 2 rfl, x_b1.cell 3 rfl⟩ (And.intro ⟨x_b2.cell 0 rfl, x_b2.cell 1 rfl, x_b2.cell 2 rfl, x_b2.cell 3 rfl⟩ (And.intro ⟨x_b3.cell 0 rfl, x_b3.cell 1 rfl, x_b3.cell 2 rfl, x_b3.cell 3 rfl⟩ True.intro))) ?_; clear hK K ho hnd
  apply wpTail_end
  refine hK5 _ _ ?_
  refine wp_seq_k ?_
  intro K6 hK6
  refine wp_region_sq [0, 1, 2, 3, 4, 5] (by kernel_rfl) ?_
  refine wpSq_call rfl (by kernel_rfl) fun K hK => ?_
  obtain ⟨d0, d1, d2, d3⟩ := x_b1.f4
  go_big_op; refine hK _ _ rfl ?_; clear hK K d0 d1 d2 d3
  refine wpSq_call rfl (by kernel_rfl) fun K hK => ?_
  obtain ⟨d0, d1, d2, d3⟩ := x_b2.f4
  go_big_op; refine hK _ _ rfl ?_; clear hK K d0 d1 d2 d3
  refine wpSq_call rfl (by kernel_rfl) fun K hK => ?_
  go_big_op
  go_fit (gMul_any (PN.mk' ha1 ha2) (PN.mk' hq1 hq2) (by omega) (by omega) (by omega) (by omega) )
  rintro e w_34 ⟨_, rfl, ⟨n_oa, o_oa, k_oa, c_oa, n_ob, o_ob, k_ob, c_ob, rfl, o1, o2⟩, hb_34⟩
  clear hc1 hc2 x_b3
  replace ha1 := ha1.bl hb_34; replace ha2 := ha2.bl hb_34; replace hq1 := hq1.bl hb_34; replace hq2 := hq2.bl hb_34; replace x_b1 := x_b1.bl hb_34; replace x_b2 := x_b2.bl hb_34; replace b1 := b1.bl hb_34; replace b2 := b2.bl hb_34; replace x_b4 := x_b4.bl hb_34; replace e1 := e1.bl hb_34; replace e2 := e2.bl hb_34; replace x_b5 := x_b5.bl hb_34; replace g1 := g1.bl hb_34; replace g2 := g2.bl hb_34; replace x_b6 := x_b6.bl hb_34; replace j1 := j1.bl hb_34; replace j2 := j2.bl hb_34; replace x_b7 := x_b7.bl hb_34; replace hb := hb.trans (hb_34.mono hb.size)
  have Lo1 := hide (o1.lenOf (zlen_sub (zlen_mul (ha1.len) (hq1.len)) (zlen_mul (ha2.len) (hq2.len))))
  have Lo2 := hide (o2.lenOf (zlen_add (zlen_mul (ha1.len) (hq2.len)) (zlen_mul (ha2.len) (hq1.len))))
  refine hK _ _ rfl ?_
  clear hK K hb_34
  refine wpSq_call rfl (by kernel_rfl) fun K hK => ?_
  go_big_op
  go_fit (gNorm_any (PN.mk' (o1.zn Lo1.out) (o2.zn Lo2.out)) (by omega) (by omega) )
  rintro e w_35 ⟨v_r, rfl, r, hb_35⟩
  replace ha1 := ha1.bl hb_35; replace ha2 := ha2.bl hb_35; replace hq1 := hq1.bl hb_35; replace hq2 := hq2.bl hb_35; replace x_b1 := x_b1.bl hb_35; replace x_b2 := x_b2.bl hb_35; replace b1 := b1.bl hb_35; replace b2 := b2.bl hb_35; replace x_b4 := x_b4.bl hb_35; replace e1 := e1.bl hb_35; replace e2 := e2.bl hb_35; replace x_b5 := x_b5.bl hb_35; replace g1 := g1.bl hb_35; replace g2 := g2.bl hb_35; replace x_b6 := x_b6.bl hb_35; replace j1 := j1.bl hb_35; replace j2 := j2.bl hb_35; replace x_b7 := x_b7.bl hb_35; replace o1 := o1.bl hb_35; replace o2 := o2.bl hb_35; replace hb := hb.trans (hb_35.mono hb.size)
  obtain ⟨n_r, o_r, k_r, c_r, rfl⟩ := r.open2
  have Lr := hide (r.lenOf (zlen_add (zlen_mul (Lo1.out) (Lo1.out)) (zlen_mul (Lo2.out) (Lo2.out))))
  rw [E3.out] at r
  refine hK _ _ rfl ?_
  clear hK K hb_35
  refine wpSq_call rfl (by kernel_rfl) fun K hK => ?_
  go_big_op
  clear o1 o2
  have lt_b1 := x_b1.lt
  have lt_b2 := x_b2.lt
  have lt_b4 := x_b4.lt
  have lt_b5 := x_b5.lt
  have lt_b6 := x_b6.lt
  have lt_b7 := x_b7.lt
  obtain ⟨p_b8, w_36, eP, eW, x_b8, hn, kb_b8⟩ := newBox w_35 #[.bool false, .slice none 0 0] 24 hb.size
  have ne_b1_b8 : Hid (p_b1 ≠ p_b8) := Nat.ne_of_lt (eP ▸ lt_b1)
  have ne_b2_b8 : Hid (p_b2 ≠ p_b8) := Nat.ne_of_lt (eP ▸ lt_b2)
  have ne_b4_b8 : Hid (p_b4 ≠ p_b8) := Nat.ne_of_lt (eP ▸ lt_b4)
  have ne_b5_b8 : Hid (p_b5 ≠ p_b8) := Nat.ne_of_lt (eP ▸ lt_b5)
  have ne_b6_b8 : Hid (p_b6 ≠ p_b8) := Nat.ne_of_lt (eP ▸ lt_b6)
  have ne_b7_b8 : Hid (p_b7 ≠ p_b8) := Nat.ne_of_lt (eP ▸ lt_b7)
  rw [eW, eP]
  clear eW eP lt_b1 lt_b2 lt_b4 lt_b5 lt_b6 lt_b7
  replace ha1 := ha1.bl hn; replace ha2 := ha2.bl hn; replace hq1 := hq1.bl hn; replace hq2 := hq2.bl hn; replace x_b1 := x_b1.bl hn; replace x_b2 := x_b2.bl hn; replace b1 := b1.bl hn; replace b2 := b2.bl hn; replace x_b4 := x_b4.bl hn; replace e1 := e1.bl hn; replace e2 := e2.bl hn; replace x_b5 := x_b5.bl hn; replace g1 := g1.bl hn; replace g2 := g2.bl hn; replace x_b6 := x_b6.bl hn; replace j1 := j1.bl hn; replace j2 := j2.bl hn; replace x_b7 := x_b7.bl hn; replace r := r.bl hn; replace hb := hb.trans (hn.mono hb.size)
  refine hK _ _ rfl ?_; clear hK K hn
  refine wpSq_call rfl (by kernel_rfl) fun K hK => ?_
  obtain ⟨d0, d1⟩ := x_b8.f2
  have f0 := x_b8.free 0; have f1 := x_b8.free 1
  go_big_op
  have hnd := x_b8.nod rfl rfl
  obtain ⟨w_37, eW, x_b8', ho⟩ : ∃ w', ((w_36.setCell ⟨p_b8, 0, none⟩ (.bool n_r)).setCell ⟨p_b8, 1, none⟩ (.slice o_r k_r c_r)) = w' ∧ Bs w' p_b8 #[.bool n_r, .slice o_r k_r c_r] 24 ∧ Only p_b8 w_36 w' := x_b8.setN [(0, .bool n_r), (1, .slice o_r k_r c_r)]
  rw [eW]; clear eW d0 d1 f0 f1 x_b8
  have x_b8 := x_b8'; clear x_b8'
  replace ha1 := ha1.fr hnd ho; replace ha2 := ha2.fr hnd ho; replace hq1 := hq1.fr hnd ho; replace hq2 := hq2.fr hnd ho; replace x_b1 := x_b1.frame ho ne_b1_b8; replace x_b2 := x_b2.frame ho ne_b2_b8; replace b1 := b1.fr hnd ho; replace b2 := b2.fr hnd ho; replace x_b4 := x_b4.frame ho ne_b4_b8; replace e1 := e1.fr hnd ho; replace e2 := e2.fr hnd ho; replace x_b5 := x_b5.frame ho ne_b5_b8; replace g1 := g1.fr hnd ho; replace g2 := g2.fr hnd ho; replace x_b6 := x_b6.frame ho ne_b6_b8; replace j1 := j1.fr hnd ho; replace j2 := j2.fr hnd ho; replace x_b7 := x_b7.frame ho ne_b7_b8; replace r := r.fr hnd ho; replace hb := belowOnly hb ho kb_b8
  refine hK _ _ rfl ?_; clear hK K ho hnd
  apply wpSq_end
  refine hK6 _ _ ?_
  refine wp_seq_k ?_
  intro K7 hK7
  refine wp_region_fl2 [(0, false), (2, false), (1, true), (3, true), (4, true)] [6] [5] (fun j => (.cells #[.bool false, .slice none 0 0] 24)) [0, 99, 1, 99, 99, 99, 99] [] (fun w' => w'.cell? ⟨p_b1, 0, none⟩ = some (.bool n_0a) ∧ w'.cell? ⟨p_b1, 1, none⟩ = some (.slice o_0a k_0a c_0a) ∧ w'.cell? ⟨p_b1, 2, none⟩ = some (.bool n_0b) ∧ w'.cell? ⟨p_b1, 3, none⟩ = some (.slice o_0b k_0b c_0b) ∧ w'.cell? ⟨p_b2, 0, none⟩ = some (.bool n_1a) ∧ w'.cell? ⟨p_b2, 1, none⟩ = some (.slice o_1a k_1a c_1a) ∧ w'.cell? ⟨p_b2, 2, none⟩ = some (.bool n_1b) ∧ w'.cell? ⟨p_b2, 3, none⟩ = some (.slice o_1b k_1b c_1b)) [fun w' => w'.cell? ⟨p_b1, 0, none⟩ = some (.bool n_0a) ∧ w'.cell? ⟨p_b1, 1, none⟩ = some (.slice o_0a k_0a c_0a) ∧ w'.cell? ⟨p_b1, 2, none⟩ = some (.bool n_0b) ∧ w'.cell? ⟨p_b1, 3, none⟩ = some (.slice o_0b k_0b c_0b), fun w' => w'.cell? ⟨p_b2, 0, none⟩ = some (.bool n_1a) ∧ w'.cell? ⟨p_b2, 1, none⟩ = some (.slice o_1a k_1a c_1a) ∧ w'.cell? ⟨p_b2, 2, none⟩ = some (.bool n_1b) ∧ w'.cell? ⟨p_b2, 3, none⟩ = some (.slice o_1b k_1b c_1b)] (by kernel_rfl) (by kernel_rfl) (by kernel_rfl) (by kernel_rfl) (by kernel_rfl) (by kernel_rfl) (by kernel_rfl) (by kernel_rfl) (by decide) (by intro j hj; simp only [List.mem_cons, List.not_mem_nil, or_false] at hj; rcases hj with rfl; all_goals exact ⟨_, rfl, rfl, fun ρ w => by unfold ptr; simp [go_sem]⟩) (by intro w' o hC; obtain ⟨c0, c1, c2, c3, c4, c5, c6, c7⟩ := hC; exact ⟨cell_alloc c0 o, cell_alloc c1 o, cell_alloc c2 o, cell_alloc c3 o, cell_alloc c4 o, cell_alloc c5 o, cell_alloc c6 o, cell_alloc c7 o⟩) (by intro w' hC G hG; obtain ⟨c0, c1, c2, c3, c4, c5, c6, c7⟩ := hC; simp only [List.mem_cons, List.not_mem_nil, or_false] at hG; rcases hG with rfl | rfl <;> first | exact ⟨c0, c1, c2, c3⟩ | exact ⟨c4, c5, c6, c7⟩) ?_
  have lt_b1 := x_b1.lt
  have lt_b2 := x_b2.lt
  have lt_b4 := x_b4.lt
  have lt_b5 := x_b5.lt
  have lt_b6 := x_b6.lt
  have lt_b7 := x_b7.lt
  have lt_b8 := x_b8.lt
  intro w_38 hn
  replace lt_b1 := Nat.lt_of_lt_of_le lt_b1 hn.size
  replace lt_b2 := Nat.lt_of_lt_of_le lt_b2 hn.size
  replace lt_b4 := Nat.lt_of_lt_of_le lt_b4 hn.size
  replace lt_b5 := Nat.lt_of_lt_of_le lt_b5 hn.size
  replace lt_b6 := Nat.lt_of_lt_of_le lt_b6 hn.size
  replace lt_b7 := Nat.lt_of_lt_of_le lt_b7 hn.size
  replace lt_b8 := Nat.lt_of_lt_of_le lt_b8 hn.size
  replace ha1 := ha1.bl hn; replace ha2 := ha2.bl hn; replace hq1 := hq1.bl hn; replace hq2 := hq2.bl hn; replace x_b1 := x_b1.bl hn; replace x_b2 := x_b2.bl hn; replace b1 := b1.bl hn; replace b2 := b2.bl hn; replace x_b4 := x_b4.bl hn; replace e1 := e1.bl hn; replace e2 := e2.bl hn; replace x_b5 := x_b5.bl hn; replace g1 := g1.bl hn; replace g2 := g2.bl hn; replace x_b6 := x_b6.bl hn; replace j1 := j1.bl hn; replace j2 := j2.bl hn; replace x_b7 := x_b7.bl hn; replace r := r.bl hn; replace x_b8 := x_b8.bl hn; replace hb := hb.trans (hn.mono hb.size)
  clear hn
  have kb0 := hb.size
  refine ⟨⟨x_b1.cell 0 rfl, x_b1.cell 1 rfl, x_b1.cell 2 rfl, x_b1.cell 3 rfl, x_b2.cell 0 rfl, x_b2.cell 1 rfl, x_b2.cell 2 rfl, x_b2.cell 3 rfl⟩, ?_⟩
  apply wpFl_ld rfl rfl; (case h1 => intro w' hC K hK; obtain ⟨c0, c1, c2, c3⟩ := hC; go_big_op; exact hK); iterate 4 kernel_rfl
  apply wpFl_ld rfl rfl; (case h1 => intro w' hC K hK; obtain ⟨c0, c1, c2, c3⟩ := hC; go_big_op; exact hK); iterate 4 kernel_rfl
  refine wpFl_call rfl (by kernel_rfl) fun w_39 hn hC => ?_; clear hC
  replace ha1 := ha1.bl hn; replace ha2 := ha2.bl hn; replace hq1 := hq1.bl hn; replace hq2 := hq2.bl hn; replace x_b1 := x_b1.bl hn; replace x_b2 := x_b2.bl hn; replace b1 := b1.bl hn; replace b2 := b2.bl hn; replace x_b4 := x_b4.bl hn; replace e1 := e1.bl hn; replace e2 := e2.bl hn; replace x_b5 := x_b5.bl hn; replace g1 := g1.bl hn; replace g2 := g2.bl hn; replace x_b6 := x_b6.bl hn; replace j1 := j1.bl hn; replace j2 := j2.bl hn; replace x_b7 := x_b7.bl hn; replace r := r.bl hn; replace x_b8 := x_b8.bl hn; replace hb := hb.trans (hn.mono hb.size)
  clear hn; intro K hK
  go_big_op
  go_fit (gNorm_any (PN.mk' ha1 ha2) (by omega) (by omega) )
  rintro e w_40 ⟨v_z7, rfl, z7, hb_40⟩
  replace ha1 := ha1.bl hb_40; replace ha2 := ha2.bl hb_40; replace hq1 := hq1.bl hb_40; replace hq2 := hq2.bl hb_40; replace x_b1 := x_b1.bl hb_40; replace x_b2 := x_b2.bl hb_40; replace b1 := b1.bl hb_40; replace b2 := b2.bl hb_40; replace x_b4 := x_b4.bl hb_40; replace e1 := e1.bl hb_40; replace e2 := e2.bl hb_40; replace x_b5 := x_b5.bl hb_40; replace g1 := g1.bl hb_40; replace g2 := g2.bl hb_40; replace x_b6 := x_b6.bl hb_40; replace j1 := j1.bl hb_40; replace j2 := j2.bl hb_40; replace x_b7 := x_b7.bl hb_40; replace r := r.bl hb_40; replace x_b8 := x_b8.bl hb_40; replace hb := hb.trans (hb_40.mono hb.size)
  obtain ⟨n_z7, o_z7, k_z7, c_z7, rfl⟩ := z7.open2
  have Lz7 := hide (z7.lenOf (zlen_add (zlen_mul (ha1.len) (ha1.len)) (zlen_mul (ha2.len) (ha2.len))))
  refine hK _ _ rfl hb_40 ⟨x_b1.cell 0 rfl, x_b1.cell 1 rfl, x_b1.cell 2 rfl, x_b1.cell 3 rfl, x_b2.cell 0 rfl, x_b2.cell 1 rfl, x_b2.cell 2 rfl, x_b2.cell 3 rfl⟩ ?_
  clear hK K hb_40
  refine wpFl_call rfl (by kernel_rfl) fun w_41 hn hC => ?_; clear hC
  replace ha1 := ha1.bl hn; replace ha2 := ha2.bl hn; replace hq1 := hq1.bl hn; replace hq2 := hq2.bl hn; replace x_b1 := x_b1.bl hn; replace x_b2 := x_b2.bl hn; replace b1 := b1.bl hn; replace b2 := b2.bl hn; replace x_b4 := x_b4.bl hn; replace e1 := e1.bl hn; replace e2 := e2.bl hn; replace x_b5 := x_b5.bl hn; replace g1 := g1.bl hn; replace g2 := g2.bl hn; replace x_b6 := x_b6.bl hn; replace j1 := j1.bl hn; replace j2 := j2.bl hn; replace x_b7 := x_b7.bl hn; replace r := r.bl hn; replace x_b8 := x_b8.bl hn; replace z7 := z7.bl hn; replace hb := hb.trans (hn.mono hb.size)
  clear hn; intro K hK
  go_big_op
  go_fit (gNorm_any (PN.mk' hq1 hq2) (by omega) (by omega) )
  rintro e w_42 ⟨v_z8, rfl, z8, hb_42⟩
  replace ha1 := ha1.bl hb_42; replace ha2 := ha2.bl hb_42; replace hq1 := hq1.bl hb_42; replace hq2 := hq2.bl hb_42; replace x_b1 := x_b1.bl hb_42; replace x_b2 := x_b2.bl hb_42; replace b1 := b1.bl hb_42; replace b2 := b2.bl hb_42; replace x_b4 := x_b4.bl hb_42; replace e1 := e1.bl hb_42; replace e2 := e2.bl hb_42; replace x_b5 := x_b5.bl hb_42; replace g1 := g1.bl hb_42; replace g2 := g2.bl hb_42; replace x_b6 := x_b6.bl hb_42; replace j1 := j1.bl hb_42; replace j2 := j2.bl hb_42; replace x_b7 := x_b7.bl hb_42; replace r := r.bl hb_42; replace x_b8 := x_b8.bl hb_42; replace z7 := z7.bl hb_42; replace hb := hb.trans (hb_42.mono hb.size)
  obtain ⟨n_z8, o_z8, k_z8, c_z8, rfl⟩ := z8.open2
  have Lz8 := hide (z8.lenOf (zlen_add (zlen_mul (hq1.len) (hq1.len)) (zlen_mul (hq2.len) (hq2.len))))
  refine hK _ _ rfl hb_42 ⟨x_b1.cell 0 rfl, x_b1.cell 1 rfl, x_b1.cell 2 rfl, x_b1.cell 3 rfl, x_b2.cell 0 rfl, x_b2.cell 1 rfl, x_b2.cell 2 rfl, x_b2.cell 3 rfl⟩ ?_
  clear hK K hb_42
  refine wpFl_call rfl (by kernel_rfl) fun w_43 hn hC => ?_; clear hC
  replace ha1 := ha1.bl hn; replace ha2 := ha2.bl hn; replace hq1 := hq1.bl hn; replace hq2 := hq2.bl hn; replace x_b1 := x_b1.bl hn; replace x_b2 := x_b2.bl hn; replace b1 := b1.bl hn; replace b2 := b2.bl hn; replace x_b4 := x_b4.bl hn; replace e1 := e1.bl hn; replace e2 := e2.bl hn; replace x_b5 := x_b5.bl hn; replace g1 := g1.bl hn; replace g2 := g2.bl hn; replace x_b6 := x_b6.bl hn; replace j1 := j1.bl hn; replace j2 := j2.bl hn; replace x_b7 := x_b7.bl hn; replace r := r.bl hn; replace x_b8 := x_b8.bl hn; replace z7 := z7.bl hn; replace z8 := z8.bl hn; replace hb := hb.trans (hn.mono hb.size)
  clear hn; intro K hK
  go_big_op
  go_fit (zmul_any (z7.zn Lz7.out) (z8.zn Lz8.out) (by omega) (by omega) )
  rintro e w_44 ⟨v_z9, rfl, z9, hb_44⟩
  replace ha1 := ha1.bl hb_44; replace ha2 := ha2.bl hb_44; replace hq1 := hq1.bl hb_44; replace hq2 := hq2.bl hb_44; replace x_b1 := x_b1.bl hb_44; replace x_b2 := x_b2.bl hb_44; replace b1 := b1.bl hb_44; replace b2 := b2.bl hb_44; replace x_b4 := x_b4.bl hb_44; replace e1 := e1.bl hb_44; replace e2 := e2.bl hb_44; replace x_b5 := x_b5.bl hb_44; replace g1 := g1.bl hb_44; replace g2 := g2.bl hb_44; replace x_b6 := x_b6.bl hb_44; replace j1 := j1.bl hb_44; replace j2 := j2.bl hb_44; replace x_b7 := x_b7.bl hb_44; replace r := r.bl hb_44; replace x_b8 := x_b8.bl hb_44; replace z7 := z7.bl hb_44; replace z8 := z8.bl hb_44; replace hb := hb.trans (hb_44.mono hb.size)
  replace z9 := z9.rd
  obtain ⟨n_z9, o_z9, k_z9, c_z9, rfl⟩ := z9.open2
  have Lz9 := hide (z9.lenOf (zlen_mul (Lz7.out) (Lz8.out)))
  refine hK _ _ rfl hb_44 ⟨x_b1.cell 0 rfl, x_b1.cell 1 rfl, x_b1.cell 2 rfl, x_b1.cell 3 rfl, x_b2.cell 0 rfl, x_b2.cell 1 rfl, x_b2.cell 2 rfl, x_b2.cell 3 rfl⟩ ?_
  clear hK K hb_44
  apply wpFl_end
  case ha => intro pt; simp only [putF, nthO, Act.put, ptr, List.setIfInBounds_toArray, List.set_cons_succ, List.set_cons_zero]; rfl
  case h =>
  intro w_45 pt hn hC hF hD
  clear hC
  clear z7 z8
  replace ha1 := ha1.bl hn; replace ha2 := ha2.bl hn; replace hq1 := hq1.bl hn; replace hq2 := hq2.bl hn; replace x_b1 := x_b1.bl hn; replace x_b2 := x_b2.bl hn; replace b1 := b1.bl hn; replace b2 := b2.bl hn; replace x_b4 := x_b4.bl hn; replace e1 := e1.bl hn; replace e2 := e2.bl hn; replace x_b5 := x_b5.bl hn; replace g1 := g1.bl hn; replace g2 := g2.bl hn; replace x_b6 := x_b6.bl hn; replace j1 := j1.bl hn; replace j2 := j2.bl hn; replace x_b7 := x_b7.bl hn; replace r := r.bl hn; replace x_b8 := x_b8.bl hn; replace z9 := z9.bl hn; replace hb := hb.trans (hn.mono hb.size)
  clear hn
  obtain ⟨kB_b9, x_b9⟩ := hF 5 (by decide)
  replace x_b9 : Bs w_45 (pt 5) #[.bool false, .slice none 0 0] 24 := x_b9
  clear hF hD
  generalize pt 5 = p_b9 at *
  clear pt
  have kb_b9 := hide (Nat.le_trans kb0 kB_b9)
  have ne_b1_b9 : Hid (p_b1 ≠ p_b9) := Nat.ne_of_lt (Nat.lt_of_lt_of_le lt_b1 kB_b9)
  have ne_b2_b9 : Hid (p_b2 ≠ p_b9) := Nat.ne_of_lt (Nat.lt_of_lt_of_le lt_b2 kB_b9)
  have ne_b4_b9 : Hid (p_b4 ≠ p_b9) := Nat.ne_of_lt (Nat.lt_of_lt_of_le lt_b4 kB_b9)
  have ne_b5_b9 : Hid (p_b5 ≠ p_b9) := Nat.ne_of_lt (Nat.lt_of_lt_of_le lt_b5 kB_b9)
  have ne_b6_b9 : Hid (p_b6 ≠ p_b9) := Nat.ne_of_lt (Nat.lt_of_lt_of_le lt_b6 kB_b9)
  have ne_b7_b9 : Hid (p_b7 ≠ p_b9) := Nat.ne_of_lt (Nat.lt_of_lt_of_le lt_b7 kB_b9)
  have ne_b8_b9 : Hid (p_b8 ≠ p_b9) := Nat.ne_of_lt (Nat.lt_of_lt_of_le lt_b8 kB_b9)
  clear kB_b9
  clear kb0 lt_b1 lt_b2 lt_b4 lt_b5 lt_b6 lt_b7 lt_b8
  refine wpTail_call rfl (by kernel_rfl) fun K hK => ?_
  obtain ⟨d0, d1⟩ := x_b9.f2
  have f0 := x_b9.free 0; have f1 := x_b9.free 1
  go_big_op
  have hnd := x_b9.nod rfl rfl
  obtain ⟨w_46, eW, x_b9', ho⟩ : ∃ w', ((w_45.setCell ⟨p_b9, 0, none⟩ (.bool n_z9)).setCell ⟨p_b9, 1, none⟩ (.slice o_z9 k_z9 c_z9)) = w' ∧ Bs w' p_b9 #[.bool n_z9, .slice o_z9 k_z9 c_z9] 24 ∧ Only p_b9 w_45 w' := x_b9.setN [(0, .bool n_z9), (1, .slice o_z9 k_z9 c_z9)]
  rw [eW]; clear eW d0 d1 f0 f1 x_b9
  have x_b9 := x_b9'; clear x_b9'
  replace ha1 := ha1.fr hnd ho; replace ha2 := ha2.fr hnd ho; replace hq1 := hq1.fr hnd ho; replace hq2 := hq2.fr hnd ho; replace x_b1 := x_b1.frame ho ne_b1_b9; replace x_b2 := x_b2.frame ho ne_b2_b9; replace b1 := b1.fr hnd ho; replace b2 := b2.fr hnd ho; replace x_b4 := x_b4.frame ho ne_b4_b9; replace e1 := e1.fr hnd ho; replace e2 := e2.fr hnd ho; replace x_b5 := x_b5.frame ho ne_b5_b9; replace g1 := g1.fr hnd ho; replace g2 := g2.fr hnd ho; replace x_b6 := x_b6.frame ho ne_b6_b9; replace j1 := j1.fr hnd ho; replace j2 := j2.fr hnd ho; replace x_b7 := x_b7.frame ho ne_b7_b9; replace r := r.fr hnd ho; replace x_b8 := x_b8.frame ho ne_b8_b9; replace z9 := z9.fr hnd ho; replace hb := belowOnly hb ho kb_b9
  refine hK _ _ rfl (And.intro ⟨x_b1.cell 0 rfl, x_b1.cell 1 rfl, x_b1.cell 2 rfl, x_b1.cell 3 rfl⟩ (And.intro ⟨x_b2.cell 0 rfl, x_b2.cell 1 rfl, x_b2.cell 2 rfl, x_b2.cell 3 rfl⟩ True.intro)) ?_; clear hK K ho hnd
  apply wpTail_end
  refine hK7 _ _ ?_
  refine wp_seq_k ?_
  intro K8 hK8
  refine wp_region_fl2 [(0, false), (1, false), (2, true), (3, true)] [5] [4] (fun j => (.cells #[.bool false, .slice none 0 0, .bool false, .slice none 0 0] 26)) [0, 0, 99, 99, 99, 99] [] (fun w' => w'.cell? ⟨p_b1, 0, none⟩ = some (.bool n_0a) ∧ w'.cell? ⟨p_b1, 1, none⟩ = some (.slice o_0a k_0a c_0a) ∧ w'.cell? ⟨p_b1, 2, none⟩ = some (.bool n_0b) ∧ w'.cell? ⟨p_b1, 3, none⟩ = some (.slice o_0b k_0b c_0b)) [fun w' => w'.cell? ⟨p_b1, 0, none⟩ = some (.bool n_0a) ∧ w'.cell? ⟨p_b1, 1, none⟩ = some (.slice o_0a k_0a c_0a) ∧ w'.cell? ⟨p_b1, 2, none⟩ = some (.bool n_0b) ∧ w'.cell? ⟨p_b1, 3, none⟩ = some (.slice o_0b k_0b c_0b)] (by kernel_rfl) (by kernel_rfl) (by kernel_rfl) (by kernel_rfl) (by kernel_rfl) (by kernel_rfl) (by kernel_rfl) (by kernel_rfl) (by decide) (by intro j hj; simp only [List.mem_cons, List.not_mem_nil, or_false] at hj; rcases hj with rfl; all_goals exact ⟨_, rfl, rfl, fun ρ w => by unfold ptr; simp [go_sem]⟩) (by intro w' o hC; obtain ⟨c0, c1, c2, c3⟩ := hC; exact ⟨cell_alloc c0 o, cell_alloc c1 o, cell_alloc c2 o, cell_alloc c3 o⟩) (by intro w' hC G hG; obtain ⟨c0, c1, c2, c3⟩ := hC; simp only [List.mem_cons, List.not_mem_nil, or_false] at hG; rcases hG with rfl <;> first | exact ⟨c0, c1, c2, c3⟩) ?_
  have lt_b1 := x_b1.lt
  have lt_b2 := x_b2.lt
  have lt_b4 := x_b4.lt
  have lt_b5 := x_b5.lt
  have lt_b6 := x_b6.lt
  have lt_b7 := x_b7.lt
  have lt_b8 := x_b8.lt
  have lt_b9 := x_b9.lt
  intro w_47 hn
  replace lt_b1 := Nat.lt_of_lt_of_le lt_b1 hn.size
  replace lt_b2 := Nat.lt_of_lt_of_le lt_b2 hn.size
  replace lt_b4 := Nat.lt_of_lt_of_le lt_b4 hn.size
  replace lt_b5 := Nat.lt_of_lt_of_le lt_b5 hn.size
  replace lt_b6 := Nat.lt_of_lt_of_le lt_b6 hn.size
  replace lt_b7 := Nat.lt_of_lt_of_le lt_b7 hn.size
  replace lt_b8 := Nat.lt_of_lt_of_le lt_b8 hn.size
  replace lt_b9 := Nat.lt_of_lt_of_le lt_b9 hn.size
  replace ha1 := ha1.bl hn; replace ha2 := ha2.bl hn; replace hq1 := hq1.bl hn; replace hq2 := hq2.bl hn; replace x_b1 := x_b1.bl hn; replace x_b2 := x_b2.bl hn; replace b1 := b1.bl hn; replace b2 := b2.bl hn; replace x_b4 := x_b4.bl hn; replace e1 := e1.bl hn; replace e2 := e2.bl hn; replace x_b5 := x_b5.bl hn; replace g1 := g1.bl hn; replace g2 := g2.bl hn; replace x_b6 := x_b6.bl hn; replace j1 := j1.bl hn; replace j2 := j2.bl hn; replace x_b7 := x_b7.bl hn; replace r := r.bl hn; replace x_b8 := x_b8.bl hn; replace z9 := z9.bl hn; replace x_b9 := x_b9.bl hn; replace hb := hb.trans (hn.mono hb.size)
  clear hn
  have kb0 := hb.size
  refine ⟨⟨x_b1.cell 0 rfl, x_b1.cell 1 rfl, x_b1.cell 2 rfl, x_b1.cell 3 rfl⟩, ?_⟩
  apply wpFl_ld rfl rfl; (case h1 => intro w' hC K hK; obtain ⟨c0, c1, c2, c3⟩ := hC; go_big_op; exact hK); iterate 4 kernel_rfl
  apply wpFl_ld rfl rfl; (case h1 => intro w' hC K hK; obtain ⟨c0, c1, c2, c3⟩ := hC; go_big_op; exact hK); iterate 4 kernel_rfl
  refine wpFl_call rfl (by kernel_rfl) fun w_48 hn hC => ?_; clear hC
  replace ha1 := ha1.bl hn; replace ha2 := ha2.bl hn; replace hq1 := hq1.bl hn; replace hq2 := hq2.bl hn; replace x_b1 := x_b1.bl hn; replace x_b2 := x_b2.bl hn; replace b1 := b1.bl hn; replace b2 := b2.bl hn; replace x_b4 := x_b4.bl hn; replace e1 := e1.bl hn; replace e2 := e2.bl hn; replace x_b5 := x_b5.bl hn; replace g1 := g1.bl hn; replace g2 := g2.bl hn; replace x_b6 := x_b6.bl hn; replace j1 := j1.bl hn; replace j2 := j2.bl hn; replace x_b7 := x_b7.bl hn; replace r := r.bl hn; replace x_b8 := x_b8.bl hn; replace z9 := z9.bl hn; replace x_b9 := x_b9.bl hn; replace hb := hb.trans (hn.mono hb.size)
  clear hn; intro K hK
  go_big_op
  go_fit (gConj_any (PN.mk' ha1 ha2) (by omega) (by omega) )
  rintro e w_49 ⟨_, rfl, ⟨n_dda, o_dda, k_dda, c_dda, n_ddb, o_ddb, k_ddb, c_ddb, rfl, dd1, dd2⟩, hb_49⟩
  replace ha1 := ha1.bl hb_49; replace ha2 := ha2.bl hb_49; replace hq1 := hq1.bl hb_49; replace hq2 := hq2.bl hb_49; replace x_b1 := x_b1.bl hb_49; replace x_b2 := x_b2.bl hb_49; replace b1 := b1.bl hb_49; replace b2 := b2.bl hb_49; replace x_b4 := x_b4.bl hb_49; replace e1 := e1.bl hb_49; replace e2 := e2.bl hb_49; replace x_b5 := x_b5.bl hb_49; replace g1 := g1.bl hb_49; replace g2 := g2.bl hb_49; replace x_b6 := x_b6.bl hb_49; replace j1 := j1.bl hb_49; replace j2 := j2.bl hb_49; replace x_b7 := x_b7.bl hb_49; replace r := r.bl hb_49; replace x_b8 := x_b8.bl hb_49; replace z9 := z9.bl hb_49; replace x_b9 := x_b9.bl hb_49; replace hb := hb.trans (hb_49.mono hb.size)
  have Ldd1 := hide (dd1.lenOf ((ha1.len)))
  have Ldd2 := hide (dd2.lenOf (zlen_neg (ha2.len)))
  refine hK _ _ rfl hb_49 ⟨x_b1.cell 0 rfl, x_b1.cell 1 rfl, x_b1.cell 2 rfl, x_b1.cell 3 rfl⟩ ?_
  clear hK K hb_49
  refine wpFl_call rfl (by kernel_rfl) fun w_50 hn hC => ?_; clear hC
  replace ha1 := ha1.bl hn; replace ha2 := ha2.bl hn; replace hq1 := hq1.bl hn; replace hq2 := hq2.bl hn; replace x_b1 := x_b1.bl hn; replace x_b2 := x_b2.bl hn; replace b1 := b1.bl hn; replace b2 := b2.bl hn; replace x_b4 := x_b4.bl hn; replace e1 := e1.bl hn; replace e2 := e2.bl hn; replace x_b5 := x_b5.bl hn; replace g1 := g1.bl hn; replace g2 := g2.bl hn; replace x_b6 := x_b6.bl hn; replace j1 := j1.bl hn; replace j2 := j2.bl hn; replace x_b7 := x_b7.bl hn; replace r := r.bl hn; replace x_b8 := x_b8.bl hn; replace z9 := z9.bl hn; replace x_b9 := x_b9.bl hn; replace dd1 := dd1.bl hn; replace dd2 := dd2.bl hn; replace hb := hb.trans (hn.mono hb.size)
  clear hn; intro K hK
  go_big_op
  go_fit (gMul_any (PN.mk' ha1 ha2) (PN.mk' (dd1.zn Ldd1.out) (dd2.zn Ldd2.out)) (by omega) (by omega) (by omega) (by omega) )
  rintro e w_51 ⟨_, rfl, ⟨n_eea, o_eea, k_eea, c_eea, n_eeb, o_eeb, k_eeb, c_eeb, rfl, ee1, ee2⟩, hb_51⟩
  replace ha1 := ha1.bl hb_51; replace ha2 := ha2.bl hb_51; replace hq1 := hq1.bl hb_51; replace hq2 := hq2.bl hb_51; replace x_b1 := x_b1.bl hb_51; replace x_b2 := x_b2.bl hb_51; replace b1 := b1.bl hb_51; replace b2 := b2.bl hb_51; replace x_b4 := x_b4.bl hb_51; replace e1 := e1.bl hb_51; replace e2 := e2.bl hb_51; replace x_b5 := x_b5.bl hb_51; replace g1 := g1.bl hb_51; replace g2 := g2.bl hb_51; replace x_b6 := x_b6.bl hb_51; replace j1 := j1.bl hb_51; replace j2 := j2.bl hb_51; replace x_b7 := x_b7.bl hb_51; replace r := r.bl hb_51; replace x_b8 := x_b8.bl hb_51; replace z9 := z9.bl hb_51; replace x_b9 := x_b9.bl hb_51; replace dd1 := dd1.bl hb_51; replace dd2 := dd2.bl hb_51; replace hb := hb.trans (hb_51.mono hb.size)
  have Lee1 := hide (ee1.lenOf (zlen_sub (zlen_mul (ha1.len) (Ldd1.out)) (zlen_mul (ha2.len) (Ldd2.out))))
  have Lee2 := hide (ee2.lenOf (zlen_add (zlen_mul (ha1.len) (Ldd2.out)) (zlen_mul (ha2.len) (Ldd1.out))))
  rw [E5.out.1] at ee1
  rw [E5.out.2] at ee2
  refine hK _ _ rfl hb_51 ⟨x_b1.cell 0 rfl, x_b1.cell 1 rfl, x_b1.cell 2 rfl, x_b1.cell 3 rfl⟩ ?_
  clear hK K hb_51
  apply wpFl_end
  case ha => intro pt; simp only [putF, nthO, Act.put, ptr, List.setIfInBounds_toArray, List.set_cons_succ, List.set_cons_zero]; rfl
  case h =>
  intro w_52 pt hn hC hF hD
  clear hC
  clear dd1 dd2
  replace ha1 := ha1.bl hn; replace ha2 := ha2.bl hn; replace hq1 := hq1.bl hn; replace hq2 := hq2.bl hn; replace x_b1 := x_b1.bl hn; replace x_b2 := x_b2.bl hn; replace b1 := b1.bl hn; replace b2 := b2.bl hn; replace x_b4 := x_b4.bl hn; replace e1 := e1.bl hn; replace e2 := e2.bl hn; replace x_b5 := x_b5.bl hn; replace g1 := g1.bl hn; replace g2 := g2.bl hn; replace x_b6 := x_b6.bl hn; replace j1 := j1.bl hn; replace j2 := j2.bl hn; replace x_b7 := x_b7.bl hn; replace r := r.bl hn; replace x_b8 := x_b8.bl hn; replace z9 := z9.bl hn; replace x_b9 := x_b9.bl hn; replace ee1 := ee1.bl hn; replace ee2 := ee2.bl hn; replace hb := hb.trans (hn.mono hb.size)
  clear hn
  obtain ⟨kB_b10, x_b10⟩ := hF 4 (by decide)
  replace x_b10 : Bs w_52 (pt 4) #[.bool false, .slice none 0 0, .bool false, .slice none 0 0] 26 := x_b10
  clear hF hD
  generalize pt 4 = p_b10 at *
  clear pt
  have kb_b10 := hide (Nat.le_trans kb0 kB_b10)
  have ne_b1_b10 : Hid (p_b1 ≠ p_b10) := Nat.ne_of_lt (Nat.lt_of_lt_of_le lt_b1 kB_b10)
  have ne_b2_b10 : Hid (p_b2 ≠ p_b10) := Nat.ne_of_lt (Nat.lt_of_lt_of_le lt_b2 kB_b10)
  have ne_b4_b10 : Hid (p_b4 ≠ p_b10) := Nat.ne_of_lt (Nat.lt_of_lt_of_le lt_b4 kB_b10)
  have ne_b5_b10 : Hid (p_b5 ≠ p_b10) := Nat.ne_of_lt (Nat.lt_of_lt_of_le lt_b5 kB_b10)
  have ne_b6_b10 : Hid (p_b6 ≠ p_b10) := Nat.ne_of_lt (Nat.lt_of_lt_of_le lt_b6 kB_b10)
  have ne_b7_b10 : Hid (p_b7 ≠ p_b10) := Nat.ne_of_lt (Nat.lt_of_lt_of_le lt_b7 kB_b10)
  have ne_b8_b10 : Hid (p_b8 ≠ p_b10) := Nat.ne_of_lt (Nat.lt_of_lt_of_le lt_b8 kB_b10)
  have ne_b9_b10 : Hid (p_b9 ≠ p_b10) := Nat.ne_of_lt (Nat.lt_of_lt_of_le lt_b9 kB_b10)
  clear kB_b10
  clear kb0 lt_b1 lt_b2 lt_b4 lt_b5 lt_b6 lt_b7 lt_b8 lt_b9
  refine wpTail_call rfl (by kernel_rfl) fun K hK => ?_
  obtain ⟨d0, d1, d2, d3⟩ := x_b10.f4
  have f0 := x_b10.free 0; have f1 := x_b10.free 1; have f2 := x_b10.free 2; have f3 := x_b10.free 3
  go_big_op
  have hnd := x_b10.nod rfl rfl
  obtain ⟨w_53, eW, x_b10', ho⟩ : ∃ w', ((((w_52.setCell ⟨p_b10, 0, none⟩ (.bool n_eea)).setCell ⟨p_b10, 1, none⟩ (.slice o_eea k_eea c_eea)).setCell ⟨p_b10, 2, none⟩ (.bool n_eeb)).setCell ⟨p_b10, 3, none⟩ (.slice o_eeb k_eeb c_eeb)) = w' ∧ Bs w' p_b10 #[.bool n_eea, .slice o_eea k_eea c_eea, .bool n_eeb, .slice o_eeb k_eeb c_eeb] 26 ∧ Only p_b10 w_52 w' := x_b10.setN [(0, .bool n_eea), (1, .slice o_eea k_eea c_eea), (2, .bool n_eeb), (3, .slice o_eeb k_eeb c_eeb)]
  rw [eW]; clear eW d0 d1 d2 d3 f0 f1 f2 f3 x_b10
  have x_b10 := x_b10'; clear x_b10'
  replace ha1 := ha1.fr hnd ho; replace ha2 := ha2.fr hnd ho; replace hq1 := hq1.fr hnd ho; replace hq2 := hq2.fr hnd ho; replace x_b1 := x_b1.frame ho ne_b1_b10; replace x_b2 := x_b2.frame ho ne_b2_b10; replace b1 := b1.fr hnd ho; replace b2 := b2.fr hnd ho; replace x_b4 := x_b4.frame ho ne_b4_b10; replace e1 := e1.fr hnd ho; replace e2 := e2.fr hnd ho; replace x_b5 := x_b5.frame ho ne_b5_b10; replace g1 := g1.fr hnd ho; replace g2 := g2.fr hnd ho; replace x_b6 := x_b6.frame ho ne_b6_b10; replace j1 := j1.fr hnd ho; replace j2 := j2.fr hnd ho; replace x_b7 := x_b7.frame ho ne_b7_b10; replace r := r.fr hnd ho; replace x_b8 := x_b8.frame ho ne_b8_b10; replace z9 := z9.fr hnd ho; replace x_b9 := x_b9.frame ho ne_b9_b10; replace ee1 := ee1.fr hnd ho; replace ee2 := ee2.fr hnd ho; replace hb := belowOnly hb ho kb_b10
  refine hK _ _ rfl (And.intro ⟨x_b1.cell 0 rfl, x_b1.cell 1 rfl, x_b1.cell 2 rfl, x_b1.cell 3 rfl⟩ True.intro) ?_; clear hK K ho hnd
  apply wpTail_end
  refine hK8 _ _ ?_
  refine wp_seq_k ?_
  intro K9 hK9
  refine wp_region_fl2 [(0, true), (1, false), (2, false), (3, false), (4, true), (5, false), (6, false), (7, false), (8, false), (9, true), (10, false), (11, false), (12, false), (13, false), (14, true), (15, false), (16, false), (17, false), (18, false), (21, false), (23, false), (19, true), (20, true), (22, true), (24, true), (25, true), (26, true), (27, false), (28, false), (29, false), (30, false), (31, false), (32, true), (33, true), (34, false), (35, false), (36, false), (37, false), (38, true), (39, false), (40, false), (41, false), (42, false), (43, false), (45, false), (47, false), (44, true), (46, true), (48, true), (49, true), (50, true), (51, false), (52, false)] [] [] (fun _ => default) [99, 99, 0, 1, 99, 99, 99, 2, 3, 99, 99, 99, 4, 5, 99, 99, 99, 6, 7, 99, 99, 6, 99, 7, 99, 99, 99, 99, 99, 99, 8, 6, 99, 99, 99, 99, 99, 8, 99, 99, 99, 99, 6, 7, 99, 7, 99, 6, 99, 99, 99, 99, 99] [] (fun w' => w'.cell? ⟨p_b4, 0, none⟩ = some (.bool n_ba) ∧ w'.cell? ⟨p_b4, 1, none⟩ = some (.slice o_ba k_ba c_ba) ∧ w'.cell? ⟨p_b4, 2, none⟩ = some (.bool n_bb) ∧ w'.cell? ⟨p_b4, 3, none⟩ = some (.slice o_bb k_bb c_bb) ∧ w'.cell? ⟨p_b5, 0, none⟩ = some (.bool n_ea) ∧ w'.cell? ⟨p_b5, 1, none⟩ = some (.slice o_ea k_ea c_ea) ∧ w'.cell? ⟨p_b5, 2, none⟩ = some (.bool n_eb) ∧ w'.cell? ⟨p_b5, 3, none⟩ = some (.slice o_eb k_eb c_eb) ∧ w'.cell? ⟨p_b6, 0, none⟩ = some (.bool n_ga) ∧ w'.cell? ⟨p_b6, 1, none⟩ = some (.slice o_ga k_ga c_ga) ∧ w'.cell? ⟨p_b6, 2, none⟩ = some (.bool n_gb) ∧ w'.cell? ⟨p_b6, 3, none⟩ = some (.slice o_gb k_gb c_gb) ∧ w'.cell? ⟨p_b7, 0, none⟩ = some (.bool n_ja) ∧ w'.cell? ⟨p_b7, 1, none⟩ = some (.slice o_ja k_ja c_ja) ∧ w'.cell? ⟨p_b7, 2, none⟩ = some (.bool n_jb) ∧ w'.cell? ⟨p_b7, 3, none⟩ = some (.slice o_jb k_jb c_jb) ∧ w'.cell? ⟨p_b8, 0, none⟩ = some (.bool n_r) ∧ w'.cell? ⟨p_b8, 1, none⟩ = some (.slice o_r k_r c_r) ∧ w'.cell? ⟨p_b9, 0, none⟩ = some (.bool n_z9) ∧ w'.cell? ⟨p_b9, 1, none⟩ = some (.slice o_z9 k_z9 c_z9) ∧ w'.cell? ⟨p_b1, 0, none⟩ = some (.bool n_0a) ∧ w'.cell? ⟨p_b1, 1, none⟩ = some (.slice o_0a k_0a c_0a) ∧ w'.cell? ⟨p_b1, 2, none⟩ = some (.bool n_0b) ∧ w'.cell? ⟨p_b1, 3, none⟩ = some (.slice o_0b k_0b c_0b) ∧ w'.cell? ⟨p_b2, 0, none⟩ = some (.bool n_1a) ∧ w'.cell? ⟨p_b2, 1, none⟩ = some (.slice o_1a k_1a c_1a) ∧ w'.cell? ⟨p_b2, 2, none⟩ = some (.bool n_1b) ∧ w'.cell? ⟨p_b2, 3, none⟩ = some (.slice o_1b k_1b c_1b) ∧ w'.cell? ⟨p_b10, 0, none⟩ = some (.bool n_eea) ∧ w'.cell? ⟨p_b10, 1, none⟩ = some (.slice o_eea k_eea c_eea) ∧ w'.cell? ⟨p_b10, 2, none⟩ = some (.bool n_eeb) ∧ w'.cell? ⟨p_b10, 3, none⟩ = some (.slice o_eeb k_eeb c_eeb)) [fun w' => w'.cell? ⟨p_b4, 0, none⟩ = some (.bool n_ba) ∧ w'.cell? ⟨p_b4, 1, none⟩ = some (.slice o_ba k_ba c_ba) ∧ w'.cell? ⟨p_b4, 2, none⟩ = some (.bool n_bb) ∧ w'.cell? ⟨p_b4, 3, none⟩ = some (.slice o_bb k_bb c_bb), fun w' => w'.cell? ⟨p_b5, 0, none⟩ = some (.bool n_ea) ∧ w'.cell? ⟨p_b5, 1, none⟩ = some (.slice o_ea k_ea c_ea) ∧ w'.cell? ⟨p_b5, 2, none⟩ = some (.bool n_eb) ∧ w'.cell? ⟨p_b5, 3, none⟩ = some (.slice o_eb k_eb c_eb), fun w' => w'.cell? ⟨p_b6, 0, none⟩ = some (.bool n_ga) ∧ w'.cell? ⟨p_b6, 1, none⟩ = some (.slice o_ga k_ga c_ga) ∧ w'.cell? ⟨p_b6, 2, none⟩ = some (.bool n_gb) ∧ w'.cell? ⟨p_b6, 3, none⟩ = some (.slice o_gb k_gb c_gb), fun w' => w'.cell? ⟨p_b7, 0, none⟩ = some (.bool n_ja) ∧ w'.cell? ⟨p_b7, 1, none⟩ = some (.slice o_ja k_ja c_ja) ∧ w'.cell? ⟨p_b7, 2, none⟩ = some (.bool n_jb) ∧ w'.cell? ⟨p_b7, 3, none⟩ = some (.slice o_jb k_jb c_jb), fun w' => w'.cell? ⟨p_b8, 0, none⟩ = some (.bool n_r) ∧ w'.cell? ⟨p_b8, 1, none⟩ = some (.slice o_r k_r c_r), fun w' => w'.cell? ⟨p_b9, 0, none⟩ = some (.bool n_z9) ∧ w'.cell? ⟨p_b9, 1, none⟩ = some (.slice o_z9 k_z9 c_z9), fun w' => w'.cell? ⟨p_b1, 0, none⟩ = some (.bool n_0a) ∧ w'.cell? ⟨p_b1, 1, none⟩ = some (.slice o_0a k_0a c_0a) ∧ w'.cell? ⟨p_b1, 2, none⟩ = some (.bool n_0b) ∧ w'.cell? ⟨p_b1, 3, none⟩ = some (.slice o_0b k_0b c_0b), fun w' => w'.cell? ⟨p_b2, 0, none⟩ = some (.bool n_1a) ∧ w'.cell? ⟨p_b2, 1, none⟩ = some (.slice o_1a k_1a c_1a) ∧ w'.cell? ⟨p_b2, 2, none⟩ = some (.bool n_1b) ∧ w'.cell? ⟨p_b2, 3, none⟩ = some (.slice o_1b k_1b c_1b), fun w' => w'.cell? ⟨p_b10, 0, none⟩ = some (.bool n_eea) ∧ w'.cell? ⟨p_b10, 1, none⟩ = some (.slice o_eea k_eea c_eea) ∧ w'.cell? ⟨p_b10, 2, none⟩ = some (.bool n_eeb) ∧ w'.cell? ⟨p_b10, 3, none⟩ = some (.slice o_eeb k_eeb c_eeb)] (by kernel_rfl) (by kernel_rfl) (by kernel_rfl) (by kernel_rfl) (by kernel_rfl) (by kernel_rfl) (by kernel_rfl) (by kernel_rfl) (by decide) (by intro j hj; cases hj) (by intro w' o hC; obtain ⟨c0, c1, c2, c3, c4, c5, c6, c7, c8, c9, c10, c11, c12, c13, c14, c15, c16, c17, c18, c19, c20, c21, c22, c23, c24, c25, c26, c27, c28, c29, c30, c31⟩ := hC; exact ⟨cell_alloc c0 o, cell_alloc c1 o, cell_alloc c2 o, cell_alloc c3 o, cell_alloc c4 o, cell_alloc c5 o, cell_alloc c6 o, cell_alloc c7 o, cell_alloc c8 o, cell_alloc c9 o, cell_alloc c10 o, cell_alloc c11 o, cell_alloc c12 o, cell_alloc c13 o, cell_alloc c14 o, cell_alloc c15 o, cell_alloc c16 o, cell_alloc c17 o, cell_alloc c18 o, cell_alloc c19 o, cell_alloc c20 o, cell_alloc c21 o, cell_alloc c22 o, cell_alloc c23 o, cell_alloc c24 o, cell_alloc c25 o, cell_alloc c26 o, cell_alloc c27 o, cell_alloc c28 o, cell_alloc c29 o, cell_alloc c30 o, cell_alloc c31 o⟩) (by intro w' hC G hG; obtain ⟨c0, c1, c2, c3, c4, c5, c6, c7, c8, c9, c10, c11, c12, c13, c14, c15, c16, c17, c18, c19, c20, c21, c22, c23, c24, c25, c26, c27, c28, c29, c30, c31⟩ := hC; simp only [List.mem_cons, List.not_mem_nil, or_false] at hG; rcases hG with rfl | rfl | rfl | rfl | rfl | rfl | rfl | rfl | rfl <;> first | exact ⟨c0, c1, c2, c3⟩ | exact ⟨c4, c5, c6, c7⟩ | exact ⟨c8, c9, c10, c11⟩ | exact ⟨c12, c13, c14, c15⟩ | exact ⟨c16, c17⟩ | exact ⟨c18, c19⟩ | exact ⟨c20, c21, c22, c23⟩ | exact ⟨c24, c25, c26, c27⟩ | exact ⟨c28, c29, c30, c31⟩) ?_
  have lt_b1 := x_b1.lt
  have lt_b2 := x_b2.lt
  have lt_b4 := x_b4.lt
  have lt_b5 := x_b5.lt
  have lt_b6 := x_b6.lt
  have lt_b7 := x_b7.lt
  have lt_b8 := x_b8.lt
  have lt_b9 := x_b9.lt
  have lt_b10 := x_b10.lt
  intro w_54 hn
  replace lt_b1 := Nat.lt_of_lt_of_le lt_b1 hn.size
  replace lt_b2 := Nat.lt_of_lt_of_le lt_b2 hn.size
  replace lt_b4 := Nat.lt_of_lt_of_le lt_b4 hn.size
  replace lt_b5 := Nat.lt_of_lt_of_le lt_b5 hn.size
  replace lt_b6 := Nat.lt_of_lt_of_le lt_b6 hn.size
  replace lt_b7 := Nat.lt_of_lt_of_le lt_b7 hn.size
  replace lt_b8 := Nat.lt_of_lt_of_le lt_b8 hn.size
  replace lt_b9 := Nat.lt_of_lt_of_le lt_b9 hn.size
  replace lt_b10 := Nat.lt_of_lt_of_le lt_b10 hn.size
  replace ha1 := ha1.bl hn; replace ha2 := ha2.bl hn; replace hq1 := hq1.bl hn; replace hq2 := hq2.bl hn; replace x_b1 := x_b1.bl hn; replace x_b2 := x_b2.bl hn; replace b1 := b1.bl hn; replace b2 := b2.bl hn; replace x_b4 := x_b4.bl hn; replace e1 := e1.bl hn; replace e2 := e2.bl hn; replace x_b5 := x_b5.bl hn; replace g1 := g1.bl hn; replace g2 := g2.bl hn; replace x_b6 := x_b6.bl hn; replace j1 := j1.bl hn; replace j2 := j2.bl hn; replace x_b7 := x_b7.bl hn; replace r := r.bl hn; replace x_b8 := x_b8.bl hn; replace z9 := z9.bl hn; replace x_b9 := x_b9.bl hn; replace ee1 := ee1.bl hn; replace ee2 := ee2.bl hn; replace x_b10 := x_b10.bl hn; replace hb := hb.trans (hn.mono hb.size)
  clear hn
  have kb0 := hb.size
  refine ⟨⟨x_b4.cell 0 rfl, x_b4.cell 1 rfl, x_b4.cell 2 rfl, x_b4.cell 3 rfl, x_b5.cell 0 rfl, x_b5.cell 1 rfl, x_b5.cell 2 rfl, x_b5.cell 3 rfl, x_b6.cell 0 rfl, x_b6.cell 1 rfl, x_b6.cell 2 rfl, x_b6.cell 3 rfl, x_b7.cell 0 rfl, x_b7.cell 1 rfl, x_b7.cell 2 rfl, x_b7.cell 3 rfl, x_b8.cell 0 rfl, x_b8.cell 1 rfl, x_b9.cell 0 rfl, x_b9.cell 1 rfl, x_b1.cell 0 rfl, x_b1.cell 1 rfl, x_b1.cell 2 rfl, x_b1.cell 3 rfl, x_b2.cell 0 rfl, x_b2.cell 1 rfl, x_b2.cell 2 rfl, x_b2.cell 3 rfl, x_b10.cell 0 rfl, x_b10.cell 1 rfl, x_b10.cell 2 rfl, x_b10.cell 3 rfl⟩, ?_⟩
  have Lee2 := hide (ee2.lenOf (zlen_0))
  refine wpFl_call rfl (by kernel_rfl) fun w_55 hn hC => ?_; clear hC
  replace ha1 := ha1.bl hn; replace ha2 := ha2.bl hn; replace hq1 := hq1.bl hn; replace hq2 := hq2.bl hn; replace x_b1 := x_b1.bl hn; replace x_b2 := x_b2.bl hn; replace b1 := b1.bl hn; replace b2 := b2.bl hn; replace x_b4 := x_b4.bl hn; replace e1 := e1.bl hn; replace e2 := e2.bl hn; replace x_b5 := x_b5.bl hn; replace g1 := g1.bl hn; replace g2 := g2.bl hn; replace x_b6 := x_b6.bl hn; replace j1 := j1.bl hn; replace j2 := j2.bl hn; replace x_b7 := x_b7.bl hn; replace r := r.bl hn; replace x_b8 := x_b8.bl hn; replace z9 := z9.bl hn; replace x_b9 := x_b9.bl hn; replace ee1 := ee1.bl hn; replace ee2 := ee2.bl hn; replace x_b10 := x_b10.bl hn; replace hb := hb.trans (hn.mono hb.size)
  clear hn; intro K hK
  go_big_op
  go_fit (gawake_any _ (htabs _ hb))
  rintro e w_56 ⟨rfl, hb_56⟩
  replace ha1 := ha1.bl hb_56; replace ha2 := ha2.bl hb_56; replace hq1 := hq1.bl hb_56; replace hq2 := hq2.bl hb_56; replace x_b1 := x_b1.bl hb_56; replace x_b2 := x_b2.bl hb_56; replace b1 := b1.bl hb_56; replace b2 := b2.bl hb_56; replace x_b4 := x_b4.bl hb_56; replace e1 := e1.bl hb_56; replace e2 := e2.bl hb_56; replace x_b5 := x_b5.bl hb_56; replace g1 := g1.bl hb_56; replace g2 := g2.bl hb_56; replace x_b6 := x_b6.bl hb_56; replace j1 := j1.bl hb_56; replace j2 := j2.bl hb_56; replace x_b7 := x_b7.bl hb_56; replace r := r.bl hb_56; replace x_b8 := x_b8.bl hb_56; replace z9 := z9.bl hb_56; replace x_b9 := x_b9.bl hb_56; replace ee1 := ee1.bl hb_56; replace ee2 := ee2.bl hb_56; replace x_b10 := x_b10.bl hb_56; replace hb := hb.trans (hb_56.mono hb.size)
  refine hK _ _ rfl hb_56 ⟨x_b4.cell 0 rfl, x_b4.cell 1 rfl, x_b4.cell 2 rfl, x_b4.cell 3 rfl, x_b5.cell 0 rfl, x_b5.cell 1 rfl, x_b5.cell 2 rfl, x_b5.cell 3 rfl, x_b6.cell 0 rfl, x_b6.cell 1 rfl, x_b6.cell 2 rfl, x_b6.cell 3 rfl, x_b7.cell 0 rfl, x_b7.cell 1 rfl, x_b7.cell 2 rfl, x_b7.cell 3 rfl, x_b8.cell 0 rfl, x_b8.cell 1 rfl, x_b9.cell 0 rfl, x_b9.cell 1 rfl, x_b1.cell 0 rfl, x_b1.cell 1 rfl, x_b1.cell 2 rfl, x_b1.cell 3 rfl, x_b2.cell 0 rfl, x_b2.cell 1 rfl, x_b2.cell 2 rfl, x_b2.cell 3 rfl, x_b10.cell 0 rfl, x_b10.cell 1 rfl, x_b10.cell 2 rfl, x_b10.cell 3 rfl⟩ ?_
  clear hK K hb_56
  apply wpFl_ld rfl rfl; (case h1 => intro w' hC K hK; go_big_move; exact hK); iterate 4 kernel_rfl
  apply wpFl_ld rfl rfl; (case h1 => intro w' hC K hK; obtain ⟨c0, c1, c2, c3⟩ := hC; go_big_op; exact hK); iterate 4 kernel_rfl
  apply wpFl_ld rfl rfl; (case h1 => intro w' hC K hK; obtain ⟨c0, c1, c2, c3⟩ := hC; go_big_op; exact hK); iterate 4 kernel_rfl
  refine wpFl_call rfl (by kernel_rfl) fun w_57 hn hC => ?_; clear hC
  replace ha1 := ha1.bl hn; replace ha2 := ha2.bl hn; replace hq1 := hq1.bl hn; replace hq2 := hq2.bl hn; replace x_b1 := x_b1.bl hn; replace x_b2 := x_b2.bl hn; replace b1 := b1.bl hn; replace b2 := b2.bl hn; replace x_b4 := x_b4.bl hn; replace e1 := e1.bl hn; replace e2 := e2.bl hn; replace x_b5 := x_b5.bl hn; replace g1 := g1.bl hn; replace g2 := g2.bl hn; replace x_b6 := x_b6.bl hn; replace j1 := j1.bl hn; replace j2 := j2.bl hn; replace x_b7 := x_b7.bl hn; replace r := r.bl hn; replace x_b8 := x_b8.bl hn; replace z9 := z9.bl hn; replace x_b9 := x_b9.bl hn; replace ee1 := ee1.bl hn; replace ee2 := ee2.bl hn; replace x_b10 := x_b10.bl hn; replace hb := hb.trans (hn.mono hb.size)
  clear hn; intro K hK
  go_big_op
  go_fit (gis_any (PC.mk' b1 b2) (PN.mk' (e1.zn Le1.out) (e2.zn Le2.out)) (by omega) (by omega) )
  rintro e w_58 ⟨rfl, hb_58⟩
  replace ha1 := ha1.bl hb_58; replace ha2 := ha2.bl hb_58; replace hq1 := hq1.bl hb_58; replace hq2 := hq2.bl hb_58; replace x_b1 := x_b1.bl hb_58; replace x_b2 := x_b2.bl hb_58; replace b1 := b1.bl hb_58; replace b2 := b2.bl hb_58; replace x_b4 := x_b4.bl hb_58; replace e1 := e1.bl hb_58; replace e2 := e2.bl hb_58; replace x_b5 := x_b5.bl hb_58; replace g1 := g1.bl hb_58; replace g2 := g2.bl hb_58; replace x_b6 := x_b6.bl hb_58; replace j1 := j1.bl hb_58; replace j2 := j2.bl hb_58; replace x_b7 := x_b7.bl hb_58; replace r := r.bl hb_58; replace x_b8 := x_b8.bl hb_58; replace z9 := z9.bl hb_58; replace x_b9 := x_b9.bl hb_58; replace ee1 := ee1.bl hb_58; replace ee2 := ee2.bl hb_58; replace x_b10 := x_b10.bl hb_58; replace hb := hb.trans (hb_58.mono hb.size)
  refine hK _ _ rfl hb_58 ⟨x_b4.cell 0 rfl, x_b4.cell 1 rfl, x_b4.cell 2 rfl, x_b4.cell 3 rfl, x_b5.cell 0 rfl, x_b5.cell 1 rfl, x_b5.cell 2 rfl, x_b5.cell 3 rfl, x_b6.cell 0 rfl, x_b6.cell 1 rfl, x_b6.cell 2 rfl, x_b6.cell 3 rfl, x_b7.cell 0 rfl, x_b7.cell 1 rfl, x_b7.cell 2 rfl, x_b7.cell 3 rfl, x_b8.cell 0 rfl, x_b8.cell 1 rfl, x_b9.cell 0 rfl, x_b9.cell 1 rfl, x_b1.cell 0 rfl, x_b1.cell 1 rfl, x_b1.cell 2 rfl, x_b1.cell 3 rfl, x_b2.cell 0 rfl, x_b2.cell 1 rfl, x_b2.cell 2 rfl, x_b2.cell 3 rfl, x_b10.cell 0 rfl, x_b10.cell 1 rfl, x_b10.cell 2 rfl, x_b10.cell 3 rfl⟩ ?_
  clear hK K hb_58
  apply wpFl_ld rfl rfl; (case h1 => intro w' hC K hK; go_big_op; exact hK); iterate 4 kernel_rfl
  apply wpFl_ld rfl rfl; (case h1 => intro w' hC K hK; go_big_move; exact hK); iterate 4 kernel_rfl
  apply wpFl_ld rfl rfl; (case h1 => intro w' hC K hK; obtain ⟨c0, c1, c2, c3⟩ := hC; go_big_op; exact hK); iterate 4 kernel_rfl
  apply wpFl_ld rfl rfl; (case h1 => intro w' hC K hK; obtain ⟨c0, c1, c2, c3⟩ := hC; go_big_op; exact hK); iterate 4 kernel_rfl
  refine wpFl_call rfl (by kernel_rfl) fun w_59 hn hC => ?_; clear hC
  replace ha1 := ha1.bl hn; replace ha2 := ha2.bl hn; replace hq1 := hq1.bl hn; replace hq2 := hq2.bl hn; replace x_b1 := x_b1.bl hn; replace x_b2 := x_b2.bl hn; replace b1 := b1.bl hn; replace b2 := b2.bl hn; replace x_b4 := x_b4.bl hn; replace e1 := e1.bl hn; replace e2 := e2.bl hn; replace x_b5 := x_b5.bl hn; replace g1 := g1.bl hn; replace g2 := g2.bl hn; replace x_b6 := x_b6.bl hn; replace j1 := j1.bl hn; replace j2 := j2.bl hn; replace x_b7 := x_b7.bl hn; replace r := r.bl hn; replace x_b8 := x_b8.bl hn; replace z9 := z9.bl hn; replace x_b9 := x_b9.bl hn; replace ee1 := ee1.bl hn; replace ee2 := ee2.bl hn; replace x_b10 := x_b10.bl hn; replace hb := hb.trans (hn.mono hb.size)
  clear hn; intro K hK
  go_big_op
  go_fit (gis_any (PC.mk' g1 g2) (PN.mk' (j1.zn Lj1.out) (j2.zn Lj2.out)) (by omega) (by omega) )
  rintro e w_60 ⟨rfl, hb_60⟩
  replace ha1 := ha1.bl hb_60; replace ha2 := ha2.bl hb_60; replace hq1 := hq1.bl hb_60; replace hq2 := hq2.bl hb_60; replace x_b1 := x_b1.bl hb_60; replace x_b2 := x_b2.bl hb_60; replace b1 := b1.bl hb_60; replace b2 := b2.bl hb_60; replace x_b4 := x_b4.bl hb_60; replace e1 := e1.bl hb_60; replace e2 := e2.bl hb_60; replace x_b5 := x_b5.bl hb_60; replace g1 := g1.bl hb_60; replace g2 := g2.bl hb_60; replace x_b6 := x_b6.bl hb_60; replace j1 := j1.bl hb_60; replace j2 := j2.bl hb_60; replace x_b7 := x_b7.bl hb_60; replace r := r.bl hb_60; replace x_b8 := x_b8.bl hb_60; replace z9 := z9.bl hb_60; replace x_b9 := x_b9.bl hb_60; replace ee1 := ee1.bl hb_60; replace ee2 := ee2.bl hb_60; replace x_b10 := x_b10.bl hb_60; replace hb := hb.trans (hb_60.mono hb.size)
  refine hK _ _ rfl hb_60 ⟨x_b4.cell 0 rfl, x_b4.cell 1 rfl, x_b4.cell 2 rfl, x_b4.cell 3 rfl, x_b5.cell 0 rfl, x_b5.cell 1 rfl, x_b5.cell 2 rfl, x_b5.cell 3 rfl, x_b6.cell 0 rfl, x_b6.cell 1 rfl, x_b6.cell 2 rfl, x_b6.cell 3 rfl, x_b7.cell 0 rfl, x_b7.cell 1 rfl, x_b7.cell 2 rfl, x_b7.cell 3 rfl, x_b8.cell 0 rfl, x_b8.cell 1 rfl, x_b9.cell 0 rfl, x_b9.cell 1 rfl, x_b1.cell 0 rfl, x_b1.cell 1 rfl, x_b1.cell 2 rfl, x_b1.cell 3 rfl, x_b2.cell 0 rfl, x_b2.cell 1 rfl, x_b2.cell 2 rfl, x_b2.cell 3 rfl, x_b10.cell 0 rfl, x_b10.cell 1 rfl, x_b10.cell 2 rfl, x_b10.cell 3 rfl⟩ ?_
  clear hK K hb_60
  apply wpFl_ld rfl rfl; (case h1 => intro w' hC K hK; go_big_op; exact hK); iterate 4 kernel_rfl
  apply wpFl_ld rfl rfl; (case h1 => intro w' hC K hK; go_big_move; exact hK); iterate 4 kernel_rfl
  apply wpFl_ld rfl rfl; (case h1 => intro w' hC K hK; obtain ⟨c0, c1⟩ := hC; go_big_op; exact hK); iterate 4 kernel_rfl
  apply wpFl_ld rfl rfl; (case h1 => intro w' hC K hK; obtain ⟨c0, c1⟩ := hC; go_big_op; exact hK); iterate 4 kernel_rfl
  refine wpFl_call rfl (by kernel_rfl) fun w_61 hn hC => ?_; clear hC
  replace ha1 := ha1.bl hn; replace ha2 := ha2.bl hn; replace hq1 := hq1.bl hn; replace hq2 := hq2.bl hn; replace x_b1 := x_b1.bl hn; replace x_b2 := x_b2.bl hn; replace b1 := b1.bl hn; replace b2 := b2.bl hn; replace x_b4 := x_b4.bl hn; replace e1 := e1.bl hn; replace e2 := e2.bl hn; replace x_b5 := x_b5.bl hn; replace g1 := g1.bl hn; replace g2 := g2.bl hn; replace x_b6 := x_b6.bl hn; replace j1 := j1.bl hn; replace j2 := j2.bl hn; replace x_b7 := x_b7.bl hn; replace r := r.bl hn; replace x_b8 := x_b8.bl hn; replace z9 := z9.bl hn; replace x_b9 := x_b9.bl hn; replace ee1 := ee1.bl hn; replace ee2 := ee2.bl hn; replace x_b10 := x_b10.bl hn; replace hb := hb.trans (hn.mono hb.size)
  clear hn; intro K hK
  go_big_op
  go_fit (rsame_zz r (z9.zn Lz9.out) (by omega) )
  rintro e w_62 ⟨rfl, hb_62⟩
  replace ha1 := ha1.bl hb_62; replace ha2 := ha2.bl hb_62; replace hq1 := hq1.bl hb_62; replace hq2 := hq2.bl hb_62; replace x_b1 := x_b1.bl hb_62; replace x_b2 := x_b2.bl hb_62; replace b1 := b1.bl hb_62; replace b2 := b2.bl hb_62; replace x_b4 := x_b4.bl hb_62; replace e1 := e1.bl hb_62; replace e2 := e2.bl hb_62; replace x_b5 := x_b5.bl hb_62; replace g1 := g1.bl hb_62; replace g2 := g2.bl hb_62; replace x_b6 := x_b6.bl hb_62; replace j1 := j1.bl hb_62; replace j2 := j2.bl hb_62; replace x_b7 := x_b7.bl hb_62; replace r := r.bl hb_62; replace x_b8 := x_b8.bl hb_62; replace z9 := z9.bl hb_62; replace x_b9 := x_b9.bl hb_62; replace ee1 := ee1.bl hb_62; replace ee2 := ee2.bl hb_62; replace x_b10 := x_b10.bl hb_62; replace hb := hb.trans (hb_62.mono hb.size)
  refine hK _ _ rfl hb_62 ⟨x_b4.cell 0 rfl, x_b4.cell 1 rfl, x_b4.cell 2 rfl, x_b4.cell 3 rfl, x_b5.cell 0 rfl, x_b5.cell 1 rfl, x_b5.cell 2 rfl, x_b5.cell 3 rfl, x_b6.cell 0 rfl, x_b6.cell 1 rfl, x_b6.cell 2 rfl, x_b6.cell 3 rfl, x_b7.cell 0 rfl, x_b7.cell 1 rfl, x_b7.cell 2 rfl, x_b7.cell 3 rfl, x_b8.cell 0 rfl, x_b8.cell 1 rfl, x_b9.cell 0 rfl, x_b9.cell 1 rfl, x_b1.cell 0 rfl, x_b1.cell 1 rfl, x_b1.cell 2 rfl, x_b1.cell 3 rfl, x_b2.cell 0 rfl, x_b2.cell 1 rfl, x_b2.cell 2 rfl, x_b2.cell 3 rfl, x_b10.cell 0 rfl, x_b10.cell 1 rfl, x_b10.cell 2 rfl, x_b10.cell 3 rfl⟩ ?_
  clear hK K hb_62
  apply wpFl_ld rfl rfl; (case h1 => intro w' hC K hK; go_big_op; exact hK); iterate 4 kernel_rfl
  apply wpFl_ld rfl rfl; (case h1 => intro w' hC K hK; go_big_move; exact hK); iterate 4 kernel_rfl
  apply wpFl_ld rfl rfl; (case h1 => intro w' hC K hK; obtain ⟨c0, c1, c2, c3⟩ := hC; go_big_op; exact hK); iterate 4 kernel_rfl
  apply wpFl_ld rfl rfl; (case h1 => intro w' hC K hK; obtain ⟨c0, c1, c2, c3⟩ := hC; go_big_op; exact hK); iterate 4 kernel_rfl
  apply wpFl_ld rfl rfl; (case h1 => intro w' hC K hK; obtain ⟨c0, c1, c2, c3⟩ := hC; go_big_op; exact hK); iterate 4 kernel_rfl
  apply wpFl_ld rfl rfl; (case h1 => intro w' hC K hK; obtain ⟨c0, c1, c2, c3⟩ := hC; go_big_op; exact hK); iterate 4 kernel_rfl
  refine wpFl_call rfl (by kernel_rfl) fun w_63 hn hC => ?_; clear hC
  replace ha1 := ha1.bl hn; replace ha2 := ha2.bl hn; replace hq1 := hq1.bl hn; replace hq2 := hq2.bl hn; replace x_b1 := x_b1.bl hn; replace x_b2 := x_b2.bl hn; replace b1 := b1.bl hn; replace b2 := b2.bl hn; replace x_b4 := x_b4.bl hn; replace e1 := e1.bl hn; replace e2 := e2.bl hn; replace x_b5 := x_b5.bl hn; replace g1 := g1.bl hn; replace g2 := g2.bl hn; replace x_b6 := x_b6.bl hn; replace j1 := j1.bl hn; replace j2 := j2.bl hn; replace x_b7 := x_b7.bl hn; replace r := r.bl hn; replace x_b8 := x_b8.bl hn; replace z9 := z9.bl hn; replace x_b9 := x_b9.bl hn; replace ee1 := ee1.bl hn; replace ee2 := ee2.bl hn; replace x_b10 := x_b10.bl hn; replace hb := hb.trans (hn.mono hb.size)
  clear hn; intro K hK
  go_big_op
  go_fit (gMul_any (PN.mk' ha1 ha2) (PN.mk' hq1 hq2) (by omega) (by omega) (by omega) (by omega) )
  rintro e w_64 ⟨_, rfl, ⟨n_ffa, o_ffa, k_ffa, c_ffa, n_ffb, o_ffb, k_ffb, c_ffb, rfl, ff1, ff2⟩, hb_64⟩
  replace ha1 := ha1.bl hb_64; replace ha2 := ha2.bl hb_64; replace hq1 := hq1.bl hb_64; replace hq2 := hq2.bl hb_64; replace x_b1 := x_b1.bl hb_64; replace x_b2 := x_b2.bl hb_64; replace b1 := b1.bl hb_64; replace b2 := b2.bl hb_64; replace x_b4 := x_b4.bl hb_64; replace e1 := e1.bl hb_64; replace e2 := e2.bl hb_64; replace x_b5 := x_b5.bl hb_64; replace g1 := g1.bl hb_64; replace g2 := g2.bl hb_64; replace x_b6 := x_b6.bl hb_64; replace j1 := j1.bl hb_64; replace j2 := j2.bl hb_64; replace x_b7 := x_b7.bl hb_64; replace r := r.bl hb_64; replace x_b8 := x_b8.bl hb_64; replace z9 := z9.bl hb_64; replace x_b9 := x_b9.bl hb_64; replace ee1 := ee1.bl hb_64; replace ee2 := ee2.bl hb_64; replace x_b10 := x_b10.bl hb_64; replace hb := hb.trans (hb_64.mono hb.size)
  have Lff1 := hide (ff1.lenOf (zlen_sub (zlen_mul (ha1.len) (hq1.len)) (zlen_mul (ha2.len) (hq2.len))))
  have Lff2 := hide (ff2.lenOf (zlen_add (zlen_mul (ha1.len) (hq2.len)) (zlen_mul (ha2.len) (hq1.len))))
  refine hK _ _ rfl hb_64 ⟨x_b4.cell 0 rfl, x_b4.cell 1 rfl, x_b4.cell 2 rfl, x_b4.cell 3 rfl, x_b5.cell 0 rfl, x_b5.cell 1 rfl, x_b5.cell 2 rfl, x_b5.cell 3 rfl, x_b6.cell 0 rfl, x_b6.cell 1 rfl, x_b6.cell 2 rfl, x_b6.cell 3 rfl, x_b7.cell 0 rfl, x_b7.cell 1 rfl, x_b7.cell 2 rfl, x_b7.cell 3 rfl, x_b8.cell 0 rfl, x_b8.cell 1 rfl, x_b9.cell 0 rfl, x_b9.cell 1 rfl, x_b1.cell 0 rfl, x_b1.cell 1 rfl, x_b1.cell 2 rfl, x_b1.cell 3 rfl, x_b2.cell 0 rfl, x_b2.cell 1 rfl, x_b2.cell 2 rfl, x_b2.cell 3 rfl, x_b10.cell 0 rfl, x_b10.cell 1 rfl, x_b10.cell 2 rfl, x_b10.cell 3 rfl⟩ ?_
  clear hK K hb_64
  refine wpFl_call rfl (by kernel_rfl) fun w_65 hn hC => ?_; clear hC
  replace ha1 := ha1.bl hn; replace ha2 := ha2.bl hn; replace hq1 := hq1.bl hn; replace hq2 := hq2.bl hn; replace x_b1 := x_b1.bl hn; replace x_b2 := x_b2.bl hn; replace b1 := b1.bl hn; replace b2 := b2.bl hn; replace x_b4 := x_b4.bl hn; replace e1 := e1.bl hn; replace e2 := e2.bl hn; replace x_b5 := x_b5.bl hn; replace g1 := g1.bl hn; replace g2 := g2.bl hn; replace x_b6 := x_b6.bl hn; replace j1 := j1.bl hn; replace j2 := j2.bl hn; replace x_b7 := x_b7.bl hn; replace r := r.bl hn; replace x_b8 := x_b8.bl hn; replace z9 := z9.bl hn; replace x_b9 := x_b9.bl hn; replace ee1 := ee1.bl hn; replace ee2 := ee2.bl hn; replace x_b10 := x_b10.bl hn; replace ff1 := ff1.bl hn; replace ff2 := ff2.bl hn; replace hb := hb.trans (hn.mono hb.size)
  clear hn; intro K hK
  go_big_op
  go_fit (gConj_any (PN.mk' (ff1.zn Lff1.out) (ff2.zn Lff2.out)) (by omega) (by omega) )
  rintro e w_66 ⟨_, rfl, ⟨n_gga, o_gga, k_gga, c_gga, n_ggb, o_ggb, k_ggb, c_ggb, rfl, gg1, gg2⟩, hb_66⟩
  replace ha1 := ha1.bl hb_66; replace ha2 := ha2.bl hb_66; replace hq1 := hq1.bl hb_66; replace hq2 := hq2.bl hb_66; replace x_b1 := x_b1.bl hb_66; replace x_b2 := x_b2.bl hb_66; replace b1 := b1.bl hb_66; replace b2 := b2.bl hb_66; replace x_b4 := x_b4.bl hb_66; replace e1 := e1.bl hb_66; replace e2 := e2.bl hb_66; replace x_b5 := x_b5.bl hb_66; replace g1 := g1.bl hb_66; replace g2 := g2.bl hb_66; replace x_b6 := x_b6.bl hb_66; replace j1 := j1.bl hb_66; replace j2 := j2.bl hb_66; replace x_b7 := x_b7.bl hb_66; replace r := r.bl hb_66; replace x_b8 := x_b8.bl hb_66; replace z9 := z9.bl hb_66; replace x_b9 := x_b9.bl hb_66; replace ee1 := ee1.bl hb_66; replace ee2 := ee2.bl hb_66; replace x_b10 := x_b10.bl hb_66; replace ff1 := ff1.bl hb_66; replace ff2 := ff2.bl hb_66; replace hb := hb.trans (hb_66.mono hb.size)
  have Lgg1 := hide (gg1.lenOf ((Lff1.out)))
  have Lgg2 := hide (gg2.lenOf (zlen_neg (Lff2.out)))
  rw [E4.out.1] at gg1
  rw [E4.out.2] at gg2
  refine hK _ _ rfl hb_66 ⟨x_b4.cell 0 rfl, x_b4.cell 1 rfl, x_b4.cell 2 rfl, x_b4.cell 3 rfl, x_b5.cell 0 rfl, x_b5.cell 1 rfl, x_b5.cell 2 rfl, x_b5.cell 3 rfl, x_b6.cell 0 rfl, x_b6.cell 1 rfl, x_b6.cell 2 rfl, x_b6.cell 3 rfl, x_b7.cell 0 rfl, x_b7.cell 1 rfl, x_b7.cell 2 rfl, x_b7.cell 3 rfl, x_b8.cell 0 rfl, x_b8.cell 1 rfl, x_b9.cell 0 rfl, x_b9.cell 1 rfl, x_b1.cell 0 rfl, x_b1.cell 1 rfl, x_b1.cell 2 rfl, x_b1.cell 3 rfl, x_b2.cell 0 rfl, x_b2.cell 1 rfl, x_b2.cell 2 rfl, x_b2.cell 3 rfl, x_b10.cell 0 rfl, x_b10.cell 1 rfl, x_b10.cell 2 rfl, x_b10.cell 3 rfl⟩ ?_
  clear hK K hb_66
  refine wpFl_call rfl (by kernel_rfl) fun w_67 hn hC => ?_; clear hC
  clear ff1 ff2
  replace ha1 := ha1.bl hn; replace ha2 := ha2.bl hn; replace hq1 := hq1.bl hn; replace hq2 := hq2.bl hn; replace x_b1 := x_b1.bl hn; replace x_b2 := x_b2.bl hn; replace b1 := b1.bl hn; replace b2 := b2.bl hn; replace x_b4 := x_b4.bl hn; replace e1 := e1.bl hn; replace e2 := e2.bl hn; replace x_b5 := x_b5.bl hn; replace g1 := g1.bl hn; replace g2 := g2.bl hn; replace x_b6 := x_b6.bl hn; replace j1 := j1.bl hn; replace j2 := j2.bl hn; replace x_b7 := x_b7.bl hn; replace r := r.bl hn; replace x_b8 := x_b8.bl hn; replace z9 := z9.bl hn; replace x_b9 := x_b9.bl hn; replace ee1 := ee1.bl hn; replace ee2 := ee2.bl hn; replace x_b10 := x_b10.bl hn; replace gg1 := gg1.bl hn; replace gg2 := gg2.bl hn; replace hb := hb.trans (hn.mono hb.size)
  clear hn; intro K hK
  go_big_op
  go_fit (gConj_any (PN.mk' ha1 ha2) (by omega) (by omega) )
  rintro e w_68 ⟨_, rfl, ⟨n_iia, o_iia, k_iia, c_iia, n_iib, o_iib, k_iib, c_iib, rfl, ii1, ii2⟩, hb_68⟩
  replace ha1 := ha1.bl hb_68; replace ha2 := ha2.bl hb_68; replace hq1 := hq1.bl hb_68; replace hq2 := hq2.bl hb_68; replace x_b1 := x_b1.bl hb_68; replace x_b2 := x_b2.bl hb_68; replace b1 := b1.bl hb_68; replace b2 := b2.bl hb_68; replace x_b4 := x_b4.bl hb_68; replace e1 := e1.bl hb_68; replace e2 := e2.bl hb_68; replace x_b5 := x_b5.bl hb_68; replace g1 := g1.bl hb_68; replace g2 := g2.bl hb_68; replace x_b6 := x_b6.bl hb_68; replace j1 := j1.bl hb_68; replace j2 := j2.bl hb_68; replace x_b7 := x_b7.bl hb_68; replace r := r.bl hb_68; replace x_b8 := x_b8.bl hb_68; replace z9 := z9.bl hb_68; replace x_b9 := x_b9.bl hb_68; replace ee1 := ee1.bl hb_68; replace ee2 := ee2.bl hb_68; replace x_b10 := x_b10.bl hb_68; replace gg1 := gg1.bl hb_68; replace gg2 := gg2.bl hb_68; replace hb := hb.trans (hb_68.mono hb.size)
  have Lii1 := hide (ii1.lenOf ((ha1.len)))
  have Lii2 := hide (ii2.lenOf (zlen_neg (ha2.len)))
  refine hK _ _ rfl hb_68 ⟨x_b4.cell 0 rfl, x_b4.cell 1 rfl, x_b4.cell 2 rfl, x_b4.cell 3 rfl, x_b5.cell 0 rfl, x_b5.cell 1 rfl, x_b5.cell 2 rfl, x_b5.cell 3 rfl, x_b6.cell 0 rfl, x_b6.cell 1 rfl, x_b6.cell 2 rfl, x_b6.cell 3 rfl, x_b7.cell 0 rfl, x_b7.cell 1 rfl, x_b7.cell 2 rfl, x_b7.cell 3 rfl, x_b8.cell 0 rfl, x_b8.cell 1 rfl, x_b9.cell 0 rfl, x_b9.cell 1 rfl, x_b1.cell 0 rfl, x_b1.cell 1 rfl, x_b1.cell 2 rfl, x_b1.cell 3 rfl, x_b2.cell 0 rfl, x_b2.cell 1 rfl, x_b2.cell 2 rfl, x_b2.cell 3 rfl, x_b10.cell 0 rfl, x_b10.cell 1 rfl, x_b10.cell 2 rfl, x_b10.cell 3 rfl⟩ ?_
  clear hK K hb_68
  refine wpFl_call rfl (by kernel_rfl) fun w_69 hn hC => ?_; clear hC
  replace ha1 := ha1.bl hn; replace ha2 := ha2.bl hn; replace hq1 := hq1.bl hn; replace hq2 := hq2.bl hn; replace x_b1 := x_b1.bl hn; replace x_b2 := x_b2.bl hn; replace b1 := b1.bl hn; replace b2 := b2.bl hn; replace x_b4 := x_b4.bl hn; replace e1 := e1.bl hn; replace e2 := e2.bl hn; replace x_b5 := x_b5.bl hn; replace g1 := g1.bl hn; replace g2 := g2.bl hn; replace x_b6 := x_b6.bl hn; replace j1 := j1.bl hn; replace j2 := j2.bl hn; replace x_b7 := x_b7.bl hn; replace r := r.bl hn; replace x_b8 := x_b8.bl hn; replace z9 := z9.bl hn; replace x_b9 := x_b9.bl hn; replace ee1 := ee1.bl hn; replace ee2 := ee2.bl hn; replace x_b10 := x_b10.bl hn; replace gg1 := gg1.bl hn; replace gg2 := gg2.bl hn; replace ii1 := ii1.bl hn; replace ii2 := ii2.bl hn; replace hb := hb.trans (hn.mono hb.size)
  clear hn; intro K hK
  go_big_op
  go_fit (gConj_any (PN.mk' hq1 hq2) (by omega) (by omega) )
  rintro e w_70 ⟨_, rfl, ⟨n_jja, o_jja, k_jja, c_jja, n_jjb, o_jjb, k_jjb, c_jjb, rfl, jj1, jj2⟩, hb_70⟩
  replace ha1 := ha1.bl hb_70; replace ha2 := ha2.bl hb_70; replace hq1 := hq1.bl hb_70; replace hq2 := hq2.bl hb_70; replace x_b1 := x_b1.bl hb_70; replace x_b2 := x_b2.bl hb_70; replace b1 := b1.bl hb_70; replace b2 := b2.bl hb_70; replace x_b4 := x_b4.bl hb_70; replace e1 := e1.bl hb_70; replace e2 := e2.bl hb_70; replace x_b5 := x_b5.bl hb_70; replace g1 := g1.bl hb_70; replace g2 := g2.bl hb_70; replace x_b6 := x_b6.bl hb_70; replace j1 := j1.bl hb_70; replace j2 := j2.bl hb_70; replace x_b7 := x_b7.bl hb_70; replace r := r.bl hb_70; replace x_b8 := x_b8.bl hb_70; replace z9 := z9.bl hb_70; replace x_b9 := x_b9.bl hb_70; replace ee1 := ee1.bl hb_70; replace ee2 := ee2.bl hb_70; replace x_b10 := x_b10.bl hb_70; replace gg1 := gg1.bl hb_70; replace gg2 := gg2.bl hb_70; replace ii1 := ii1.bl hb_70; replace ii2 := ii2.bl hb_70; replace hb := hb.trans (hb_70.mono hb.size)
  have Ljj1 := hide (jj1.lenOf ((hq1.len)))
  have Ljj2 := hide (jj2.lenOf (zlen_neg (hq2.len)))
  refine hK _ _ rfl hb_70 ⟨x_b4.cell 0 rfl, x_b4.cell 1 rfl, x_b4.cell 2 rfl, x_b4.cell 3 rfl, x_b5.cell 0 rfl, x_b5.cell 1 rfl, x_b5.cell 2 rfl, x_b5.cell 3 rfl, x_b6.cell 0 rfl, x_b6.cell 1 rfl, x_b6.cell 2 rfl, x_b6.cell 3 rfl, x_b7.cell 0 rfl, x_b7.cell 1 rfl, x_b7.cell 2 rfl, x_b7.cell 3 rfl, x_b8.cell 0 rfl, x_b8.cell 1 rfl, x_b9.cell 0 rfl, x_b9.cell 1 rfl, x_b1.cell 0 rfl, x_b1.cell 1 rfl, x_b1.cell 2 rfl, x_b1.cell 3 rfl, x_b2.cell 0 rfl, x_b2.cell 1 rfl, x_b2.cell 2 rfl, x_b2.cell 3 rfl, x_b10.cell 0 rfl, x_b10.cell 1 rfl, x_b10.cell 2 rfl, x_b10.cell 3 rfl⟩ ?_
  clear hK K hb_70
  refine wpFl_call rfl (by kernel_rfl) fun w_71 hn hC => ?_; clear hC
  replace ha1 := ha1.bl hn; replace ha2 := ha2.bl hn; replace hq1 := hq1.bl hn; replace hq2 := hq2.bl hn; replace x_b1 := x_b1.bl hn; replace x_b2 := x_b2.bl hn; replace b1 := b1.bl hn; replace b2 := b2.bl hn; replace x_b4 := x_b4.bl hn; replace e1 := e1.bl hn; replace e2 := e2.bl hn; replace x_b5 := x_b5.bl hn; replace g1 := g1.bl hn; replace g2 := g2.bl hn; replace x_b6 := x_b6.bl hn; replace j1 := j1.bl hn; replace j2 := j2.bl hn; replace x_b7 := x_b7.bl hn; replace r := r.bl hn; replace x_b8 := x_b8.bl hn; replace z9 := z9.bl hn; replace x_b9 := x_b9.bl hn; replace ee1 := ee1.bl hn; replace ee2 := ee2.bl hn; replace x_b10 := x_b10.bl hn; replace gg1 := gg1.bl hn; replace gg2 := gg2.bl hn; replace ii1 := ii1.bl hn; replace ii2 := ii2.bl hn; replace jj1 := jj1.bl hn; replace jj2 := jj2.bl hn; replace hb := hb.trans (hn.mono hb.size)
  clear hn; intro K hK
  go_big_op
  go_fit (gMul_any (PN.mk' (ii1.zn Lii1.out) (ii2.zn Lii2.out)) (PN.mk' (jj1.zn Ljj1.out) (jj2.zn Ljj2.out)) (by omega) (by omega) (by omega) (by omega) )
  rintro e w_72 ⟨_, rfl, ⟨n_kka, o_kka, k_kka, c_kka, n_kkb, o_kkb, k_kkb, c_kkb, rfl, kk1, kk2⟩, hb_72⟩
  replace ha1 := ha1.bl hb_72; replace ha2 := ha2.bl hb_72; replace hq1 := hq1.bl hb_72; replace hq2 := hq2.bl hb_72; replace x_b1 := x_b1.bl hb_72; replace x_b2 := x_b2.bl hb_72; replace b1 := b1.bl hb_72; replace b2 := b2.bl hb_72; replace x_b4 := x_b4.bl hb_72; replace e1 := e1.bl hb_72; replace e2 := e2.bl hb_72; replace x_b5 := x_b5.bl hb_72; replace g1 := g1.bl hb_72; replace g2 := g2.bl hb_72; replace x_b6 := x_b6.bl hb_72; replace j1 := j1.bl hb_72; replace j2 := j2.bl hb_72; replace x_b7 := x_b7.bl hb_72; replace r := r.bl hb_72; replace x_b8 := x_b8.bl hb_72; replace z9 := z9.bl hb_72; replace x_b9 := x_b9.bl hb_72; replace ee1 := ee1.bl hb_72; replace ee2 := ee2.bl hb_72; replace x_b10 := x_b10.bl hb_72; replace gg1 := gg1.bl hb_72; replace gg2 := gg2.bl hb_72; replace ii1 := ii1.bl hb_72; replace ii2 := ii2.bl hb_72; replace jj1 := jj1.bl hb_72; replace jj2 := jj2.bl hb_72; replace hb := hb.trans (hb_72.mono hb.size)
  have Lkk1 := hide (kk1.lenOf (zlen_sub (zlen_mul (Lii1.out) (Ljj1.out)) (zlen_mul (Lii2.out) (Ljj2.out))))
  have Lkk2 := hide (kk2.lenOf (zlen_add (zlen_mul (Lii1.out) (Ljj2.out)) (zlen_mul (Lii2.out) (Ljj1.out))))
  refine hK _ _ rfl hb_72 ⟨x_b4.cell 0 rfl, x_b4.cell 1 rfl, x_b4.cell 2 rfl, x_b4.cell 3 rfl, x_b5.cell 0 rfl, x_b5.cell 1 rfl, x_b5.cell 2 rfl, x_b5.cell 3 rfl, x_b6.cell 0 rfl, x_b6.cell 1 rfl, x_b6.cell 2 rfl, x_b6.cell 3 rfl, x_b7.cell 0 rfl, x_b7.cell 1 rfl, x_b7.cell 2 rfl, x_b7.cell 3 rfl, x_b8.cell 0 rfl, x_b8.cell 1 rfl, x_b9.cell 0 rfl, x_b9.cell 1 rfl, x_b1.cell 0 rfl, x_b1.cell 1 rfl, x_b1.cell 2 rfl, x_b1.cell 3 rfl, x_b2.cell 0 rfl, x_b2.cell 1 rfl, x_b2.cell 2 rfl, x_b2.cell 3 rfl, x_b10.cell 0 rfl, x_b10.cell 1 rfl, x_b10.cell 2 rfl, x_b10.cell 3 rfl⟩ ?_
  clear hK K hb_72
  refine wpFl_call rfl (by kernel_rfl) fun w_73 hn hC => ?_; clear hC
  clear ii1 ii2 jj1 jj2
  replace ha1 := ha1.bl hn; replace ha2 := ha2.bl hn; replace hq1 := hq1.bl hn; replace hq2 := hq2.bl hn; replace x_b1 := x_b1.bl hn; replace x_b2 := x_b2.bl hn; replace b1 := b1.bl hn; replace b2 := b2.bl hn; replace x_b4 := x_b4.bl hn; replace e1 := e1.bl hn; replace e2 := e2.bl hn; replace x_b5 := x_b5.bl hn; replace g1 := g1.bl hn; replace g2 := g2.bl hn; replace x_b6 := x_b6.bl hn; replace j1 := j1.bl hn; replace j2 := j2.bl hn; replace x_b7 := x_b7.bl hn; replace r := r.bl hn; replace x_b8 := x_b8.bl hn; replace z9 := z9.bl hn; replace x_b9 := x_b9.bl hn; replace ee1 := ee1.bl hn; replace ee2 := ee2.bl hn; replace x_b10 := x_b10.bl hn; replace gg1 := gg1.bl hn; replace gg2 := gg2.bl hn; replace kk1 := kk1.bl hn; replace kk2 := kk2.bl hn; replace hb := hb.trans (hn.mono hb.size)
  clear hn; intro K hK
  go_big_op
  go_fit (gis_any (PC.mk' gg1 gg2) (PN.mk' (kk1.zn Lkk1.out) (kk2.zn Lkk2.out)) (by omega) (by omega) )
  rintro e w_74 ⟨rfl, hb_74⟩
  replace ha1 := ha1.bl hb_74; replace ha2 := ha2.bl hb_74; replace hq1 := hq1.bl hb_74; replace hq2 := hq2.bl hb_74; replace x_b1 := x_b1.bl hb_74; replace x_b2 := x_b2.bl hb_74; replace b1 := b1.bl hb_74; replace b2 := b2.bl hb_74; replace x_b4 := x_b4.bl hb_74; replace e1 := e1.bl hb_74; replace e2 := e2.bl hb_74; replace x_b5 := x_b5.bl hb_74; replace g1 := g1.bl hb_74; replace g2 := g2.bl hb_74; replace x_b6 := x_b6.bl hb_74; replace j1 := j1.bl hb_74; replace j2 := j2.bl hb_74; replace x_b7 := x_b7.bl hb_74; replace r := r.bl hb_74; replace x_b8 := x_b8.bl hb_74; replace z9 := z9.bl hb_74; replace x_b9 := x_b9.bl hb_74; replace ee1 := ee1.bl hb_74; replace ee2 := ee2.bl hb_74; replace x_b10 := x_b10.bl hb_74; replace gg1 := gg1.bl hb_74; replace gg2 := gg2.bl hb_74; replace kk1 := kk1.bl hb_74; replace kk2 := kk2.bl hb_74; replace hb := hb.trans (hb_74.mono hb.size)
  refine hK _ _ rfl hb_74 ⟨x_b4.cell 0 rfl, x_b4.cell 1 rfl, x_b4.cell 2 rfl, x_b4.cell 3 rfl, x_b5.cell 0 rfl, x_b5.cell 1 rfl, x_b5.cell 2 rfl, x_b5.cell 3 rfl, x_b6.cell 0 rfl, x_b6.cell 1 rfl, x_b6.cell 2 rfl, x_b6.cell 3 rfl, x_b7.cell 0 rfl, x_b7.cell 1 rfl, x_b7.cell 2 rfl, x_b7.cell 3 rfl, x_b8.cell 0 rfl, x_b8.cell 1 rfl, x_b9.cell 0 rfl, x_b9.cell 1 rfl, x_b1.cell 0 rfl, x_b1.cell 1 rfl, x_b1.cell 2 rfl, x_b1.cell 3 rfl, x_b2.cell 0 rfl, x_b2.cell 1 rfl, x_b2.cell 2 rfl, x_b2.cell 3 rfl, x_b10.cell 0 rfl, x_b10.cell 1 rfl, x_b10.cell 2 rfl, x_b10.cell 3 rfl⟩ ?_
  clear hK K hb_74
  apply wpFl_ld rfl rfl; (case h1 => intro w' hC K hK; go_big_op; exact hK); iterate 4 kernel_rfl
  apply wpFl_ld rfl rfl; (case h1 => intro w' hC K hK; go_big_move; exact hK); iterate 4 kernel_rfl
  apply wpFl_ld rfl rfl; (case h1 => intro w' hC K hK; go_big_op; exact hK); iterate 4 kernel_rfl
  apply wpFl_ld rfl rfl; (case h1 => intro w' hC K hK; obtain ⟨c0, c1, c2, c3⟩ := hC; go_big_op; exact hK); iterate 4 kernel_rfl
  apply wpFl_ld rfl rfl; (case h1 => intro w' hC K hK; obtain ⟨c0, c1, c2, c3⟩ := hC; go_big_op; exact hK); iterate 4 kernel_rfl
  refine wpFl_call rfl (by kernel_rfl) fun w_75 hn hC => ?_; clear hC
  clear gg1 gg2 kk1 kk2
  replace ha1 := ha1.bl hn; replace ha2 := ha2.bl hn; replace hq1 := hq1.bl hn; replace hq2 := hq2.bl hn; replace x_b1 := x_b1.bl hn; replace x_b2 := x_b2.bl hn; replace b1 := b1.bl hn; replace b2 := b2.bl hn; replace x_b4 := x_b4.bl hn; replace e1 := e1.bl hn; replace e2 := e2.bl hn; replace x_b5 := x_b5.bl hn; replace g1 := g1.bl hn; replace g2 := g2.bl hn; replace x_b6 := x_b6.bl hn; replace j1 := j1.bl hn; replace j2 := j2.bl hn; replace x_b7 := x_b7.bl hn; replace r := r.bl hn; replace x_b8 := x_b8.bl hn; replace z9 := z9.bl hn; replace x_b9 := x_b9.bl hn; replace ee1 := ee1.bl hn; replace ee2 := ee2.bl hn; replace x_b10 := x_b10.bl hn; replace hb := hb.trans (hn.mono hb.size)
  clear hn; intro K hK
  go_big_op
  go_fit (gNorm_any (PN.mk' ha1 ha2) (by omega) (by omega) )
  rintro e w_76 ⟨v_mm, rfl, mm, hb_76⟩
  replace ha1 := ha1.bl hb_76; replace ha2 := ha2.bl hb_76; replace hq1 := hq1.bl hb_76; replace hq2 := hq2.bl hb_76; replace x_b1 := x_b1.bl hb_76; replace x_b2 := x_b2.bl hb_76; replace b1 := b1.bl hb_76; replace b2 := b2.bl hb_76; replace x_b4 := x_b4.bl hb_76; replace e1 := e1.bl hb_76; replace e2 := e2.bl hb_76; replace x_b5 := x_b5.bl hb_76; replace g1 := g1.bl hb_76; replace g2 := g2.bl hb_76; replace x_b6 := x_b6.bl hb_76; replace j1 := j1.bl hb_76; replace j2 := j2.bl hb_76; replace x_b7 := x_b7.bl hb_76; replace r := r.bl hb_76; replace x_b8 := x_b8.bl hb_76; replace z9 := z9.bl hb_76; replace x_b9 := x_b9.bl hb_76; replace ee1 := ee1.bl hb_76; replace ee2 := ee2.bl hb_76; replace x_b10 := x_b10.bl hb_76; replace hb := hb.trans (hb_76.mono hb.size)
  obtain ⟨n_mm, o_mm, k_mm, c_mm, rfl⟩ := mm.open2
  have Lmm := hide (mm.lenOf (zlen_add (zlen_mul (ha1.len) (ha1.len)) (zlen_mul (ha2.len) (ha2.len))))
  refine hK _ _ rfl hb_76 ⟨x_b4.cell 0 rfl, x_b4.cell 1 rfl, x_b4.cell 2 rfl, x_b4.cell 3 rfl, x_b5.cell 0 rfl, x_b5.cell 1 rfl, x_b5.cell 2 rfl, x_b5.cell 3 rfl, x_b6.cell 0 rfl, x_b6.cell 1 rfl, x_b6.cell 2 rfl, x_b6.cell 3 rfl, x_b7.cell 0 rfl, x_b7.cell 1 rfl, x_b7.cell 2 rfl, x_b7.cell 3 rfl, x_b8.cell 0 rfl, x_b8.cell 1 rfl, x_b9.cell 0 rfl, x_b9.cell 1 rfl, x_b1.cell 0 rfl, x_b1.cell 1 rfl, x_b1.cell 2 rfl, x_b1.cell 3 rfl, x_b2.cell 0 rfl, x_b2.cell 1 rfl, x_b2.cell 2 rfl, x_b2.cell 3 rfl, x_b10.cell 0 rfl, x_b10.cell 1 rfl, x_b10.cell 2 rfl, x_b10.cell 3 rfl⟩ ?_
  clear hK K hb_76
  refine wpFl_call rfl (by kernel_rfl) fun w_77 hn hC => ?_; clear hC
  replace ha1 := ha1.bl hn; replace ha2 := ha2.bl hn; replace hq1 := hq1.bl hn; replace hq2 := hq2.bl hn; replace x_b1 := x_b1.bl hn; replace x_b2 := x_b2.bl hn; replace b1 := b1.bl hn; replace b2 := b2.bl hn; replace x_b4 := x_b4.bl hn; replace e1 := e1.bl hn; replace e2 := e2.bl hn; replace x_b5 := x_b5.bl hn; replace g1 := g1.bl hn; replace g2 := g2.bl hn; replace x_b6 := x_b6.bl hn; replace j1 := j1.bl hn; replace j2 := j2.bl hn; replace x_b7 := x_b7.bl hn; replace r := r.bl hn; replace x_b8 := x_b8.bl hn; replace z9 := z9.bl hn; replace x_b9 := x_b9.bl hn; replace ee1 := ee1.bl hn; replace ee2 := ee2.bl hn; replace x_b10 := x_b10.bl hn; replace mm := mm.bl hn; replace hb := hb.trans (hn.mono hb.size)
  clear hn; intro K hK
  go_big_op
  go_fit (rsame_zz ee1 (mm.zn Lmm.out) (by omega) )
  rintro e w_78 ⟨rfl, hb_78⟩
  replace ha1 := ha1.bl hb_78; replace ha2 := ha2.bl hb_78; replace hq1 := hq1.bl hb_78; replace hq2 := hq2.bl hb_78; replace x_b1 := x_b1.bl hb_78; replace x_b2 := x_b2.bl hb_78; replace b1 := b1.bl hb_78; replace b2 := b2.bl hb_78; replace x_b4 := x_b4.bl hb_78; replace e1 := e1.bl hb_78; replace e2 := e2.bl hb_78; replace x_b5 := x_b5.bl hb_78; replace g1 := g1.bl hb_78; replace g2 := g2.bl hb_78; replace x_b6 := x_b6.bl hb_78; replace j1 := j1.bl hb_78; replace j2 := j2.bl hb_78; replace x_b7 := x_b7.bl hb_78; replace r := r.bl hb_78; replace x_b8 := x_b8.bl hb_78; replace z9 := z9.bl hb_78; replace x_b9 := x_b9.bl hb_78; replace ee1 := ee1.bl hb_78; replace ee2 := ee2.bl hb_78; replace x_b10 := x_b10.bl hb_78; replace mm := mm.bl hb_78; replace hb := hb.trans (hb_78.mono hb.size)
  refine hK _ _ rfl hb_78 ⟨x_b4.cell 0 rfl, x_b4.cell 1 rfl, x_b4.cell 2 rfl, x_b4.cell 3 rfl, x_b5.cell 0 rfl, x_b5.cell 1 rfl, x_b5.cell 2 rfl, x_b5.cell 3 rfl, x_b6.cell 0 rfl, x_b6.cell 1 rfl, x_b6.cell 2 rfl, x_b6.cell 3 rfl, x_b7.cell 0 rfl, x_b7.cell 1 rfl, x_b7.cell 2 rfl, x_b7.cell 3 rfl, x_b8.cell 0 rfl, x_b8.cell 1 rfl, x_b9.cell 0 rfl, x_b9.cell 1 rfl, x_b1.cell 0 rfl, x_b1.cell 1 rfl, x_b1.cell 2 rfl, x_b1.cell 3 rfl, x_b2.cell 0 rfl, x_b2.cell 1 rfl, x_b2.cell 2 rfl, x_b2.cell 3 rfl, x_b10.cell 0 rfl, x_b10.cell 1 rfl, x_b10.cell 2 rfl, x_b10.cell 3 rfl⟩ ?_
  clear hK K hb_78
  apply wpFl_ld rfl rfl; (case h1 => intro w' hC K hK; go_big_op; exact hK); iterate 4 kernel_rfl
  apply wpFl_ld rfl rfl; (case h1 => intro w' hC K hK; go_big_move; exact hK); iterate 4 kernel_rfl
  apply wpFl_ld rfl rfl; (case h1 => intro w' hC K hK; go_big_op; exact hK); iterate 4 kernel_rfl
  apply wpFl_ld rfl rfl; (case h1 => intro w' hC K hK; obtain ⟨c0, c1, c2, c3⟩ := hC; go_big_op; exact hK); iterate 4 kernel_rfl
  refine wpFl_call rfl (by kernel_rfl) fun w_79 hn hC => ?_; clear hC
  clear mm
  replace ha1 := ha1.bl hn; replace ha2 := ha2.bl hn; replace hq1 := hq1.bl hn; replace hq2 := hq2.bl hn; replace x_b1 := x_b1.bl hn; replace x_b2 := x_b2.bl hn; replace b1 := b1.bl hn; replace b2 := b2.bl hn; replace x_b4 := x_b4.bl hn; replace e1 := e1.bl hn; replace e2 := e2.bl hn; replace x_b5 := x_b5.bl hn; replace g1 := g1.bl hn; replace g2 := g2.bl hn; replace x_b6 := x_b6.bl hn; replace j1 := j1.bl hn; replace j2 := j2.bl hn; replace x_b7 := x_b7.bl hn; replace r := r.bl hn; replace x_b8 := x_b8.bl hn; replace z9 := z9.bl hn; replace x_b9 := x_b9.bl hn; replace ee1 := ee1.bl hn; replace ee2 := ee2.bl hn; replace x_b10 := x_b10.bl hn; replace hb := hb.trans (hn.mono hb.size)
  clear hn; intro K hK
  go_big_op
  go_fit (zsign_any (ee2.zn Lee2.out) (by omega) )
  rintro e w_80 ⟨rfl, hb_80⟩
  replace ha1 := ha1.bl hb_80; replace ha2 := ha2.bl hb_80; replace hq1 := hq1.bl hb_80; replace hq2 := hq2.bl hb_80; replace x_b1 := x_b1.bl hb_80; replace x_b2 := x_b2.bl hb_80; replace b1 := b1.bl hb_80; replace b2 := b2.bl hb_80; replace x_b4 := x_b4.bl hb_80; replace e1 := e1.bl hb_80; replace e2 := e2.bl hb_80; replace x_b5 := x_b5.bl hb_80; replace g1 := g1.bl hb_80; replace g2 := g2.bl hb_80; replace x_b6 := x_b6.bl hb_80; replace j1 := j1.bl hb_80; replace j2 := j2.bl hb_80; replace x_b7 := x_b7.bl hb_80; replace r := r.bl hb_80; replace x_b8 := x_b8.bl hb_80; replace z9 := z9.bl hb_80; replace x_b9 := x_b9.bl hb_80; replace ee1 := ee1.bl hb_80; replace ee2 := ee2.bl hb_80; replace x_b10 := x_b10.bl hb_80; replace hb := hb.trans (hb_80.mono hb.size)
  refine hK _ _ rfl hb_80 ⟨x_b4.cell 0 rfl, x_b4.cell 1 rfl, x_b4.cell 2 rfl, x_b4.cell 3 rfl, x_b5.cell 0 rfl, x_b5.cell 1 rfl, x_b5.cell 2 rfl, x_b5.cell 3 rfl, x_b6.cell 0 rfl, x_b6.cell 1 rfl, x_b6.cell 2 rfl, x_b6.cell 3 rfl, x_b7.cell 0 rfl, x_b7.cell 1 rfl, x_b7.cell 2 rfl, x_b7.cell 3 rfl, x_b8.cell 0 rfl, x_b8.cell 1 rfl, x_b9.cell 0 rfl, x_b9.cell 1 rfl, x_b1.cell 0 rfl, x_b1.cell 1 rfl, x_b1.cell 2 rfl, x_b1.cell 3 rfl, x_b2.cell 0 rfl, x_b2.cell 1 rfl, x_b2.cell 2 rfl, x_b2.cell 3 rfl, x_b10.cell 0 rfl, x_b10.cell 1 rfl, x_b10.cell 2 rfl, x_b10.cell 3 rfl⟩ ?_
  clear hK K hb_80
  apply wpFl_ld rfl rfl; (case h1 => intro w' hC K hK; go_big_op; exact hK); iterate 4 kernel_rfl
  apply wpFl_ld rfl rfl; (case h1 => intro w' hC K hK; go_big_op; exact hK); iterate 4 kernel_rfl
  apply wpFl_ld rfl rfl; (case h1 => intro w' hC K hK; go_big_move; exact hK); iterate 4 kernel_rfl
  apply wpFl_ld rfl rfl; (case h1 => intro w' hC K hK; obtain ⟨c0, c1, c2, c3⟩ := hC; go_big_op; exact hK); iterate 4 kernel_rfl
  apply wpFl_ld rfl rfl; (case h1 => intro w' hC K hK; obtain ⟨c0, c1, c2, c3⟩ := hC; go_big_op; exact hK); iterate 4 kernel_rfl
  apply wpFl_ld rfl rfl; (case h1 => intro w' hC K hK; obtain ⟨c0, c1, c2, c3⟩ := hC; go_big_op; exact hK); iterate 4 kernel_rfl
  apply wpFl_ld rfl rfl; (case h1 => intro w' hC K hK; obtain ⟨c0, c1, c2, c3⟩ := hC; go_big_op; exact hK); iterate 4 kernel_rfl
  refine wpFl_call rfl (by kernel_rfl) fun w_81 hn hC => ?_; clear hC
  replace ha1 := ha1.bl hn; replace ha2 := ha2.bl hn; replace hq1 := hq1.bl hn; replace hq2 := hq2.bl hn; replace x_b1 := x_b1.bl hn; replace x_b2 := x_b2.bl hn; replace b1 := b1.bl hn; replace b2 := b2.bl hn; replace x_b4 := x_b4.bl hn; replace e1 := e1.bl hn; replace e2 := e2.bl hn; replace x_b5 := x_b5.bl hn; replace g1 := g1.bl hn; replace g2 := g2.bl hn; replace x_b6 := x_b6.bl hn; replace j1 := j1.bl hn; replace j2 := j2.bl hn; replace x_b7 := x_b7.bl hn; replace r := r.bl hn; replace x_b8 := x_b8.bl hn; replace z9 := z9.bl hn; replace x_b9 := x_b9.bl hn; replace ee1 := ee1.bl hn; replace ee2 := ee2.bl hn; replace x_b10 := x_b10.bl hn; replace hb := hb.trans (hn.mono hb.size)
  clear hn; intro K hK
  go_big_op
  go_fit (gAdd_any (PN.mk' ha1 ha2) (PN.mk' hq1 hq2) (by omega) (by omega) (by omega) (by omega) )
  rintro e w_82 ⟨_, rfl, ⟨n_nna, o_nna, k_nna, c_nna, n_nnb, o_nnb, k_nnb, c_nnb, rfl, nn1, nn2⟩, hb_82⟩
  replace ha1 := ha1.bl hb_82; replace ha2 := ha2.bl hb_82; replace hq1 := hq1.bl hb_82; replace hq2 := hq2.bl hb_82; replace x_b1 := x_b1.bl hb_82; replace x_b2 := x_b2.bl hb_82; replace b1 := b1.bl hb_82; replace b2 := b2.bl hb_82; replace x_b4 := x_b4.bl hb_82; replace e1 := e1.bl hb_82; replace e2 := e2.bl hb_82; replace x_b5 := x_b5.bl hb_82; replace g1 := g1.bl hb_82; replace g2 := g2.bl hb_82; replace x_b6 := x_b6.bl hb_82; replace j1 := j1.bl hb_82; replace j2 := j2.bl hb_82; replace x_b7 := x_b7.bl hb_82; replace r := r.bl hb_82; replace x_b8 := x_b8.bl hb_82; replace z9 := z9.bl hb_82; replace x_b9 := x_b9.bl hb_82; replace ee1 := ee1.bl hb_82; replace ee2 := ee2.bl hb_82; replace x_b10 := x_b10.bl hb_82; replace hb := hb.trans (hb_82.mono hb.size)
  have Lnn1 := hide (nn1.lenOf (zlen_add (ha1.len) (hq1.len)))
  have Lnn2 := hide (nn2.lenOf (zlen_add (ha2.len) (hq2.len)))
  refine hK _ _ rfl hb_82 ⟨x_b4.cell 0 rfl, x_b4.cell 1 rfl, x_b4.cell 2 rfl, x_b4.cell 3 rfl, x_b5.cell 0 rfl, x_b5.cell 1 rfl, x_b5.cell 2 rfl, x_b5.cell 3 rfl, x_b6.cell 0 rfl, x_b6.cell 1 rfl, x_b6.cell 2 rfl, x_b6.cell 3 rfl, x_b7.cell 0 rfl, x_b7.cell 1 rfl, x_b7.cell 2 rfl, x_b7.cell 3 rfl, x_b8.cell 0 rfl, x_b8.cell 1 rfl, x_b9.cell 0 rfl, x_b9.cell 1 rfl, x_b1.cell 0 rfl, x_b1.cell 1 rfl, x_b1.cell 2 rfl, x_b1.cell 3 rfl, x_b2.cell 0 rfl, x_b2.cell 1 rfl, x_b2.cell 2 rfl, x_b2.cell 3 rfl, x_b10.cell 0 rfl, x_b10.cell 1 rfl, x_b10.cell 2 rfl, x_b10.cell 3 rfl⟩ ?_
  clear hK K hb_82
  refine wpFl_call rfl (by kernel_rfl) fun w_83 hn hC => ?_; clear hC
  replace ha1 := ha1.bl hn; replace ha2 := ha2.bl hn; replace hq1 := hq1.bl hn; replace hq2 := hq2.bl hn; replace x_b1 := x_b1.bl hn; replace x_b2 := x_b2.bl hn; replace b1 := b1.bl hn; replace b2 := b2.bl hn; replace x_b4 := x_b4.bl hn; replace e1 := e1.bl hn; replace e2 := e2.bl hn; replace x_b5 := x_b5.bl hn; replace g1 := g1.bl hn; replace g2 := g2.bl hn; replace x_b6 := x_b6.bl hn; replace j1 := j1.bl hn; replace j2 := j2.bl hn; replace x_b7 := x_b7.bl hn; replace r := r.bl hn; replace x_b8 := x_b8.bl hn; replace z9 := z9.bl hn; replace x_b9 := x_b9.bl hn; replace ee1 := ee1.bl hn; replace ee2 := ee2.bl hn; replace x_b10 := x_b10.bl hn; replace nn1 := nn1.bl hn; replace nn2 := nn2.bl hn; replace hb := hb.trans (hn.mono hb.size)
  clear hn; intro K hK
  go_big_op
  go_fit (gSub_any (PN.mk' (nn1.zn Lnn1.out) (nn2.zn Lnn2.out)) (PN.mk' hq1 hq2) (by omega) (by omega) (by omega) (by omega) )
  rintro e w_84 ⟨_, rfl, ⟨n_ooa, o_ooa, k_ooa, c_ooa, n_oob, o_oob, k_oob, c_oob, rfl, oo1, oo2⟩, hb_84⟩
  replace ha1 := ha1.bl hb_84; replace ha2 := ha2.bl hb_84; replace hq1 := hq1.bl hb_84; replace hq2 := hq2.bl hb_84; replace x_b1 := x_b1.bl hb_84; replace x_b2 := x_b2.bl hb_84; replace b1 := b1.bl hb_84; replace b2 := b2.bl hb_84; replace x_b4 := x_b4.bl hb_84; replace e1 := e1.bl hb_84; replace e2 := e2.bl hb_84; replace x_b5 := x_b5.bl hb_84; replace g1 := g1.bl hb_84; replace g2 := g2.bl hb_84; replace x_b6 := x_b6.bl hb_84; replace j1 := j1.bl hb_84; replace j2 := j2.bl hb_84; replace x_b7 := x_b7.bl hb_84; replace r := r.bl hb_84; replace x_b8 := x_b8.bl hb_84; replace z9 := z9.bl hb_84; replace x_b9 := x_b9.bl hb_84; replace ee1 := ee1.bl hb_84; replace ee2 := ee2.bl hb_84; replace x_b10 := x_b10.bl hb_84; replace nn1 := nn1.bl hb_84; replace nn2 := nn2.bl hb_84; replace hb := hb.trans (hb_84.mono hb.size)
  have Loo1 := hide (oo1.lenOf (zlen_sub (Lnn1.out) (hq1.len)))
  have Loo2 := hide (oo2.lenOf (zlen_sub (Lnn2.out) (hq2.len)))
  rw [E6.out.1] at oo1
  rw [E6.out.2] at oo2
  refine hK _ _ rfl hb_84 ⟨x_b4.cell 0 rfl, x_b4.cell 1 rfl, x_b4.cell 2 rfl, x_b4.cell 3 rfl, x_b5.cell 0 rfl, x_b5.cell 1 rfl, x_b5.cell 2 rfl, x_b5.cell 3 rfl, x_b6.cell 0 rfl, x_b6.cell 1 rfl, x_b6.cell 2 rfl, x_b6.cell 3 rfl, x_b7.cell 0 rfl, x_b7.cell 1 rfl, x_b7.cell 2 rfl, x_b7.cell 3 rfl, x_b8.cell 0 rfl, x_b8.cell 1 rfl, x_b9.cell 0 rfl, x_b9.cell 1 rfl, x_b1.cell 0 rfl, x_b1.cell 1 rfl, x_b1.cell 2 rfl, x_b1.cell 3 rfl, x_b2.cell 0 rfl, x_b2.cell 1 rfl, x_b2.cell 2 rfl, x_b2.cell 3 rfl, x_b10.cell 0 rfl, x_b10.cell 1 rfl, x_b10.cell 2 rfl, x_b10.cell 3 rfl⟩ ?_
  clear hK K hb_84
  refine wpFl_call rfl (by kernel_rfl) fun w_85 hn hC => ?_; clear hC
  clear nn1 nn2
  replace ha1 := ha1.bl hn; replace ha2 := ha2.bl hn; replace hq1 := hq1.bl hn; replace hq2 := hq2.bl hn; replace x_b1 := x_b1.bl hn; replace x_b2 := x_b2.bl hn; replace b1 := b1.bl hn; replace b2 := b2.bl hn; replace x_b4 := x_b4.bl hn; replace e1 := e1.bl hn; replace e2 := e2.bl hn; replace x_b5 := x_b5.bl hn; replace g1 := g1.bl hn; replace g2 := g2.bl hn; replace x_b6 := x_b6.bl hn; replace j1 := j1.bl hn; replace j2 := j2.bl hn; replace x_b7 := x_b7.bl hn; replace r := r.bl hn; replace x_b8 := x_b8.bl hn; replace z9 := z9.bl hn; replace x_b9 := x_b9.bl hn; replace ee1 := ee1.bl hn; replace ee2 := ee2.bl hn; replace x_b10 := x_b10.bl hn; replace oo1 := oo1.bl hn; replace oo2 := oo2.bl hn; replace hb := hb.trans (hn.mono hb.size)
  clear hn; intro K hK
  go_big_op
  go_fit (gFrom_any 0 0 _ (by decide) (by decide) (by decide) (by decide))
  rintro e w_86 ⟨_, rfl, ⟨n_ppa, o_ppa, k_ppa, c_ppa, n_ppb, o_ppb, k_ppb, c_ppb, rfl, pp1, pp2⟩, hb_86⟩
  replace ha1 := ha1.bl hb_86; replace ha2 := ha2.bl hb_86; replace hq1 := hq1.bl hb_86; replace hq2 := hq2.bl hb_86; replace x_b1 := x_b1.bl hb_86; replace x_b2 := x_b2.bl hb_86; replace b1 := b1.bl hb_86; replace b2 := b2.bl hb_86; replace x_b4 := x_b4.bl hb_86; replace e1 := e1.bl hb_86; replace e2 := e2.bl hb_86; replace x_b5 := x_b5.bl hb_86; replace g1 := g1.bl hb_86; replace g2 := g2.bl hb_86; replace x_b6 := x_b6.bl hb_86; replace j1 := j1.bl hb_86; replace j2 := j2.bl hb_86; replace x_b7 := x_b7.bl hb_86; replace r := r.bl hb_86; replace x_b8 := x_b8.bl hb_86; replace z9 := z9.bl hb_86; replace x_b9 := x_b9.bl hb_86; replace ee1 := ee1.bl hb_86; replace ee2 := ee2.bl hb_86; replace x_b10 := x_b10.bl hb_86; replace oo1 := oo1.bl hb_86; replace oo2 := oo2.bl hb_86; replace hb := hb.trans (hb_86.mono hb.size)
  have Lpp1 := hide (pp1.lenOf (zlen_0))
  have Lpp2 := hide (pp2.lenOf (zlen_0))
  refine hK _ _ rfl hb_86 ⟨x_b4.cell 0 rfl, x_b4.cell 1 rfl, x_b4.cell 2 rfl, x_b4.cell 3 rfl, x_b5.cell 0 rfl, x_b5.cell 1 rfl, x_b5.cell 2 rfl, x_b5.cell 3 rfl, x_b6.cell 0 rfl, x_b6.cell 1 rfl, x_b6.cell 2 rfl, x_b6.cell 3 rfl, x_b7.cell 0 rfl, x_b7.cell 1 rfl, x_b7.cell 2 rfl, x_b7.cell 3 rfl, x_b8.cell 0 rfl, x_b8.cell 1 rfl, x_b9.cell 0 rfl, x_b9.cell 1 rfl, x_b1.cell 0 rfl, x_b1.cell 1 rfl, x_b1.cell 2 rfl, x_b1.cell 3 rfl, x_b2.cell 0 rfl, x_b2.cell 1 rfl, x_b2.cell 2 rfl, x_b2.cell 3 rfl, x_b10.cell 0 rfl, x_b10.cell 1 rfl, x_b10.cell 2 rfl, x_b10.cell 3 rfl⟩ ?_
  clear hK K hb_86
  refine wpFl_call rfl (by kernel_rfl) fun w_87 hn hC => ?_; clear hC
  replace ha1 := ha1.bl hn; replace ha2 := ha2.bl hn; replace hq1 := hq1.bl hn; replace hq2 := hq2.bl hn; replace x_b1 := x_b1.bl hn; replace x_b2 := x_b2.bl hn; replace b1 := b1.bl hn; replace b2 := b2.bl hn; replace x_b4 := x_b4.bl hn; replace e1 := e1.bl hn; replace e2 := e2.bl hn; replace x_b5 := x_b5.bl hn; replace g1 := g1.bl hn; replace g2 := g2.bl hn; replace x_b6 := x_b6.bl hn; replace j1 := j1.bl hn; replace j2 := j2.bl hn; replace x_b7 := x_b7.bl hn; replace r := r.bl hn; replace x_b8 := x_b8.bl hn; replace z9 := z9.bl hn; replace x_b9 := x_b9.bl hn; replace ee1 := ee1.bl hn; replace ee2 := ee2.bl hn; replace x_b10 := x_b10.bl hn; replace oo1 := oo1.bl hn; replace oo2 := oo2.bl hn; replace pp1 := pp1.bl hn; replace pp2 := pp2.bl hn; replace hb := hb.trans (hn.mono hb.size)
  clear hn; intro K hK
  go_big_op
  go_fit (gAdd_any (PN.mk' ha1 ha2) (PN.mk' (pp1.zn Lpp1.out) (pp2.zn Lpp2.out)) (by omega) (by omega) (by omega) (by omega) )
  rintro e w_88 ⟨_, rfl, ⟨n_qqa, o_qqa, k_qqa, c_qqa, n_qqb, o_qqb, k_qqb, c_qqb, rfl, qq1, qq2⟩, hb_88⟩
  replace ha1 := ha1.bl hb_88; replace ha2 := ha2.bl hb_88; replace hq1 := hq1.bl hb_88; replace hq2 := hq2.bl hb_88; replace x_b1 := x_b1.bl hb_88; replace x_b2 := x_b2.bl hb_88; replace b1 := b1.bl hb_88; replace b2 := b2.bl hb_88; replace x_b4 := x_b4.bl hb_88; replace e1 := e1.bl hb_88; replace e2 := e2.bl hb_88; replace x_b5 := x_b5.bl hb_88; replace g1 := g1.bl hb_88; replace g2 := g2.bl hb_88; replace x_b6 := x_b6.bl hb_88; replace j1 := j1.bl hb_88; replace j2 := j2.bl hb_88; replace x_b7 := x_b7.bl hb_88; replace r := r.bl hb_88; replace x_b8 := x_b8.bl hb_88; replace z9 := z9.bl hb_88; replace x_b9 := x_b9.bl hb_88; replace ee1 := ee1.bl hb_88; replace ee2 := ee2.bl hb_88; replace x_b10 := x_b10.bl hb_88; replace oo1 := oo1.bl hb_88; replace oo2 := oo2.bl hb_88; replace pp1 := pp1.bl hb_88; replace pp2 := pp2.bl hb_88; replace hb := hb.trans (hb_88.mono hb.size)
  have Lqq1 := hide (qq1.lenOf (zlen_add (ha1.len) (Lpp1.out)))
  have Lqq2 := hide (qq2.lenOf (zlen_add (ha2.len) (Lpp2.out)))
  refine hK _ _ rfl hb_88 ⟨x_b4.cell 0 rfl, x_b4.cell 1 rfl, x_b4.cell 2 rfl, x_b4.cell 3 rfl, x_b5.cell 0 rfl, x_b5.cell 1 rfl, x_b5.cell 2 rfl, x_b5.cell 3 rfl, x_b6.cell 0 rfl, x_b6.cell 1 rfl, x_b6.cell 2 rfl, x_b6.cell 3 rfl, x_b7.cell 0 rfl, x_b7.cell 1 rfl, x_b7.cell 2 rfl, x_b7.cell 3 rfl, x_b8.cell 0 rfl, x_b8.cell 1 rfl, x_b9.cell 0 rfl, x_b9.cell 1 rfl, x_b1.cell 0 rfl, x_b1.cell 1 rfl, x_b1.cell 2 rfl, x_b1.cell 3 rfl, x_b2.cell 0 rfl, x_b2.cell 1 rfl, x_b2.cell 2 rfl, x_b2.cell 3 rfl, x_b10.cell 0 rfl, x_b10.cell 1 rfl, x_b10.cell 2 rfl, x_b10.cell 3 rfl⟩ ?_
  clear hK K hb_88
  refine wpFl_call rfl (by kernel_rfl) fun w_89 hn hC => ?_; clear hC
  clear pp1 pp2
  replace ha1 := ha1.bl hn; replace ha2 := ha2.bl hn; replace hq1 := hq1.bl hn; replace hq2 := hq2.bl hn; replace x_b1 := x_b1.bl hn; replace x_b2 := x_b2.bl hn; replace b1 := b1.bl hn; replace b2 := b2.bl hn; replace x_b4 := x_b4.bl hn; replace e1 := e1.bl hn; replace e2 := e2.bl hn; replace x_b5 := x_b5.bl hn; replace g1 := g1.bl hn; replace g2 := g2.bl hn; replace x_b6 := x_b6.bl hn; replace j1 := j1.bl hn; replace j2 := j2.bl hn; replace x_b7 := x_b7.bl hn; replace r := r.bl hn; replace x_b8 := x_b8.bl hn; replace z9 := z9.bl hn; replace x_b9 := x_b9.bl hn; replace ee1 := ee1.bl hn; replace ee2 := ee2.bl hn; replace x_b10 := x_b10.bl hn; replace oo1 := oo1.bl hn; replace oo2 := oo2.bl hn; replace qq1 := qq1.bl hn; replace qq2 := qq2.bl hn; replace hb := hb.trans (hn.mono hb.size)
  clear hn; intro K hK
  go_big_op
  go_fit (gis_any (PC.mk' oo1 oo2) (PN.mk' (qq1.zn Lqq1.out) (qq2.zn Lqq2.out)) (by omega) (by omega) )
  rintro e w_90 ⟨rfl, hb_90⟩
  replace ha1 := ha1.bl hb_90; replace ha2 := ha2.bl hb_90; replace hq1 := hq1.bl hb_90; replace hq2 := hq2.bl hb_90; replace x_b1 := x_b1.bl hb_90; replace x_b2 := x_b2.bl hb_90; replace b1 := b1.bl hb_90; replace b2 := b2.bl hb_90; replace x_b4 := x_b4.bl hb_90; replace e1 := e1.bl hb_90; replace e2 := e2.bl hb_90; replace x_b5 := x_b5.bl hb_90; replace g1 := g1.bl hb_90; replace g2 := g2.bl hb_90; replace x_b6 := x_b6.bl hb_90; replace j1 := j1.bl hb_90; replace j2 := j2.bl hb_90; replace x_b7 := x_b7.bl hb_90; replace r := r.bl hb_90; replace x_b8 := x_b8.bl hb_90; replace z9 := z9.bl hb_90; replace x_b9 := x_b9.bl hb_90; replace ee1 := ee1.bl hb_90; replace ee2 := ee2.bl hb_90; replace x_b10 := x_b10.bl hb_90; replace oo1 := oo1.bl hb_90; replace oo2 := oo2.bl hb_90; replace qq1 := qq1.bl hb_90; replace qq2 := qq2.bl hb_90; replace hb := hb.trans (hb_90.mono hb.size)
  refine hK _ _ rfl hb_90 ⟨x_b4.cell 0 rfl, x_b4.cell 1 rfl, x_b4.cell 2 rfl, x_b4.cell 3 rfl, x_b5.cell 0 rfl, x_b5.cell 1 rfl, x_b5.cell 2 rfl, x_b5.cell 3 rfl, x_b6.cell 0 rfl, x_b6.cell 1 rfl, x_b6.cell 2 rfl, x_b6.cell 3 rfl, x_b7.cell 0 rfl, x_b7.cell 1 rfl, x_b7.cell 2 rfl, x_b7.cell 3 rfl, x_b8.cell 0 rfl, x_b8.cell 1 rfl, x_b9.cell 0 rfl, x_b9.cell 1 rfl, x_b1.cell 0 rfl, x_b1.cell 1 rfl, x_b1.cell 2 rfl, x_b1.cell 3 rfl, x_b2.cell 0 rfl, x_b2.cell 1 rfl, x_b2.cell 2 rfl, x_b2.cell 3 rfl, x_b10.cell 0 rfl, x_b10.cell 1 rfl, x_b10.cell 2 rfl, x_b10.cell 3 rfl⟩ ?_
  clear hK K hb_90
  apply wpFl_ld rfl rfl; (case h1 => intro w' hC K hK; go_big_op; exact hK); iterate 4 kernel_rfl
  apply wpFl_ld rfl rfl; (case h1 => intro w' hC K hK; go_big_move; exact hK); iterate 4 kernel_rfl
  apply wpFl_end
  case ha => intro pt; simp only [putF]; rfl
  case h =>
  intro w_91 pt hn hC hF hD
  clear hC
  clear oo1 oo2 qq1 qq2
  replace ha1 := ha1.bl hn; replace ha2 := ha2.bl hn; replace hq1 := hq1.bl hn; replace hq2 := hq2.bl hn; replace x_b1 := x_b1.bl hn; replace x_b2 := x_b2.bl hn; replace b1 := b1.bl hn; replace b2 := b2.bl hn; replace x_b4 := x_b4.bl hn; replace e1 := e1.bl hn; replace e2 := e2.bl hn; replace x_b5 := x_b5.bl hn; replace g1 := g1.bl hn; replace g2 := g2.bl hn; replace x_b6 := x_b6.bl hn; replace j1 := j1.bl hn; replace j2 := j2.bl hn; replace x_b7 := x_b7.bl hn; replace r := r.bl hn; replace x_b8 := x_b8.bl hn; replace z9 := z9.bl hn; replace x_b9 := x_b9.bl hn; replace ee1 := ee1.bl hn; replace ee2 := ee2.bl hn; replace x_b10 := x_b10.bl hn; replace hb := hb.trans (hn.mono hb.size)
  clear hn
  clear hF hD
  clear pt
  clear kb0 lt_b1 lt_b2 lt_b4 lt_b5 lt_b6 lt_b7 lt_b8 lt_b9 lt_b10
  apply wpTail_end
  refine hK9 _ _ ?_
  refine wp_ret ?_
  try dsimp only [Exit.then, Exit.inBlock]
  refine bodyPost_ret (v := (.bool true)) (by simp [results, Tryd.results6, go_sem]) rfl ?_
  exact ⟨rfl, hb⟩
end
theorem walk_GintRing (w : World) (n1 : Bool) (s1 : Value) (xs : List Nat) (h1 : Rd w s1 xs) (l1 : xs.length ≤ 1048576) (n2 : Bool) (s2 : Value) (ys : List Nat) (h2 : Rd w s2 ys) (l2 : ys.length ≤ 1048576)
    (n3 : Bool) (s3 : Value) (us : List Nat) (h3 : Rd w s3 us) (l3 : us.length ≤ 1048576) (n4 : Bool) (s4 : Value) (vs : List Nat) (h4 : Rd w s4 vs) (l4 : vs.length ≤ 1048576)
    (n5 : Bool) (s5 : Value) (ps : List Nat) (h5 : Rd w s5 ps) (l5 : ps.length ≤ 1048576) (n6 : Bool) (s6 : Value) (qs : List Nat) (h6 : Rd w s6 qs) (l6 : qs.length ≤ 1048576) (htab : Lib.TabIs Tryd.prog w p10 .u64 Lib.pow10Tab) :
    Calls Tryd.prog 6 #[.agg #[.bool n1, s1, .bool n2, s2], .agg #[.bool n3, s3, .bool n4, s4], .agg #[.bool n5, s5, .bool n6, s6]] w fun e w' => e = .returned (.bool true) ∧ Below w.heap.size w w' := by
  have ha := PN.of_rd n1 n2 h1 l1 h2 l2
  have hq := PN.of_rd n3 n4 h3 l3 h4 l4
  have hc := PN.of_rd n5 n6 h5 l5 h6 l6
  have r := Nat.le_refl 1048576
  exact gring_walk ha hq hc r r r r r r htab
end Go.Proofs.YtgjainmfilkjmaaDoor

