/- GintCanons: the law's walk. -/
import Derived.Test.YtgjainmfilkjmaaDoorG8
namespace Go.Proofs.YtgjainmfilkjmaaDoor
open Go Go.RowKit Dig
set_option linter.unusedVariables false

section
variable {w : World} {va vb vc : Value} {x y u v p q : Int} {l m k n s t : Nat}
set_option maxHeartbeats 8000000 in
set_option maxRecDepth 20000 in
theorem gcanons_walk (kk : Int) (ha : PN w va x l y m) (hl : l ≤ 1048576) (hm : m ≤ 1048576) (htab : Lib.TabIs Tryd.prog w p10 .u64 Lib.pow10Tab) :
    Calls Tryd.prog 4 #[va, .int .i64 kk] w fun e w' => e = .returned (.bool true) ∧ Below w.heap.size w w' := by
  have htabs := Lib.tabBelow_of_tabIs htab
  have hr : (kk % 4).toNat < 4 := by omega
  have hback := turn_back x y _ hr
  have LT := hide (zlen_turn ha.len1 ha.len2 (kk % 4).toNat)
  have LK := hide (zlen_turn ha.len1 ha.len2 (kq x y))
  have HM := hide (kq_mod x y)
  obtain ⟨R1, hR1⟩ : ∃ R, (turn (kk % 4).toNat (x, y)).1 = R := ⟨_, rfl⟩
  obtain ⟨R2, hR2⟩ : ∃ R, (turn (kk % 4).toNat (x, y)).2 = R := ⟨_, rfl⟩
  have ht : turn (kk % 4).toNat (x, y) = (R1, R2) := by rw [← hR1, ← hR2]
  rw [hR1, hR2, ht] at hback
  obtain ⟨C, hC⟩ : ∃ C, gcmp x y R1 R2 = C := ⟨_, rfl⟩
  have HC := hide hC
  have d3 : (C == C) = true := by simp
  have HT := hide (And.intro hR1 hR2)
  rw [hR1, hR2] at LT
  have LJ := hide (zlen_turn LT.out.1 LT.out.2 (kq R1 R2))
  have HB := hide hback
  obtain ⟨J, hJ⟩ : ∃ J : Nat, kq x y = J := ⟨_, rfl⟩
  rw [hJ] at LK HM HB
  have HJ := hide hJ
  have d4 : ((J : Int) == (J : Int)) = true := by simp
  clear hback hR1 hR2 ht hC hr hJ
  obtain ⟨n_0a, o_0a, k_0a, c_0a, n_0b, o_0b, k_0b, c_0b, rfl, ha1, ha2⟩ := ha
  go_enter Tryd.func4, Tryd.ntmps4
  have hb := Below.refl w.heap.size w
  refine wp_seq_k ?_
  intro K1 hK1
  refine wp_region_sq [0, 1] (by kernel_rfl) ?_
  refine wpSq_call rfl (by kernel_rfl) fun K hK => ?_
  go_big_op
  obtain ⟨p_b1, w_1, eP, eW, x_b1, hn, kb_b1⟩ := newBox w #[.bool n_0a, .slice o_0a k_0a c_0a, .bool n_0b, .slice o_0b k_0b c_0b] 26 hb.size
  rw [eW, eP]
  clear eW eP
  replace ha1 := ha1.bl hn; replace ha2 := ha2.bl hn; replace hb := hb.trans (hn.mono hb.size)
  refine hK _ _ rfl ?_; clear hK K hn
  refine wpSq_call rfl (by kernel_rfl) fun K hK => ?_
  go_big_move; refine hK _ _ rfl ?_; clear hK K
  apply wpSq_end
  refine hK1 _ _ ?_
  refine wp_seq_k ?_
  intro K2 hK2
  refine wp_region_sq [0, 1, 2, 3, 4, 5, 6, 7] (by kernel_rfl) ?_
  refine wpSq_call rfl (by kernel_rfl) fun K hK => ?_
  obtain ⟨d0, d1, d2, d3⟩ := x_b1.f4
  go_big_op; refine hK _ _ rfl ?_; clear hK K d0 d1 d2 d3
  refine wpSq_call rfl (by kernel_rfl) fun K hK => ?_
  go_big_op
  go_fit (gCanon_any (PN.mk' ha1 ha2) (by omega) (by omega))
  rintro e w_2 ⟨_, rfl, ⟨n_aa, o_aa, k_aa, c_aa, n_ab, o_ab, k_ab, c_ab, rfl, a1, a2⟩, hb_2⟩
  replace ha1 := ha1.bl hb_2; replace ha2 := ha2.bl hb_2; replace x_b1 := x_b1.bl hb_2; replace hb := hb.trans (hb_2.mono hb.size)
  rw [HJ.out] at a1 a2 ⊢
  refine hK _ _ rfl ?_
  clear hK K hb_2
  refine wpSq_call rfl (by kernel_rfl) fun K hK => ?_
  go_big_move; refine hK _ _ rfl ?_; clear hK K
  refine wpSq_call rfl (by kernel_rfl) fun K hK => ?_
  go_big_op; refine hK _ _ rfl ?_; clear hK K
  refine wpSq_call rfl (by kernel_rfl) fun K hK => ?_
  go_big_op; refine hK _ _ rfl ?_; clear hK K
  refine wpSq_call rfl (by kernel_rfl) fun K hK => ?_
  go_big_op
  have lt_b1 := x_b1.lt
  obtain ⟨p_b2, w_3, eP, eW, x_b2, hn, kb_b2⟩ := newBox w_2 #[.bool false, .slice none 0 0, .bool false, .slice none 0 0] 26 hb.size
  have ne_b1_b2 : Hid (p_b1 ≠ p_b2) := Nat.ne_of_lt (eP ▸ lt_b1)
  rw [eW, eP]
  clear eW eP lt_b1
  replace ha1 := ha1.bl hn; replace ha2 := ha2.bl hn; replace x_b1 := x_b1.bl hn; replace a1 := a1.bl hn; replace a2 := a2.bl hn; replace hb := hb.trans (hn.mono hb.size)
  refine hK _ _ rfl ?_; clear hK K hn
  refine wpSq_call rfl (by kernel_rfl) fun K hK => ?_
  obtain ⟨d0, d1, d2, d3⟩ := x_b2.f4
  have f0 := x_b2.free 0; have f1 := x_b2.free 1; have f2 := x_b2.free 2; have f3 := x_b2.free 3
  go_big_op
  have hnd := x_b2.nod rfl rfl
  obtain ⟨w_4, eW, x_b2', ho⟩ : ∃ w', ((((w_3.setCell ⟨p_b2, 0, none⟩ (.bool n_aa)).setCell ⟨p_b2, 1, none⟩ (.slice o_aa k_aa c_aa)).setCell ⟨p_b2, 2, none⟩ (.bool n_ab)).setCell ⟨p_b2, 3, none⟩ (.slice o_ab k_ab c_ab)) = w' ∧ Bs w' p_b2 #[.bool n_aa, .slice o_aa k_aa c_aa, .bool n_ab, .slice o_ab k_ab c_ab] 26 ∧ Only p_b2 w_3 w' := x_b2.setN [(0, .bool n_aa), (1, .slice o_aa k_aa c_aa), (2, .bool n_ab), (3, .slice o_ab k_ab c_ab)]
  rw [eW]; clear eW d0 d1 d2 d3 f0 f1 f2 f3 x_b2
  have x_b2 := x_b2'; clear x_b2'
  replace ha1 := ha1.fr hnd ho; replace ha2 := ha2.fr hnd ho; replace x_b1 := x_b1.frame ho ne_b1_b2; replace a1 := a1.fr hnd ho; replace a2 := a2.fr hnd ho; replace hb := belowOnly hb ho kb_b2
  refine hK _ _ rfl ?_; clear hK K ho hnd
  refine wpSq_call rfl (by kernel_rfl) fun K hK => ?_
  go_big_move; refine hK _ _ rfl ?_; clear hK K
  apply wpSq_end
  refine hK2 _ _ ?_
  refine wp_seq_k ?_
  intro K3 hK3
  refine wp_region_sq [0, 1, 2, 3, 4, 5, 6, 7] (by kernel_rfl) ?_
  refine wpSq_call rfl (by kernel_rfl) fun K hK => ?_
  obtain ⟨d0, d1, d2, d3⟩ := x_b1.f4
  go_big_op; refine hK _ _ rfl ?_; clear hK K d0 d1 d2 d3
  have La1 := hide (a1.lenOf (LK.out.1))
  have La2 := hide (a2.lenOf (LK.out.2))
  refine wpSq_call rfl (by kernel_rfl) fun K hK => ?_
  go_big_op
  go_fit (rgCanon_any (PN.mk' ha1 ha2) (by omega) (by omega))
  rintro e w_5 ⟨_, rfl, ⟨n_ba, o_ba, k_ba, c_ba, n_bb, o_bb, k_bb, c_bb, rfl, b1, b2⟩, hb_5⟩
  replace ha1 := ha1.bl hb_5; replace ha2 := ha2.bl hb_5; replace x_b1 := x_b1.bl hb_5; replace a1 := a1.bl hb_5; replace a2 := a2.bl hb_5; replace x_b2 := x_b2.bl hb_5; replace hb := hb.trans (hb_5.mono hb.size)
  rw [HJ.out] at b1 b2 ⊢
  refine hK _ _ rfl ?_
  clear hK K hb_5
  refine wpSq_call rfl (by kernel_rfl) fun K hK => ?_
  go_big_move; refine hK _ _ rfl ?_; clear hK K
  refine wpSq_call rfl (by kernel_rfl) fun K hK => ?_
  go_big_op; refine hK _ _ rfl ?_; clear hK K
  refine wpSq_call rfl (by kernel_rfl) fun K hK => ?_
  go_big_op; refine hK _ _ rfl ?_; clear hK K
  refine wpSq_call rfl (by kernel_rfl) fun K hK => ?_
  go_big_op
  have lt_b1 := x_b1.lt
  have lt_b2 := x_b2.lt
  obtain ⟨p_b3, w_6, eP, eW, x_b3, hn, kb_b3⟩ := newBox w_5 #[.bool false, .slice none 0 0, .bool false, .slice none 0 0] 26 hb.size
  have ne_b1_b3 : Hid (p_b1 ≠ p_b3) := Nat.ne_of_lt (eP ▸ lt_b1)
  have ne_b2_b3 : Hid (p_b2 ≠ p_b3) := Nat.ne_of_lt (eP ▸ lt_b2)
  rw [eW, eP]
  clear eW eP lt_b1 lt_b2
  replace ha1 := ha1.bl hn; replace ha2 := ha2.bl hn; replace x_b1 := x_b1.bl hn; replace a1 := a1.bl hn; replace a2 := a2.bl hn; replace x_b2 := x_b2.bl hn; replace b1 := b1.bl hn; replace b2 := b2.bl hn; replace hb := hb.trans (hn.mono hb.size)
  refine hK _ _ rfl ?_; clear hK K hn
  refine wpSq_call rfl (by kernel_rfl) fun K hK => ?_
  obtain ⟨d0, d1, d2, d3⟩ := x_b3.f4
  have f0 := x_b3.free 0; have f1 := x_b3.free 1; have f2 := x_b3.free 2; have f3 := x_b3.free 3
  go_big_op
  have hnd := x_b3.nod rfl rfl
  obtain ⟨w_7, eW, x_b3', ho⟩ : ∃ w', ((((w_6.setCell ⟨p_b3, 0, none⟩ (.bool n_ba)).setCell ⟨p_b3, 1, none⟩ (.slice o_ba k_ba c_ba)).setCell ⟨p_b3, 2, none⟩ (.bool n_bb)).setCell ⟨p_b3, 3, none⟩ (.slice o_bb k_bb c_bb)) = w' ∧ Bs w' p_b3 #[.bool n_ba, .slice o_ba k_ba c_ba, .bool n_bb, .slice o_bb k_bb c_bb] 26 ∧ Only p_b3 w_6 w' := x_b3.setN [(0, .bool n_ba), (1, .slice o_ba k_ba c_ba), (2, .bool n_bb), (3, .slice o_bb k_bb c_bb)]
  rw [eW]; clear eW d0 d1 d2 d3 f0 f1 f2 f3 x_b3
  have x_b3 := x_b3'; clear x_b3'
  replace ha1 := ha1.fr hnd ho; replace ha2 := ha2.fr hnd ho; replace x_b1 := x_b1.frame ho ne_b1_b3; replace a1 := a1.fr hnd ho; replace a2 := a2.fr hnd ho; replace x_b2 := x_b2.frame ho ne_b2_b3; replace b1 := b1.fr hnd ho; replace b2 := b2.fr hnd ho; replace hb := belowOnly hb ho kb_b3
  refine hK _ _ rfl ?_; clear hK K ho hnd
  refine wpSq_call rfl (by kernel_rfl) fun K hK => ?_
  go_big_move; refine hK _ _ rfl ?_; clear hK K
  apply wpSq_end
  refine hK3 _ _ ?_
  refine wp_seq_k ?_
  intro K4 hK4
  refine wp_region_sq [0, 1, 2, 3, 4, 5, 6, 7, 8, 9] (by kernel_rfl) ?_
  refine wpSq_call rfl (by kernel_rfl) fun K hK => ?_
  obtain ⟨d0, d1, d2, d3⟩ := x_b1.f4
  go_big_op; refine hK _ _ rfl ?_; clear hK K d0 d1 d2 d3
  refine wpSq_call rfl (by kernel_rfl) fun K hK => ?_
  go_big_move; refine hK _ _ rfl ?_; clear hK K
  have Lb1 := hide (b1.lenOf (LK.out.1))
  have Lb2 := hide (b2.lenOf (LK.out.2))
  refine wpSq_call rfl (by kernel_rfl) fun K hK => ?_
  go_big_op
  go_fit (gTurn_any kk (PN.mk' ha1 ha2) (by omega) (by omega))
  rintro e w_8 ⟨_, rfl, ⟨n_ca, o_ca, k_ca, c_ca, n_cb, o_cb, k_cb, c_cb, rfl, c1, c2⟩, hb_8⟩
  replace ha1 := ha1.bl hb_8; replace ha2 := ha2.bl hb_8; replace x_b1 := x_b1.bl hb_8; replace a1 := a1.bl hb_8; replace a2 := a2.bl hb_8; replace x_b2 := x_b2.bl hb_8; replace b1 := b1.bl hb_8; replace b2 := b2.bl hb_8; replace x_b3 := x_b3.bl hb_8; replace hb := hb.trans (hb_8.mono hb.size)
  rw [HT.out.1] at c1
  rw [HT.out.2] at c2
  refine hK _ _ rfl ?_
  clear hK K hb_8
  have Lc1 := hide (c1.lenOf (LT.out.1))
  have Lc2 := hide (c2.lenOf (LT.out.2))
  refine wpSq_call rfl (by kernel_rfl) fun K hK => ?_
  go_big_op
  go_fit (gCanon_any (.mk' (c1.zn Lc1.out) (c2.zn Lc2.out)) (by omega) (by omega))
  rintro e w_9 ⟨_, rfl, ⟨n_da, o_da, k_da, c_da, n_db, o_db, k_db, c_db, rfl, d1, d2⟩, hb_9⟩
  replace ha1 := ha1.bl hb_9; replace ha2 := ha2.bl hb_9; replace x_b1 := x_b1.bl hb_9; replace a1 := a1.bl hb_9; replace a2 := a2.bl hb_9; replace x_b2 := x_b2.bl hb_9; replace b1 := b1.bl hb_9; replace b2 := b2.bl hb_9; replace x_b3 := x_b3.bl hb_9; replace c1 := c1.bl hb_9; replace c2 := c2.bl hb_9; replace hb := hb.trans (hb_9.mono hb.size)
  rw [HB.out] at d1 d2
  refine hK _ _ rfl ?_
  clear hK K hb_9
  refine wpSq_call rfl (by kernel_rfl) fun K hK => ?_
  go_big_move; refine hK _ _ rfl ?_; clear hK K
  refine wpSq_call rfl (by kernel_rfl) fun K hK => ?_
  go_big_op; refine hK _ _ rfl ?_; clear hK K
  refine wpSq_call rfl (by kernel_rfl) fun K hK => ?_
  go_big_op; refine hK _ _ rfl ?_; clear hK K
  refine wpSq_call rfl (by kernel_rfl) fun K hK => ?_
  go_big_op
  clear c1 c2
  have lt_b1 := x_b1.lt
  have lt_b2 := x_b2.lt
  have lt_b3 := x_b3.lt
  obtain ⟨p_b4, w_10, eP, eW, x_b4, hn, kb_b4⟩ := newBox w_9 #[.bool false, .slice none 0 0, .bool false, .slice none 0 0] 26 hb.size
  have ne_b1_b4 : Hid (p_b1 ≠ p_b4) := Nat.ne_of_lt (eP ▸ lt_b1)
  have ne_b2_b4 : Hid (p_b2 ≠ p_b4) := Nat.ne_of_lt (eP ▸ lt_b2)
  have ne_b3_b4 : Hid (p_b3 ≠ p_b4) := Nat.ne_of_lt (eP ▸ lt_b3)
  rw [eW, eP]
  clear eW eP lt_b1 lt_b2 lt_b3
  replace ha1 := ha1.bl hn; replace ha2 := ha2.bl hn; replace x_b1 := x_b1.bl hn; replace a1 := a1.bl hn; replace a2 := a2.bl hn; replace x_b2 := x_b2.bl hn; replace b1 := b1.bl hn; replace b2 := b2.bl hn; replace x_b3 := x_b3.bl hn; replace d1 := d1.bl hn; replace d2 := d2.bl hn; replace hb := hb.trans (hn.mono hb.size)
  refine hK _ _ rfl ?_; clear hK K hn
  refine wpSq_call rfl (by kernel_rfl) fun K hK => ?_
  obtain ⟨d0, d1, d2, d3⟩ := x_b4.f4
  have f0 := x_b4.free 0; have f1 := x_b4.free 1; have f2 := x_b4.free 2; have f3 := x_b4.free 3
  go_big_op
  have hnd := x_b4.nod rfl rfl
  obtain ⟨w_11, eW, x_b4', ho⟩ : ∃ w', ((((w_10.setCell ⟨p_b4, 0, none⟩ (.bool n_da)).setCell ⟨p_b4, 1, none⟩ (.slice o_da k_da c_da)).setCell ⟨p_b4, 2, none⟩ (.bool n_db)).setCell ⟨p_b4, 3, none⟩ (.slice o_db k_db c_db)) = w' ∧ Bs w' p_b4 #[.bool n_da, .slice o_da k_da c_da, .bool n_db, .slice o_db k_db c_db] 26 ∧ Only p_b4 w_10 w' := x_b4.setN [(0, .bool n_da), (1, .slice o_da k_da c_da), (2, .bool n_db), (3, .slice o_db k_db c_db)]
  rw [eW]; clear eW d0 d1 d2 d3 f0 f1 f2 f3 x_b4
  have x_b4 := x_b4'; clear x_b4'
  replace ha1 := ha1.fr hnd ho; replace ha2 := ha2.fr hnd ho; replace x_b1 := x_b1.frame ho ne_b1_b4; replace a1 := a1.fr hnd ho; replace a2 := a2.fr hnd ho; replace x_b2 := x_b2.frame ho ne_b2_b4; replace b1 := b1.fr hnd ho; replace b2 := b2.fr hnd ho; replace x_b3 := x_b3.frame ho ne_b3_b4; replace d1 := d1.fr hnd ho; replace d2 := d2.fr hnd ho; replace hb := belowOnly hb ho kb_b4
  refine hK _ _ rfl ?_; clear hK K ho hnd
  refine wpSq_call rfl (by kernel_rfl) fun K hK => ?_
  go_big_move; refine hK _ _ rfl ?_; clear hK K
  apply wpSq_end
  refine hK4 _ _ ?_
  refine wp_seq_k ?_
  intro K5 hK5
  refine wp_region_fl2 [(0, true), (1, false), (2, false), (3, false), (4, true), (5, false), (6, false), (7, false), (8, false), (9, false), (10, false), (11, false), (12, false), (13, false), (14, true), (15, false), (16, false), (17, false), (18, false), (20, false), (19, true), (21, true), (22, false), (23, false), (24, false), (25, false), (26, false), (29, false), (30, false), (31, false), (27, true), (28, true), (32, true), (33, true), (34, false), (35, false), (36, false)] [] [] (fun _ => default) [99, 99, 0, 1, 99, 99, 99, 99, 99, 99, 99, 99, 2, 1, 99, 99, 99, 3, 99, 99, 1, 99, 99, 99, 3, 3, 99, 99, 99, 3, 3, 99, 99, 99, 99, 99, 99] [] (fun w' => w'.cell? ⟨p_b2, 0, none⟩ = some (.bool n_aa) ∧ w'.cell? ⟨p_b2, 1, none⟩ = some (.slice o_aa k_aa c_aa) ∧ w'.cell? ⟨p_b2, 2, none⟩ = some (.bool n_ab) ∧ w'.cell? ⟨p_b2, 3, none⟩ = some (.slice o_ab k_ab c_ab) ∧ w'.cell? ⟨p_b3, 0, none⟩ = some (.bool n_ba) ∧ w'.cell? ⟨p_b3, 1, none⟩ = some (.slice o_ba k_ba c_ba) ∧ w'.cell? ⟨p_b3, 2, none⟩ = some (.bool n_bb) ∧ w'.cell? ⟨p_b3, 3, none⟩ = some (.slice o_bb k_bb c_bb) ∧ w'.cell? ⟨p_b4, 0, none⟩ = some (.bool n_da) ∧ w'.cell? ⟨p_b4, 1, none⟩ = some (.slice o_da k_da c_da) ∧ w'.cell? ⟨p_b4, 2, none⟩ = some (.bool n_db) ∧ w'.cell? ⟨p_b4, 3, none⟩ = some (.slice o_db k_db c_db) ∧ w'.cell? ⟨p_b1, 0, none⟩ = some (.bool n_0a) ∧ w'.cell? ⟨p_b1, 1, none⟩ = some (.slice o_0a k_0a c_0a) ∧ w'.cell? ⟨p_b1, 2, none⟩ = some (.bool n_0b) ∧ w'.cell? ⟨p_b1, 3, none⟩ = some (.slice o_0b k_0b c_0b)) [fun w' => w'.cell? ⟨p_b2, 0, none⟩ = some (.bool n_aa) ∧ w'.cell? ⟨p_b2, 1, none⟩ = some (.slice o_aa k_aa c_aa) ∧ w'.cell? ⟨p_b2, 2, none⟩ = some (.bool n_ab) ∧ w'.cell? ⟨p_b2, 3, none⟩ = some (.slice o_ab k_ab c_ab), fun w' => w'.cell? ⟨p_b3, 0, none⟩ = some (.bool n_ba) ∧ w'.cell? ⟨p_b3, 1, none⟩ = some (.slice o_ba k_ba c_ba) ∧ w'.cell? ⟨p_b3, 2, none⟩ = some (.bool n_bb) ∧ w'.cell? ⟨p_b3, 3, none⟩ = some (.slice o_bb k_bb c_bb), fun w' => w'.cell? ⟨p_b4, 0, none⟩ = some (.bool n_da) ∧ w'.cell? ⟨p_b4, 1, none⟩ = some (.slice o_da k_da c_da) ∧ w'.cell? ⟨p_b4, 2, none⟩ = some (.bool n_db) ∧ w'.cell? ⟨p_b4, 3, none⟩ = some (.slice o_db k_db c_db), fun w' => w'.cell? ⟨p_b1, 0, none⟩ = some (.bool n_0a) ∧ w'.cell? ⟨p_b1, 1, none⟩ = some (.slice o_0a k_0a c_0a) ∧ w'.cell? ⟨p_b1, 2, none⟩ = some (.bool n_0b) ∧ w'.cell? ⟨p_b1, 3, none⟩ = some (.slice o_0b k_0b c_0b)] (by kernel_rfl) (by kernel_rfl) (by kernel_rfl) (by kernel_rfl) (by kernel_rfl) (by kernel_rfl) (by kernel_rfl) (by kernel_rfl) (by decide) (by intro j hj; cases hj) (by intro w' o hC; obtain ⟨c0, c1, c2, c3, c4, c5, c6, c7, c8, c9, c10, c11, c12, c13, c14, c15⟩ := hC; exact ⟨cell_alloc c0 o, cell_alloc c1 o, cell_alloc c2 o, cell_alloc c3 o, cell_alloc c4 o, cell_alloc c5 o, cell_alloc c6 o, cell_alloc c7 o, cell_alloc c8 o, cell_alloc c9 o, cell_alloc c10 o, cell_alloc c11 o, cell_alloc c12 o, cell_alloc c13 o, cell_alloc c14 o, cell_alloc c15 o⟩) (by intro w' hC G hG; obtain ⟨c0, c1, c2, c3, c4, c5, c6, c7, c8, c9, c10, c11, c12, c13, c14, c15⟩ := hC; simp only [List.mem_cons, List.not_mem_nil, or_false] at hG; rcases hG with rfl | rfl | rfl | rfl <;> first | exact ⟨c0, c1, c2, c3⟩ | exact ⟨c4, c5, c6, c7⟩ | exact ⟨c8, c9, c10, c11⟩ | exact ⟨c12, c13, c14, c15⟩) ?_
  have lt_b1 := x_b1.lt
  have lt_b2 := x_b2.lt
  have lt_b3 := x_b3.lt
  have lt_b4 := x_b4.lt
  intro w_12 hn
  replace lt_b1 := Nat.lt_of_lt_of_le lt_b1 hn.size
  replace lt_b2 := Nat.lt_of_lt_of_le lt_b2 hn.size
  replace lt_b3 := Nat.lt_of_lt_of_le lt_b3 hn.size
  replace lt_b4 := Nat.lt_of_lt_of_le lt_b4 hn.size
  replace ha1 := ha1.bl hn; replace ha2 := ha2.bl hn; replace x_b1 := x_b1.bl hn; replace a1 := a1.bl hn; replace a2 := a2.bl hn; replace x_b2 := x_b2.bl hn; replace b1 := b1.bl hn; replace b2 := b2.bl hn; replace x_b3 := x_b3.bl hn; replace d1 := d1.bl hn; replace d2 := d2.bl hn; replace x_b4 := x_b4.bl hn; replace hb := hb.trans (hn.mono hb.size)
  clear hn
  have kb0 := hb.size
  refine ⟨⟨x_b2.cell 0 rfl, x_b2.cell 1 rfl, x_b2.cell 2 rfl, x_b2.cell 3 rfl, x_b3.cell 0 rfl, x_b3.cell 1 rfl, x_b3.cell 2 rfl, x_b3.cell 3 rfl, x_b4.cell 0 rfl, x_b4.cell 1 rfl, x_b4.cell 2 rfl, x_b4.cell 3 rfl, x_b1.cell 0 rfl, x_b1.cell 1 rfl, x_b1.cell 2 rfl, x_b1.cell 3 rfl⟩, ?_⟩
  refine wpFl_call rfl (by kernel_rfl) fun w_13 hn hC => ?_; clear hC
  replace ha1 := ha1.bl hn; replace ha2 := ha2.bl hn; replace x_b1 := x_b1.bl hn; replace a1 := a1.bl hn; replace a2 := a2.bl hn; replace x_b2 := x_b2.bl hn; replace b1 := b1.bl hn; replace b2 := b2.bl hn; replace x_b3 := x_b3.bl hn; replace d1 := d1.bl hn; replace d2 := d2.bl hn; replace x_b4 := x_b4.bl hn; replace hb := hb.trans (hn.mono hb.size)
  clear hn; intro K hK
  go_big_op
  go_fit (gawake_any _ (htabs _ hb))
  rintro e w_14 ⟨rfl, hb_14⟩
  replace ha1 := ha1.bl hb_14; replace ha2 := ha2.bl hb_14; replace x_b1 := x_b1.bl hb_14; replace a1 := a1.bl hb_14; replace a2 := a2.bl hb_14; replace x_b2 := x_b2.bl hb_14; replace b1 := b1.bl hb_14; replace b2 := b2.bl hb_14; replace x_b3 := x_b3.bl hb_14; replace d1 := d1.bl hb_14; replace d2 := d2.bl hb_14; replace x_b4 := x_b4.bl hb_14; replace hb := hb.trans (hb_14.mono hb.size)
  refine hK _ _ rfl hb_14 ⟨x_b2.cell 0 rfl, x_b2.cell 1 rfl, x_b2.cell 2 rfl, x_b2.cell 3 rfl, x_b3.cell 0 rfl, x_b3.cell 1 rfl, x_b3.cell 2 rfl, x_b3.cell 3 rfl, x_b4.cell 0 rfl, x_b4.cell 1 rfl, x_b4.cell 2 rfl, x_b4.cell 3 rfl, x_b1.cell 0 rfl, x_b1.cell 1 rfl, x_b1.cell 2 rfl, x_b1.cell 3 rfl⟩ ?_
  clear hK K hb_14
  apply wpFl_ld rfl rfl; (case h1 => intro w' hC K hK; go_big_move; exact hK); iterate 4 kernel_rfl
  apply wpFl_ld rfl rfl; (case h1 => intro w' hC K hK; obtain ⟨c0, c1, c2, c3⟩ := hC; go_big_op; exact hK); iterate 4 kernel_rfl
  apply wpFl_ld rfl rfl; (case h1 => intro w' hC K hK; obtain ⟨c0, c1, c2, c3⟩ := hC; go_big_op; exact hK); iterate 4 kernel_rfl
  refine wpFl_call rfl (by kernel_rfl) fun w_15 hn hC => ?_; clear hC
  replace ha1 := ha1.bl hn; replace ha2 := ha2.bl hn; replace x_b1 := x_b1.bl hn; replace a1 := a1.bl hn; replace a2 := a2.bl hn; replace x_b2 := x_b2.bl hn; replace b1 := b1.bl hn; replace b2 := b2.bl hn; replace x_b3 := x_b3.bl hn; replace d1 := d1.bl hn; replace d2 := d2.bl hn; replace x_b4 := x_b4.bl hn; replace hb := hb.trans (hn.mono hb.size)
  clear hn; intro K hK
  go_big_op
  go_fit (gis_any (PC.mk' a1 a2) (PN.mk' (b1.zn Lb1.out) (b2.zn Lb2.out)) (by omega) (by omega) )
  rintro e w_16 ⟨rfl, hb_16⟩
  replace ha1 := ha1.bl hb_16; replace ha2 := ha2.bl hb_16; replace x_b1 := x_b1.bl hb_16; replace a1 := a1.bl hb_16; replace a2 := a2.bl hb_16; replace x_b2 := x_b2.bl hb_16; replace b1 := b1.bl hb_16; replace b2 := b2.bl hb_16; replace x_b3 := x_b3.bl hb_16; replace d1 := d1.bl hb_16; replace d2 := d2.bl hb_16; replace x_b4 := x_b4.bl hb_16; replace hb := hb.trans (hb_16.mono hb.size)
  refine hK _ _ rfl hb_16 ⟨x_b2.cell 0 rfl, x_b2.cell 1 rfl, x_b2.cell 2 rfl, x_b2.cell 3 rfl, x_b3.cell 0 rfl, x_b3.cell 1 rfl, x_b3.cell 2 rfl, x_b3.cell 3 rfl, x_b4.cell 0 rfl, x_b4.cell 1 rfl, x_b4.cell 2 rfl, x_b4.cell 3 rfl, x_b1.cell 0 rfl, x_b1.cell 1 rfl, x_b1.cell 2 rfl, x_b1.cell 3 rfl⟩ ?_
  clear hK K hb_16
  apply wpFl_ld rfl rfl; (case h1 => intro w' hC K hK; go_big_op; exact hK); iterate 4 kernel_rfl
  apply wpFl_ld rfl rfl; (case h1 => intro w' hC K hK; go_big_move; exact hK); iterate 4 kernel_rfl
  apply wpFl_ld rfl rfl; (case h1 => intro w' hC K hK; go_big_move; exact hK); iterate 4 kernel_rfl
  apply wpFl_ld rfl rfl; (case h1 => intro w' hC K hK; go_big_move; exact hK); iterate 4 kernel_rfl
  apply wpFl_ld rfl rfl; (case h1 => intro w' hC K hK; go_big_op; exact hK); iterate 4 kernel_rfl
  apply wpFl_ld rfl rfl; (case h1 => intro w' hC K hK; go_big_op; exact hK); iterate 4 kernel_rfl
  apply wpFl_ld rfl rfl; (case h1 => intro w' hC K hK; go_big_move; exact hK); iterate 4 kernel_rfl
  apply wpFl_ld rfl rfl; (case h1 => intro w' hC K hK; obtain ⟨c0, c1, c2, c3⟩ := hC; go_big_op; exact hK); iterate 4 kernel_rfl
  apply wpFl_ld rfl rfl; (case h1 => intro w' hC K hK; obtain ⟨c0, c1, c2, c3⟩ := hC; go_big_op; exact hK); iterate 4 kernel_rfl
  refine wpFl_call rfl (by kernel_rfl) fun w_17 hn hC => ?_; clear hC
  replace ha1 := ha1.bl hn; replace ha2 := ha2.bl hn; replace x_b1 := x_b1.bl hn; replace a1 := a1.bl hn; replace a2 := a2.bl hn; replace x_b2 := x_b2.bl hn; replace b1 := b1.bl hn; replace b2 := b2.bl hn; replace x_b3 := x_b3.bl hn; replace d1 := d1.bl hn; replace d2 := d2.bl hn; replace x_b4 := x_b4.bl hn; replace hb := hb.trans (hn.mono hb.size)
  clear hn; intro K hK
  go_big_op
  go_fit (gis_any (PC.mk' d1 d2) (PN.mk' (b1.zn Lb1.out) (b2.zn Lb2.out)) (by omega) (by omega) )
  rintro e w_18 ⟨rfl, hb_18⟩
  replace ha1 := ha1.bl hb_18; replace ha2 := ha2.bl hb_18; replace x_b1 := x_b1.bl hb_18; replace a1 := a1.bl hb_18; replace a2 := a2.bl hb_18; replace x_b2 := x_b2.bl hb_18; replace b1 := b1.bl hb_18; replace b2 := b2.bl hb_18; replace x_b3 := x_b3.bl hb_18; replace d1 := d1.bl hb_18; replace d2 := d2.bl hb_18; replace x_b4 := x_b4.bl hb_18; replace hb := hb.trans (hb_18.mono hb.size)
  refine hK _ _ rfl hb_18 ⟨x_b2.cell 0 rfl, x_b2.cell 1 rfl, x_b2.cell 2 rfl, x_b2.cell 3 rfl, x_b3.cell 0 rfl, x_b3.cell 1 rfl, x_b3.cell 2 rfl, x_b3.cell 3 rfl, x_b4.cell 0 rfl, x_b4.cell 1 rfl, x_b4.cell 2 rfl, x_b4.cell 3 rfl, x_b1.cell 0 rfl, x_b1.cell 1 rfl, x_b1.cell 2 rfl, x_b1.cell 3 rfl⟩ ?_
  clear hK K hb_18
  apply wpFl_ld rfl rfl; (case h1 => intro w' hC K hK; go_big_op; exact hK); iterate 4 kernel_rfl
  apply wpFl_ld rfl rfl; (case h1 => intro w' hC K hK; go_big_move; exact hK); iterate 4 kernel_rfl
  apply wpFl_ld rfl rfl; (case h1 => intro w' hC K hK; obtain ⟨c0, c1, c2, c3⟩ := hC; go_big_op; exact hK); iterate 4 kernel_rfl
  apply wpFl_ld rfl rfl; (case h1 => intro w' hC K hK; go_big_move; exact hK); iterate 4 kernel_rfl
  apply wpFl_ld rfl rfl; (case h1 => intro w' hC K hK; obtain ⟨c0, c1, c2, c3⟩ := hC; go_big_op; exact hK); iterate 4 kernel_rfl
  refine wpFl_call rfl (by kernel_rfl) fun w_19 hn hC => ?_; clear hC
  replace ha1 := ha1.bl hn; replace ha2 := ha2.bl hn; replace x_b1 := x_b1.bl hn; replace a1 := a1.bl hn; replace a2 := a2.bl hn; replace x_b2 := x_b2.bl hn; replace b1 := b1.bl hn; replace b2 := b2.bl hn; replace x_b3 := x_b3.bl hn; replace d1 := d1.bl hn; replace d2 := d2.bl hn; replace x_b4 := x_b4.bl hn; replace hb := hb.trans (hn.mono hb.size)
  clear hn; intro K hK
  go_big_op
  go_fit (gTurn_any (J : Int) (PN.mk' ha1 ha2) (by omega) (by omega))
  rintro e w_20 ⟨_, rfl, ⟨n_ea, o_ea, k_ea, c_ea, n_eb, o_eb, k_eb, c_eb, rfl, e1, e2⟩, hb_20⟩
  replace ha1 := ha1.bl hb_20; replace ha2 := ha2.bl hb_20; replace x_b1 := x_b1.bl hb_20; replace a1 := a1.bl hb_20; replace a2 := a2.bl hb_20; replace x_b2 := x_b2.bl hb_20; replace b1 := b1.bl hb_20; replace b2 := b2.bl hb_20; replace x_b3 := x_b3.bl hb_20; replace d1 := d1.bl hb_20; replace d2 := d2.bl hb_20; replace x_b4 := x_b4.bl hb_20; replace hb := hb.trans (hb_20.mono hb.size)
  rw [HM.out] at e1 e2
  refine hK _ _ rfl hb_20 ⟨x_b2.cell 0 rfl, x_b2.cell 1 rfl, x_b2.cell 2 rfl, x_b2.cell 3 rfl, x_b3.cell 0 rfl, x_b3.cell 1 rfl, x_b3.cell 2 rfl, x_b3.cell 3 rfl, x_b4.cell 0 rfl, x_b4.cell 1 rfl, x_b4.cell 2 rfl, x_b4.cell 3 rfl, x_b1.cell 0 rfl, x_b1.cell 1 rfl, x_b1.cell 2 rfl, x_b1.cell 3 rfl⟩ ?_
  clear hK K hb_20
  refine wpFl_call rfl (by kernel_rfl) fun w_21 hn hC => ?_; clear hC
  replace ha1 := ha1.bl hn; replace ha2 := ha2.bl hn; replace x_b1 := x_b1.bl hn; replace a1 := a1.bl hn; replace a2 := a2.bl hn; replace x_b2 := x_b2.bl hn; replace b1 := b1.bl hn; replace b2 := b2.bl hn; replace x_b3 := x_b3.bl hn; replace d1 := d1.bl hn; replace d2 := d2.bl hn; replace x_b4 := x_b4.bl hn; replace e1 := e1.bl hn; replace e2 := e2.bl hn; replace hb := hb.trans (hn.mono hb.size)
  clear hn; intro K hK
  go_big_op
  go_fit (gis_any (PC.mk' e1 e2) (PN.mk' (b1.zn Lb1.out) (b2.zn Lb2.out)) (by omega) (by omega) )
  rintro e w_22 ⟨rfl, hb_22⟩
  replace ha1 := ha1.bl hb_22; replace ha2 := ha2.bl hb_22; replace x_b1 := x_b1.bl hb_22; replace a1 := a1.bl hb_22; replace a2 := a2.bl hb_22; replace x_b2 := x_b2.bl hb_22; replace b1 := b1.bl hb_22; replace b2 := b2.bl hb_22; replace x_b3 := x_b3.bl hb_22; replace d1 := d1.bl hb_22; replace d2 := d2.bl hb_22; replace x_b4 := x_b4.bl hb_22; replace e1 := e1.bl hb_22; replace e2 := e2.bl hb_22; replace hb := hb.trans (hb_22.mono hb.size)
  refine hK _ _ rfl hb_22 ⟨x_b2.cell 0 rfl, x_b2.cell 1 rfl, x_b2.cell 2 rfl, x_b2.cell 3 rfl, x_b3.cell 0 rfl, x_b3.cell 1 rfl, x_b3.cell 2 rfl, x_b3.cell 3 rfl, x_b4.cell 0 rfl, x_b4.cell 1 rfl, x_b4.cell 2 rfl, x_b4.cell 3 rfl, x_b1.cell 0 rfl, x_b1.cell 1 rfl, x_b1.cell 2 rfl, x_b1.cell 3 rfl⟩ ?_
  clear hK K hb_22
  apply wpFl_ld rfl rfl; (case h1 => intro w' hC K hK; go_big_op; exact hK); iterate 4 kernel_rfl
  apply wpFl_ld rfl rfl; (case h1 => intro w' hC K hK; go_big_move; exact hK); iterate 4 kernel_rfl
  apply wpFl_ld rfl rfl; (case h1 => intro w' hC K hK; obtain ⟨c0, c1, c2, c3⟩ := hC; go_big_op; exact hK); iterate 4 kernel_rfl
  apply wpFl_ld rfl rfl; (case h1 => intro w' hC K hK; obtain ⟨c0, c1, c2, c3⟩ := hC; go_big_op; exact hK); iterate 4 kernel_rfl
  apply wpFl_ld rfl rfl; (case h1 => intro w' hC K hK; go_big_move; exact hK); iterate 4 kernel_rfl
  apply wpFl_ld rfl rfl; (case h1 => intro w' hC K hK; obtain ⟨c0, c1, c2, c3⟩ := hC; go_big_op; exact hK); iterate 4 kernel_rfl
  apply wpFl_ld rfl rfl; (case h1 => intro w' hC K hK; obtain ⟨c0, c1, c2, c3⟩ := hC; go_big_op; exact hK); iterate 4 kernel_rfl
  apply wpFl_ld rfl rfl; (case h1 => intro w' hC K hK; go_big_move; exact hK); iterate 4 kernel_rfl
  refine wpFl_call rfl (by kernel_rfl) fun w_23 hn hC => ?_; clear hC
  clear e1 e2
  replace ha1 := ha1.bl hn; replace ha2 := ha2.bl hn; replace x_b1 := x_b1.bl hn; replace a1 := a1.bl hn; replace a2 := a2.bl hn; replace x_b2 := x_b2.bl hn; replace b1 := b1.bl hn; replace b2 := b2.bl hn; replace x_b3 := x_b3.bl hn; replace d1 := d1.bl hn; replace d2 := d2.bl hn; replace x_b4 := x_b4.bl hn; replace hb := hb.trans (hn.mono hb.size)
  clear hn; intro K hK
  go_big_op
  go_fit (gTurn_any kk (PN.mk' ha1 ha2) (by omega) (by omega))
  rintro e w_24 ⟨_, rfl, ⟨n_fa, o_fa, k_fa, c_fa, n_fb, o_fb, k_fb, c_fb, rfl, f1, f2⟩, hb_24⟩
  replace ha1 := ha1.bl hb_24; replace ha2 := ha2.bl hb_24; replace x_b1 := x_b1.bl hb_24; replace a1 := a1.bl hb_24; replace a2 := a2.bl hb_24; replace x_b2 := x_b2.bl hb_24; replace b1 := b1.bl hb_24; replace b2 := b2.bl hb_24; replace x_b3 := x_b3.bl hb_24; replace d1 := d1.bl hb_24; replace d2 := d2.bl hb_24; replace x_b4 := x_b4.bl hb_24; replace hb := hb.trans (hb_24.mono hb.size)
  rw [HT.out.1] at f1
  rw [HT.out.2] at f2
  refine hK _ _ rfl hb_24 ⟨x_b2.cell 0 rfl, x_b2.cell 1 rfl, x_b2.cell 2 rfl, x_b2.cell 3 rfl, x_b3.cell 0 rfl, x_b3.cell 1 rfl, x_b3.cell 2 rfl, x_b3.cell 3 rfl, x_b4.cell 0 rfl, x_b4.cell 1 rfl, x_b4.cell 2 rfl, x_b4.cell 3 rfl, x_b1.cell 0 rfl, x_b1.cell 1 rfl, x_b1.cell 2 rfl, x_b1.cell 3 rfl⟩ ?_
  clear hK K hb_24
  have Lf1 := hide (f1.lenOf (LT.out.1))
  have Lf2 := hide (f2.lenOf (LT.out.2))
  refine wpFl_call rfl (by kernel_rfl) fun w_25 hn hC => ?_; clear hC
  replace ha1 := ha1.bl hn; replace ha2 := ha2.bl hn; replace x_b1 := x_b1.bl hn; replace a1 := a1.bl hn; replace a2 := a2.bl hn; replace x_b2 := x_b2.bl hn; replace b1 := b1.bl hn; replace b2 := b2.bl hn; replace x_b3 := x_b3.bl hn; replace d1 := d1.bl hn; replace d2 := d2.bl hn; replace x_b4 := x_b4.bl hn; replace f1 := f1.bl hn; replace f2 := f2.bl hn; replace hb := hb.trans (hn.mono hb.size)
  clear hn; intro K hK
  go_big_op
  go_fit (gCmp_any (PN.mk' ha1 ha2) (PN.mk' (f1.zn Lf1.out) (f2.zn Lf2.out)) (by omega) (by omega) (by omega) (by omega) )
  rintro e w_26 ⟨rfl, hb_26⟩
  replace ha1 := ha1.bl hb_26; replace ha2 := ha2.bl hb_26; replace x_b1 := x_b1.bl hb_26; replace a1 := a1.bl hb_26; replace a2 := a2.bl hb_26; replace x_b2 := x_b2.bl hb_26; replace b1 := b1.bl hb_26; replace b2 := b2.bl hb_26; replace x_b3 := x_b3.bl hb_26; replace d1 := d1.bl hb_26; replace d2 := d2.bl hb_26; replace x_b4 := x_b4.bl hb_26; replace f1 := f1.bl hb_26; replace f2 := f2.bl hb_26; replace hb := hb.trans (hb_26.mono hb.size)
  rw [HC.out]
  refine hK _ _ rfl hb_26 ⟨x_b2.cell 0 rfl, x_b2.cell 1 rfl, x_b2.cell 2 rfl, x_b2.cell 3 rfl, x_b3.cell 0 rfl, x_b3.cell 1 rfl, x_b3.cell 2 rfl, x_b3.cell 3 rfl, x_b4.cell 0 rfl, x_b4.cell 1 rfl, x_b4.cell 2 rfl, x_b4.cell 3 rfl, x_b1.cell 0 rfl, x_b1.cell 1 rfl, x_b1.cell 2 rfl, x_b1.cell 3 rfl⟩ ?_
  clear hK K hb_26
  refine wpFl_call rfl (by kernel_rfl) fun w_27 hn hC => ?_; clear hC
  clear f1 f2
  replace ha1 := ha1.bl hn; replace ha2 := ha2.bl hn; replace x_b1 := x_b1.bl hn; replace a1 := a1.bl hn; replace a2 := a2.bl hn; replace x_b2 := x_b2.bl hn; replace b1 := b1.bl hn; replace b2 := b2.bl hn; replace x_b3 := x_b3.bl hn; replace d1 := d1.bl hn; replace d2 := d2.bl hn; replace x_b4 := x_b4.bl hn; replace hb := hb.trans (hn.mono hb.size)
  clear hn; intro K hK
  go_big_op
  go_fit (rgTurn_any kk (PN.mk' ha1 ha2) (by omega) (by omega))
  rintro e w_28 ⟨_, rfl, ⟨n_ga, o_ga, k_ga, c_ga, n_gb, o_gb, k_gb, c_gb, rfl, g1, g2⟩, hb_28⟩
  replace ha1 := ha1.bl hb_28; replace ha2 := ha2.bl hb_28; replace x_b1 := x_b1.bl hb_28; replace a1 := a1.bl hb_28; replace a2 := a2.bl hb_28; replace x_b2 := x_b2.bl hb_28; replace b1 := b1.bl hb_28; replace b2 := b2.bl hb_28; replace x_b3 := x_b3.bl hb_28; replace d1 := d1.bl hb_28; replace d2 := d2.bl hb_28; replace x_b4 := x_b4.bl hb_28; replace hb := hb.trans (hb_28.mono hb.size)
  rw [HT.out.1] at g1
  rw [HT.out.2] at g2
  refine hK _ _ rfl hb_28 ⟨x_b2.cell 0 rfl, x_b2.cell 1 rfl, x_b2.cell 2 rfl, x_b2.cell 3 rfl, x_b3.cell 0 rfl, x_b3.cell 1 rfl, x_b3.cell 2 rfl, x_b3.cell 3 rfl, x_b4.cell 0 rfl, x_b4.cell 1 rfl, x_b4.cell 2 rfl, x_b4.cell 3 rfl, x_b1.cell 0 rfl, x_b1.cell 1 rfl, x_b1.cell 2 rfl, x_b1.cell 3 rfl⟩ ?_
  clear hK K hb_28
  have Lg1 := hide (g1.lenOf (LT.out.1))
  have Lg2 := hide (g2.lenOf (LT.out.2))
  refine wpFl_call rfl (by kernel_rfl) fun w_29 hn hC => ?_; clear hC
  replace ha1 := ha1.bl hn; replace ha2 := ha2.bl hn; replace x_b1 := x_b1.bl hn; replace a1 := a1.bl hn; replace a2 := a2.bl hn; replace x_b2 := x_b2.bl hn; replace b1 := b1.bl hn; replace b2 := b2.bl hn; replace x_b3 := x_b3.bl hn; replace d1 := d1.bl hn; replace d2 := d2.bl hn; replace x_b4 := x_b4.bl hn; replace g1 := g1.bl hn; replace g2 := g2.bl hn; replace hb := hb.trans (hn.mono hb.size)
  clear hn; intro K hK
  go_big_op
  go_fit (rgCmp_any (PN.mk' ha1 ha2) (PN.mk' (g1.zn Lg1.out) (g2.zn Lg2.out)) (by omega) (by omega) (by omega) (by omega) )
  rintro e w_30 ⟨rfl, hb_30⟩
  replace ha1 := ha1.bl hb_30; replace ha2 := ha2.bl hb_30; replace x_b1 := x_b1.bl hb_30; replace a1 := a1.bl hb_30; replace a2 := a2.bl hb_30; replace x_b2 := x_b2.bl hb_30; replace b1 := b1.bl hb_30; replace b2 := b2.bl hb_30; replace x_b3 := x_b3.bl hb_30; replace d1 := d1.bl hb_30; replace d2 := d2.bl hb_30; replace x_b4 := x_b4.bl hb_30; replace g1 := g1.bl hb_30; replace g2 := g2.bl hb_30; replace hb := hb.trans (hb_30.mono hb.size)
  rw [HC.out]
  refine hK _ _ rfl hb_30 ⟨x_b2.cell 0 rfl, x_b2.cell 1 rfl, x_b2.cell 2 rfl, x_b2.cell 3 rfl, x_b3.cell 0 rfl, x_b3.cell 1 rfl, x_b3.cell 2 rfl, x_b3.cell 3 rfl, x_b4.cell 0 rfl, x_b4.cell 1 rfl, x_b4.cell 2 rfl, x_b4.cell 3 rfl, x_b1.cell 0 rfl, x_b1.cell 1 rfl, x_b1.cell 2 rfl, x_b1.cell 3 rfl⟩ ?_
  clear hK K hb_30
  apply wpFl_ld rfl rfl; (case h1 => intro w' hC K hK; go_big_op; exact hK); iterate 4 kernel_rfl
  apply wpFl_ld rfl rfl; (case h1 => intro w' hC K hK; go_big_op; exact hK); iterate 4 kernel_rfl
  apply wpFl_ld rfl rfl; (case h1 => intro w' hC K hK; go_big_move; exact hK); iterate 4 kernel_rfl
  apply wpFl_end
  case ha => intro pt; simp only [putF]; rfl
  case h =>
  intro w_31 pt hn hC hF hD
  clear hC
  clear g1 g2
  replace ha1 := ha1.bl hn; replace ha2 := ha2.bl hn; replace x_b1 := x_b1.bl hn; replace a1 := a1.bl hn; replace a2 := a2.bl hn; replace x_b2 := x_b2.bl hn; replace b1 := b1.bl hn; replace b2 := b2.bl hn; replace x_b3 := x_b3.bl hn; replace d1 := d1.bl hn; replace d2 := d2.bl hn; replace x_b4 := x_b4.bl hn; replace hb := hb.trans (hn.mono hb.size)
  clear hn
  clear hF hD
  clear pt
  clear kb0 lt_b1 lt_b2 lt_b3 lt_b4
  apply wpTail_end
  refine hK5 _ _ ?_
  refine wp_ret ?_
  try dsimp only [Exit.then, Exit.inBlock]
  refine bodyPost_ret (v := (.bool true)) (by simp [results, Tryd.results4, go_sem]) rfl ?_
  exact ⟨rfl, hb⟩
end
theorem walk_GintCanons (w : World) (n1 : Bool) (s1 : Value) (xs : List Nat) (h1 : Rd w s1 xs) (l1 : xs.length ≤ 1048576) (n2 : Bool) (s2 : Value) (ys : List Nat) (h2 : Rd w s2 ys) (l2 : ys.length ≤ 1048576) (n : Int) (hlo : -9223372036854775808 ≤ n) (hhi : n ≤ 9223372036854775807) (htab : Lib.TabIs Tryd.prog w p10 .u64 Lib.pow10Tab) :
    Calls Tryd.prog 4 #[.agg #[.bool n1, s1, .bool n2, s2], .int .i64 n] w fun e w' => e = .returned (.bool true) ∧ Below w.heap.size w w' :=
  gcanons_walk n (PN.of_rd n1 n2 h1 l1 h2 l2) (Nat.le_refl _) (Nat.le_refl _) htab
end Go.Proofs.YtgjainmfilkjmaaDoor

