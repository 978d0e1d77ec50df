/- frac: Add, Sub, Mul, Quo, Cmp, Floor, Round. -/
import Derived.Test.YtkgbfnmlpajblaaGreatDoorQ3
namespace Go.Proofs.YtkgbfnmlpajblaaGreatDoor
open Go Go.RowKit Dig
set_option linter.unusedVariables false

theorem zlen_opAdd {x y : Int} {l m : Nat} (hx : (dig x.natAbs).length ≤ l) (hy : (dig y.natAbs).length ≤ m) : (dig (opAdd x y).natAbs).length ≤ l + m + 1 := zlen_add hx hy
section
variable {w : World} {va vb : Value} {x y u v : Int} {l m k n : Nat}

set_option maxHeartbeats 4000000 in
set_option maxRecDepth 20000 in
theorem fAdd_any0 (ha : PN w va x l y m) (hq : PN w vb u k v n) (hl : l ≤ 10000000) (hm : m ≤ 10000000) (hk : k ≤ 10000000) (hn : n ≤ 10000000) (h0 : y * v ≠ 0) (hy : y ≠ 0) (hv : v ≠ 0) :
    Calls Tryz.prog 35 #[va, vb] w fun e w' => ∃ r, e = .returned (.tuple #[r, .int .i64 0]) ∧ PC w' r (qN (opAdd (x * v) (u * y)) (y * v)) (qD (opAdd (x * v) (u * y)) (y * v)) ∧ Below w.heap.size w w' := by
  have HY := hide hy
  have HV := hide hv
  have H0 := hide h0
  clear hy hv h0
  obtain ⟨n_0a, o_0a, k_0a, c_0a, n_0b, o_0b, k_0b, c_0b, rfl, ha1, ha2⟩ := ha
  obtain ⟨n_1a, o_1a, k_1a, c_1a, n_1b, o_1b, k_1b, c_1b, rfl, hq1, hq2⟩ := hq
  go_enter Tryz.func35, Tryz.ntmps35
  have hb := Below.refl w.heap.size w
  refine wp_seq_k ?_
  intro K1 hK1
  refine wp_region_sq [0, 1, 2, 3] (by kernel_rfl) ?_
  refine wpSq_call rfl (by kernel_rfl) fun K hK => ?_
  go_big_op
  obtain ⟨p_b1, w_1, eP, eW, x_b1, hn, kb_b1⟩ := newBox w #[.bool n_0a, .slice o_0a k_0a c_0a, .bool n_0b, .slice o_0b k_0b c_0b] 26 hb.size
  rw [eW, eP]
  clear eW eP
  replace ha1 := ha1.bl hn; replace ha2 := ha2.bl hn; replace hq1 := hq1.bl hn; replace hq2 := hq2.bl hn; replace hb := hb.trans (hn.mono hb.size)
  refine hK _ _ rfl ?_; clear hK K hn
  refine wpSq_call rfl (by kernel_rfl) fun K hK => ?_
  go_big_op
  have lt_b1 := x_b1.lt
  obtain ⟨p_b2, w_2, eP, eW, x_b2, hn, kb_b2⟩ := newBox w_1 #[.bool n_1a, .slice o_1a k_1a c_1a, .bool n_1b, .slice o_1b k_1b c_1b] 26 hb.size
  have ne_b1_b2 : Hid (p_b1 ≠ p_b2) := Nat.ne_of_lt (eP ▸ lt_b1)
  rw [eW, eP]
  clear eW eP lt_b1
  replace ha1 := ha1.bl hn; replace ha2 := ha2.bl hn; replace hq1 := hq1.bl hn; replace hq2 := hq2.bl hn; replace x_b1 := x_b1.bl hn; replace hb := hb.trans (hn.mono hb.size)
  refine hK _ _ rfl ?_; clear hK K hn
  refine wpSq_call rfl (by kernel_rfl) fun K hK => ?_
  go_big_op
  have lt_b1 := x_b1.lt
  have lt_b2 := x_b2.lt
  obtain ⟨p_b3, w_3, eP, eW, x_b3, hn, kb_b3⟩ := newBox w_2 #[.bool false, .slice none 0 0, .bool false, .slice none 0 0] 26 hb.size
  have ne_b1_b3 : Hid (p_b1 ≠ p_b3) := Nat.ne_of_lt (eP ▸ lt_b1)
  have ne_b2_b3 : Hid (p_b2 ≠ p_b3) := Nat.ne_of_lt (eP ▸ lt_b2)
  rw [eW, eP]
  clear eW eP lt_b1 lt_b2
  replace ha1 := ha1.bl hn; replace ha2 := ha2.bl hn; replace hq1 := hq1.bl hn; replace hq2 := hq2.bl hn; replace x_b1 := x_b1.bl hn; replace x_b2 := x_b2.bl hn; replace hb := hb.trans (hn.mono hb.size)
  refine hK _ _ rfl ?_; clear hK K hn
  refine wpSq_call rfl (by kernel_rfl) fun K hK => ?_
  go_big_move; refine hK _ _ rfl ?_; clear hK K
  apply wpSq_end
  refine hK1 _ _ ?_
  refine wp_seq_k ?_
  intro K2 hK2
  refine wp_region_sq [0, 1, 2, 3, 4, 5, 6, 7] (by kernel_rfl) ?_
  refine wpSq_call rfl (by kernel_rfl) fun K hK => ?_
  obtain ⟨d0, d1, d2, d3⟩ := x_b1.f4
  go_big_op; refine hK _ _ rfl ?_; clear hK K d0 d1 d2 d3
  refine wpSq_call rfl (by kernel_rfl) fun K hK => ?_
  obtain ⟨d0, d1, d2, d3⟩ := x_b2.f4
  go_big_op; refine hK _ _ rfl ?_; clear hK K d0 d1 d2 d3
  refine wpSq_call rfl (by kernel_rfl) fun K hK => ?_
  go_big_op; refine hK _ _ rfl ?_; clear hK K
  refine wpSq_call rfl (by kernel_rfl) fun K hK => ?_
  go_big_op
  go_fit (of2Add_any x_b1 x_b2 ha1 ha2 hq1 hq2 hl hm hk hn HY.out HV.out H0.out)
  rintro e w_4 ⟨_, rfl, ⟨n_g1a, o_g1a, k_g1a, c_g1a, n_g1b, o_g1b, k_g1b, c_g1b, rfl, g11, g12⟩, hb_4⟩
  replace ha1 := ha1.bl hb_4; replace ha2 := ha2.bl hb_4; replace hq1 := hq1.bl hb_4; replace hq2 := hq2.bl hb_4; replace x_b1 := x_b1.bl hb_4; replace x_b2 := x_b2.bl hb_4; replace x_b3 := x_b3.bl hb_4; replace hb := hb.trans (hb_4.mono hb.size)
  refine hK _ _ rfl ?_
  clear hK K hb_4
  refine wpSq_call rfl (by kernel_rfl) fun K hK => ?_
  go_big_op; refine hK _ _ rfl ?_; clear hK K
  refine wpSq_call rfl (by kernel_rfl) fun K hK => ?_
  go_big_op; refine hK _ _ rfl ?_; clear hK K
  refine wpSq_call rfl (by kernel_rfl) fun K hK => ?_
  obtain ⟨d0, d1, d2, d3⟩ := x_b3.f4
  have f0 := x_b3.free 0; have f1 := x_b3.free 1; have f2 := x_b3.free 2; have f3 := x_b3.free 3
  go_big_op
  have hnd := x_b3.nod rfl rfl
  obtain ⟨w_5, eW, x_b3', ho⟩ : ∃ w', ((((w_4.setCell ⟨p_b3, 0, none⟩ (.bool n_g1a)).setCell ⟨p_b3, 1, none⟩ (.slice o_g1a k_g1a c_g1a)).setCell ⟨p_b3, 2, none⟩ (.bool n_g1b)).setCell ⟨p_b3, 3, none⟩ (.slice o_g1b k_g1b c_g1b)) = w' ∧ Bs w' p_b3 #[.bool n_g1a, .slice o_g1a k_g1a c_g1a, .bool n_g1b, .slice o_g1b k_g1b c_g1b] 26 ∧ Only p_b3 w_4 w' := x_b3.setN [(0, .bool n_g1a), (1, .slice o_g1a k_g1a c_g1a), (2, .bool n_g1b), (3, .slice o_g1b k_g1b c_g1b)]
  rw [eW]; clear eW d0 d1 d2 d3 f0 f1 f2 f3 x_b3
  have x_b3 := x_b3'; clear x_b3'
  clear ha1 ha2 hq1 hq2 x_b1 x_b2
  replace g11 := g11.fr hnd ho; replace g12 := g12.fr hnd ho; replace hb := belowOnly hb ho kb_b3
  refine hK _ _ rfl ?_; clear hK K ho hnd
  refine wpSq_call rfl (by kernel_rfl) fun K hK => ?_
  go_big_move; refine hK _ _ rfl ?_; clear hK K
  apply wpSq_end
  refine hK2 _ _ ?_
  refine wp_ret ?_
  try dsimp only [Exit.then, Exit.inBlock]
  obtain ⟨r0_0, r0_1, r0_2, r0_3⟩ := x_b3.f4
  refine bodyPost_ret (v := (.tuple #[(.agg #[.bool n_g1a, .slice o_g1a k_g1a c_g1a, .bool n_g1b, .slice o_g1b k_g1b c_g1b]), (.int .i64 0)])) (by simp [results, Tryz.results35, go_sem, r0_0, r0_1, r0_2, r0_3]) rfl ?_
  exact ⟨_, rfl, .mk' g11 g12, hb⟩
theorem fAdd_any (ha : PN w va x l y m) (hq : PN w vb u k v n) (hl : l ≤ 10000000) (hm : m ≤ 10000000) (hk : k ≤ 10000000) (hn : n ≤ 10000000) (h0 : y * v ≠ 0) :
    Calls Tryz.prog 35 #[va, vb] w fun e w' => ∃ r, e = .returned (.tuple #[r, .int .i64 0]) ∧ PC w' r (qN (opAdd (x * v) (u * y)) (y * v)) (qD (opAdd (x * v) (u * y)) (y * v)) ∧ Below w.heap.size w w' :=
  fAdd_any0 ha hq hl hm hk hn h0 (fun h => h0 (by rw [h, Int.zero_mul])) (fun h => h0 (by rw [h, Int.mul_zero]))
set_option maxHeartbeats 4000000 in
set_option maxRecDepth 20000 in
theorem fQuo_zero (ha : PN w va x l y m) (hq : PN w vb 0 k v n) (hl : l ≤ 10000000) (hm : m ≤ 10000000) (hk : k ≤ 10000000) (hn : n ≤ 10000000) (hy : y ≠ 0) (hv : v ≠ 0) :
    Calls Tryz.prog 20 #[va, vb] w fun e w' => e = .returned (.tuple #[.agg #[.bool false, .slice none 0 0, .bool false, .slice none 0 0], .int .i64 5]) ∧ Below w.heap.size w w' := by
  have HY := hide hy
  have HV := hide hv
  clear hy hv
  obtain ⟨n_0a, o_0a, k_0a, c_0a, n_0b, o_0b, k_0b, c_0b, rfl, ha1, ha2⟩ := ha
  obtain ⟨n_1a, o_1a, k_1a, c_1a, n_1b, o_1b, k_1b, c_1b, rfl, hq1, hq2⟩ := hq
  go_enter Tryz.func20, Tryz.ntmps20
  have hb := Below.refl w.heap.size w
  refine wp_seq_k ?_
  intro K1 hK1
  refine wp_region_sq [0, 1, 2, 3] (by kernel_rfl) ?_
  refine wpSq_call rfl (by kernel_rfl) fun K hK => ?_
  go_big_op
  obtain ⟨p_b1, w_1, eP, eW, x_b1, hn, kb_b1⟩ := newBox w #[.bool n_0a, .slice o_0a k_0a c_0a, .bool n_0b, .slice o_0b k_0b c_0b] 26 hb.size
  rw [eW, eP]
  clear eW eP
  replace ha1 := ha1.bl hn; replace ha2 := ha2.bl hn; replace hq1 := hq1.bl hn; replace hq2 := hq2.bl hn; replace hb := hb.trans (hn.mono hb.size)
  refine hK _ _ rfl ?_; clear hK K hn
  refine wpSq_call rfl (by kernel_rfl) fun K hK => ?_
  go_big_op
  have lt_b1 := x_b1.lt
  obtain ⟨p_b2, w_2, eP, eW, x_b2, hn, kb_b2⟩ := newBox w_1 #[.bool n_1a, .slice o_1a k_1a c_1a, .bool n_1b, .slice o_1b k_1b c_1b] 26 hb.size
  have ne_b1_b2 : Hid (p_b1 ≠ p_b2) := Nat.ne_of_lt (eP ▸ lt_b1)
  rw [eW, eP]
  clear eW eP lt_b1
  replace ha1 := ha1.bl hn; replace ha2 := ha2.bl hn; replace hq1 := hq1.bl hn; replace hq2 := hq2.bl hn; replace x_b1 := x_b1.bl hn; replace hb := hb.trans (hn.mono hb.size)
  refine hK _ _ rfl ?_; clear hK K hn
  refine wpSq_call rfl (by kernel_rfl) fun K hK => ?_
  go_big_op
  have lt_b1 := x_b1.lt
  have lt_b2 := x_b2.lt
  obtain ⟨p_b3, w_3, eP, eW, x_b3, hn, kb_b3⟩ := newBox w_2 #[.bool false, .slice none 0 0, .bool false, .slice none 0 0] 26 hb.size
  have ne_b1_b3 : Hid (p_b1 ≠ p_b3) := Nat.ne_of_lt (eP ▸ lt_b1)
  have ne_b2_b3 : Hid (p_b2 ≠ p_b3) := Nat.ne_of_lt (eP ▸ lt_b2)
  rw [eW, eP]
  clear eW eP lt_b1 lt_b2
  replace ha1 := ha1.bl hn; replace ha2 := ha2.bl hn; replace hq1 := hq1.bl hn; replace hq2 := hq2.bl hn; replace x_b1 := x_b1.bl hn; replace x_b2 := x_b2.bl hn; replace hb := hb.trans (hn.mono hb.size)
  refine hK _ _ rfl ?_; clear hK K hn
  refine wpSq_call rfl (by kernel_rfl) fun K hK => ?_
  go_big_move; refine hK _ _ rfl ?_; clear hK K
  apply wpSq_end
  refine hK1 _ _ ?_
  refine wp_seq_k ?_
  intro K2 hK2
  refine wp_region_sq [0, 1, 2, 3, 4, 5, 6, 7] (by kernel_rfl) ?_
  refine wpSq_call rfl (by kernel_rfl) fun K hK => ?_
  obtain ⟨d0, d1, d2, d3⟩ := x_b1.f4
  go_big_op; refine hK _ _ rfl ?_; clear hK K d0 d1 d2 d3
  refine wpSq_call rfl (by kernel_rfl) fun K hK => ?_
  obtain ⟨d0, d1, d2, d3⟩ := x_b2.f4
  go_big_op; refine hK _ _ rfl ?_; clear hK K d0 d1 d2 d3
  refine wpSq_call rfl (by kernel_rfl) fun K hK => ?_
  go_big_op; refine hK _ _ rfl ?_; clear hK K
  refine wpSq_call rfl (by kernel_rfl) fun K hK => ?_
  go_big_op
  go_fit (of2Quo_zero x_b1 x_b2 ha1 ha2 hq1 hq2 hl hm hk hn HY.out HV.out)
  rintro e w_4 ⟨rfl, hb_4⟩
  replace ha1 := ha1.bl hb_4; replace ha2 := ha2.bl hb_4; replace hq1 := hq1.bl hb_4; replace hq2 := hq2.bl hb_4; replace x_b1 := x_b1.bl hb_4; replace x_b2 := x_b2.bl hb_4; replace x_b3 := x_b3.bl hb_4; replace hb := hb.trans (hb_4.mono hb.size)
  refine hK _ _ rfl ?_
  clear hK K hb_4
  refine wpSq_call rfl (by kernel_rfl) fun K hK => ?_
  go_big_op; refine hK _ _ rfl ?_; clear hK K
  refine wpSq_call rfl (by kernel_rfl) fun K hK => ?_
  go_big_op; refine hK _ _ rfl ?_; clear hK K
  refine wpSq_call rfl (by kernel_rfl) fun K hK => ?_
  obtain ⟨d0, d1, d2, d3⟩ := x_b3.f4
  have f0 := x_b3.free 0; have f1 := x_b3.free 1; have f2 := x_b3.free 2; have f3 := x_b3.free 3
  go_big_op
  have hnd := x_b3.nod rfl rfl
  obtain ⟨w_5, eW, x_b3', ho⟩ : ∃ w', ((((w_4.setCell ⟨p_b3, 0, none⟩ (.bool false)).setCell ⟨p_b3, 1, none⟩ (.slice none 0 0)).setCell ⟨p_b3, 2, none⟩ (.bool false)).setCell ⟨p_b3, 3, none⟩ (.slice none 0 0)) = w' ∧ Bs w' p_b3 #[.bool false, .slice none 0 0, .bool false, .slice none 0 0] 26 ∧ Only p_b3 w_4 w' := x_b3.setN [(0, .bool false), (1, .slice none 0 0), (2, .bool false), (3, .slice none 0 0)]
  rw [eW]; clear eW d0 d1 d2 d3 f0 f1 f2 f3 x_b3
  have x_b3 := x_b3'; clear x_b3'
  clear ha1 ha2 hq1 hq2 x_b1 x_b2
  replace hb := belowOnly hb ho kb_b3
  refine hK _ _ rfl ?_; clear hK K ho hnd
  refine wpSq_call rfl (by kernel_rfl) fun K hK => ?_
  go_big_move; refine hK _ _ rfl ?_; clear hK K
  apply wpSq_end
  refine hK2 _ _ ?_
  refine wp_ret ?_
  try dsimp only [Exit.then, Exit.inBlock]
  obtain ⟨r0_0, r0_1, r0_2, r0_3⟩ := x_b3.f4
  refine bodyPost_ret (v := (.tuple #[(.agg #[.bool false, .slice none 0 0, .bool false, .slice none 0 0]), (.int .i64 5)])) (by simp [results, Tryz.results20, go_sem, r0_0, r0_1, r0_2, r0_3]) rfl ?_
  exact ⟨rfl, hb⟩
/-- How two rationals compare, whatever the signs of their denominators. -/
def qcmp (x y u v : Int) : Int := zcmp (x * v) (u * y) * y.sign * v.sign
theorem sign3 {a b c : Int} (ha : -1 ≤ a ∧ a ≤ 1) (hb : -1 ≤ b ∧ b ≤ 1) (hc : -1 ≤ c ∧ c ≤ 1) : IntKind.i64.wrap (a * b) = a * b ∧ IntKind.i64.wrap (a * b * c) = a * b * c := by
  have h1 : a = -1 ∨ a = 0 ∨ a = 1 := by omega
  have h2 : b = -1 ∨ b = 0 ∨ b = 1 := by omega
  have h3 : c = -1 ∨ c = 0 ∨ c = 1 := by omega
  rcases h1 with rfl | rfl | rfl <;> rcases h2 with rfl | rfl | rfl <;> rcases h3 with rfl | rfl | rfl <;> decide
set_option maxHeartbeats 4000000 in
set_option maxRecDepth 20000 in
theorem fCmp_any (ha : PN w va x l y m) (hq : PN w vb u k v n) (hl : l ≤ 10000000) (hm : m ≤ 10000000) (hk : k ≤ 10000000) (hn : n ≤ 10000000) (hy : y ≠ 0) (hv : v ≠ 0) :
    Calls Tryz.prog 21 #[va, vb] w fun e w' => e = .returned (.tuple #[.int .i64 (qcmp x y u v), .int .i64 0]) ∧ Below w.heap.size w w' := by
  have HY := hide hy
  have HV := hide hv
  clear hy hv
  obtain ⟨C, hC⟩ : ∃ C, zcmp (x * v) (u * y) = C := ⟨_, rfl⟩
  obtain ⟨S, hS⟩ : ∃ S, y.sign = S := ⟨_, rfl⟩
  obtain ⟨T, hT⟩ : ∃ T, v.sign = T := ⟨_, rfl⟩
  have hw := sign3 (a := C) (b := S) (c := T) (by rw [← hC]; exact zcmp_bd _ _) (by rw [← hS]; exact sign_bd _) (by rw [← hT]; exact sign_bd _)
  obtain ⟨D, hD⟩ : ∃ D, C * S = D := ⟨_, rfl⟩
  have e1 : IntKind.i64.wrap (C * S) = D := by rw [hw.1, hD]
  have e2 : IntKind.i64.wrap (D * T) = D * T := by rw [← hD]; exact hw.2
  have HC := hide hC
  have HS := hide hS
  have HT := hide hT
  have HE := hide (show qcmp x y u v = D * T by unfold qcmp; rw [hC, hS, hT, hD])
  rw [HE.out]
  clear hC hS hT hD hw
  obtain ⟨n_0a, o_0a, k_0a, c_0a, n_0b, o_0b, k_0b, c_0b, rfl, ha1, ha2⟩ := ha
  obtain ⟨n_1a, o_1a, k_1a, c_1a, n_1b, o_1b, k_1b, c_1b, rfl, hq1, hq2⟩ := hq
  go_enter Tryz.func21, Tryz.ntmps21
  have hb := Below.refl w.heap.size w
  refine wp_seq_k ?_
  intro K1 hK1
  refine wp_region_sq [0, 1, 2, 3] (by kernel_rfl) ?_
  refine wpSq_call rfl (by kernel_rfl) fun K hK => ?_
  go_big_op
  obtain ⟨p_b1, w_1, eP, eW, x_b1, hn, kb_b1⟩ := newBox w #[.bool n_0a, .slice o_0a k_0a c_0a, .bool n_0b, .slice o_0b k_0b c_0b] 26 hb.size
  rw [eW, eP]
  clear eW eP
  replace ha1 := ha1.bl hn; replace ha2 := ha2.bl hn; replace hq1 := hq1.bl hn; replace hq2 := hq2.bl hn; replace hb := hb.trans (hn.mono hb.size)
  refine hK _ _ rfl ?_; clear hK K hn
  refine wpSq_call rfl (by kernel_rfl) fun K hK => ?_
  go_big_op
  have lt_b1 := x_b1.lt
  obtain ⟨p_b2, w_2, eP, eW, x_b2, hn, kb_b2⟩ := newBox w_1 #[.bool n_1a, .slice o_1a k_1a c_1a, .bool n_1b, .slice o_1b k_1b c_1b] 26 hb.size
  have ne_b1_b2 : Hid (p_b1 ≠ p_b2) := Nat.ne_of_lt (eP ▸ lt_b1)
  rw [eW, eP]
  clear eW eP lt_b1
  replace ha1 := ha1.bl hn; replace ha2 := ha2.bl hn; replace hq1 := hq1.bl hn; replace hq2 := hq2.bl hn; replace x_b1 := x_b1.bl hn; replace hb := hb.trans (hn.mono hb.size)
  refine hK _ _ rfl ?_; clear hK K hn
  refine wpSq_call rfl (by kernel_rfl) fun K hK => ?_
  go_big_move; refine hK _ _ rfl ?_; clear hK K
  refine wpSq_call rfl (by kernel_rfl) fun K hK => ?_
  go_big_move; refine hK _ _ rfl ?_; clear hK K
  apply wpSq_end
  refine hK1 _ _ ?_
  refine wp_seq_k ?_
  intro K2 hK2
  refine wp_seq_k ?_
  intro K3 hK3
  refine wp_region_sq [0, 1, 2, 3] (by kernel_rfl) ?_
  refine wpSq_call rfl (by kernel_rfl) fun K hK => ?_
  obtain ⟨d0, d1, d2, d3⟩ := x_b1.f4
  go_big_op; refine hK _ _ rfl ?_; clear hK K d0 d1 d2 d3
  refine wpSq_call rfl (by kernel_rfl) fun K hK => ?_
  obtain ⟨d0, d1, d2, d3⟩ := x_b2.f4
  go_big_op; refine hK _ _ rfl ?_; clear hK K d0 d1 d2 d3
  refine wpSq_call rfl (by kernel_rfl) fun K hK => ?_
  go_big_op
  have lt_b1 := x_b1.lt
  have lt_b2 := x_b2.lt
  obtain ⟨p_b3, w_3, eP, eW, x_b3, hn, kb_b3⟩ := newBox w_2 #[.bool n_0a, .slice o_0a k_0a c_0a, .bool n_0b, .slice o_0b k_0b c_0b, .bool n_1a, .slice o_1a k_1a c_1a, .bool n_1b, .slice o_1b k_1b c_1b] 26 hb.size
  have ne_b1_b3 : Hid (p_b1 ≠ p_b3) := Nat.ne_of_lt (eP ▸ lt_b1)
  have ne_b2_b3 : Hid (p_b2 ≠ p_b3) := Nat.ne_of_lt (eP ▸ lt_b2)
  rw [eW, eP]
  clear eW eP lt_b1 lt_b2
  replace ha1 := ha1.bl hn; replace ha2 := ha2.bl hn; replace hq1 := hq1.bl hn; replace hq2 := hq2.bl hn; replace x_b1 := x_b1.bl hn; replace x_b2 := x_b2.bl hn; replace hb := hb.trans (hn.mono hb.size)
  refine hK _ _ rfl ?_; clear hK K hn
  refine wpSq_call rfl (by kernel_rfl) fun K hK => ?_
  go_big_op
  go_fit (div0_none x_b3 ha2 hq2 (by omega) (by omega) HY.out HV.out)
  rintro e w_4 ⟨rfl, hb_4⟩
  replace ha1 := ha1.bl hb_4; replace ha2 := ha2.bl hb_4; replace hq1 := hq1.bl hb_4; replace hq2 := hq2.bl hb_4; replace x_b1 := x_b1.bl hb_4; replace x_b2 := x_b2.bl hb_4; replace x_b3 := x_b3.bl hb_4; replace hb := hb.trans (hb_4.mono hb.size)
  refine hK _ _ rfl ?_
  clear hK K hb_4
  apply wpSq_end
  refine hK3 _ _ ?_
  refine wp_cond_false (congrArg Value.bool (show _ = false from (by first | rfl | assumption | (simp; done) | omega))) ?_
  refine wp_skip ?_
  refine hK2 _ _ ?_
  refine wp_seq_k ?_
  intro K4 hK4
  refine wp_region_sq [0, 1, 2, 3, 4, 5, 6, 7, 8, 9] (by kernel_rfl) ?_
  refine wpSq_call rfl (by kernel_rfl) fun K hK => ?_
  obtain ⟨d0, d1, d2, d3⟩ := x_b1.f4
  go_big_op; refine hK _ _ rfl ?_; clear hK K d0 d1 d2 d3
  refine wpSq_call rfl (by kernel_rfl) fun K hK => ?_
  obtain ⟨d0, d1, d2, d3⟩ := x_b2.f4
  go_big_op; refine hK _ _ rfl ?_; clear hK K d0 d1 d2 d3
  refine wpSq_call rfl (by kernel_rfl) fun K hK => ?_
  go_big_op
  go_fit (over_any (PN.mk' ha1 ha2) (PN.mk' hq1 hq2) (by omega) (by omega) (by omega) (by omega) )
  rintro e w_5 ⟨v_g1, v_g2, rfl, g1, g2, hb_5⟩
  clear x_b3
  replace ha1 := ha1.bl hb_5; replace ha2 := ha2.bl hb_5; replace hq1 := hq1.bl hb_5; replace hq2 := hq2.bl hb_5; replace x_b1 := x_b1.bl hb_5; replace x_b2 := x_b2.bl hb_5; replace hb := hb.trans (hb_5.mono hb.size)
  obtain ⟨n_g1, o_g1, k_g1, c_g1, rfl⟩ := g1.open2
  obtain ⟨n_g2, o_g2, k_g2, c_g2, rfl⟩ := g2.open2
  have Lg1 := hide (g1.lenOf (zlen_mul (ha1.len) (hq2.len)))
  have Lg2 := hide (g2.lenOf (zlen_mul (hq1.len) (ha2.len)))
  refine hK _ _ rfl ?_
  clear hK K hb_5
  refine wpSq_call rfl (by kernel_rfl) fun K hK => ?_
  go_big_move; refine hK _ _ rfl ?_; clear hK K
  refine wpSq_call rfl (by kernel_rfl) fun K hK => ?_
  go_big_op; refine hK _ _ rfl ?_; clear hK K
  refine wpSq_call rfl (by kernel_rfl) fun K hK => ?_
  go_big_op; refine hK _ _ rfl ?_; clear hK K
  refine wpSq_call rfl (by kernel_rfl) fun K hK => ?_
  go_big_op
  have lt_b1 := x_b1.lt
  have lt_b2 := x_b2.lt
  obtain ⟨p_b4, w_6, eP, eW, x_b4, hn, kb_b4⟩ := newBox w_5 #[.bool false, .slice none 0 0] 24 hb.size
  have ne_b1_b4 : Hid (p_b1 ≠ p_b4) := Nat.ne_of_lt (eP ▸ lt_b1)
  have ne_b2_b4 : Hid (p_b2 ≠ p_b4) := Nat.ne_of_lt (eP ▸ lt_b2)
  rw [eW, eP]
  clear eW eP lt_b1 lt_b2
  replace ha1 := ha1.bl hn; replace ha2 := ha2.bl hn; replace hq1 := hq1.bl hn; replace hq2 := hq2.bl hn; replace x_b1 := x_b1.bl hn; replace x_b2 := x_b2.bl hn; replace g1 := g1.bl hn; replace g2 := g2.bl hn; replace hb := hb.trans (hn.mono hb.size)
  refine hK _ _ rfl ?_; clear hK K hn
  refine wpSq_call rfl (by kernel_rfl) fun K hK => ?_
  go_big_op
  have lt_b1 := x_b1.lt
  have lt_b2 := x_b2.lt
  have lt_b4 := x_b4.lt
  obtain ⟨p_b5, w_7, eP, eW, x_b5, hn, kb_b5⟩ := newBox w_6 #[.bool false, .slice none 0 0] 24 hb.size
  have ne_b1_b5 : Hid (p_b1 ≠ p_b5) := Nat.ne_of_lt (eP ▸ lt_b1)
  have ne_b2_b5 : Hid (p_b2 ≠ p_b5) := Nat.ne_of_lt (eP ▸ lt_b2)
  have ne_b4_b5 : Hid (p_b4 ≠ p_b5) := Nat.ne_of_lt (eP ▸ lt_b4)
  rw [eW, eP]
  clear eW eP lt_b1 lt_b2 lt_b4
  replace ha1 := ha1.bl hn; replace ha2 := ha2.bl hn; replace hq1 := hq1.bl hn; replace hq2 := hq2.bl hn; replace x_b1 := x_b1.bl hn; replace x_b2 := x_b2.bl hn; replace g1 := g1.bl hn; replace g2 := g2.bl hn; replace x_b4 := x_b4.bl hn; replace hb := hb.trans (hn.mono hb.size)
  refine hK _ _ rfl ?_; clear hK K hn
  refine wpSq_call rfl (by kernel_rfl) fun K hK => ?_
  obtain ⟨d0, d1⟩ := x_b4.f2
  have f0 := x_b4.free 0; have f1 := x_b4.free 1
  go_big_op
  have hnd := x_b4.nod rfl rfl
  obtain ⟨w_8, eW, x_b4', ho⟩ : ∃ w', ((w_7.setCell ⟨p_b4, 0, none⟩ (.bool n_g1)).setCell ⟨p_b4, 1, none⟩ (.slice o_g1 k_g1 c_g1)) = w' ∧ Bs w' p_b4 #[.bool n_g1, .slice o_g1 k_g1 c_g1] 24 ∧ Only p_b4 w_7 w' := x_b4.setN [(0, .bool n_g1), (1, .slice o_g1 k_g1 c_g1)]
  rw [eW]; clear eW d0 d1 f0 f1 x_b4
  have x_b4 := x_b4'; clear x_b4'
  replace ha1 := ha1.fr hnd ho; replace ha2 := ha2.fr hnd ho; replace hq1 := hq1.fr hnd ho; replace hq2 := hq2.fr hnd ho; replace x_b1 := x_b1.frame ho ne_b1_b4; replace x_b2 := x_b2.frame ho ne_b2_b4; replace g1 := g1.fr hnd ho; replace g2 := g2.fr hnd ho; replace x_b5 := x_b5.frame ho ne_b4_b5.symm; replace hb := belowOnly hb ho kb_b4
  refine hK _ _ rfl ?_; clear hK K ho hnd
  refine wpSq_call rfl (by kernel_rfl) fun K hK => ?_
  obtain ⟨d0, d1⟩ := x_b5.f2
  have f0 := x_b5.free 0; have f1 := x_b5.free 1
  go_big_op
  have hnd := x_b5.nod rfl rfl
  obtain ⟨w_9, eW, x_b5', ho⟩ : ∃ w', ((w_8.setCell ⟨p_b5, 0, none⟩ (.bool n_g2)).setCell ⟨p_b5, 1, none⟩ (.slice o_g2 k_g2 c_g2)) = w' ∧ Bs w' p_b5 #[.bool n_g2, .slice o_g2 k_g2 c_g2] 24 ∧ Only p_b5 w_8 w' := x_b5.setN [(0, .bool n_g2), (1, .slice o_g2 k_g2 c_g2)]
  rw [eW]; clear eW d0 d1 f0 f1 x_b5
  have x_b5 := x_b5'; clear x_b5'
  replace ha1 := ha1.fr hnd ho; replace ha2 := ha2.fr hnd ho; replace hq1 := hq1.fr hnd ho; replace hq2 := hq2.fr hnd ho; replace x_b1 := x_b1.frame ho ne_b1_b5; replace x_b2 := x_b2.frame ho ne_b2_b5; replace g1 := g1.fr hnd ho; replace g2 := g2.fr hnd ho; replace x_b4 := x_b4.frame ho ne_b4_b5; replace hb := belowOnly hb ho kb_b5
  refine hK _ _ rfl ?_; clear hK K ho hnd
  apply wpSq_end
  refine hK4 _ _ ?_
  refine wp_seq_k ?_
  intro K5 hK5
  refine wp_region_fl2 [(0, false), (1, false), (3, false), (4, false), (7, false), (8, false), (2, true), (5, true), (6, false), (9, true), (10, false), (11, false), (12, false)] [] [] (fun _ => default) [0, 1, 99, 99, 2, 99, 99, 99, 3, 99, 99, 99, 99] [] (fun w' => w'.cell? ⟨p_b4, 0, none⟩ = some (.bool n_g1) ∧ w'.cell? ⟨p_b4, 1, none⟩ = some (.slice o_g1 k_g1 c_g1) ∧ w'.cell? ⟨p_b5, 0, none⟩ = some (.bool n_g2) ∧ w'.cell? ⟨p_b5, 1, none⟩ = some (.slice o_g2 k_g2 c_g2) ∧ w'.cell? ⟨p_b1, 0, none⟩ = some (.bool n_0a) ∧ w'.cell? ⟨p_b1, 1, none⟩ = some (.slice o_0a k_0a c_0a) ∧ w'.cell? ⟨p_b1, 2, none⟩ = some (.bool n_0b) ∧ w'.cell? ⟨p_b1, 3, none⟩ = some (.slice o_0b k_0b c_0b) ∧ w'.cell? ⟨p_b2, 0, none⟩ = some (.bool n_1a) ∧ w'.cell? ⟨p_b2, 1, none⟩ = some (.slice o_1a k_1a c_1a) ∧ w'.cell? ⟨p_b2, 2, none⟩ = some (.bool n_1b) ∧ w'.cell? ⟨p_b2, 3, none⟩ = some (.slice o_1b k_1b c_1b)) [fun w' => w'.cell? ⟨p_b4, 0, none⟩ = some (.bool n_g1) ∧ w'.cell? ⟨p_b4, 1, none⟩ = some (.slice o_g1 k_g1 c_g1), fun w' => w'.cell? ⟨p_b5, 0, none⟩ = some (.bool n_g2) ∧ w'.cell? ⟨p_b5, 1, none⟩ = some (.slice o_g2 k_g2 c_g2), fun w' => w'.cell? ⟨p_b1, 0, none⟩ = some (.bool n_0a) ∧ w'.cell? ⟨p_b1, 1, none⟩ = some (.slice o_0a k_0a c_0a) ∧ w'.cell? ⟨p_b1, 2, none⟩ = some (.bool n_0b) ∧ w'.cell? ⟨p_b1, 3, none⟩ = some (.slice o_0b k_0b c_0b), fun w' => w'.cell? ⟨p_b2, 0, none⟩ = some (.bool n_1a) ∧ w'.cell? ⟨p_b2, 1, none⟩ = some (.slice o_1a k_1a c_1a) ∧ w'.cell? ⟨p_b2, 2, none⟩ = some (.bool n_1b) ∧ w'.cell? ⟨p_b2, 3, none⟩ = some (.slice o_1b k_1b c_1b)] (by kernel_rfl) (by kernel_rfl) (by kernel_rfl) (by kernel_rfl) (by kernel_rfl) (by kernel_rfl) (by kernel_rfl) (by kernel_rfl) (by decide) (by intro j hj; cases hj) (by intro w' o hC; obtain ⟨c0, c1, c2, c3, c4, c5, c6, c7, c8, c9, c10, c11⟩ := hC; exact ⟨cell_alloc c0 o, cell_alloc c1 o, cell_alloc c2 o, cell_alloc c3 o, cell_alloc c4 o, cell_alloc c5 o, cell_alloc c6 o, cell_alloc c7 o, cell_alloc c8 o, cell_alloc c9 o, cell_alloc c10 o, cell_alloc c11 o⟩) (by intro w' hC G hG; obtain ⟨c0, c1, c2, c3, c4, c5, c6, c7, c8, c9, c10, c11⟩ := hC; simp only [List.mem_cons, List.not_mem_nil, or_false] at hG; rcases hG with rfl | rfl | rfl | rfl <;> first | exact ⟨c0, c1⟩ | exact ⟨c2, c3⟩ | exact ⟨c4, c5, c6, c7⟩ | exact ⟨c8, c9, c10, c11⟩) ?_
  have lt_b1 := x_b1.lt
  have lt_b2 := x_b2.lt
  have lt_b4 := x_b4.lt
  have lt_b5 := x_b5.lt
  intro w_10 hn
  replace lt_b1 := Nat.lt_of_lt_of_le lt_b1 hn.size
  replace lt_b2 := Nat.lt_of_lt_of_le lt_b2 hn.size
  replace lt_b4 := Nat.lt_of_lt_of_le lt_b4 hn.size
  replace lt_b5 := Nat.lt_of_lt_of_le lt_b5 hn.size
  replace ha1 := ha1.bl hn; replace ha2 := ha2.bl hn; replace hq1 := hq1.bl hn; replace hq2 := hq2.bl hn; replace x_b1 := x_b1.bl hn; replace x_b2 := x_b2.bl hn; replace g1 := g1.bl hn; replace g2 := g2.bl hn; replace x_b4 := x_b4.bl hn; replace x_b5 := x_b5.bl hn; replace hb := hb.trans (hn.mono hb.size)
  clear hn
  have kb0 := hb.size
  refine ⟨⟨x_b4.cell 0 rfl, x_b4.cell 1 rfl, x_b5.cell 0 rfl, x_b5.cell 1 rfl, x_b1.cell 0 rfl, x_b1.cell 1 rfl, x_b1.cell 2 rfl, x_b1.cell 3 rfl, x_b2.cell 0 rfl, x_b2.cell 1 rfl, x_b2.cell 2 rfl, x_b2.cell 3 rfl⟩, ?_⟩
  apply wpFl_ld rfl rfl; (case h1 => intro w' hC K hK; obtain ⟨c0, c1⟩ := hC; go_big_op; exact hK); iterate 4 kernel_rfl
  apply wpFl_ld rfl rfl; (case h1 => intro w' hC K hK; obtain ⟨c0, c1⟩ := hC; go_big_op; exact hK); iterate 4 kernel_rfl
  apply wpFl_ld rfl rfl; (case h1 => intro w' hC K hK; go_big_op; exact hK); iterate 4 kernel_rfl
  apply wpFl_ld rfl rfl; (case h1 => intro w' hC K hK; obtain ⟨c0, c1, c2, c3⟩ := hC; go_big_op; exact hK); iterate 4 kernel_rfl
  apply wpFl_ld rfl rfl; (case h1 => intro w' hC K hK; go_big_op; exact hK); iterate 4 kernel_rfl
  apply wpFl_ld rfl rfl; (case h1 => intro w' hC K hK; obtain ⟨c0, c1, c2, c3⟩ := hC; go_big_op; exact hK); iterate 4 kernel_rfl
  refine wpFl_call rfl (by kernel_rfl) fun w_11 hn hC => ?_; clear hC
  replace ha1 := ha1.bl hn; replace ha2 := ha2.bl hn; replace hq1 := hq1.bl hn; replace hq2 := hq2.bl hn; replace x_b1 := x_b1.bl hn; replace x_b2 := x_b2.bl hn; replace g1 := g1.bl hn; replace g2 := g2.bl hn; replace x_b4 := x_b4.bl hn; replace x_b5 := x_b5.bl hn; replace hb := hb.trans (hn.mono hb.size)
  clear hn; intro K hK
  go_big_op
  go_fit (zcmp_any (g1.zn Lg1.out) (g2.zn Lg2.out) (by omega) (by omega) )
  rintro e w_12 ⟨rfl, hb_12⟩
  replace ha1 := ha1.bl hb_12; replace ha2 := ha2.bl hb_12; replace hq1 := hq1.bl hb_12; replace hq2 := hq2.bl hb_12; replace x_b1 := x_b1.bl hb_12; replace x_b2 := x_b2.bl hb_12; replace g1 := g1.bl hb_12; replace g2 := g2.bl hb_12; replace x_b4 := x_b4.bl hb_12; replace x_b5 := x_b5.bl hb_12; replace hb := hb.trans (hb_12.mono hb.size)
  rw [HC.out]
  refine hK _ _ rfl hb_12 ⟨x_b4.cell 0 rfl, x_b4.cell 1 rfl, x_b5.cell 0 rfl, x_b5.cell 1 rfl, x_b1.cell 0 rfl, x_b1.cell 1 rfl, x_b1.cell 2 rfl, x_b1.cell 3 rfl, x_b2.cell 0 rfl, x_b2.cell 1 rfl, x_b2.cell 2 rfl, x_b2.cell 3 rfl⟩ ?_
  clear hK K hb_12
  refine wpFl_call rfl (by kernel_rfl) fun w_13 hn hC => ?_; clear hC
  replace ha1 := ha1.bl hn; replace ha2 := ha2.bl hn; replace hq1 := hq1.bl hn; replace hq2 := hq2.bl hn; replace x_b1 := x_b1.bl hn; replace x_b2 := x_b2.bl hn; replace g1 := g1.bl hn; replace g2 := g2.bl hn; replace x_b4 := x_b4.bl hn; replace x_b5 := x_b5.bl hn; replace hb := hb.trans (hn.mono hb.size)
  clear hn; intro K hK
  go_big_op
  go_fit (zsign_any ha2 (by omega) )
  rintro e w_14 ⟨rfl, hb_14⟩
  replace ha1 := ha1.bl hb_14; replace ha2 := ha2.bl hb_14; replace hq1 := hq1.bl hb_14; replace hq2 := hq2.bl hb_14; replace x_b1 := x_b1.bl hb_14; replace x_b2 := x_b2.bl hb_14; replace g1 := g1.bl hb_14; replace g2 := g2.bl hb_14; replace x_b4 := x_b4.bl hb_14; replace x_b5 := x_b5.bl hb_14; replace hb := hb.trans (hb_14.mono hb.size)
  rw [HS.out]
  refine hK _ _ rfl hb_14 ⟨x_b4.cell 0 rfl, x_b4.cell 1 rfl, x_b5.cell 0 rfl, x_b5.cell 1 rfl, x_b1.cell 0 rfl, x_b1.cell 1 rfl, x_b1.cell 2 rfl, x_b1.cell 3 rfl, x_b2.cell 0 rfl, x_b2.cell 1 rfl, x_b2.cell 2 rfl, x_b2.cell 3 rfl⟩ ?_
  clear hK K hb_14
  apply wpFl_ld rfl rfl; (case h1 => intro w' hC K hK; go_big_op; exact hK); iterate 4 kernel_rfl
  refine wpFl_call rfl (by kernel_rfl) fun w_15 hn hC => ?_; clear hC
  replace ha1 := ha1.bl hn; replace ha2 := ha2.bl hn; replace hq1 := hq1.bl hn; replace hq2 := hq2.bl hn; replace x_b1 := x_b1.bl hn; replace x_b2 := x_b2.bl hn; replace g1 := g1.bl hn; replace g2 := g2.bl hn; replace x_b4 := x_b4.bl hn; replace x_b5 := x_b5.bl hn; replace hb := hb.trans (hn.mono hb.size)
  clear hn; intro K hK
  go_big_op
  go_fit (zsign_any hq2 (by omega) )
  rintro e w_16 ⟨rfl, hb_16⟩
  replace ha1 := ha1.bl hb_16; replace ha2 := ha2.bl hb_16; replace hq1 := hq1.bl hb_16; replace hq2 := hq2.bl hb_16; replace x_b1 := x_b1.bl hb_16; replace x_b2 := x_b2.bl hb_16; replace g1 := g1.bl hb_16; replace g2 := g2.bl hb_16; replace x_b4 := x_b4.bl hb_16; replace x_b5 := x_b5.bl hb_16; replace hb := hb.trans (hb_16.mono hb.size)
  rw [HT.out]
  refine hK _ _ rfl hb_16 ⟨x_b4.cell 0 rfl, x_b4.cell 1 rfl, x_b5.cell 0 rfl, x_b5.cell 1 rfl, x_b1.cell 0 rfl, x_b1.cell 1 rfl, x_b1.cell 2 rfl, x_b1.cell 3 rfl, x_b2.cell 0 rfl, x_b2.cell 1 rfl, x_b2.cell 2 rfl, x_b2.cell 3 rfl⟩ ?_
  clear hK K hb_16
  apply wpFl_ld rfl rfl; (case h1 => intro w' hC K hK; go_big_op; exact hK); iterate 4 kernel_rfl
  apply wpFl_ld rfl rfl; (case h1 => intro w' hC K hK; go_big_move; exact hK); iterate 4 kernel_rfl
  apply wpFl_ld rfl rfl; (case h1 => intro w' hC K hK; go_big_move; exact hK); iterate 4 kernel_rfl
  apply wpFl_end
  case ha => intro pt; simp only [putF]; rfl
  case h =>
  intro w_17 pt hn hC hF hD
  clear hC
  replace ha1 := ha1.bl hn; replace ha2 := ha2.bl hn; replace hq1 := hq1.bl hn; replace hq2 := hq2.bl hn; replace x_b1 := x_b1.bl hn; replace x_b2 := x_b2.bl hn; replace g1 := g1.bl hn; replace g2 := g2.bl hn; replace x_b4 := x_b4.bl hn; replace x_b5 := x_b5.bl hn; replace hb := hb.trans (hn.mono hb.size)
  clear hn
  clear hF hD
  clear pt
  clear kb0 lt_b1 lt_b2 lt_b4 lt_b5
  apply wpTail_end
  refine hK5 _ _ ?_
  refine wp_ret ?_
  try dsimp only [Exit.then, Exit.inBlock]
  refine bodyPost_ret (v := (.tuple #[.int .i64 (D * T), .int .i64 0])) (by simp [results, Tryz.results21, go_sem]) rfl ?_
  exact ⟨rfl, hb⟩
set_option maxHeartbeats 4000000 in
set_option maxRecDepth 20000 in
theorem fFloor_any (ha : PN w va x l y m) (hl : l ≤ 10000000) (hm : m ≤ 10000000) (hy : y ≠ 0) :
    Calls Tryz.prog 22 #[va] w fun e w' => ∃ r, e = .returned (.tuple #[r, .int .i64 0]) ∧ ZC w' r (x.fdiv y) ∧ Below w.heap.size w w' := by
  have HY := hide hy
  clear hy
  obtain ⟨n_0a, o_0a, k_0a, c_0a, n_0b, o_0b, k_0b, c_0b, rfl, ha1, ha2⟩ := ha
  go_enter Tryz.func22, Tryz.ntmps22
  have hb := Below.refl w.heap.size w
  refine wp_seq_k ?_
  intro K1 hK1
  refine wp_region_sq [0, 1, 2] (by kernel_rfl) ?_
  refine wpSq_call rfl (by kernel_rfl) fun K hK => ?_
  go_big_op
  obtain ⟨p_b1, w_1, eP, eW, x_b1, hn, kb_b1⟩ := newBox w #[.bool n_0a, .slice o_0a k_0a c_0a, .bool n_0b, .slice o_0b k_0b c_0b] 26 hb.size
  rw [eW, eP]
  clear eW eP
  replace ha1 := ha1.bl hn; replace ha2 := ha2.bl hn; replace hb := hb.trans (hn.mono hb.size)
  refine hK _ _ rfl ?_; clear hK K hn
  refine wpSq_call rfl (by kernel_rfl) fun K hK => ?_
  go_big_op
  have lt_b1 := x_b1.lt
  obtain ⟨p_b2, w_2, eP, eW, x_b2, hn, kb_b2⟩ := newBox w_1 #[.bool false, .slice none 0 0] 24 hb.size
  have ne_b1_b2 : Hid (p_b1 ≠ p_b2) := Nat.ne_of_lt (eP ▸ lt_b1)
  rw [eW, eP]
  clear eW eP lt_b1
  replace ha1 := ha1.bl hn; replace ha2 := ha2.bl hn; replace x_b1 := x_b1.bl hn; replace hb := hb.trans (hn.mono hb.size)
  refine hK _ _ rfl ?_; clear hK K hn
  refine wpSq_call rfl (by kernel_rfl) fun K hK => ?_
  go_big_move; refine hK _ _ rfl ?_; clear hK K
  apply wpSq_end
  refine hK1 _ _ ?_
  refine wp_seq_k ?_
  intro K2 hK2
  refine wp_region_sq [0, 1, 2, 3, 4, 5, 6, 7, 8, 9, 10, 11, 12, 13] (by kernel_rfl) ?_
  refine wpSq_call rfl (by kernel_rfl) fun K hK => ?_
  go_big_op; refine hK _ _ rfl ?_; clear hK K
  refine wpSq_call rfl (by kernel_rfl) fun K hK => ?_
  obtain ⟨d0, d1, d2, d3⟩ := x_b1.f4
  go_big_op; refine hK _ _ rfl ?_; clear hK K d0 d1 d2 d3
  refine wpSq_call rfl (by kernel_rfl) fun K hK => ?_
  go_big_op; refine hK _ _ rfl ?_; clear hK K
  refine wpSq_call rfl (by kernel_rfl) fun K hK => ?_
  obtain ⟨d0, d1, d2, d3⟩ := x_b1.f4
  go_big_op; refine hK _ _ rfl ?_; clear hK K d0 d1 d2 d3
  refine wpSq_call rfl (by kernel_rfl) fun K hK => ?_
  go_big_op
  go_fit (fdiv_any ha1 ha2 (by omega) (by omega) HY.out)
  rintro e w_3 ⟨v_g1, v_g2, rfl, g1, g2, hb_3⟩
  clear x_b1
  replace ha1 := ha1.bl hb_3; replace ha2 := ha2.bl hb_3; replace x_b2 := x_b2.bl hb_3; replace hb := hb.trans (hb_3.mono hb.size)
  replace g1 := g1.rd
  obtain ⟨n_g1, o_g1, k_g1, c_g1, rfl⟩ := g1.open2
  replace g2 := g2.rd
  obtain ⟨n_g2, o_g2, k_g2, c_g2, rfl⟩ := g2.open2
  have Lg1 := hide (g1.lenOf (fdiv_len (HY.out) (ha1.len)))
  have Lg2 := hide (g2.lenOf (fmod_len (HY.out) (ha2.len)))
  refine hK _ _ rfl ?_
  clear hK K hb_3
  refine wpSq_call rfl (by kernel_rfl) fun K hK => ?_
  go_big_move; refine hK _ _ rfl ?_; clear hK K
  refine wpSq_call rfl (by kernel_rfl) fun K hK => ?_
  go_big_op; refine hK _ _ rfl ?_; clear hK K
  refine wpSq_call rfl (by kernel_rfl) fun K hK => ?_
  go_big_op; refine hK _ _ rfl ?_; clear hK K
  refine wpSq_call rfl (by kernel_rfl) fun K hK => ?_
  go_big_op; refine hK _ _ rfl ?_; clear hK K
  refine wpSq_call rfl (by kernel_rfl) fun K hK => ?_
  go_big_op
  clear ha1 ha2
  have lt_b2 := x_b2.lt
  obtain ⟨p_b3, w_4, eP, eW, x_b3, hn, kb_b3⟩ := newBox w_3 #[.bool false, .slice none 0 0] 24 hb.size
  have ne_b2_b3 : Hid (p_b2 ≠ p_b3) := Nat.ne_of_lt (eP ▸ lt_b2)
  rw [eW, eP]
  clear eW eP lt_b2
  replace x_b2 := x_b2.bl hn; replace g1 := g1.bl hn; replace g2 := g2.bl hn; replace hb := hb.trans (hn.mono hb.size)
  refine hK _ _ rfl ?_; clear hK K hn
  refine wpSq_call rfl (by kernel_rfl) fun K hK => ?_
  go_big_op
  have lt_b2 := x_b2.lt
  have lt_b3 := x_b3.lt
  obtain ⟨p_b4, w_5, eP, eW, x_b4, hn, kb_b4⟩ := newBox w_4 #[.bool false, .slice none 0 0] 24 hb.size
  have ne_b2_b4 : Hid (p_b2 ≠ p_b4) := Nat.ne_of_lt (eP ▸ lt_b2)
  have ne_b3_b4 : Hid (p_b3 ≠ p_b4) := Nat.ne_of_lt (eP ▸ lt_b3)
  rw [eW, eP]
  clear eW eP lt_b2 lt_b3
  replace x_b2 := x_b2.bl hn; replace g1 := g1.bl hn; replace g2 := g2.bl hn; replace x_b3 := x_b3.bl hn; replace hb := hb.trans (hn.mono hb.size)
  refine hK _ _ rfl ?_; clear hK K hn
  refine wpSq_call rfl (by kernel_rfl) fun K hK => ?_
  obtain ⟨d0, d1⟩ := x_b3.f2
  have f0 := x_b3.free 0; have f1 := x_b3.free 1
  go_big_op
  have hnd := x_b3.nod rfl rfl
  obtain ⟨w_6, eW, x_b3', ho⟩ : ∃ w', ((w_5.setCell ⟨p_b3, 0, none⟩ (.bool n_g1)).setCell ⟨p_b3, 1, none⟩ (.slice o_g1 k_g1 c_g1)) = w' ∧ Bs w' p_b3 #[.bool n_g1, .slice o_g1 k_g1 c_g1] 24 ∧ Only p_b3 w_5 w' := x_b3.setN [(0, .bool n_g1), (1, .slice o_g1 k_g1 c_g1)]
  rw [eW]; clear eW d0 d1 f0 f1 x_b3
  have x_b3 := x_b3'; clear x_b3'
  replace x_b2 := x_b2.frame ho ne_b2_b3; replace g1 := g1.fr hnd ho; replace g2 := g2.fr hnd ho; replace x_b4 := x_b4.frame ho ne_b3_b4.symm; replace hb := belowOnly hb ho kb_b3
  refine hK _ _ rfl ?_; clear hK K ho hnd
  refine wpSq_call rfl (by kernel_rfl) fun K hK => ?_
  obtain ⟨d0, d1⟩ := x_b4.f2
  have f0 := x_b4.free 0; have f1 := x_b4.free 1
  go_big_op
  have hnd := x_b4.nod rfl rfl
  obtain ⟨w_7, eW, x_b4', ho⟩ : ∃ w', ((w_6.setCell ⟨p_b4, 0, none⟩ (.bool n_g2)).setCell ⟨p_b4, 1, none⟩ (.slice o_g2 k_g2 c_g2)) = w' ∧ Bs w' p_b4 #[.bool n_g2, .slice o_g2 k_g2 c_g2] 24 ∧ Only p_b4 w_6 w' := x_b4.setN [(0, .bool n_g2), (1, .slice o_g2 k_g2 c_g2)]
  rw [eW]; clear eW d0 d1 f0 f1 x_b4
  have x_b4 := x_b4'; clear x_b4'
  replace x_b2 := x_b2.frame ho ne_b2_b4; replace g1 := g1.fr hnd ho; replace g2 := g2.fr hnd ho; replace x_b3 := x_b3.frame ho ne_b3_b4; replace hb := belowOnly hb ho kb_b4
  refine hK _ _ rfl ?_; clear hK K ho hnd
  refine wpSq_call rfl (by kernel_rfl) fun K hK => ?_
  go_big_move; refine hK _ _ rfl ?_; clear hK K
  apply wpSq_end
  refine hK2 _ _ ?_
  refine wp_seq_k ?_
  intro K3 hK3
  refine wp_region_sq [0, 1, 2, 3] (by kernel_rfl) ?_
  refine wpSq_call rfl (by kernel_rfl) fun K hK => ?_
  obtain ⟨d0, d1⟩ := x_b3.f2
  go_big_op; refine hK _ _ rfl ?_; clear hK K d0 d1
  refine wpSq_call rfl (by kernel_rfl) fun K hK => ?_
  go_big_move; refine hK _ _ rfl ?_; clear hK K
  refine wpSq_call rfl (by kernel_rfl) fun K hK => ?_
  obtain ⟨d0, d1⟩ := x_b2.f2
  have f0 := x_b2.free 0; have f1 := x_b2.free 1
  go_big_op
  have hnd := x_b2.nod rfl rfl
  obtain ⟨w_8, eW, x_b2', ho⟩ : ∃ w', ((w_7.setCell ⟨p_b2, 0, none⟩ (.bool n_g1)).setCell ⟨p_b2, 1, none⟩ (.slice o_g1 k_g1 c_g1)) = w' ∧ Bs w' p_b2 #[.bool n_g1, .slice o_g1 k_g1 c_g1] 24 ∧ Only p_b2 w_7 w' := x_b2.setN [(0, .bool n_g1), (1, .slice o_g1 k_g1 c_g1)]
  rw [eW]; clear eW d0 d1 f0 f1 x_b2
  have x_b2 := x_b2'; clear x_b2'
  clear g2 x_b3 x_b4
  replace g1 := g1.fr hnd ho; replace hb := belowOnly hb ho kb_b2
  refine hK _ _ rfl ?_; clear hK K ho hnd
  refine wpSq_call rfl (by kernel_rfl) fun K hK => ?_
  go_big_move; refine hK _ _ rfl ?_; clear hK K
  apply wpSq_end
  refine hK3 _ _ ?_
  refine wp_ret ?_
  try dsimp only [Exit.then, Exit.inBlock]
  obtain ⟨r0_0, r0_1⟩ := x_b2.f2
  refine bodyPost_ret (v := (.tuple #[(.agg #[.bool n_g1, .slice o_g1 k_g1 c_g1]), (.int .i64 0)])) (by simp [results, Tryz.results22, go_sem, r0_0, r0_1]) rfl ?_
  exact ⟨_, rfl, g1, hb⟩
set_option maxHeartbeats 4000000 in
set_option maxRecDepth 20000 in
theorem fRound_any (ha : PN w va x l y m) (hl : l ≤ 10000000) (hm : m ≤ 10000000) (hy : y ≠ 0) :
    Calls Tryz.prog 23 #[va] w fun e w' => ∃ r, e = .returned (.tuple #[r, .int .i64 0]) ∧ ZC w' r (rnd x y) ∧ Below w.heap.size w w' := by
  have HY := hide hy
  clear hy
  obtain ⟨n_0a, o_0a, k_0a, c_0a, n_0b, o_0b, k_0b, c_0b, rfl, ha1, ha2⟩ := ha
  go_enter Tryz.func23, Tryz.ntmps23
  have hb := Below.refl w.heap.size w
  refine wp_seq_k ?_
  intro K1 hK1
  refine wp_region_sq [0, 1, 2] (by kernel_rfl) ?_
  refine wpSq_call rfl (by kernel_rfl) fun K hK => ?_
  go_big_op
  obtain ⟨p_b1, w_1, eP, eW, x_b1, hn, kb_b1⟩ := newBox w #[.bool n_0a, .slice o_0a k_0a c_0a, .bool n_0b, .slice o_0b k_0b c_0b] 26 hb.size
  rw [eW, eP]
  clear eW eP
  replace ha1 := ha1.bl hn; replace ha2 := ha2.bl hn; replace hb := hb.trans (hn.mono hb.size)
  refine hK _ _ rfl ?_; clear hK K hn
  refine wpSq_call rfl (by kernel_rfl) fun K hK => ?_
  go_big_op
  have lt_b1 := x_b1.lt
  obtain ⟨p_b2, w_2, eP, eW, x_b2, hn, kb_b2⟩ := newBox w_1 #[.bool false, .slice none 0 0] 24 hb.size
  have ne_b1_b2 : Hid (p_b1 ≠ p_b2) := Nat.ne_of_lt (eP ▸ lt_b1)
  rw [eW, eP]
  clear eW eP lt_b1
  replace ha1 := ha1.bl hn; replace ha2 := ha2.bl hn; replace x_b1 := x_b1.bl hn; replace hb := hb.trans (hn.mono hb.size)
  refine hK _ _ rfl ?_; clear hK K hn
  refine wpSq_call rfl (by kernel_rfl) fun K hK => ?_
  go_big_move; refine hK _ _ rfl ?_; clear hK K
  apply wpSq_end
  refine hK1 _ _ ?_
  refine wp_seq_k ?_
  intro K2 hK2
  refine wp_region_sq [0, 1, 2, 3, 4, 5, 6, 7, 8, 9, 10, 11, 12, 13] (by kernel_rfl) ?_
  refine wpSq_call rfl (by kernel_rfl) fun K hK => ?_
  go_big_op; refine hK _ _ rfl ?_; clear hK K
  refine wpSq_call rfl (by kernel_rfl) fun K hK => ?_
  obtain ⟨d0, d1, d2, d3⟩ := x_b1.f4
  go_big_op; refine hK _ _ rfl ?_; clear hK K d0 d1 d2 d3
  refine wpSq_call rfl (by kernel_rfl) fun K hK => ?_
  go_big_op; refine hK _ _ rfl ?_; clear hK K
  refine wpSq_call rfl (by kernel_rfl) fun K hK => ?_
  obtain ⟨d0, d1, d2, d3⟩ := x_b1.f4
  go_big_op; refine hK _ _ rfl ?_; clear hK K d0 d1 d2 d3
  refine wpSq_call rfl (by kernel_rfl) fun K hK => ?_
  go_big_op
  go_fit (rdiv_any ha1 ha2 (by omega) (by omega) HY.out)
  rintro e w_3 ⟨v_g1, v_g2, rfl, g1, g2, hb_3⟩
  clear x_b1
  replace ha1 := ha1.bl hb_3; replace ha2 := ha2.bl hb_3; replace x_b2 := x_b2.bl hb_3; replace hb := hb.trans (hb_3.mono hb.size)
  replace g1 := g1.rd
  obtain ⟨n_g1, o_g1, k_g1, c_g1, rfl⟩ := g1.open2
  replace g2 := g2.rd
  obtain ⟨n_g2, o_g2, k_g2, c_g2, rfl⟩ := g2.open2
  have Lg1 := hide (g1.lenOf (rnd_len (HY.out) (ha1.len)))
  have Lg2 := hide (g2.lenOf (rrest_len (HY.out) (ha2.len)))
  refine hK _ _ rfl ?_
  clear hK K hb_3
  refine wpSq_call rfl (by kernel_rfl) fun K hK => ?_
  go_big_move; refine hK _ _ rfl ?_; clear hK K
  refine wpSq_call rfl (by kernel_rfl) fun K hK => ?_
  go_big_op; refine hK _ _ rfl ?_; clear hK K
  refine wpSq_call rfl (by kernel_rfl) fun K hK => ?_
  go_big_op; refine hK _ _ rfl ?_; clear hK K
  refine wpSq_call rfl (by kernel_rfl) fun K hK => ?_
  go_big_op; refine hK _ _ rfl ?_; clear hK K
  refine wpSq_call rfl (by kernel_rfl) fun K hK => ?_
  go_big_op
  clear ha1 ha2
  have lt_b2 := x_b2.lt
  obtain ⟨p_b3, w_4, eP, eW, x_b3, hn, kb_b3⟩ := newBox w_3 #[.bool false, .slice none 0 0] 24 hb.size
  have ne_b2_b3 : Hid (p_b2 ≠ p_b3) := Nat.ne_of_lt (eP ▸ lt_b2)
  rw [eW, eP]
  clear eW eP lt_b2
  replace x_b2 := x_b2.bl hn; replace g1 := g1.bl hn; replace g2 := g2.bl hn; replace hb := hb.trans (hn.mono hb.size)
  refine hK _ _ rfl ?_; clear hK K hn
  refine wpSq_call rfl (by kernel_rfl) fun K hK => ?_
  go_big_op
  have lt_b2 := x_b2.lt
  have lt_b3 := x_b3.lt
  obtain ⟨p_b4, w_5, eP, eW, x_b4, hn, kb_b4⟩ := newBox w_4 #[.bool false, .slice none 0 0] 24 hb.size
  have ne_b2_b4 : Hid (p_b2 ≠ p_b4) := Nat.ne_of_lt (eP ▸ lt_b2)
  have ne_b3_b4 : Hid (p_b3 ≠ p_b4) := Nat.ne_of_lt (eP ▸ lt_b3)
  rw [eW, eP]
  clear eW eP lt_b2 lt_b3
  replace x_b2 := x_b2.bl hn; replace g1 := g1.bl hn; replace g2 := g2.bl hn; replace x_b3 := x_b3.bl hn; replace hb := hb.trans (hn.mono hb.size)
  refine hK _ _ rfl ?_; clear hK K hn
  refine wpSq_call rfl (by kernel_rfl) fun K hK => ?_
  obtain ⟨d0, d1⟩ := x_b3.f2
  have f0 := x_b3.free 0; have f1 := x_b3.free 1
  go_big_op
  have hnd := x_b3.nod rfl rfl
  obtain ⟨w_6, eW, x_b3', ho⟩ : ∃ w', ((w_5.setCell ⟨p_b3, 0, none⟩ (.bool n_g1)).setCell ⟨p_b3, 1, none⟩ (.slice o_g1 k_g1 c_g1)) = w' ∧ Bs w' p_b3 #[.bool n_g1, .slice o_g1 k_g1 c_g1] 24 ∧ Only p_b3 w_5 w' := x_b3.setN [(0, .bool n_g1), (1, .slice o_g1 k_g1 c_g1)]
  rw [eW]; clear eW d0 d1 f0 f1 x_b3
  have x_b3 := x_b3'; clear x_b3'
  replace x_b2 := x_b2.frame ho ne_b2_b3; replace g1 := g1.fr hnd ho; replace g2 := g2.fr hnd ho; replace x_b4 := x_b4.frame ho ne_b3_b4.symm; replace hb := belowOnly hb ho kb_b3
  refine hK _ _ rfl ?_; clear hK K ho hnd
  refine wpSq_call rfl (by kernel_rfl) fun K hK => ?_
  obtain ⟨d0, d1⟩ := x_b4.f2
  have f0 := x_b4.free 0; have f1 := x_b4.free 1
  go_big_op
  have hnd := x_b4.nod rfl rfl
  obtain ⟨w_7, eW, x_b4', ho⟩ : ∃ w', ((w_6.setCell ⟨p_b4, 0, none⟩ (.bool n_g2)).setCell ⟨p_b4, 1, none⟩ (.slice o_g2 k_g2 c_g2)) = w' ∧ Bs w' p_b4 #[.bool n_g2, .slice o_g2 k_g2 c_g2] 24 ∧ Only p_b4 w_6 w' := x_b4.setN [(0, .bool n_g2), (1, .slice o_g2 k_g2 c_g2)]
  rw [eW]; clear eW d0 d1 f0 f1 x_b4
  have x_b4 := x_b4'; clear x_b4'
  replace x_b2 := x_b2.frame ho ne_b2_b4; replace g1 := g1.fr hnd ho; replace g2 := g2.fr hnd ho; replace x_b3 := x_b3.frame ho ne_b3_b4; replace hb := belowOnly hb ho kb_b4
  refine hK _ _ rfl ?_; clear hK K ho hnd
  refine wpSq_call rfl (by kernel_rfl) fun K hK => ?_
  go_big_move; refine hK _ _ rfl ?_; clear hK K
  apply wpSq_end
  refine hK2 _ _ ?_
  refine wp_seq_k ?_
  intro K3 hK3
  refine wp_region_sq [0, 1, 2, 3] (by kernel_rfl) ?_
  refine wpSq_call rfl (by kernel_rfl) fun K hK => ?_
  obtain ⟨d0, d1⟩ := x_b3.f2
  go_big_op; refine hK _ _ rfl ?_; clear hK K d0 d1
  refine wpSq_call rfl (by kernel_rfl) fun K hK => ?_
  go_big_move; refine hK _ _ rfl ?_; clear hK K
  refine wpSq_call rfl (by kernel_rfl) fun K hK => ?_
  obtain ⟨d0, d1⟩ := x_b2.f2
  have f0 := x_b2.free 0; have f1 := x_b2.free 1
  go_big_op
  have hnd := x_b2.nod rfl rfl
  obtain ⟨w_8, eW, x_b2', ho⟩ : ∃ w', ((w_7.setCell ⟨p_b2, 0, none⟩ (.bool n_g1)).setCell ⟨p_b2, 1, none⟩ (.slice o_g1 k_g1 c_g1)) = w' ∧ Bs w' p_b2 #[.bool n_g1, .slice o_g1 k_g1 c_g1] 24 ∧ Only p_b2 w_7 w' := x_b2.setN [(0, .bool n_g1), (1, .slice o_g1 k_g1 c_g1)]
  rw [eW]; clear eW d0 d1 f0 f1 x_b2
  have x_b2 := x_b2'; clear x_b2'
  clear g2 x_b3 x_b4
  replace g1 := g1.fr hnd ho; replace hb := belowOnly hb ho kb_b2
  refine hK _ _ rfl ?_; clear hK K ho hnd
  refine wpSq_call rfl (by kernel_rfl) fun K hK => ?_
  go_big_move; refine hK _ _ rfl ?_; clear hK K
  apply wpSq_end
  refine hK3 _ _ ?_
  refine wp_ret ?_
  try dsimp only [Exit.then, Exit.inBlock]
  obtain ⟨r0_0, r0_1⟩ := x_b2.f2
  refine bodyPost_ret (v := (.tuple #[(.agg #[.bool n_g1, .slice o_g1 k_g1 c_g1]), (.int .i64 0)])) (by simp [results, Tryz.results23, go_sem, r0_0, r0_1]) rfl ?_
  exact ⟨_, rfl, g1, hb⟩
end
end Go.Proofs.YtkgbfnmlpajblaaGreatDoor

