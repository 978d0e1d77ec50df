/- ZintKnown: the law's walk. -/
import Derived.Test.YtjcfhbekpmpbeaaDoorZ13
import Derived.Test.YtjcfhbekpmpbeaaDoorZ12
import Derived.Test.YtjcfhbekpmpbeaaDoorWkToR10
import Derived.Test.YtjcfhbekpmpbeaaDoorT1ToT3
import Derived.Test.YtjcfhbekpmpbeaaDoorY8
import Derived.Test.YtjcfhbekpmpbeaaDoorZa
namespace Go.Proofs.YtjcfhbekpmpbeaaDoor
open Go Go.RowKit Dig
set_option linter.unusedVariables false

theorem Bs.rd2 {w : World} {p a b : Nat} {ty : TypeId} (h : Bs w p #[.int .u32 (a : Int), .int .u32 (b : Int)] ty) (ha : a < 4294967296) (hb : b < 4294967296) : Rd w (.slice (some ⟨p, 0, none⟩) 2 2) [a, b] := by
  refine ⟨some ⟨p, 0, none⟩, 2, rfl, Nat.le_refl _, OK.cons ha (OK.cons hb OK.nil), .inr ⟨p, 0, rfl, ?_⟩⟩
  intro i hi
  have h2 := h.f2
  rcases (show i = 0 ∨ i = 1 by simp at hi; omega) with rfl | rfl
  · exact h2.1
  · exact h2.2
theorem Bs.rd1 {w : World} {p a : Nat} {ty : TypeId} (h : Bs w p #[.int .u32 (a : Int)] ty) (ha : a < 4294967296) : Rd w (.slice (some ⟨p, 0, none⟩) 1 1) [a] := by
  refine ⟨some ⟨p, 0, none⟩, 1, rfl, Nat.le_refl _, OK.cons ha OK.nil, .inr ⟨p, 0, rfl, ?_⟩⟩
  intro i hi
  obtain rfl : i = 0 := by simp at hi; omega
  exact h.f1
theorem zn_rd {w : World} (neg : Bool) {s : Value} {xs : List Nat} (h : Rd w s xs) (z : Int) (hz : zv neg xs = z) : ZN w (.agg #[.bool neg, s]) z xs.length := ⟨neg, s, xs, rfl, h, hz, Nat.le_refl _⟩
theorem dec0 : Lib.decDigits 0 = [48] := by rw [Lib.decDigits, dif_pos (by decide)]; rfl
theorem xg_0 : XG 12 18 2 := ⟨by decide, by decide, by decide⟩
theorem xg_1 : XG 6 3 0 := ⟨by decide, by decide, by decide⟩
theorem xg_2 : XG 0 (-4) 0 := ⟨by decide, by decide, by decide⟩
theorem xi_0 : XG 3 7 5 := ⟨by decide, by decide, by decide⟩
theorem xi_1 : XG 5 1 0 := ⟨by decide, by decide, by decide⟩
theorem xi_2 : XG 3 (-7) 5 := ⟨by decide, by decide, by decide⟩

section
variable {w : World} {va vb : Value} {x y : Int} {l m : Nat}
theorem xgcd_val (g c d : Int) (ha : ZN w va x l) (hb' : ZN w vb y m) (hl : l ≤ 20000000) (hm : m ≤ 20000000) (h0 : y ≠ 0) (hg : (Int.gcd x y : Int) = g) (hc : XG x y c) (hd : (g - x * c).fdiv y = d) :
    Calls Tryd.prog 31 #[va, vb] w fun e w' => ∃ v1 v2 v3, e = .returned (.tuple #[v1, v2, v3]) ∧ ZC w' v1 g ∧ ZC w' v2 c ∧ ZC w' v3 d ∧ Below w.heap.size w w' := by
  refine (xgcd_any ha hb' hl hm h0).mono ?_
  rintro e w' ⟨v1, v2, v3, rfl, ⟨c', h1, h2, h3, h4⟩, h5⟩
  obtain rfl := XG.unique h0 hc h1
  rw [hg] at h2 h4
  rw [hd] at h4
  exact ⟨v1, v2, v3, rfl, h2.rd, h3.rd, h4.rd, h5⟩
theorem zinv_val (c : Int) (ha : ZN w va x l) (hb' : ZN w vb y m) (hl : l ≤ 20000000) (hm : m ≤ 20000000) (h0 : y ≠ 0) (hg : Int.gcd x y = 1) (hc : XG x y c) :
    Calls Tryd.prog 51 #[va, vb] w fun e w' => ∃ v, e = .returned (.tuple #[v, .int .i64 0]) ∧ ZC w' v c ∧ Below w.heap.size w w' := by
  refine (zinv_any ha hb' hl hm h0 hg).mono ?_
  rintro e w' ⟨v, rfl, ⟨c', h1, h2⟩, h5⟩
  obtain rfl := XG.unique h0 hc h1
  exact ⟨v, rfl, h2.rd, h5⟩
set_option maxHeartbeats 8000000 in
set_option maxRecDepth 20000 in
theorem given_0 (w : World) :
    Calls Tryd.prog 29 #[.int .i64 12, .int .i64 18, .int .i64 6, .int .i64 2, .int .i64 (-1)] w fun e w' => e = .returned (.bool true) ∧ Below w.heap.size w w' := by
  have HX := hide (xg_0)
  go_enter Tryd.func29, Tryd.ntmps29
  have hb := Below.refl w.heap.size w
  refine wp_seq_k ?_
  intro K1 hK1
  refine wp_region_sq [0] (by kernel_rfl) ?_
  refine wpSq_call rfl (by kernel_rfl) fun K hK => ?_
  go_big_move; refine hK _ _ rfl ?_; clear hK K
  apply wpSq_end
  refine hK1 _ _ ?_
  refine wp_seq_k ?_
  intro K2 hK2
  refine wp_region_sq [0, 1, 2, 3, 4, 5, 6, 7, 8, 9, 10, 11, 12, 13, 14] (by kernel_rfl) ?_
  refine wpSq_call rfl (by kernel_rfl) fun K hK => ?_
  go_big_move; refine hK _ _ rfl ?_; clear hK K
  refine wpSq_call rfl (by kernel_rfl) fun K hK => ?_
  go_big_op
  go_fit (i_any 12 _ (by decide) (by decide))
  rintro e w_1 ⟨v_a, rfl, a, hb_1⟩
  replace hb := hb.trans (hb_1.mono hb.size)
  replace a := a.rd
  obtain ⟨n_a, o_a, k_a, c_a, rfl⟩ := a.open2
  have La := hide (a.lenOf (zlen_i 12 (by decide) (by decide)))
  refine hK _ _ rfl ?_
  clear hK K hb_1
  refine wpSq_call rfl (by kernel_rfl) fun K hK => ?_
  go_big_move; refine hK _ _ rfl ?_; clear hK K
  refine wpSq_call rfl (by kernel_rfl) fun K hK => ?_
  go_big_op
  go_fit (i_any 18 _ (by decide) (by decide))
  rintro e w_2 ⟨v_b, rfl, b, hb_2⟩
  replace a := a.bl hb_2; replace hb := hb.trans (hb_2.mono hb.size)
  replace b := b.rd
  obtain ⟨n_b, o_b, k_b, c_b, rfl⟩ := b.open2
  have Lb := hide (b.lenOf (zlen_i 18 (by decide) (by decide)))
  refine hK _ _ rfl ?_
  clear hK K hb_2
  refine wpSq_call rfl (by kernel_rfl) fun K hK => ?_
  go_big_op
  go_fit (xgcd_val 6 2 (-1) (a.zn La.out) (b.zn Lb.out) (by decide) (by decide) (by decide) (by decide) HX.out (by decide))
  rintro e w_3 ⟨v_c, v_d, v_f, rfl, c, d, f, hb_3⟩
  replace a := a.bl hb_3; replace b := b.bl hb_3; replace hb := hb.trans (hb_3.mono hb.size)
  obtain ⟨n_c, o_c, k_c, c_c, rfl⟩ := c.open2
  obtain ⟨n_d, o_d, k_d, c_d, rfl⟩ := d.open2
  obtain ⟨n_f, o_f, k_f, c_f, rfl⟩ := f.open2
  refine hK _ _ rfl ?_
  clear hK K hb_3
  refine wpSq_call rfl (by kernel_rfl) fun K hK => ?_
  go_big_move; refine hK _ _ rfl ?_; clear hK K
  refine wpSq_call rfl (by kernel_rfl) fun K hK => ?_
  go_big_op; refine hK _ _ rfl ?_; clear hK K
  refine wpSq_call rfl (by kernel_rfl) fun K hK => ?_
  go_big_op; refine hK _ _ rfl ?_; clear hK K
  refine wpSq_call rfl (by kernel_rfl) fun K hK => ?_
  go_big_op; refine hK _ _ rfl ?_; clear hK K
  refine wpSq_call rfl (by kernel_rfl) fun K hK => ?_
  go_big_op
  clear a b
  obtain ⟨p_b1, w_4, eP, eW, x_b1, hn, kb_b1⟩ := newBox w_3 #[.bool false, .slice none 0 0] 36 hb.size
  rw [eW, eP]
  clear eW eP
  replace c := c.bl hn; replace d := d.bl hn; replace f := f.bl hn; replace hb := hb.trans (hn.mono hb.size)
  refine hK _ _ rfl ?_; clear hK K hn
  refine wpSq_call rfl (by kernel_rfl) fun K hK => ?_
  go_big_op
  have lt_b1 := x_b1.lt
  obtain ⟨p_b2, w_5, eP, eW, x_b2, hn, kb_b2⟩ := newBox w_4 #[.bool false, .slice none 0 0] 36 hb.size
  have ne_b1_b2 : Hid (p_b1 ≠ p_b2) := Nat.ne_of_lt (eP ▸ lt_b1)
  rw [eW, eP]
  clear eW eP lt_b1
  replace c := c.bl hn; replace d := d.bl hn; replace f := f.bl hn; replace x_b1 := x_b1.bl hn; replace hb := hb.trans (hn.mono hb.size)
  refine hK _ _ rfl ?_; clear hK K hn
  refine wpSq_call rfl (by kernel_rfl) fun K hK => ?_
  go_big_op
  have lt_b1 := x_b1.lt
  have lt_b2 := x_b2.lt
  obtain ⟨p_b3, w_6, eP, eW, x_b3, hn, kb_b3⟩ := newBox w_5 #[.bool false, .slice none 0 0] 36 hb.size
  have ne_b1_b3 : Hid (p_b1 ≠ p_b3) := Nat.ne_of_lt (eP ▸ lt_b1)
  have ne_b2_b3 : Hid (p_b2 ≠ p_b3) := Nat.ne_of_lt (eP ▸ lt_b2)
  rw [eW, eP]
  clear eW eP lt_b1 lt_b2
  replace c := c.bl hn; replace d := d.bl hn; replace f := f.bl hn; replace x_b1 := x_b1.bl hn; replace x_b2 := x_b2.bl hn; replace hb := hb.trans (hn.mono hb.size)
  refine hK _ _ rfl ?_; clear hK K hn
  refine wpSq_call rfl (by kernel_rfl) fun K hK => ?_
  obtain ⟨d0, d1⟩ := x_b1.f2
  have f0 := x_b1.free 0; have f1 := x_b1.free 1
  go_big_op
  have hnd := x_b1.nod rfl rfl
  obtain ⟨w_7, eW, x_b1', ho⟩ : ∃ w', ((w_6.setCell ⟨p_b1, 0, none⟩ (.bool n_c)).setCell ⟨p_b1, 1, none⟩ (.slice o_c k_c c_c)) = w' ∧ Bs w' p_b1 #[.bool n_c, .slice o_c k_c c_c] 36 ∧ Only p_b1 w_6 w' := x_b1.setN [(0, .bool n_c), (1, .slice o_c k_c c_c)]
  rw [eW]; clear eW d0 d1 f0 f1 x_b1
  have x_b1 := x_b1'; clear x_b1'
  replace c := c.fr hnd ho; replace d := d.fr hnd ho; replace f := f.fr hnd ho; replace x_b2 := x_b2.frame ho ne_b1_b2.symm; replace x_b3 := x_b3.frame ho ne_b1_b3.symm; replace hb := belowOnly hb ho kb_b1
  refine hK _ _ rfl ?_; clear hK K ho hnd
  refine wpSq_call rfl (by kernel_rfl) fun K hK => ?_
  obtain ⟨d0, d1⟩ := x_b2.f2
  have f0 := x_b2.free 0; have f1 := x_b2.free 1
  go_big_op
  have hnd := x_b2.nod rfl rfl
  obtain ⟨w_8, eW, x_b2', ho⟩ : ∃ w', ((w_7.setCell ⟨p_b2, 0, none⟩ (.bool n_d)).setCell ⟨p_b2, 1, none⟩ (.slice o_d k_d c_d)) = w' ∧ Bs w' p_b2 #[.bool n_d, .slice o_d k_d c_d] 36 ∧ Only p_b2 w_7 w' := x_b2.setN [(0, .bool n_d), (1, .slice o_d k_d c_d)]
  rw [eW]; clear eW d0 d1 f0 f1 x_b2
  have x_b2 := x_b2'; clear x_b2'
  replace c := c.fr hnd ho; replace d := d.fr hnd ho; replace f := f.fr hnd ho; replace x_b1 := x_b1.frame ho ne_b1_b2; replace x_b3 := x_b3.frame ho ne_b2_b3.symm; replace hb := belowOnly hb ho kb_b2
  refine hK _ _ rfl ?_; clear hK K ho hnd
  refine wpSq_call rfl (by kernel_rfl) fun K hK => ?_
  obtain ⟨d0, d1⟩ := x_b3.f2
  have f0 := x_b3.free 0; have f1 := x_b3.free 1
  go_big_op
  have hnd := x_b3.nod rfl rfl
  obtain ⟨w_9, eW, x_b3', ho⟩ : ∃ w', ((w_8.setCell ⟨p_b3, 0, none⟩ (.bool n_f)).setCell ⟨p_b3, 1, none⟩ (.slice o_f k_f c_f)) = w' ∧ Bs w' p_b3 #[.bool n_f, .slice o_f k_f c_f] 36 ∧ Only p_b3 w_8 w' := x_b3.setN [(0, .bool n_f), (1, .slice o_f k_f c_f)]
  rw [eW]; clear eW d0 d1 f0 f1 x_b3
  have x_b3 := x_b3'; clear x_b3'
  replace c := c.fr hnd ho; replace d := d.fr hnd ho; replace f := f.fr hnd ho; replace x_b1 := x_b1.frame ho ne_b1_b3; replace x_b2 := x_b2.frame ho ne_b2_b3; replace hb := belowOnly hb ho kb_b3
  refine hK _ _ rfl ?_; clear hK K ho hnd
  apply wpSq_end
  refine hK2 _ _ ?_
  refine wp_seq_k ?_
  intro K3 hK3
  refine wp_region_sq [0, 1, 2, 3, 4, 5, 6, 7, 8, 9, 10, 11, 12, 13] (by kernel_rfl) ?_
  refine wpSq_call rfl (by kernel_rfl) fun K hK => ?_
  obtain ⟨d0, d1⟩ := x_b1.f2
  go_big_op; refine hK _ _ rfl ?_; clear hK K d0 d1
  refine wpSq_call rfl (by kernel_rfl) fun K hK => ?_
  go_big_move; refine hK _ _ rfl ?_; clear hK K
  refine wpSq_call rfl (by kernel_rfl) fun K hK => ?_
  go_big_op
  go_fit (small_zz 6 c (by decide) (by decide))
  rintro e w_10 ⟨rfl, hb_10⟩
  clear x_b1
  replace c := c.bl hb_10; replace d := d.bl hb_10; replace f := f.bl hb_10; replace x_b2 := x_b2.bl hb_10; replace x_b3 := x_b3.bl hb_10; replace hb := hb.trans (hb_10.mono hb.size)
  refine hK _ _ rfl ?_
  clear hK K hb_10
  refine wpSq_call rfl (by kernel_rfl) fun K hK => ?_
  go_big_move; refine hK _ _ rfl ?_; clear hK K
  refine wpSq_call rfl (by kernel_rfl) fun K hK => ?_
  obtain ⟨d0, d1⟩ := x_b2.f2
  go_big_op; refine hK _ _ rfl ?_; clear hK K d0 d1
  refine wpSq_call rfl (by kernel_rfl) fun K hK => ?_
  go_big_move; refine hK _ _ rfl ?_; clear hK K
  refine wpSq_call rfl (by kernel_rfl) fun K hK => ?_
  go_big_op
  go_fit (small_zz 2 d (by decide) (by decide))
  rintro e w_11 ⟨rfl, hb_11⟩
  clear c x_b2
  replace d := d.bl hb_11; replace f := f.bl hb_11; replace x_b3 := x_b3.bl hb_11; replace hb := hb.trans (hb_11.mono hb.size)
  refine hK _ _ rfl ?_
  clear hK K hb_11
  refine wpSq_call rfl (by kernel_rfl) fun K hK => ?_
  go_big_op; refine hK _ _ rfl ?_; clear hK K
  refine wpSq_call rfl (by kernel_rfl) fun K hK => ?_
  go_big_move; refine hK _ _ rfl ?_; clear hK K
  refine wpSq_call rfl (by kernel_rfl) fun K hK => ?_
  obtain ⟨d0, d1⟩ := x_b3.f2
  go_big_op; refine hK _ _ rfl ?_; clear hK K d0 d1
  refine wpSq_call rfl (by kernel_rfl) fun K hK => ?_
  go_big_move; refine hK _ _ rfl ?_; clear hK K
  refine wpSq_call rfl (by kernel_rfl) fun K hK => ?_
  go_big_op
  go_fit (small_zz (-1) f (by decide) (by decide))
  rintro e w_12 ⟨rfl, hb_12⟩
  clear d x_b3
  replace f := f.bl hb_12; replace hb := hb.trans (hb_12.mono hb.size)
  refine hK _ _ rfl ?_
  clear hK K hb_12
  refine wpSq_call rfl (by kernel_rfl) fun K hK => ?_
  go_big_op; refine hK _ _ rfl ?_; clear hK K
  refine wpSq_call rfl (by kernel_rfl) fun K hK => ?_
  go_big_move; refine hK _ _ rfl ?_; clear hK K
  apply wpSq_end
  refine hK3 _ _ ?_
  refine wp_ret ?_
  try dsimp only [Exit.then, Exit.inBlock]
  refine bodyPost_ret (v := (.bool true)) (by simp [results, Tryd.results29, go_sem]) rfl ?_
  exact ⟨rfl, hb⟩
set_option maxHeartbeats 8000000 in
set_option maxRecDepth 20000 in
theorem given_1 (w : World) :
    Calls Tryd.prog 29 #[.int .i64 6, .int .i64 3, .int .i64 3, .int .i64 0, .int .i64 1] w fun e w' => e = .returned (.bool true) ∧ Below w.heap.size w w' := by
  have HX := hide (xg_1)
  go_enter Tryd.func29, Tryd.ntmps29
  have hb := Below.refl w.heap.size w
  refine wp_seq_k ?_
  intro K1 hK1
  refine wp_region_sq [0] (by kernel_rfl) ?_
  refine wpSq_call rfl (by kernel_rfl) fun K hK => ?_
  go_big_move; refine hK _ _ rfl ?_; clear hK K
  apply wpSq_end
  refine hK1 _ _ ?_
  refine wp_seq_k ?_
  intro K2 hK2
  refine wp_region_sq [0, 1, 2, 3, 4, 5, 6, 7, 8, 9, 10, 11, 12, 13, 14] (by kernel_rfl) ?_
  refine wpSq_call rfl (by kernel_rfl) fun K hK => ?_
  go_big_move; refine hK _ _ rfl ?_; clear hK K
  refine wpSq_call rfl (by kernel_rfl) fun K hK => ?_
  go_big_op
  go_fit (i_any 6 _ (by decide) (by decide))
  rintro e w_1 ⟨v_a, rfl, a, hb_1⟩
  replace hb := hb.trans (hb_1.mono hb.size)
  replace a := a.rd
  obtain ⟨n_a, o_a, k_a, c_a, rfl⟩ := a.open2
  have La := hide (a.lenOf (zlen_i 6 (by decide) (by decide)))
  refine hK _ _ rfl ?_
  clear hK K hb_1
  refine wpSq_call rfl (by kernel_rfl) fun K hK => ?_
  go_big_move; refine hK _ _ rfl ?_; clear hK K
  refine wpSq_call rfl (by kernel_rfl) fun K hK => ?_
  go_big_op
  go_fit (i_any 3 _ (by decide) (by decide))
  rintro e w_2 ⟨v_b, rfl, b, hb_2⟩
  replace a := a.bl hb_2; replace hb := hb.trans (hb_2.mono hb.size)
  replace b := b.rd
  obtain ⟨n_b, o_b, k_b, c_b, rfl⟩ := b.open2
  have Lb := hide (b.lenOf (zlen_i 3 (by decide) (by decide)))
  refine hK _ _ rfl ?_
  clear hK K hb_2
  refine wpSq_call rfl (by kernel_rfl) fun K hK => ?_
  go_big_op
  go_fit (xgcd_val 3 0 1 (a.zn La.out) (b.zn Lb.out) (by decide) (by decide) (by decide) (by decide) HX.out (by decide))
  rintro e w_3 ⟨v_c, v_d, v_f, rfl, c, d, f, hb_3⟩
  replace a := a.bl hb_3; replace b := b.bl hb_3; replace hb := hb.trans (hb_3.mono hb.size)
  obtain ⟨n_c, o_c, k_c, c_c, rfl⟩ := c.open2
  obtain ⟨n_d, o_d, k_d, c_d, rfl⟩ := d.open2
  obtain ⟨n_f, o_f, k_f, c_f, rfl⟩ := f.open2
  refine hK _ _ rfl ?_
  clear hK K hb_3
  refine wpSq_call rfl (by kernel_rfl) fun K hK => ?_
  go_big_move; refine hK _ _ rfl ?_; clear hK K
  refine wpSq_call rfl (by kernel_rfl) fun K hK => ?_
  go_big_op; refine hK _ _ rfl ?_; clear hK K
  refine wpSq_call rfl (by kernel_rfl) fun K hK => ?_
  go_big_op; refine hK _ _ rfl ?_; clear hK K
  refine wpSq_call rfl (by kernel_rfl) fun K hK => ?_
  go_big_op; refine hK _ _ rfl ?_; clear hK K
  refine wpSq_call rfl (by kernel_rfl) fun K hK => ?_
  go_big_op
  clear a b
  obtain ⟨p_b1, w_4, eP, eW, x_b1, hn, kb_b1⟩ := newBox w_3 #[.bool false, .slice none 0 0] 36 hb.size
  rw [eW, eP]
  clear eW eP
  replace c := c.bl hn; replace d := d.bl hn; replace f := f.bl hn; replace hb := hb.trans (hn.mono hb.size)
  refine hK _ _ rfl ?_; clear hK K hn
  refine wpSq_call rfl (by kernel_rfl) fun K hK => ?_
  go_big_op
  have lt_b1 := x_b1.lt
  obtain ⟨p_b2, w_5, eP, eW, x_b2, hn, kb_b2⟩ := newBox w_4 #[.bool false, .slice none 0 0] 36 hb.size
  have ne_b1_b2 : Hid (p_b1 ≠ p_b2) := Nat.ne_of_lt (eP ▸ lt_b1)
  rw [eW, eP]
  clear eW eP lt_b1
  replace c := c.bl hn; replace d := d.bl hn; replace f := f.bl hn; replace x_b1 := x_b1.bl hn; replace hb := hb.trans (hn.mono hb.size)
  refine hK _ _ rfl ?_; clear hK K hn
  refine wpSq_call rfl (by kernel_rfl) fun K hK => ?_
  go_big_op
  have lt_b1 := x_b1.lt
  have lt_b2 := x_b2.lt
  obtain ⟨p_b3, w_6, eP, eW, x_b3, hn, kb_b3⟩ := newBox w_5 #[.bool false, .slice none 0 0] 36 hb.size
  have ne_b1_b3 : Hid (p_b1 ≠ p_b3) := Nat.ne_of_lt (eP ▸ lt_b1)
  have ne_b2_b3 : Hid (p_b2 ≠ p_b3) := Nat.ne_of_lt (eP ▸ lt_b2)
  rw [eW, eP]
  clear eW eP lt_b1 lt_b2
  replace c := c.bl hn; replace d := d.bl hn; replace f := f.bl hn; replace x_b1 := x_b1.bl hn; replace x_b2 := x_b2.bl hn; replace hb := hb.trans (hn.mono hb.size)
  refine hK _ _ rfl ?_; clear hK K hn
  refine wpSq_call rfl (by kernel_rfl) fun K hK => ?_
  obtain ⟨d0, d1⟩ := x_b1.f2
  have f0 := x_b1.free 0; have f1 := x_b1.free 1
  go_big_op
  have hnd := x_b1.nod rfl rfl
  obtain ⟨w_7, eW, x_b1', ho⟩ : ∃ w', ((w_6.setCell ⟨p_b1, 0, none⟩ (.bool n_c)).setCell ⟨p_b1, 1, none⟩ (.slice o_c k_c c_c)) = w' ∧ Bs w' p_b1 #[.bool n_c, .slice o_c k_c c_c] 36 ∧ Only p_b1 w_6 w' := x_b1.setN [(0, .bool n_c), (1, .slice o_c k_c c_c)]
  rw [eW]; clear eW d0 d1 f0 f1 x_b1
  have x_b1 := x_b1'; clear x_b1'
  replace c := c.fr hnd ho; replace d := d.fr hnd ho; replace f := f.fr hnd ho; replace x_b2 := x_b2.frame ho ne_b1_b2.symm; replace x_b3 := x_b3.frame ho ne_b1_b3.symm; replace hb := belowOnly hb ho kb_b1
  refine hK _ _ rfl ?_; clear hK K ho hnd
  refine wpSq_call rfl (by kernel_rfl) fun K hK => ?_
  obtain ⟨d0, d1⟩ := x_b2.f2
  have f0 := x_b2.free 0; have f1 := x_b2.free 1
  go_big_op
  have hnd := x_b2.nod rfl rfl
  obtain ⟨w_8, eW, x_b2', ho⟩ : ∃ w', ((w_7.setCell ⟨p_b2, 0, none⟩ (.bool n_d)).setCell ⟨p_b2, 1, none⟩ (.slice o_d k_d c_d)) = w' ∧ Bs w' p_b2 #[.bool n_d, .slice o_d k_d c_d] 36 ∧ Only p_b2 w_7 w' := x_b2.setN [(0, .bool n_d), (1, .slice o_d k_d c_d)]
  rw [eW]; clear eW d0 d1 f0 f1 x_b2
  have x_b2 := x_b2'; clear x_b2'
  replace c := c.fr hnd ho; replace d := d.fr hnd ho; replace f := f.fr hnd ho; replace x_b1 := x_b1.frame ho ne_b1_b2; replace x_b3 := x_b3.frame ho ne_b2_b3.symm; replace hb := belowOnly hb ho kb_b2
  refine hK _ _ rfl ?_; clear hK K ho hnd
  refine wpSq_call rfl (by kernel_rfl) fun K hK => ?_
  obtain ⟨d0, d1⟩ := x_b3.f2
  have f0 := x_b3.free 0; have f1 := x_b3.free 1
  go_big_op
  have hnd := x_b3.nod rfl rfl
  obtain ⟨w_9, eW, x_b3', ho⟩ : ∃ w', ((w_8.setCell ⟨p_b3, 0, none⟩ (.bool n_f)).setCell ⟨p_b3, 1, none⟩ (.slice o_f k_f c_f)) = w' ∧ Bs w' p_b3 #[.bool n_f, .slice o_f k_f c_f] 36 ∧ Only p_b3 w_8 w' := x_b3.setN [(0, .bool n_f), (1, .slice o_f k_f c_f)]
  rw [eW]; clear eW d0 d1 f0 f1 x_b3
  have x_b3 := x_b3'; clear x_b3'
  replace c := c.fr hnd ho; replace d := d.fr hnd ho; replace f := f.fr hnd ho; replace x_b1 := x_b1.frame ho ne_b1_b3; replace x_b2 := x_b2.frame ho ne_b2_b3; replace hb := belowOnly hb ho kb_b3
  refine hK _ _ rfl ?_; clear hK K ho hnd
  apply wpSq_end
  refine hK2 _ _ ?_
  refine wp_seq_k ?_
  intro K3 hK3
  refine wp_region_sq [0, 1, 2, 3, 4, 5, 6, 7, 8, 9, 10, 11, 12, 13] (by kernel_rfl) ?_
  refine wpSq_call rfl (by kernel_rfl) fun K hK => ?_
  obtain ⟨d0, d1⟩ := x_b1.f2
  go_big_op; refine hK _ _ rfl ?_; clear hK K d0 d1
  refine wpSq_call rfl (by kernel_rfl) fun K hK => ?_
  go_big_move; refine hK _ _ rfl ?_; clear hK K
  refine wpSq_call rfl (by kernel_rfl) fun K hK => ?_
  go_big_op
  go_fit (small_zz 3 c (by decide) (by decide))
  rintro e w_10 ⟨rfl, hb_10⟩
  clear x_b1
  replace c := c.bl hb_10; replace d := d.bl hb_10; replace f := f.bl hb_10; replace x_b2 := x_b2.bl hb_10; replace x_b3 := x_b3.bl hb_10; replace hb := hb.trans (hb_10.mono hb.size)
  refine hK _ _ rfl ?_
  clear hK K hb_10
  refine wpSq_call rfl (by kernel_rfl) fun K hK => ?_
  go_big_move; refine hK _ _ rfl ?_; clear hK K
  refine wpSq_call rfl (by kernel_rfl) fun K hK => ?_
  obtain ⟨d0, d1⟩ := x_b2.f2
  go_big_op; refine hK _ _ rfl ?_; clear hK K d0 d1
  refine wpSq_call rfl (by kernel_rfl) fun K hK => ?_
  go_big_move; refine hK _ _ rfl ?_; clear hK K
  refine wpSq_call rfl (by kernel_rfl) fun K hK => ?_
  go_big_op
  go_fit (small_zz 0 d (by decide) (by decide))
  rintro e w_11 ⟨rfl, hb_11⟩
  clear c x_b2
  replace d := d.bl hb_11; replace f := f.bl hb_11; replace x_b3 := x_b3.bl hb_11; replace hb := hb.trans (hb_11.mono hb.size)
  refine hK _ _ rfl ?_
  clear hK K hb_11
  refine wpSq_call rfl (by kernel_rfl) fun K hK => ?_
  go_big_op; refine hK _ _ rfl ?_; clear hK K
  refine wpSq_call rfl (by kernel_rfl) fun K hK => ?_
  go_big_move; refine hK _ _ rfl ?_; clear hK K
  refine wpSq_call rfl (by kernel_rfl) fun K hK => ?_
  obtain ⟨d0, d1⟩ := x_b3.f2
  go_big_op; refine hK _ _ rfl ?_; clear hK K d0 d1
  refine wpSq_call rfl (by kernel_rfl) fun K hK => ?_
  go_big_move; refine hK _ _ rfl ?_; clear hK K
  refine wpSq_call rfl (by kernel_rfl) fun K hK => ?_
  go_big_op
  go_fit (small_zz 1 f (by decide) (by decide))
  rintro e w_12 ⟨rfl, hb_12⟩
  clear d x_b3
  replace f := f.bl hb_12; replace hb := hb.trans (hb_12.mono hb.size)
  refine hK _ _ rfl ?_
  clear hK K hb_12
  refine wpSq_call rfl (by kernel_rfl) fun K hK => ?_
  go_big_op; refine hK _ _ rfl ?_; clear hK K
  refine wpSq_call rfl (by kernel_rfl) fun K hK => ?_
  go_big_move; refine hK _ _ rfl ?_; clear hK K
  apply wpSq_end
  refine hK3 _ _ ?_
  refine wp_ret ?_
  try dsimp only [Exit.then, Exit.inBlock]
  refine bodyPost_ret (v := (.bool true)) (by simp [results, Tryd.results29, go_sem]) rfl ?_
  exact ⟨rfl, hb⟩
set_option maxHeartbeats 8000000 in
set_option maxRecDepth 20000 in
theorem given_2 (w : World) :
    Calls Tryd.prog 29 #[.int .i64 0, .int .i64 (-4), .int .i64 4, .int .i64 0, .int .i64 (-1)] w fun e w' => e = .returned (.bool true) ∧ Below w.heap.size w w' := by
  have HX := hide (xg_2)
  go_enter Tryd.func29, Tryd.ntmps29
  have hb := Below.refl w.heap.size w
  refine wp_seq_k ?_
  intro K1 hK1
  refine wp_region_sq [0] (by kernel_rfl) ?_
  refine wpSq_call rfl (by kernel_rfl) fun K hK => ?_
  go_big_move; refine hK _ _ rfl ?_; clear hK K
  apply wpSq_end
  refine hK1 _ _ ?_
  refine wp_seq_k ?_
  intro K2 hK2
  refine wp_region_sq [0, 1, 2, 3, 4, 5, 6, 7, 8, 9, 10, 11, 12, 13, 14] (by kernel_rfl) ?_
  refine wpSq_call rfl (by kernel_rfl) fun K hK => ?_
  go_big_move; refine hK _ _ rfl ?_; clear hK K
  refine wpSq_call rfl (by kernel_rfl) fun K hK => ?_
  go_big_op
  go_fit (i_any 0 _ (by decide) (by decide))
  rintro e w_1 ⟨v_a, rfl, a, hb_1⟩
  replace hb := hb.trans (hb_1.mono hb.size)
  replace a := a.rd
  obtain ⟨n_a, o_a, k_a, c_a, rfl⟩ := a.open2
  have La := hide (a.lenOf (zlen_i 0 (by decide) (by decide)))
  refine hK _ _ rfl ?_
  clear hK K hb_1
  refine wpSq_call rfl (by kernel_rfl) fun K hK => ?_
  go_big_move; refine hK _ _ rfl ?_; clear hK K
  refine wpSq_call rfl (by kernel_rfl) fun K hK => ?_
  go_big_op
  go_fit (i_any (-4) _ (by decide) (by decide))
  rintro e w_2 ⟨v_b, rfl, b, hb_2⟩
  replace a := a.bl hb_2; replace hb := hb.trans (hb_2.mono hb.size)
  replace b := b.rd
  obtain ⟨n_b, o_b, k_b, c_b, rfl⟩ := b.open2
  have Lb := hide (b.lenOf (zlen_i (-4) (by decide) (by decide)))
  refine hK _ _ rfl ?_
  clear hK K hb_2
  refine wpSq_call rfl (by kernel_rfl) fun K hK => ?_
  go_big_op
  go_fit (xgcd_val 4 0 (-1) (a.zn La.out) (b.zn Lb.out) (by decide) (by decide) (by decide) (by decide) HX.out (by decide))
  rintro e w_3 ⟨v_c, v_d, v_f, rfl, c, d, f, hb_3⟩
  replace a := a.bl hb_3; replace b := b.bl hb_3; replace hb := hb.trans (hb_3.mono hb.size)
  obtain ⟨n_c, o_c, k_c, c_c, rfl⟩ := c.open2
  obtain ⟨n_d, o_d, k_d, c_d, rfl⟩ := d.open2
  obtain ⟨n_f, o_f, k_f, c_f, rfl⟩ := f.open2
  refine hK _ _ rfl ?_
  clear hK K hb_3
  refine wpSq_call rfl (by kernel_rfl) fun K hK => ?_
  go_big_move; refine hK _ _ rfl ?_; clear hK K
  refine wpSq_call rfl (by kernel_rfl) fun K hK => ?_
  go_big_op; refine hK _ _ rfl ?_; clear hK K
  refine wpSq_call rfl (by kernel_rfl) fun K hK => ?_
  go_big_op; refine hK _ _ rfl ?_; clear hK K
  refine wpSq_call rfl (by kernel_rfl) fun K hK => ?_
  go_big_op; refine hK _ _ rfl ?_; clear hK K
  refine wpSq_call rfl (by kernel_rfl) fun K hK => ?_
  go_big_op
  clear a b
  obtain ⟨p_b1, w_4, eP, eW, x_b1, hn, kb_b1⟩ := newBox w_3 #[.bool false, .slice none 0 0] 36 hb.size
  rw [eW, eP]
  clear eW eP
  replace c := c.bl hn; replace d := d.bl hn; replace f := f.bl hn; replace hb := hb.trans (hn.mono hb.size)
  refine hK _ _ rfl ?_; clear hK K hn
  refine wpSq_call rfl (by kernel_rfl) fun K hK => ?_
  go_big_op
  have lt_b1 := x_b1.lt
  obtain ⟨p_b2, w_5, eP, eW, x_b2, hn, kb_b2⟩ := newBox w_4 #[.bool false, .slice none 0 0] 36 hb.size
  have ne_b1_b2 : Hid (p_b1 ≠ p_b2) := Nat.ne_of_lt (eP ▸ lt_b1)
  rw [eW, eP]
  clear eW eP lt_b1
  replace c := c.bl hn; replace d := d.bl hn; replace f := f.bl hn; replace x_b1 := x_b1.bl hn; replace hb := hb.trans (hn.mono hb.size)
  refine hK _ _ rfl ?_; clear hK K hn
  refine wpSq_call rfl (by kernel_rfl) fun K hK => ?_
  go_big_op
  have lt_b1 := x_b1.lt
  have lt_b2 := x_b2.lt
  obtain ⟨p_b3, w_6, eP, eW, x_b3, hn, kb_b3⟩ := newBox w_5 #[.bool false, .slice none 0 0] 36 hb.size
  have ne_b1_b3 : Hid (p_b1 ≠ p_b3) := Nat.ne_of_lt (eP ▸ lt_b1)
  have ne_b2_b3 : Hid (p_b2 ≠ p_b3) := Nat.ne_of_lt (eP ▸ lt_b2)
  rw [eW, eP]
  clear eW eP lt_b1 lt_b2
  replace c := c.bl hn; replace d := d.bl hn; replace f := f.bl hn; replace x_b1 := x_b1.bl hn; replace x_b2 := x_b2.bl hn; replace hb := hb.trans (hn.mono hb.size)
  refine hK _ _ rfl ?_; clear hK K hn
  refine wpSq_call rfl (by kernel_rfl) fun K hK => ?_
  obtain ⟨d0, d1⟩ := x_b1.f2
  have f0 := x_b1.free 0; have f1 := x_b1.free 1
  go_big_op
  have hnd := x_b1.nod rfl rfl
  obtain ⟨w_7, eW, x_b1', ho⟩ : ∃ w', ((w_6.setCell ⟨p_b1, 0, none⟩ (.bool n_c)).setCell ⟨p_b1, 1, none⟩ (.slice o_c k_c c_c)) = w' ∧ Bs w' p_b1 #[.bool n_c, .slice o_c k_c c_c] 36 ∧ Only p_b1 w_6 w' := x_b1.setN [(0, .bool n_c), (1, .slice o_c k_c c_c)]
  rw [eW]; clear eW d0 d1 f0 f1 x_b1
  have x_b1 := x_b1'; clear x_b1'
  replace c := c.fr hnd ho; replace d := d.fr hnd ho; replace f := f.fr hnd ho; replace x_b2 := x_b2.frame ho ne_b1_b2.symm; replace x_b3 := x_b3.frame ho ne_b1_b3.symm; replace hb := belowOnly hb ho kb_b1
  refine hK _ _ rfl ?_; clear hK K ho hnd
  refine wpSq_call rfl (by kernel_rfl) fun K hK => ?_
  obtain ⟨d0, d1⟩ := x_b2.f2
  have f0 := x_b2.free 0; have f1 := x_b2.free 1
  go_big_op
  have hnd := x_b2.nod rfl rfl
  obtain ⟨w_8, eW, x_b2', ho⟩ : ∃ w', ((w_7.setCell ⟨p_b2, 0, none⟩ (.bool n_d)).setCell ⟨p_b2, 1, none⟩ (.slice o_d k_d c_d)) = w' ∧ Bs w' p_b2 #[.bool n_d, .slice o_d k_d c_d] 36 ∧ Only p_b2 w_7 w' := x_b2.setN [(0, .bool n_d), (1, .slice o_d k_d c_d)]
  rw [eW]; clear eW d0 d1 f0 f1 x_b2
  have x_b2 := x_b2'; clear x_b2'
  replace c := c.fr hnd ho; replace d := d.fr hnd ho; replace f := f.fr hnd ho; replace x_b1 := x_b1.frame ho ne_b1_b2; replace x_b3 := x_b3.frame ho ne_b2_b3.symm; replace hb := belowOnly hb ho kb_b2
  refine hK _ _ rfl ?_; clear hK K ho hnd
  refine wpSq_call rfl (by kernel_rfl) fun K hK => ?_
  obtain ⟨d0, d1⟩ := x_b3.f2
  have f0 := x_b3.free 0; have f1 := x_b3.free 1
  go_big_op
  have hnd := x_b3.nod rfl rfl
  obtain ⟨w_9, eW, x_b3', ho⟩ : ∃ w', ((w_8.setCell ⟨p_b3, 0, none⟩ (.bool n_f)).setCell ⟨p_b3, 1, none⟩ (.slice o_f k_f c_f)) = w' ∧ Bs w' p_b3 #[.bool n_f, .slice o_f k_f c_f] 36 ∧ Only p_b3 w_8 w' := x_b3.setN [(0, .bool n_f), (1, .slice o_f k_f c_f)]
  rw [eW]; clear eW d0 d1 f0 f1 x_b3
  have x_b3 := x_b3'; clear x_b3'
  replace c := c.fr hnd ho; replace d := d.fr hnd ho; replace f := f.fr hnd ho; replace x_b1 := x_b1.frame ho ne_b1_b3; replace x_b2 := x_b2.frame ho ne_b2_b3; replace hb := belowOnly hb ho kb_b3
  refine hK _ _ rfl ?_; clear hK K ho hnd
  apply wpSq_end
  refine hK2 _ _ ?_
  refine wp_seq_k ?_
  intro K3 hK3
  refine wp_region_sq [0, 1, 2, 3, 4, 5, 6, 7, 8, 9, 10, 11, 12, 13] (by kernel_rfl) ?_
  refine wpSq_call rfl (by kernel_rfl) fun K hK => ?_
  obtain ⟨d0, d1⟩ := x_b1.f2
  go_big_op; refine hK _ _ rfl ?_; clear hK K d0 d1
  refine wpSq_call rfl (by kernel_rfl) fun K hK => ?_
  go_big_move; refine hK _ _ rfl ?_; clear hK K
  refine wpSq_call rfl (by kernel_rfl) fun K hK => ?_
  go_big_op
  go_fit (small_zz 4 c (by decide) (by decide))
  rintro e w_10 ⟨rfl, hb_10⟩
  clear x_b1
  replace c := c.bl hb_10; replace d := d.bl hb_10; replace f := f.bl hb_10; replace x_b2 := x_b2.bl hb_10; replace x_b3 := x_b3.bl hb_10; replace hb := hb.trans (hb_10.mono hb.size)
  refine hK _ _ rfl ?_
  clear hK K hb_10
  refine wpSq_call rfl (by kernel_rfl) fun K hK => ?_
  go_big_move; refine hK _ _ rfl ?_; clear hK K
  refine wpSq_call rfl (by kernel_rfl) fun K hK => ?_
  obtain ⟨d0, d1⟩ := x_b2.f2
  go_big_op; refine hK _ _ rfl ?_; clear hK K d0 d1
  refine wpSq_call rfl (by kernel_rfl) fun K hK => ?_
  go_big_move; refine hK _ _ rfl ?_; clear hK K
  refine wpSq_call rfl (by kernel_rfl) fun K hK => ?_
  go_big_op
  go_fit (small_zz 0 d (by decide) (by decide))
  rintro e w_11 ⟨rfl, hb_11⟩
  clear c x_b2
  replace d := d.bl hb_11; replace f := f.bl hb_11; replace x_b3 := x_b3.bl hb_11; replace hb := hb.trans (hb_11.mono hb.size)
  refine hK _ _ rfl ?_
  clear hK K hb_11
  refine wpSq_call rfl (by kernel_rfl) fun K hK => ?_
  go_big_op; refine hK _ _ rfl ?_; clear hK K
  refine wpSq_call rfl (by kernel_rfl) fun K hK => ?_
  go_big_move; refine hK _ _ rfl ?_; clear hK K
  refine wpSq_call rfl (by kernel_rfl) fun K hK => ?_
  obtain ⟨d0, d1⟩ := x_b3.f2
  go_big_op; refine hK _ _ rfl ?_; clear hK K d0 d1
  refine wpSq_call rfl (by kernel_rfl) fun K hK => ?_
  go_big_move; refine hK _ _ rfl ?_; clear hK K
  refine wpSq_call rfl (by kernel_rfl) fun K hK => ?_
  go_big_op
  go_fit (small_zz (-1) f (by decide) (by decide))
  rintro e w_12 ⟨rfl, hb_12⟩
  clear d x_b3
  replace f := f.bl hb_12; replace hb := hb.trans (hb_12.mono hb.size)
  refine hK _ _ rfl ?_
  clear hK K hb_12
  refine wpSq_call rfl (by kernel_rfl) fun K hK => ?_
  go_big_op; refine hK _ _ rfl ?_; clear hK K
  refine wpSq_call rfl (by kernel_rfl) fun K hK => ?_
  go_big_move; refine hK _ _ rfl ?_; clear hK K
  apply wpSq_end
  refine hK3 _ _ ?_
  refine wp_ret ?_
  try dsimp only [Exit.then, Exit.inBlock]
  refine bodyPost_ret (v := (.bool true)) (by simp [results, Tryd.results29, go_sem]) rfl ?_
  exact ⟨rfl, hb⟩
set_option maxHeartbeats 8000000 in
set_option maxRecDepth 20000 in
theorem given_z (w : World) :
    Calls Tryd.prog 29 #[.int .i64 (-5), .int .i64 0, .int .i64 5, .int .i64 (-1), .int .i64 0] w fun e w' => e = .returned (.bool true) ∧ Below w.heap.size w w' := by
  go_enter Tryd.func29, Tryd.ntmps29
  have hb := Below.refl w.heap.size w
  refine wp_seq_k ?_
  intro K1 hK1
  refine wp_region_sq [0] (by kernel_rfl) ?_
  refine wpSq_call rfl (by kernel_rfl) fun K hK => ?_
  go_big_move; refine hK _ _ rfl ?_; clear hK K
  apply wpSq_end
  refine hK1 _ _ ?_
  refine wp_seq_k ?_
  intro K2 hK2
  refine wp_region_sq [0, 1, 2, 3, 4, 5, 6, 7, 8, 9, 10, 11, 12, 13, 14] (by kernel_rfl) ?_
  refine wpSq_call rfl (by kernel_rfl) fun K hK => ?_
  go_big_move; refine hK _ _ rfl ?_; clear hK K
  refine wpSq_call rfl (by kernel_rfl) fun K hK => ?_
  go_big_op
  go_fit (i_any (-5) _ (by decide) (by decide))
  rintro e w_1 ⟨v_a, rfl, a, hb_1⟩
  replace hb := hb.trans (hb_1.mono hb.size)
  replace a := a.rd
  obtain ⟨n_a, o_a, k_a, c_a, rfl⟩ := a.open2
  have La := hide (a.lenOf (zlen_i (-5) (by decide) (by decide)))
  refine hK _ _ rfl ?_
  clear hK K hb_1
  refine wpSq_call rfl (by kernel_rfl) fun K hK => ?_
  go_big_move; refine hK _ _ rfl ?_; clear hK K
  refine wpSq_call rfl (by kernel_rfl) fun K hK => ?_
  go_big_op
  go_fit (i_any 0 _ (by decide) (by decide))
  rintro e w_2 ⟨v_b, rfl, b, hb_2⟩
  replace a := a.bl hb_2; replace hb := hb.trans (hb_2.mono hb.size)
  replace b := b.rd
  obtain ⟨n_b, o_b, k_b, c_b, rfl⟩ := b.open2
  have Lb := hide (b.lenOf (zlen_0))
  refine hK _ _ rfl ?_
  clear hK K hb_2
  refine wpSq_call rfl (by kernel_rfl) fun K hK => ?_
  go_big_op
  go_fit (xgcd_zero (a.zn La.out) (b.zn Lb.out) (by decide) (by decide))
  rintro e w_3 ⟨v_c, v_d, v_f, rfl, c, d, f, hb_3⟩
  replace a := a.bl hb_3; replace b := b.bl hb_3; replace hb := hb.trans (hb_3.mono hb.size)
  replace c := c.rd
  obtain ⟨n_c, o_c, k_c, c_c, rfl⟩ := c.open2
  replace d := d.rd
  obtain ⟨n_d, o_d, k_d, c_d, rfl⟩ := d.open2
  replace f := f.rd
  obtain ⟨n_f, o_f, k_f, c_f, rfl⟩ := f.open2
  refine hK _ _ rfl ?_
  clear hK K hb_3
  refine wpSq_call rfl (by kernel_rfl) fun K hK => ?_
  go_big_move; refine hK _ _ rfl ?_; clear hK K
  refine wpSq_call rfl (by kernel_rfl) fun K hK => ?_
  go_big_op; refine hK _ _ rfl ?_; clear hK K
  refine wpSq_call rfl (by kernel_rfl) fun K hK => ?_
  go_big_op; refine hK _ _ rfl ?_; clear hK K
  refine wpSq_call rfl (by kernel_rfl) fun K hK => ?_
  go_big_op; refine hK _ _ rfl ?_; clear hK K
  refine wpSq_call rfl (by kernel_rfl) fun K hK => ?_
  go_big_op
  clear a b
  obtain ⟨p_b1, w_4, eP, eW, x_b1, hn, kb_b1⟩ := newBox w_3 #[.bool false, .slice none 0 0] 36 hb.size
  rw [eW, eP]
  clear eW eP
  replace c := c.bl hn; replace d := d.bl hn; replace f := f.bl hn; replace hb := hb.trans (hn.mono hb.size)
  refine hK _ _ rfl ?_; clear hK K hn
  refine wpSq_call rfl (by kernel_rfl) fun K hK => ?_
  go_big_op
  have lt_b1 := x_b1.lt
  obtain ⟨p_b2, w_5, eP, eW, x_b2, hn, kb_b2⟩ := newBox w_4 #[.bool false, .slice none 0 0] 36 hb.size
  have ne_b1_b2 : Hid (p_b1 ≠ p_b2) := Nat.ne_of_lt (eP ▸ lt_b1)
  rw [eW, eP]
  clear eW eP lt_b1
  replace c := c.bl hn; replace d := d.bl hn; replace f := f.bl hn; replace x_b1 := x_b1.bl hn; replace hb := hb.trans (hn.mono hb.size)
  refine hK _ _ rfl ?_; clear hK K hn
  refine wpSq_call rfl (by kernel_rfl) fun K hK => ?_
  go_big_op
  have lt_b1 := x_b1.lt
  have lt_b2 := x_b2.lt
  obtain ⟨p_b3, w_6, eP, eW, x_b3, hn, kb_b3⟩ := newBox w_5 #[.bool false, .slice none 0 0] 36 hb.size
  have ne_b1_b3 : Hid (p_b1 ≠ p_b3) := Nat.ne_of_lt (eP ▸ lt_b1)
  have ne_b2_b3 : Hid (p_b2 ≠ p_b3) := Nat.ne_of_lt (eP ▸ lt_b2)
  rw [eW, eP]
  clear eW eP lt_b1 lt_b2
  replace c := c.bl hn; replace d := d.bl hn; replace f := f.bl hn; replace x_b1 := x_b1.bl hn; replace x_b2 := x_b2.bl hn; replace hb := hb.trans (hn.mono hb.size)
  refine hK _ _ rfl ?_; clear hK K hn
  refine wpSq_call rfl (by kernel_rfl) fun K hK => ?_
  obtain ⟨d0, d1⟩ := x_b1.f2
  have f0 := x_b1.free 0; have f1 := x_b1.free 1
  go_big_op
  have hnd := x_b1.nod rfl rfl
  obtain ⟨w_7, eW, x_b1', ho⟩ : ∃ w', ((w_6.setCell ⟨p_b1, 0, none⟩ (.bool n_c)).setCell ⟨p_b1, 1, none⟩ (.slice o_c k_c c_c)) = w' ∧ Bs w' p_b1 #[.bool n_c, .slice o_c k_c c_c] 36 ∧ Only p_b1 w_6 w' := x_b1.setN [(0, .bool n_c), (1, .slice o_c k_c c_c)]
  rw [eW]; clear eW d0 d1 f0 f1 x_b1
  have x_b1 := x_b1'; clear x_b1'
  replace c := c.fr hnd ho; replace d := d.fr hnd ho; replace f := f.fr hnd ho; replace x_b2 := x_b2.frame ho ne_b1_b2.symm; replace x_b3 := x_b3.frame ho ne_b1_b3.symm; replace hb := belowOnly hb ho kb_b1
  refine hK _ _ rfl ?_; clear hK K ho hnd
  refine wpSq_call rfl (by kernel_rfl) fun K hK => ?_
  obtain ⟨d0, d1⟩ := x_b2.f2
  have f0 := x_b2.free 0; have f1 := x_b2.free 1
  go_big_op
  have hnd := x_b2.nod rfl rfl
  obtain ⟨w_8, eW, x_b2', ho⟩ : ∃ w', ((w_7.setCell ⟨p_b2, 0, none⟩ (.bool n_d)).setCell ⟨p_b2, 1, none⟩ (.slice o_d k_d c_d)) = w' ∧ Bs w' p_b2 #[.bool n_d, .slice o_d k_d c_d] 36 ∧ Only p_b2 w_7 w' := x_b2.setN [(0, .bool n_d), (1, .slice o_d k_d c_d)]
  rw [eW]; clear eW d0 d1 f0 f1 x_b2
  have x_b2 := x_b2'; clear x_b2'
  replace c := c.fr hnd ho; replace d := d.fr hnd ho; replace f := f.fr hnd ho; replace x_b1 := x_b1.frame ho ne_b1_b2; replace x_b3 := x_b3.frame ho ne_b2_b3.symm; replace hb := belowOnly hb ho kb_b2
  refine hK _ _ rfl ?_; clear hK K ho hnd
  refine wpSq_call rfl (by kernel_rfl) fun K hK => ?_
  obtain ⟨d0, d1⟩ := x_b3.f2
  have f0 := x_b3.free 0; have f1 := x_b3.free 1
  go_big_op
  have hnd := x_b3.nod rfl rfl
  obtain ⟨w_9, eW, x_b3', ho⟩ : ∃ w', ((w_8.setCell ⟨p_b3, 0, none⟩ (.bool n_f)).setCell ⟨p_b3, 1, none⟩ (.slice o_f k_f c_f)) = w' ∧ Bs w' p_b3 #[.bool n_f, .slice o_f k_f c_f] 36 ∧ Only p_b3 w_8 w' := x_b3.setN [(0, .bool n_f), (1, .slice o_f k_f c_f)]
  rw [eW]; clear eW d0 d1 f0 f1 x_b3
  have x_b3 := x_b3'; clear x_b3'
  replace c := c.fr hnd ho; replace d := d.fr hnd ho; replace f := f.fr hnd ho; replace x_b1 := x_b1.frame ho ne_b1_b3; replace x_b2 := x_b2.frame ho ne_b2_b3; replace hb := belowOnly hb ho kb_b3
  refine hK _ _ rfl ?_; clear hK K ho hnd
  apply wpSq_end
  refine hK2 _ _ ?_
  refine wp_seq_k ?_
  intro K3 hK3
  refine wp_region_sq [0, 1, 2, 3, 4, 5, 6, 7, 8, 9, 10, 11, 12, 13] (by kernel_rfl) ?_
  refine wpSq_call rfl (by kernel_rfl) fun K hK => ?_
  obtain ⟨d0, d1⟩ := x_b1.f2
  go_big_op; refine hK _ _ rfl ?_; clear hK K d0 d1
  refine wpSq_call rfl (by kernel_rfl) fun K hK => ?_
  go_big_move; refine hK _ _ rfl ?_; clear hK K
  refine wpSq_call rfl (by kernel_rfl) fun K hK => ?_
  go_big_op
  go_fit (small_zz 5 c (by decide) (by decide))
  rintro e w_10 ⟨rfl, hb_10⟩
  clear x_b1
  replace c := c.bl hb_10; replace d := d.bl hb_10; replace f := f.bl hb_10; replace x_b2 := x_b2.bl hb_10; replace x_b3 := x_b3.bl hb_10; replace hb := hb.trans (hb_10.mono hb.size)
  refine hK _ _ rfl ?_
  clear hK K hb_10
  refine wpSq_call rfl (by kernel_rfl) fun K hK => ?_
  go_big_move; refine hK _ _ rfl ?_; clear hK K
  refine wpSq_call rfl (by kernel_rfl) fun K hK => ?_
  obtain ⟨d0, d1⟩ := x_b2.f2
  go_big_op; refine hK _ _ rfl ?_; clear hK K d0 d1
  refine wpSq_call rfl (by kernel_rfl) fun K hK => ?_
  go_big_move; refine hK _ _ rfl ?_; clear hK K
  refine wpSq_call rfl (by kernel_rfl) fun K hK => ?_
  go_big_op
  go_fit (small_zz (-1) d (by decide) (by decide))
  rintro e w_11 ⟨rfl, hb_11⟩
  clear c x_b2
  replace d := d.bl hb_11; replace f := f.bl hb_11; replace x_b3 := x_b3.bl hb_11; replace hb := hb.trans (hb_11.mono hb.size)
  refine hK _ _ rfl ?_
  clear hK K hb_11
  refine wpSq_call rfl (by kernel_rfl) fun K hK => ?_
  go_big_op; refine hK _ _ rfl ?_; clear hK K
  refine wpSq_call rfl (by kernel_rfl) fun K hK => ?_
  go_big_move; refine hK _ _ rfl ?_; clear hK K
  refine wpSq_call rfl (by kernel_rfl) fun K hK => ?_
  obtain ⟨d0, d1⟩ := x_b3.f2
  go_big_op; refine hK _ _ rfl ?_; clear hK K d0 d1
  refine wpSq_call rfl (by kernel_rfl) fun K hK => ?_
  go_big_move; refine hK _ _ rfl ?_; clear hK K
  refine wpSq_call rfl (by kernel_rfl) fun K hK => ?_
  go_big_op
  go_fit (small_zz 0 f (by decide) (by decide))
  rintro e w_12 ⟨rfl, hb_12⟩
  clear d x_b3
  replace f := f.bl hb_12; replace hb := hb.trans (hb_12.mono hb.size)
  refine hK _ _ rfl ?_
  clear hK K hb_12
  refine wpSq_call rfl (by kernel_rfl) fun K hK => ?_
  go_big_op; refine hK _ _ rfl ?_; clear hK K
  refine wpSq_call rfl (by kernel_rfl) fun K hK => ?_
  go_big_move; refine hK _ _ rfl ?_; clear hK K
  apply wpSq_end
  refine hK3 _ _ ?_
  refine wp_ret ?_
  try dsimp only [Exit.then, Exit.inBlock]
  refine bodyPost_ret (v := (.bool true)) (by simp [results, Tryd.results29, go_sem]) rfl ?_
  exact ⟨rfl, hb⟩
set_option maxHeartbeats 8000000 in
set_option maxRecDepth 20000 in
theorem rest_any (w : World) :
    Calls Tryd.prog 30 #[] w fun e w' => e = .returned (.bool true) ∧ Below w.heap.size w w' := by
  have X1 := hide xi_0
  have X2 := hide xi_1
  have X3 := hide xi_2
  have P1 := hide (show zok ⟨#[45, 48, 48, 55]⟩ = true ∧ zvl ⟨#[45, 48, 48, 55]⟩ = -7 by decide +kernel)
  have P2 := hide (show zok ⟨#[45]⟩ = false ∧ zok ⟨#[43, 49]⟩ = false ∧ zok ⟨#[]⟩ = false by decide +kernel)
  go_enter Tryd.func30, Tryd.ntmps30
  have hb := Below.refl w.heap.size w
  refine wp_seq_k ?_
  intro K1 hK1
  refine wp_region_sq [0] (by kernel_rfl) ?_
  refine wpSq_call rfl (by kernel_rfl) fun K hK => ?_
  go_big_move; refine hK _ _ rfl ?_; clear hK K
  apply wpSq_end
  refine hK1 _ _ ?_
  refine wp_seq_k ?_
  intro K2 hK2
  refine wp_region_sq [0, 1, 2, 3, 4, 5, 6, 7, 8] (by kernel_rfl) ?_
  refine wpSq_call rfl (by kernel_rfl) fun K hK => ?_
  go_big_op
  go_fit (i_any 3 _ (by decide) (by decide))
  rintro e w_1 ⟨v_a, rfl, a, hb_1⟩
  replace hb := hb.trans (hb_1.mono hb.size)
  replace a := a.rd
  obtain ⟨n_a, o_a, k_a, c_a, rfl⟩ := a.open2
  have La := hide (a.lenOf (zlen_i 3 (by decide) (by decide)))
  refine hK _ _ rfl ?_
  clear hK K hb_1
  refine wpSq_call rfl (by kernel_rfl) fun K hK => ?_
  go_big_op
  go_fit (i_any 7 _ (by decide) (by decide))
  rintro e w_2 ⟨v_b, rfl, b, hb_2⟩
  replace a := a.bl hb_2; replace hb := hb.trans (hb_2.mono hb.size)
  replace b := b.rd
  obtain ⟨n_b, o_b, k_b, c_b, rfl⟩ := b.open2
  have Lb := hide (b.lenOf (zlen_i 7 (by decide) (by decide)))
  refine hK _ _ rfl ?_
  clear hK K hb_2
  refine wpSq_call rfl (by kernel_rfl) fun K hK => ?_
  go_big_op
  go_fit (zinv_val 5 (a.zn La.out) (b.zn Lb.out) (by decide) (by decide) (by decide) (by decide) X1.out)
  rintro e w_3 ⟨v_c, rfl, c, hb_3⟩
  replace a := a.bl hb_3; replace b := b.bl hb_3; replace hb := hb.trans (hb_3.mono hb.size)
  obtain ⟨n_c, o_c, k_c, c_c, rfl⟩ := c.open2
  refine hK _ _ rfl ?_
  clear hK K hb_3
  refine wpSq_call rfl (by kernel_rfl) fun K hK => ?_
  go_big_move; refine hK _ _ rfl ?_; clear hK K
  refine wpSq_call rfl (by kernel_rfl) fun K hK => ?_
  go_big_op; refine hK _ _ rfl ?_; clear hK K
  refine wpSq_call rfl (by kernel_rfl) fun K hK => ?_
  go_big_op; refine hK _ _ rfl ?_; clear hK K
  refine wpSq_call rfl (by kernel_rfl) fun K hK => ?_
  go_big_op
  clear a b
  obtain ⟨p_b1, w_4, eP, eW, x_b1, hn, kb_b1⟩ := newBox w_3 #[.bool false, .slice none 0 0] 36 hb.size
  rw [eW, eP]
  clear eW eP
  replace c := c.bl hn; replace hb := hb.trans (hn.mono hb.size)
  refine hK _ _ rfl ?_; clear hK K hn
  refine wpSq_call rfl (by kernel_rfl) fun K hK => ?_
  obtain ⟨d0, d1⟩ := x_b1.f2
  have f0 := x_b1.free 0; have f1 := x_b1.free 1
  go_big_op
  have hnd := x_b1.nod rfl rfl
  obtain ⟨w_5, eW, x_b1', ho⟩ : ∃ w', ((w_4.setCell ⟨p_b1, 0, none⟩ (.bool n_c)).setCell ⟨p_b1, 1, none⟩ (.slice o_c k_c c_c)) = w' ∧ Bs w' p_b1 #[.bool n_c, .slice o_c k_c c_c] 36 ∧ Only p_b1 w_4 w' := x_b1.setN [(0, .bool n_c), (1, .slice o_c k_c c_c)]
  rw [eW]; clear eW d0 d1 f0 f1 x_b1
  have x_b1 := x_b1'; clear x_b1'
  replace c := c.fr hnd ho; replace hb := belowOnly hb ho kb_b1
  refine hK _ _ rfl ?_; clear hK K ho hnd
  refine wpSq_call rfl (by kernel_rfl) fun K hK => ?_
  go_big_move; refine hK _ _ rfl ?_; clear hK K
  apply wpSq_end
  refine hK2 _ _ ?_
  refine wp_seq_k ?_
  intro K3 hK3
  refine wp_region_sq [0, 1, 2, 3, 4, 5, 6, 7, 8] (by kernel_rfl) ?_
  refine wpSq_call rfl (by kernel_rfl) fun K hK => ?_
  go_big_op
  go_fit (i_any 2 _ (by decide) (by decide))
  rintro e w_6 ⟨v_d, rfl, d, hb_6⟩
  replace c := c.bl hb_6; replace x_b1 := x_b1.bl hb_6; replace hb := hb.trans (hb_6.mono hb.size)
  replace d := d.rd
  obtain ⟨n_d, o_d, k_d, c_d, rfl⟩ := d.open2
  have Ld := hide (d.lenOf (zlen_i 2 (by decide) (by decide)))
  refine hK _ _ rfl ?_
  clear hK K hb_6
  refine wpSq_call rfl (by kernel_rfl) fun K hK => ?_
  go_big_op
  go_fit (i_any 4 _ (by decide) (by decide))
  rintro e w_7 ⟨v_f, rfl, f, hb_7⟩
  replace c := c.bl hb_7; replace x_b1 := x_b1.bl hb_7; replace d := d.bl hb_7; replace hb := hb.trans (hb_7.mono hb.size)
  replace f := f.rd
  obtain ⟨n_f, o_f, k_f, c_f, rfl⟩ := f.open2
  have Lf := hide (f.lenOf (zlen_i 4 (by decide) (by decide)))
  refine hK _ _ rfl ?_
  clear hK K hb_7
  refine wpSq_call rfl (by kernel_rfl) fun K hK => ?_
  go_big_op
  go_fit (zinv_none (d.zn Ld.out) (f.zn Lf.out) (by decide) (by decide) (by decide) (by decide))
  rintro e w_8 ⟨rfl, hb_8⟩
  replace c := c.bl hb_8; replace x_b1 := x_b1.bl hb_8; replace d := d.bl hb_8; replace f := f.bl hb_8; replace hb := hb.trans (hb_8.mono hb.size)
  refine hK _ _ rfl ?_
  clear hK K hb_8
  refine wpSq_call rfl (by kernel_rfl) fun K hK => ?_
  go_big_move; refine hK _ _ rfl ?_; clear hK K
  refine wpSq_call rfl (by kernel_rfl) fun K hK => ?_
  go_big_op; refine hK _ _ rfl ?_; clear hK K
  refine wpSq_call rfl (by kernel_rfl) fun K hK => ?_
  go_big_op; refine hK _ _ rfl ?_; clear hK K
  refine wpSq_call rfl (by kernel_rfl) fun K hK => ?_
  go_big_op
  clear d f
  have lt_b1 := x_b1.lt
  obtain ⟨p_b2, w_9, eP, eW, x_b2, hn, kb_b2⟩ := newBox w_8 #[.bool false, .slice none 0 0] 36 hb.size
  have ne_b1_b2 : Hid (p_b1 ≠ p_b2) := Nat.ne_of_lt (eP ▸ lt_b1)
  rw [eW, eP]
  clear eW eP lt_b1
  replace c := c.bl hn; replace x_b1 := x_b1.bl hn; replace hb := hb.trans (hn.mono hb.size)
  refine hK _ _ rfl ?_; clear hK K hn
  refine wpSq_call rfl (by kernel_rfl) fun K hK => ?_
  obtain ⟨d0, d1⟩ := x_b2.f2
  have f0 := x_b2.free 0; have f1 := x_b2.free 1
  go_big_op
  have hnd := x_b2.nod rfl rfl
  obtain ⟨w_10, eW, x_b2', ho⟩ : ∃ w', ((w_9.setCell ⟨p_b2, 0, none⟩ (.bool false)).setCell ⟨p_b2, 1, none⟩ (.slice none 0 0)) = w' ∧ Bs w' p_b2 #[.bool false, .slice none 0 0] 36 ∧ Only p_b2 w_9 w' := x_b2.setN [(0, .bool false), (1, .slice none 0 0)]
  rw [eW]; clear eW d0 d1 f0 f1 x_b2
  have x_b2 := x_b2'; clear x_b2'
  replace c := c.fr hnd ho; replace x_b1 := x_b1.frame ho ne_b1_b2; replace hb := belowOnly hb ho kb_b2
  refine hK _ _ rfl ?_; clear hK K ho hnd
  refine wpSq_call rfl (by kernel_rfl) fun K hK => ?_
  go_big_move; refine hK _ _ rfl ?_; clear hK K
  apply wpSq_end
  refine hK3 _ _ ?_
  refine wp_seq_k ?_
  intro K4 hK4
  refine wp_region_sq [0, 1, 2, 3, 4, 5, 6, 7, 8] (by kernel_rfl) ?_
  refine wpSq_call rfl (by kernel_rfl) fun K hK => ?_
  go_big_op
  go_fit (i_any 5 _ (by decide) (by decide))
  rintro e w_11 ⟨v_g, rfl, g, hb_11⟩
  clear x_b2
  replace c := c.bl hb_11; replace x_b1 := x_b1.bl hb_11; replace hb := hb.trans (hb_11.mono hb.size)
  replace g := g.rd
  obtain ⟨n_g, o_g, k_g, c_g, rfl⟩ := g.open2
  have Lg := hide (g.lenOf (zlen_i 5 (by decide) (by decide)))
  refine hK _ _ rfl ?_
  clear hK K hb_11
  refine wpSq_call rfl (by kernel_rfl) fun K hK => ?_
  go_big_op
  go_fit (i_any 1 _ (by decide) (by decide))
  rintro e w_12 ⟨v_h, rfl, h, hb_12⟩
  replace c := c.bl hb_12; replace x_b1 := x_b1.bl hb_12; replace g := g.bl hb_12; replace hb := hb.trans (hb_12.mono hb.size)
  replace h := h.rd
  obtain ⟨n_h, o_h, k_h, c_h, rfl⟩ := h.open2
  have Lh := hide (h.lenOf (zlen_i 1 (by decide) (by decide)))
  refine hK _ _ rfl ?_
  clear hK K hb_12
  refine wpSq_call rfl (by kernel_rfl) fun K hK => ?_
  go_big_op
  go_fit (zinv_val 0 (g.zn Lg.out) (h.zn Lh.out) (by decide) (by decide) (by decide) (by decide) X2.out)
  rintro e w_13 ⟨v_j, rfl, j, hb_13⟩
  replace c := c.bl hb_13; replace x_b1 := x_b1.bl hb_13; replace g := g.bl hb_13; replace h := h.bl hb_13; replace hb := hb.trans (hb_13.mono hb.size)
  obtain ⟨n_j, o_j, k_j, c_j, rfl⟩ := j.open2
  refine hK _ _ rfl ?_
  clear hK K hb_13
  refine wpSq_call rfl (by kernel_rfl) fun K hK => ?_
  go_big_move; refine hK _ _ rfl ?_; clear hK K
  refine wpSq_call rfl (by kernel_rfl) fun K hK => ?_
  go_big_op; refine hK _ _ rfl ?_; clear hK K
  refine wpSq_call rfl (by kernel_rfl) fun K hK => ?_
  go_big_op; refine hK _ _ rfl ?_; clear hK K
  refine wpSq_call rfl (by kernel_rfl) fun K hK => ?_
  go_big_op
  clear g h
  have lt_b1 := x_b1.lt
  obtain ⟨p_b3, w_14, eP, eW, x_b3, hn, kb_b3⟩ := newBox w_13 #[.bool false, .slice none 0 0] 36 hb.size
  have ne_b1_b3 : Hid (p_b1 ≠ p_b3) := Nat.ne_of_lt (eP ▸ lt_b1)
  rw [eW, eP]
  clear eW eP lt_b1
  replace c := c.bl hn; replace x_b1 := x_b1.bl hn; replace j := j.bl hn; replace hb := hb.trans (hn.mono hb.size)
  refine hK _ _ rfl ?_; clear hK K hn
  refine wpSq_call rfl (by kernel_rfl) fun K hK => ?_
  obtain ⟨d0, d1⟩ := x_b3.f2
  have f0 := x_b3.free 0; have f1 := x_b3.free 1
  go_big_op
  have hnd := x_b3.nod rfl rfl
  obtain ⟨w_15, eW, x_b3', ho⟩ : ∃ w', ((w_14.setCell ⟨p_b3, 0, none⟩ (.bool n_j)).setCell ⟨p_b3, 1, none⟩ (.slice o_j k_j c_j)) = w' ∧ Bs w' p_b3 #[.bool n_j, .slice o_j k_j c_j] 36 ∧ Only p_b3 w_14 w' := x_b3.setN [(0, .bool n_j), (1, .slice o_j k_j c_j)]
  rw [eW]; clear eW d0 d1 f0 f1 x_b3
  have x_b3 := x_b3'; clear x_b3'
  replace c := c.fr hnd ho; replace x_b1 := x_b1.frame ho ne_b1_b3; replace j := j.fr hnd ho; replace hb := belowOnly hb ho kb_b3
  refine hK _ _ rfl ?_; clear hK K ho hnd
  refine wpSq_call rfl (by kernel_rfl) fun K hK => ?_
  go_big_move; refine hK _ _ rfl ?_; clear hK K
  apply wpSq_end
  refine hK4 _ _ ?_
  refine wp_seq_k ?_
  intro K5 hK5
  refine wp_region_sq [0, 1, 2, 3, 4, 5, 6, 7, 8] (by kernel_rfl) ?_
  refine wpSq_call rfl (by kernel_rfl) fun K hK => ?_
  go_big_op
  go_fit (i_any 3 _ (by decide) (by decide))
  rintro e w_16 ⟨v_o, rfl, o, hb_16⟩
  replace c := c.bl hb_16; replace x_b1 := x_b1.bl hb_16; replace j := j.bl hb_16; replace x_b3 := x_b3.bl hb_16; replace hb := hb.trans (hb_16.mono hb.size)
  replace o := o.rd
  obtain ⟨n_o, o_o, k_o, c_o, rfl⟩ := o.open2
  have Lo := hide (o.lenOf (zlen_i 3 (by decide) (by decide)))
  refine hK _ _ rfl ?_
  clear hK K hb_16
  refine wpSq_call rfl (by kernel_rfl) fun K hK => ?_
  go_big_op
  go_fit (i_any (-7) _ (by decide) (by decide))
  rintro e w_17 ⟨v_p, rfl, p, hb_17⟩
  replace c := c.bl hb_17; replace x_b1 := x_b1.bl hb_17; replace j := j.bl hb_17; replace x_b3 := x_b3.bl hb_17; replace o := o.bl hb_17; replace hb := hb.trans (hb_17.mono hb.size)
  replace p := p.rd
  obtain ⟨n_p, o_p, k_p, c_p, rfl⟩ := p.open2
  have Lp := hide (p.lenOf (zlen_i (-7) (by decide) (by decide)))
  refine hK _ _ rfl ?_
  clear hK K hb_17
  refine wpSq_call rfl (by kernel_rfl) fun K hK => ?_
  go_big_op
  go_fit (zinv_val 5 (o.zn Lo.out) (p.zn Lp.out) (by decide) (by decide) (by decide) (by decide) X3.out)
  rintro e w_18 ⟨v_q, rfl, q, hb_18⟩
  replace c := c.bl hb_18; replace x_b1 := x_b1.bl hb_18; replace j := j.bl hb_18; replace x_b3 := x_b3.bl hb_18; replace o := o.bl hb_18; replace p := p.bl hb_18; replace hb := hb.trans (hb_18.mono hb.size)
  obtain ⟨n_q, o_q, k_q, c_q, rfl⟩ := q.open2
  refine hK _ _ rfl ?_
  clear hK K hb_18
  refine wpSq_call rfl (by kernel_rfl) fun K hK => ?_
  go_big_move; refine hK _ _ rfl ?_; clear hK K
  refine wpSq_call rfl (by kernel_rfl) fun K hK => ?_
  go_big_op; refine hK _ _ rfl ?_; clear hK K
  refine wpSq_call rfl (by kernel_rfl) fun K hK => ?_
  go_big_op; refine hK _ _ rfl ?_; clear hK K
  refine wpSq_call rfl (by kernel_rfl) fun K hK => ?_
  go_big_op
  clear o p
  have lt_b1 := x_b1.lt
  have lt_b3 := x_b3.lt
  obtain ⟨p_b4, w_19, eP, eW, x_b4, hn, kb_b4⟩ := newBox w_18 #[.bool false, .slice none 0 0] 36 hb.size
  have ne_b1_b4 : Hid (p_b1 ≠ p_b4) := Nat.ne_of_lt (eP ▸ lt_b1)
  have ne_b3_b4 : Hid (p_b3 ≠ p_b4) := Nat.ne_of_lt (eP ▸ lt_b3)
  rw [eW, eP]
  clear eW eP lt_b1 lt_b3
  replace c := c.bl hn; replace x_b1 := x_b1.bl hn; replace j := j.bl hn; replace x_b3 := x_b3.bl hn; replace q := q.bl hn; replace hb := hb.trans (hn.mono hb.size)
  refine hK _ _ rfl ?_; clear hK K hn
  refine wpSq_call rfl (by kernel_rfl) fun K hK => ?_
  obtain ⟨d0, d1⟩ := x_b4.f2
  have f0 := x_b4.free 0; have f1 := x_b4.free 1
  go_big_op
  have hnd := x_b4.nod rfl rfl
  obtain ⟨w_20, eW, x_b4', ho⟩ : ∃ w', ((w_19.setCell ⟨p_b4, 0, none⟩ (.bool n_q)).setCell ⟨p_b4, 1, none⟩ (.slice o_q k_q c_q)) = w' ∧ Bs w' p_b4 #[.bool n_q, .slice o_q k_q c_q] 36 ∧ Only p_b4 w_19 w' := x_b4.setN [(0, .bool n_q), (1, .slice o_q k_q c_q)]
  rw [eW]; clear eW d0 d1 f0 f1 x_b4
  have x_b4 := x_b4'; clear x_b4'
  replace c := c.fr hnd ho; replace x_b1 := x_b1.frame ho ne_b1_b4; replace j := j.fr hnd ho; replace x_b3 := x_b3.frame ho ne_b3_b4; replace q := q.fr hnd ho; replace hb := belowOnly hb ho kb_b4
  refine hK _ _ rfl ?_; clear hK K ho hnd
  refine wpSq_call rfl (by kernel_rfl) fun K hK => ?_
  go_big_move; refine hK _ _ rfl ?_; clear hK K
  apply wpSq_end
  refine hK5 _ _ ?_
  refine wp_seq_k ?_
  intro K6 hK6
  refine wp_seq_k ?_
  intro K7 hK7
  refine wp_region_sq [0, 1, 2, 3, 4, 5, 6, 7, 8, 9, 10, 11, 12, 13, 14, 15, 16, 17, 18, 19, 20, 21, 22, 23, 24, 25, 26, 27, 28] (by kernel_rfl) ?_
  refine wpSq_call rfl (by kernel_rfl) fun K hK => ?_
  go_big_move; refine hK _ _ rfl ?_; clear hK K
  refine wpSq_call rfl (by kernel_rfl) fun K hK => ?_
  go_big_op; refine hK _ _ rfl ?_; clear hK K
  refine wpSq_call rfl (by kernel_rfl) fun K hK => ?_
  go_big_move; refine hK _ _ rfl ?_; clear hK K
  refine wpSq_call rfl (by kernel_rfl) fun K hK => ?_
  obtain ⟨d0, d1⟩ := x_b1.f2
  go_big_op; refine hK _ _ rfl ?_; clear hK K d0 d1
  refine wpSq_call rfl (by kernel_rfl) fun K hK => ?_
  go_big_op
  go_fit (small_zz 5 c (by decide) (by decide))
  rintro e w_21 ⟨rfl, hb_21⟩
  replace c := c.bl hb_21; replace x_b1 := x_b1.bl hb_21; replace j := j.bl hb_21; replace x_b3 := x_b3.bl hb_21; replace q := q.bl hb_21; replace x_b4 := x_b4.bl hb_21; replace hb := hb.trans (hb_21.mono hb.size)
  refine hK _ _ rfl ?_
  clear hK K hb_21
  refine wpSq_call rfl (by kernel_rfl) fun K hK => ?_
  go_big_op; refine hK _ _ rfl ?_; clear hK K
  refine wpSq_call rfl (by kernel_rfl) fun K hK => ?_
  go_big_op; refine hK _ _ rfl ?_; clear hK K
  refine wpSq_call rfl (by kernel_rfl) fun K hK => ?_
  go_big_move; refine hK _ _ rfl ?_; clear hK K
  refine wpSq_call rfl (by kernel_rfl) fun K hK => ?_
  go_big_move; refine hK _ _ rfl ?_; clear hK K
  refine wpSq_call rfl (by kernel_rfl) fun K hK => ?_
  go_big_op; refine hK _ _ rfl ?_; clear hK K
  refine wpSq_call rfl (by kernel_rfl) fun K hK => ?_
  go_big_op; refine hK _ _ rfl ?_; clear hK K
  refine wpSq_call rfl (by kernel_rfl) fun K hK => ?_
  go_big_move; refine hK _ _ rfl ?_; clear hK K
  refine wpSq_call rfl (by kernel_rfl) fun K hK => ?_
  go_big_move; refine hK _ _ rfl ?_; clear hK K
  refine wpSq_call rfl (by kernel_rfl) fun K hK => ?_
  go_big_op; refine hK _ _ rfl ?_; clear hK K
  refine wpSq_call rfl (by kernel_rfl) fun K hK => ?_
  go_big_op; refine hK _ _ rfl ?_; clear hK K
  refine wpSq_call rfl (by kernel_rfl) fun K hK => ?_
  go_big_move; refine hK _ _ rfl ?_; clear hK K
  refine wpSq_call rfl (by kernel_rfl) fun K hK => ?_
  obtain ⟨d0, d1⟩ := x_b3.f2
  go_big_op; refine hK _ _ rfl ?_; clear hK K d0 d1
  refine wpSq_call rfl (by kernel_rfl) fun K hK => ?_
  go_big_op
  go_fit (small_zz 0 j (by decide) (by decide))
  rintro e w_22 ⟨rfl, hb_22⟩
  clear x_b3
  replace c := c.bl hb_22; replace x_b1 := x_b1.bl hb_22; replace j := j.bl hb_22; replace q := q.bl hb_22; replace x_b4 := x_b4.bl hb_22; replace hb := hb.trans (hb_22.mono hb.size)
  refine hK _ _ rfl ?_
  clear hK K hb_22
  refine wpSq_call rfl (by kernel_rfl) fun K hK => ?_
  go_big_op; refine hK _ _ rfl ?_; clear hK K
  refine wpSq_call rfl (by kernel_rfl) fun K hK => ?_
  go_big_op; refine hK _ _ rfl ?_; clear hK K
  refine wpSq_call rfl (by kernel_rfl) fun K hK => ?_
  go_big_move; refine hK _ _ rfl ?_; clear hK K
  refine wpSq_call rfl (by kernel_rfl) fun K hK => ?_
  go_big_move; refine hK _ _ rfl ?_; clear hK K
  refine wpSq_call rfl (by kernel_rfl) fun K hK => ?_
  go_big_op; refine hK _ _ rfl ?_; clear hK K
  refine wpSq_call rfl (by kernel_rfl) fun K hK => ?_
  go_big_op; refine hK _ _ rfl ?_; clear hK K
  refine wpSq_call rfl (by kernel_rfl) fun K hK => ?_
  go_big_move; refine hK _ _ rfl ?_; clear hK K
  refine wpSq_call rfl (by kernel_rfl) fun K hK => ?_
  obtain ⟨d0, d1⟩ := x_b4.f2
  go_big_op; refine hK _ _ rfl ?_; clear hK K d0 d1
  refine wpSq_call rfl (by kernel_rfl) fun K hK => ?_
  go_big_op
  go_fit (small_zz 5 q (by decide) (by decide))
  rintro e w_23 ⟨rfl, hb_23⟩
  clear j x_b4
  replace c := c.bl hb_23; replace x_b1 := x_b1.bl hb_23; replace q := q.bl hb_23; replace hb := hb.trans (hb_23.mono hb.size)
  refine hK _ _ rfl ?_
  clear hK K hb_23
  refine wpSq_call rfl (by kernel_rfl) fun K hK => ?_
  go_big_op; refine hK _ _ rfl ?_; clear hK K
  refine wpSq_call rfl (by kernel_rfl) fun K hK => ?_
  go_big_op; refine hK _ _ rfl ?_; clear hK K
  apply wpSq_end
  refine hK7 _ _ ?_
  refine wp_cond_false (congrArg Value.bool (show _ = false from (by first | rfl | assumption | (simp; done) | exact decide_eq_false (by omega) | omega))) ?_
  refine wp_skip ?_
  refine hK6 _ _ ?_
  refine wp_seq_k ?_
  intro K8 hK8
  refine wp_region_sq [0, 1, 2, 3, 4, 5] (by kernel_rfl) ?_
  refine wpSq_call rfl (by kernel_rfl) fun K hK => ?_
  go_big_op
  go_fit (zparse_ok ⟨#[45, 48, 48, 55]⟩ _ (by decide) P1.out.1)
  rintro e w_24 ⟨v_r, rfl, r, hb_24⟩
  clear q
  replace c := c.bl hb_24; replace x_b1 := x_b1.bl hb_24; replace hb := hb.trans (hb_24.mono hb.size)
  obtain ⟨n_r, o_r, k_r, c_r, rfl⟩ := r.open2
  rw [P1.out.2] at r
  refine hK _ _ rfl ?_
  clear hK K hb_24
  refine wpSq_call rfl (by kernel_rfl) fun K hK => ?_
  go_big_move; refine hK _ _ rfl ?_; clear hK K
  refine wpSq_call rfl (by kernel_rfl) fun K hK => ?_
  go_big_op; refine hK _ _ rfl ?_; clear hK K
  refine wpSq_call rfl (by kernel_rfl) fun K hK => ?_
  go_big_op; refine hK _ _ rfl ?_; clear hK K
  refine wpSq_call rfl (by kernel_rfl) fun K hK => ?_
  obtain ⟨d0, d1⟩ := x_b1.f2
  have f0 := x_b1.free 0; have f1 := x_b1.free 1
  go_big_op
  have hnd := x_b1.nod rfl rfl
  obtain ⟨w_25, eW, x_b1', ho⟩ : ∃ w', ((w_24.setCell ⟨p_b1, 0, none⟩ (.bool n_r)).setCell ⟨p_b1, 1, none⟩ (.slice o_r k_r c_r)) = w' ∧ Bs w' p_b1 #[.bool n_r, .slice o_r k_r c_r] 36 ∧ Only p_b1 w_24 w' := x_b1.setN [(0, .bool n_r), (1, .slice o_r k_r c_r)]
  rw [eW]; clear eW d0 d1 f0 f1 x_b1
  have x_b1 := x_b1'; clear x_b1'
  clear c
  replace r := r.fr hnd ho; replace hb := belowOnly hb ho kb_b1
  refine hK _ _ rfl ?_; clear hK K ho hnd
  refine wpSq_call rfl (by kernel_rfl) fun K hK => ?_
  go_big_move; refine hK _ _ rfl ?_; clear hK K
  apply wpSq_end
  refine hK8 _ _ ?_
  refine wp_seq_k ?_
  intro K9 hK9
  refine wp_region_sq [0, 1, 2, 3, 4] (by kernel_rfl) ?_
  refine wpSq_call rfl (by kernel_rfl) fun K hK => ?_
  go_big_op
  go_fit (zparse_no ⟨#[45]⟩ _ (by decide) P2.out.1)
  rintro e w_26 ⟨rfl, hb_26⟩
  replace x_b1 := x_b1.bl hb_26; replace r := r.bl hb_26; replace hb := hb.trans (hb_26.mono hb.size)
  refine hK _ _ rfl ?_
  clear hK K hb_26
  refine wpSq_call rfl (by kernel_rfl) fun K hK => ?_
  go_big_move; refine hK _ _ rfl ?_; clear hK K
  refine wpSq_call rfl (by kernel_rfl) fun K hK => ?_
  go_big_op; refine hK _ _ rfl ?_; clear hK K
  refine wpSq_call rfl (by kernel_rfl) fun K hK => ?_
  go_big_op; refine hK _ _ rfl ?_; clear hK K
  refine wpSq_call rfl (by kernel_rfl) fun K hK => ?_
  go_big_move; refine hK _ _ rfl ?_; clear hK K
  apply wpSq_end
  refine hK9 _ _ ?_
  refine wp_seq_k ?_
  intro K10 hK10
  refine wp_region_sq [0, 1, 2, 3, 4] (by kernel_rfl) ?_
  refine wpSq_call rfl (by kernel_rfl) fun K hK => ?_
  go_big_op
  go_fit (zparse_no ⟨#[43, 49]⟩ _ (by decide) P2.out.2.1)
  rintro e w_27 ⟨rfl, hb_27⟩
  replace x_b1 := x_b1.bl hb_27; replace r := r.bl hb_27; replace hb := hb.trans (hb_27.mono hb.size)
  refine hK _ _ rfl ?_
  clear hK K hb_27
  refine wpSq_call rfl (by kernel_rfl) fun K hK => ?_
  go_big_move; refine hK _ _ rfl ?_; clear hK K
  refine wpSq_call rfl (by kernel_rfl) fun K hK => ?_
  go_big_op; refine hK _ _ rfl ?_; clear hK K
  refine wpSq_call rfl (by kernel_rfl) fun K hK => ?_
  go_big_op; refine hK _ _ rfl ?_; clear hK K
  refine wpSq_call rfl (by kernel_rfl) fun K hK => ?_
  go_big_move; refine hK _ _ rfl ?_; clear hK K
  apply wpSq_end
  refine hK10 _ _ ?_
  refine wp_seq_k ?_
  intro K11 hK11
  refine wp_region_sq [0, 1, 2, 3, 4] (by kernel_rfl) ?_
  refine wpSq_call rfl (by kernel_rfl) fun K hK => ?_
  go_big_op
  go_fit (zparse_no ⟨#[]⟩ _ (by decide) P2.out.2.2)
  rintro e w_28 ⟨rfl, hb_28⟩
  replace x_b1 := x_b1.bl hb_28; replace r := r.bl hb_28; replace hb := hb.trans (hb_28.mono hb.size)
  refine hK _ _ rfl ?_
  clear hK K hb_28
  refine wpSq_call rfl (by kernel_rfl) fun K hK => ?_
  go_big_move; refine hK _ _ rfl ?_; clear hK K
  refine wpSq_call rfl (by kernel_rfl) fun K hK => ?_
  go_big_op; refine hK _ _ rfl ?_; clear hK K
  refine wpSq_call rfl (by kernel_rfl) fun K hK => ?_
  go_big_op; refine hK _ _ rfl ?_; clear hK K
  refine wpSq_call rfl (by kernel_rfl) fun K hK => ?_
  go_big_move; refine hK _ _ rfl ?_; clear hK K
  apply wpSq_end
  refine hK11 _ _ ?_
  refine wp_seq_k ?_
  intro K12 hK12
  refine wp_region_sq [0, 1, 2, 3, 4, 5, 6, 7, 8, 9, 10, 11, 12, 13, 14, 15, 16, 17, 18] (by kernel_rfl) ?_
  refine wpSq_call rfl (by kernel_rfl) fun K hK => ?_
  go_big_move; refine hK _ _ rfl ?_; clear hK K
  refine wpSq_call rfl (by kernel_rfl) fun K hK => ?_
  go_big_op; refine hK _ _ rfl ?_; clear hK K
  refine wpSq_call rfl (by kernel_rfl) fun K hK => ?_
  go_big_move; refine hK _ _ rfl ?_; clear hK K
  refine wpSq_call rfl (by kernel_rfl) fun K hK => ?_
  obtain ⟨d0, d1⟩ := x_b1.f2
  go_big_op; refine hK _ _ rfl ?_; clear hK K d0 d1
  refine wpSq_call rfl (by kernel_rfl) fun K hK => ?_
  go_big_op
  go_fit (small_zz (-7) r (by decide) (by decide))
  rintro e w_29 ⟨rfl, hb_29⟩
  clear x_b1
  replace r := r.bl hb_29; replace hb := hb.trans (hb_29.mono hb.size)
  refine hK _ _ rfl ?_
  clear hK K hb_29
  refine wpSq_call rfl (by kernel_rfl) fun K hK => ?_
  go_big_op; refine hK _ _ rfl ?_; clear hK K
  refine wpSq_call rfl (by kernel_rfl) fun K hK => ?_
  go_big_move; refine hK _ _ rfl ?_; clear hK K
  refine wpSq_call rfl (by kernel_rfl) fun K hK => ?_
  go_big_move; refine hK _ _ rfl ?_; clear hK K
  refine wpSq_call rfl (by kernel_rfl) fun K hK => ?_
  go_big_op; refine hK _ _ rfl ?_; clear hK K
  refine wpSq_call rfl (by kernel_rfl) fun K hK => ?_
  go_big_op; refine hK _ _ rfl ?_; clear hK K
  refine wpSq_call rfl (by kernel_rfl) fun K hK => ?_
  go_big_move; refine hK _ _ rfl ?_; clear hK K
  refine wpSq_call rfl (by kernel_rfl) fun K hK => ?_
  go_big_move; refine hK _ _ rfl ?_; clear hK K
  refine wpSq_call rfl (by kernel_rfl) fun K hK => ?_
  go_big_op; refine hK _ _ rfl ?_; clear hK K
  refine wpSq_call rfl (by kernel_rfl) fun K hK => ?_
  go_big_op; refine hK _ _ rfl ?_; clear hK K
  refine wpSq_call rfl (by kernel_rfl) fun K hK => ?_
  go_big_move; refine hK _ _ rfl ?_; clear hK K
  refine wpSq_call rfl (by kernel_rfl) fun K hK => ?_
  go_big_move; refine hK _ _ rfl ?_; clear hK K
  refine wpSq_call rfl (by kernel_rfl) fun K hK => ?_
  go_big_op; refine hK _ _ rfl ?_; clear hK K
  refine wpSq_call rfl (by kernel_rfl) fun K hK => ?_
  go_big_op; refine hK _ _ rfl ?_; clear hK K
  refine wpSq_call rfl (by kernel_rfl) fun K hK => ?_
  go_big_move; refine hK _ _ rfl ?_; clear hK K
  apply wpSq_end
  refine hK12 _ _ ?_
  refine wp_ret ?_
  try dsimp only [Exit.then, Exit.inBlock]
  refine bodyPost_ret (v := (.bool true)) (by simp [results, Tryd.results30, go_sem]) rfl ?_
  exact ⟨rfl, hb⟩
set_option maxHeartbeats 8000000 in
set_option maxRecDepth 20000 in
theorem walk_ZintKnown (w : World) (htab : Lib.TabIs Tryd.prog w p10 .u64 Lib.pow10Tab) :
    Calls Tryd.prog 4 #[] w fun e w' => e = .returned (.bool true) ∧ Below w.heap.size w w' := by
  have htabs := Lib.tabBelow_of_tabIs htab
  have D0 := hide dec0
  go_enter Tryd.func4, Tryd.ntmps4
  have hb := Below.refl w.heap.size w
  refine wp_seq_k ?_
  intro K1 hK1
  refine wp_region_sq [0] (by kernel_rfl) ?_
  refine wpSq_call rfl (by kernel_rfl) fun K hK => ?_
  go_big_move; refine hK _ _ rfl ?_; clear hK K
  apply wpSq_end
  refine hK1 _ _ ?_
  refine wp_seq_k ?_
  intro K2 hK2
  refine wp_region_sq [0, 1, 2] (by kernel_rfl) ?_
  refine wpSq_call rfl (by kernel_rfl) fun K hK => ?_
  go_big_op
  go_fit (from_any (-9223372036854775808) _ (by decide) (by decide))
  rintro e w_1 ⟨v_g, rfl, g, hb_1⟩
  replace hb := hb.trans (hb_1.mono hb.size)
  replace g := g.rd
  obtain ⟨n_g, o_g, k_g, c_g, rfl⟩ := g.open2
  have Lg := hide (g.lenOf (zlen_i (-9223372036854775808) (by decide) (by decide)))
  refine hK _ _ rfl ?_
  clear hK K hb_1
  refine wpSq_call rfl (by kernel_rfl) fun K hK => ?_
  go_big_op
  obtain ⟨p_b1, w_2, eP, eW, x_b1, hn, kb_b1⟩ := newBox w_1 #[.bool false, .slice none 0 0] 36 hb.size
  rw [eW, eP]
  clear eW eP
  replace g := g.bl hn; replace hb := hb.trans (hn.mono hb.size)
  refine hK _ _ rfl ?_; clear hK K hn
  refine wpSq_call rfl (by kernel_rfl) fun K hK => ?_
  obtain ⟨d0, d1⟩ := x_b1.f2
  have f0 := x_b1.free 0; have f1 := x_b1.free 1
  go_big_op
  have hnd := x_b1.nod rfl rfl
  obtain ⟨w_3, eW, x_b1', ho⟩ : ∃ w', ((w_2.setCell ⟨p_b1, 0, none⟩ (.bool n_g)).setCell ⟨p_b1, 1, none⟩ (.slice o_g k_g c_g)) = w' ∧ Bs w' p_b1 #[.bool n_g, .slice o_g k_g c_g] 36 ∧ Only p_b1 w_2 w' := x_b1.setN [(0, .bool n_g), (1, .slice o_g k_g c_g)]
  rw [eW]; clear eW d0 d1 f0 f1 x_b1
  have x_b1 := x_b1'; clear x_b1'
  replace g := g.fr hnd ho; replace hb := belowOnly hb ho kb_b1
  refine hK _ _ rfl ?_; clear hK K ho hnd
  apply wpSq_end
  refine hK2 _ _ ?_
  refine wp_seq_k ?_
  intro K3 hK3
  refine wp_seq_k ?_
  intro K4 hK4
  refine wp_region_sq [0, 1, 2, 3, 4, 5, 6, 7, 8, 9, 10, 11, 12, 13, 14, 15, 16, 17, 18, 19] (by kernel_rfl) ?_
  refine wpSq_call rfl (by kernel_rfl) fun K hK => ?_
  go_big_op
  go_fit (zawake_any _ (htabs _ hb))
  rintro e w_4 ⟨rfl, hb_4⟩
  replace g := g.bl hb_4; replace x_b1 := x_b1.bl hb_4; replace hb := hb.trans (hb_4.mono hb.size)
  refine hK _ _ rfl ?_
  clear hK K hb_4
  refine wpSq_call rfl (by kernel_rfl) fun K hK => ?_
  go_big_op; refine hK _ _ rfl ?_; clear hK K
  refine wpSq_call rfl (by kernel_rfl) fun K hK => ?_
  go_big_move; refine hK _ _ rfl ?_; clear hK K
  refine wpSq_call rfl (by kernel_rfl) fun K hK => ?_
  obtain ⟨d0, d1⟩ := x_b1.f2
  go_big_op; refine hK _ _ rfl ?_; clear hK K d0 d1
  refine wpSq_call rfl (by kernel_rfl) fun K hK => ?_
  go_big_op
  have lt_b1 := x_b1.lt
  obtain ⟨p_b2, w_5, eP, eW, x_b2, hn, kb_b2⟩ := newBox w_4 #[.int .u32 0, .int .u32 2147483648] 24 hb.size
  have ne_b1_b2 : Hid (p_b1 ≠ p_b2) := Nat.ne_of_lt (eP ▸ lt_b1)
  rw [eW, eP]
  clear eW eP lt_b1
  replace g := g.bl hn; replace x_b1 := x_b1.bl hn; replace hb := hb.trans (hn.mono hb.size)
  refine hK _ _ rfl ?_; clear hK K hn
  refine wpSq_call rfl (by kernel_rfl) fun K hK => ?_
  go_big_op; refine hK _ _ rfl ?_; clear hK K
  refine wpSq_call rfl (by kernel_rfl) fun K hK => ?_
  go_big_op
  go_fit (is_zz g (zn_rd true (x_b2.rd2 (by decide) (by decide)) (-9223372036854775808) (by decide)) (by decide))
  rintro e w_6 ⟨rfl, hb_6⟩
  clear x_b2
  replace g := g.bl hb_6; replace x_b1 := x_b1.bl hb_6; replace hb := hb.trans (hb_6.mono hb.size)
  refine hK _ _ rfl ?_
  clear hK K hb_6
  refine wpSq_call rfl (by kernel_rfl) fun K hK => ?_
  go_big_op; refine hK _ _ rfl ?_; clear hK K
  refine wpSq_call rfl (by kernel_rfl) fun K hK => ?_
  go_big_op; refine hK _ _ rfl ?_; clear hK K
  refine wpSq_call rfl (by kernel_rfl) fun K hK => ?_
  go_big_move; refine hK _ _ rfl ?_; clear hK K
  refine wpSq_call rfl (by kernel_rfl) fun K hK => ?_
  go_big_op; refine hK _ _ rfl ?_; clear hK K
  refine wpSq_call rfl (by kernel_rfl) fun K hK => ?_
  go_big_op
  go_fit (zsign_any (zn_rd true (show Rd w_6 (.slice none 0 0) [] from ⟨none, 0, rfl, Nat.le_refl _, OK.nil, .inl rfl⟩) 0 (by decide)) (by decide))
  rintro e w_7 ⟨rfl, hb_7⟩
  replace g := g.bl hb_7; replace x_b1 := x_b1.bl hb_7; replace hb := hb.trans (hb_7.mono hb.size)
  refine hK _ _ rfl ?_
  clear hK K hb_7
  refine wpSq_call rfl (by kernel_rfl) fun K hK => ?_
  go_big_op; refine hK _ _ rfl ?_; clear hK K
  refine wpSq_call rfl (by kernel_rfl) fun K hK => ?_
  go_big_op; refine hK _ _ rfl ?_; clear hK K
  refine wpSq_call rfl (by kernel_rfl) fun K hK => ?_
  go_big_move; refine hK _ _ rfl ?_; clear hK K
  refine wpSq_call rfl (by kernel_rfl) fun K hK => ?_
  go_big_op
  have lt_b1 := x_b1.lt
  obtain ⟨p_b3, w_8, eP, eW, x_b3, hn, kb_b3⟩ := newBox w_7 #[.int .u32 0] 24 hb.size
  have ne_b1_b3 : Hid (p_b1 ≠ p_b3) := Nat.ne_of_lt (eP ▸ lt_b1)
  rw [eW, eP]
  clear eW eP lt_b1
  replace g := g.bl hn; replace x_b1 := x_b1.bl hn; replace hb := hb.trans (hn.mono hb.size)
  refine hK _ _ rfl ?_; clear hK K hn
  refine wpSq_call rfl (by kernel_rfl) fun K hK => ?_
  go_big_op; refine hK _ _ rfl ?_; clear hK K
  refine wpSq_call rfl (by kernel_rfl) fun K hK => ?_
  go_big_op
  go_fit (ztext_pos (zn_rd true (x_b3.rd1 (by decide)) 0 (by decide)) (by decide) (by decide) (htabs _ hb))
  rintro e w_9 ⟨rfl, hb_9⟩
  clear x_b3
  replace g := g.bl hb_9; replace x_b1 := x_b1.bl hb_9; replace hb := hb.trans (hb_9.mono hb.size)
  rw [show Lib.decDigits (Int.natAbs 0) = [48] from D0.out]
  refine hK _ _ rfl ?_
  clear hK K hb_9
  refine wpSq_call rfl (by kernel_rfl) fun K hK => ?_
  go_big_op; refine hK _ _ rfl ?_; clear hK K
  refine wpSq_call rfl (by kernel_rfl) fun K hK => ?_
  go_big_op; refine hK _ _ rfl ?_; clear hK K
  apply wpSq_end
  refine hK4 _ _ ?_
  refine wp_cond_false (congrArg Value.bool (show _ = false from (by first | rfl | assumption | (simp; done) | exact decide_eq_false (by omega) | omega))) ?_
  refine wp_skip ?_
  refine hK3 _ _ ?_
  refine wp_seq_k ?_
  intro K5 hK5
  refine wp_region_sq [0, 1, 2, 3, 4, 5, 6, 7] (by kernel_rfl) ?_
  refine wpSq_call rfl (by kernel_rfl) fun K hK => ?_
  obtain ⟨d0, d1⟩ := x_b1.f2
  go_big_op; refine hK _ _ rfl ?_; clear hK K d0 d1
  refine wpSq_call rfl (by kernel_rfl) fun K hK => ?_
  go_big_op
  go_fit (zneg_any (g.zn Lg.out) (by omega) )
  rintro e w_10 ⟨v_h, rfl, h, hb_10⟩
  replace g := g.bl hb_10; replace x_b1 := x_b1.bl hb_10; replace hb := hb.trans (hb_10.mono hb.size)
  replace h := h.rd
  obtain ⟨n_h, o_h, k_h, c_h, rfl⟩ := h.open2
  have Lh := hide (h.lenOf (zlen_neg (Lg.out)))
  refine hK _ _ rfl ?_
  clear hK K hb_10
  refine wpSq_call rfl (by kernel_rfl) fun K hK => ?_
  go_big_op
  go_fit (int_high (h.zn Lh.out) (by decide) (by decide))
  rintro e w_11 ⟨rfl, hb_11⟩
  replace g := g.bl hb_11; replace x_b1 := x_b1.bl hb_11; replace h := h.bl hb_11; replace hb := hb.trans (hb_11.mono hb.size)
  refine hK _ _ rfl ?_
  clear hK K hb_11
  refine wpSq_call rfl (by kernel_rfl) fun K hK => ?_
  go_big_move; refine hK _ _ rfl ?_; clear hK K
  refine wpSq_call rfl (by kernel_rfl) fun K hK => ?_
  go_big_op; refine hK _ _ rfl ?_; clear hK K
  refine wpSq_call rfl (by kernel_rfl) fun K hK => ?_
  go_big_op; refine hK _ _ rfl ?_; clear hK K
  refine wpSq_call rfl (by kernel_rfl) fun K hK => ?_
  go_big_move; refine hK _ _ rfl ?_; clear hK K
  refine wpSq_call rfl (by kernel_rfl) fun K hK => ?_
  go_big_move; refine hK _ _ rfl ?_; clear hK K
  apply wpSq_end
  refine hK5 _ _ ?_
  refine wp_seq_k ?_
  intro K6 hK6
  refine wp_region_sq [0, 1, 2, 3, 4, 5, 6] (by kernel_rfl) ?_
  refine wpSq_call rfl (by kernel_rfl) fun K hK => ?_
  obtain ⟨d0, d1⟩ := x_b1.f2
  go_big_op; refine hK _ _ rfl ?_; clear hK K d0 d1
  refine wpSq_call rfl (by kernel_rfl) fun K hK => ?_
  go_big_op
  go_fit (int_any (g.zn Lg.out) (by decide) (by decide) (by decide))
  rintro e w_12 ⟨rfl, hb_12⟩
  clear x_b1 h
  replace g := g.bl hb_12; replace hb := hb.trans (hb_12.mono hb.size)
  refine hK _ _ rfl ?_
  clear hK K hb_12
  refine wpSq_call rfl (by kernel_rfl) fun K hK => ?_
  go_big_move; refine hK _ _ rfl ?_; clear hK K
  refine wpSq_call rfl (by kernel_rfl) fun K hK => ?_
  go_big_op; refine hK _ _ rfl ?_; clear hK K
  refine wpSq_call rfl (by kernel_rfl) fun K hK => ?_
  go_big_op; refine hK _ _ rfl ?_; clear hK K
  refine wpSq_call rfl (by kernel_rfl) fun K hK => ?_
  go_big_move; refine hK _ _ rfl ?_; clear hK K
  refine wpSq_call rfl (by kernel_rfl) fun K hK => ?_
  go_big_move; refine hK _ _ rfl ?_; clear hK K
  apply wpSq_end
  refine hK6 _ _ ?_
  refine wp_seq_k ?_
  intro K7 hK7
  refine wp_seq_k ?_
  intro K8 hK8
  refine wp_region_sq [0, 1, 2, 3, 4, 5, 6, 7, 8, 9, 10, 11, 12] (by kernel_rfl) ?_
  refine wpSq_call rfl (by kernel_rfl) fun K hK => ?_
  go_big_move; refine hK _ _ rfl ?_; clear hK K
  refine wpSq_call rfl (by kernel_rfl) fun K hK => ?_
  go_big_move; refine hK _ _ rfl ?_; clear hK K
  refine wpSq_call rfl (by kernel_rfl) fun K hK => ?_
  go_big_move; refine hK _ _ rfl ?_; clear hK K
  refine wpSq_call rfl (by kernel_rfl) fun K hK => ?_
  go_big_op; refine hK _ _ rfl ?_; clear hK K
  refine wpSq_call rfl (by kernel_rfl) fun K hK => ?_
  go_big_op; refine hK _ _ rfl ?_; clear hK K
  refine wpSq_call rfl (by kernel_rfl) fun K hK => ?_
  go_big_move; refine hK _ _ rfl ?_; clear hK K
  refine wpSq_call rfl (by kernel_rfl) fun K hK => ?_
  go_big_move; refine hK _ _ rfl ?_; clear hK K
  refine wpSq_call rfl (by kernel_rfl) fun K hK => ?_
  go_big_op; refine hK _ _ rfl ?_; clear hK K
  refine wpSq_call rfl (by kernel_rfl) fun K hK => ?_
  go_big_op; refine hK _ _ rfl ?_; clear hK K
  refine wpSq_call rfl (by kernel_rfl) fun K hK => ?_
  go_big_move; refine hK _ _ rfl ?_; clear hK K
  refine wpSq_call rfl (by kernel_rfl) fun K hK => ?_
  go_big_move; refine hK _ _ rfl ?_; clear hK K
  refine wpSq_call rfl (by kernel_rfl) fun K hK => ?_
  go_big_op; refine hK _ _ rfl ?_; clear hK K
  refine wpSq_call rfl (by kernel_rfl) fun K hK => ?_
  go_big_op; refine hK _ _ rfl ?_; clear hK K
  apply wpSq_end
  refine hK8 _ _ ?_
  refine wp_cond_false (congrArg Value.bool (show _ = false from (by first | rfl | assumption | (simp; done) | exact decide_eq_false (by omega) | omega))) ?_
  refine wp_skip ?_
  refine hK7 _ _ ?_
  refine wp_seq_k ?_
  intro K9 hK9
  refine wp_region_sq [0, 1, 2, 3, 4, 5, 6, 7, 8, 9, 10, 11] (by kernel_rfl) ?_
  refine wpSq_call rfl (by kernel_rfl) fun K hK => ?_
  go_big_op
  go_fit (i_any (-7) _ (by decide) (by decide))
  rintro e w_13 ⟨v_a1x, rfl, a1x, hb_13⟩
  clear g
  replace hb := hb.trans (hb_13.mono hb.size)
  replace a1x := a1x.rd
  obtain ⟨n_a1x, o_a1x, k_a1x, c_a1x, rfl⟩ := a1x.open2
  have La1x := hide (a1x.lenOf (zlen_i (-7) (by decide) (by decide)))
  refine hK _ _ rfl ?_
  clear hK K hb_13
  refine wpSq_call rfl (by kernel_rfl) fun K hK => ?_
  go_big_op
  go_fit (i_any 2 _ (by decide) (by decide))
  rintro e w_14 ⟨v_b1x, rfl, b1x, hb_14⟩
  replace a1x := a1x.bl hb_14; replace hb := hb.trans (hb_14.mono hb.size)
  replace b1x := b1x.rd
  obtain ⟨n_b1x, o_b1x, k_b1x, c_b1x, rfl⟩ := b1x.open2
  have Lb1x := hide (b1x.lenOf (zlen_i 2 (by decide) (by decide)))
  refine hK _ _ rfl ?_
  clear hK K hb_14
  refine wpSq_call rfl (by kernel_rfl) fun K hK => ?_
  go_big_op
  go_fit (fdiv_any (a1x.zn La1x.out) (b1x.zn Lb1x.out) (by omega) (by omega) (show 2 ≠ (0 : Int) by decide))
  rintro e w_15 ⟨v_q1x, v_r1x, rfl, q1x, r1x, hb_15⟩
  replace a1x := a1x.bl hb_15; replace b1x := b1x.bl hb_15; replace hb := hb.trans (hb_15.mono hb.size)
  replace q1x := q1x.rd
  obtain ⟨n_q1x, o_q1x, k_q1x, c_q1x, rfl⟩ := q1x.open2
  replace r1x := r1x.rd
  obtain ⟨n_r1x, o_r1x, k_r1x, c_r1x, rfl⟩ := r1x.open2
  have Lq1x := hide (q1x.lenOf (fdiv_len ((show 2 ≠ (0 : Int) by decide)) (La1x.out)))
  have Lr1x := hide (r1x.lenOf (fmod_len ((show 2 ≠ (0 : Int) by decide)) (Lb1x.out)))
  rw [show (-7 : Int).fdiv 2 = -4 from by decide] at q1x
  rw [show (-7 : Int).fmod 2 = 1 from by decide] at r1x
  refine hK _ _ rfl ?_
  clear hK K hb_15
  refine wpSq_call rfl (by kernel_rfl) fun K hK => ?_
  go_big_move; refine hK _ _ rfl ?_; clear hK K
  refine wpSq_call rfl (by kernel_rfl) fun K hK => ?_
  go_big_op; refine hK _ _ rfl ?_; clear hK K
  refine wpSq_call rfl (by kernel_rfl) fun K hK => ?_
  go_big_op; refine hK _ _ rfl ?_; clear hK K
  refine wpSq_call rfl (by kernel_rfl) fun K hK => ?_
  go_big_op; refine hK _ _ rfl ?_; clear hK K
  refine wpSq_call rfl (by kernel_rfl) fun K hK => ?_
  go_big_op
  clear a1x b1x
  obtain ⟨p_b4, w_16, eP, eW, x_b4, hn, kb_b4⟩ := newBox w_15 #[.bool false, .slice none 0 0] 36 hb.size
  rw [eW, eP]
  clear eW eP
  replace q1x := q1x.bl hn; replace r1x := r1x.bl hn; replace hb := hb.trans (hn.mono hb.size)
  refine hK _ _ rfl ?_; clear hK K hn
  refine wpSq_call rfl (by kernel_rfl) fun K hK => ?_
  go_big_op
  have lt_b4 := x_b4.lt
  obtain ⟨p_b5, w_17, eP, eW, x_b5, hn, kb_b5⟩ := newBox w_16 #[.bool false, .slice none 0 0] 36 hb.size
  have ne_b4_b5 : Hid (p_b4 ≠ p_b5) := Nat.ne_of_lt (eP ▸ lt_b4)
  rw [eW, eP]
  clear eW eP lt_b4
  replace q1x := q1x.bl hn; replace r1x := r1x.bl hn; replace x_b4 := x_b4.bl hn; replace hb := hb.trans (hn.mono hb.size)
  refine hK _ _ rfl ?_; clear hK K hn
  refine wpSq_call rfl (by kernel_rfl) fun K hK => ?_
  obtain ⟨d0, d1⟩ := x_b4.f2
  have f0 := x_b4.free 0; have f1 := x_b4.free 1
  go_big_op
  have hnd := x_b4.nod rfl rfl
  obtain ⟨w_18, eW, x_b4', ho⟩ : ∃ w', ((w_17.setCell ⟨p_b4, 0, none⟩ (.bool n_q1x)).setCell ⟨p_b4, 1, none⟩ (.slice o_q1x k_q1x c_q1x)) = w' ∧ Bs w' p_b4 #[.bool n_q1x, .slice o_q1x k_q1x c_q1x] 36 ∧ Only p_b4 w_17 w' := x_b4.setN [(0, .bool n_q1x), (1, .slice o_q1x k_q1x c_q1x)]
  rw [eW]; clear eW d0 d1 f0 f1 x_b4
  have x_b4 := x_b4'; clear x_b4'
  replace q1x := q1x.fr hnd ho; replace r1x := r1x.fr hnd ho; replace x_b5 := x_b5.frame ho ne_b4_b5.symm; replace hb := belowOnly hb ho kb_b4
  refine hK _ _ rfl ?_; clear hK K ho hnd
  refine wpSq_call rfl (by kernel_rfl) fun K hK => ?_
  obtain ⟨d0, d1⟩ := x_b5.f2
  have f0 := x_b5.free 0; have f1 := x_b5.free 1
  go_big_op
  have hnd := x_b5.nod rfl rfl
  obtain ⟨w_19, eW, x_b5', ho⟩ : ∃ w', ((w_18.setCell ⟨p_b5, 0, none⟩ (.bool n_r1x)).setCell ⟨p_b5, 1, none⟩ (.slice o_r1x k_r1x c_r1x)) = w' ∧ Bs w' p_b5 #[.bool n_r1x, .slice o_r1x k_r1x c_r1x] 36 ∧ Only p_b5 w_18 w' := x_b5.setN [(0, .bool n_r1x), (1, .slice o_r1x k_r1x c_r1x)]
  rw [eW]; clear eW d0 d1 f0 f1 x_b5
  have x_b5 := x_b5'; clear x_b5'
  replace q1x := q1x.fr hnd ho; replace r1x := r1x.fr hnd ho; replace x_b4 := x_b4.frame ho ne_b4_b5; replace hb := belowOnly hb ho kb_b5
  refine hK _ _ rfl ?_; clear hK K ho hnd
  refine wpSq_call rfl (by kernel_rfl) fun K hK => ?_
  go_big_move; refine hK _ _ rfl ?_; clear hK K
  apply wpSq_end
  refine hK9 _ _ ?_
  refine wp_seq_k ?_
  intro K10 hK10
  refine wp_region_sq [0, 1, 2, 3, 4, 5, 6, 7, 8, 9, 10, 11] (by kernel_rfl) ?_
  refine wpSq_call rfl (by kernel_rfl) fun K hK => ?_
  go_big_op
  go_fit (i_any 7 _ (by decide) (by decide))
  rintro e w_20 ⟨v_a2x, rfl, a2x, hb_20⟩
  replace q1x := q1x.bl hb_20; replace r1x := r1x.bl hb_20; replace x_b4 := x_b4.bl hb_20; replace x_b5 := x_b5.bl hb_20; replace hb := hb.trans (hb_20.mono hb.size)
  replace a2x := a2x.rd
  obtain ⟨n_a2x, o_a2x, k_a2x, c_a2x, rfl⟩ := a2x.open2
  have La2x := hide (a2x.lenOf (zlen_i 7 (by decide) (by decide)))
  refine hK _ _ rfl ?_
  clear hK K hb_20
  refine wpSq_call rfl (by kernel_rfl) fun K hK => ?_
  go_big_op
  go_fit (i_any (-2) _ (by decide) (by decide))
  rintro e w_21 ⟨v_b2x, rfl, b2x, hb_21⟩
  replace q1x := q1x.bl hb_21; replace r1x := r1x.bl hb_21; replace x_b4 := x_b4.bl hb_21; replace x_b5 := x_b5.bl hb_21; replace a2x := a2x.bl hb_21; replace hb := hb.trans (hb_21.mono hb.size)
  replace b2x := b2x.rd
  obtain ⟨n_b2x, o_b2x, k_b2x, c_b2x, rfl⟩ := b2x.open2
  have Lb2x := hide (b2x.lenOf (zlen_i (-2) (by decide) (by decide)))
  refine hK _ _ rfl ?_
  clear hK K hb_21
  refine wpSq_call rfl (by kernel_rfl) fun K hK => ?_
  go_big_op
  go_fit (fdiv_any (a2x.zn La2x.out) (b2x.zn Lb2x.out) (by omega) (by omega) (show (-2) ≠ (0 : Int) by decide))
  rintro e w_22 ⟨v_q2x, v_r2x, rfl, q2x, r2x, hb_22⟩
  replace q1x := q1x.bl hb_22; replace r1x := r1x.bl hb_22; replace x_b4 := x_b4.bl hb_22; replace x_b5 := x_b5.bl hb_22; replace a2x := a2x.bl hb_22; replace b2x := b2x.bl hb_22; replace hb := hb.trans (hb_22.mono hb.size)
  replace q2x := q2x.rd
  obtain ⟨n_q2x, o_q2x, k_q2x, c_q2x, rfl⟩ := q2x.open2
  replace r2x := r2x.rd
  obtain ⟨n_r2x, o_r2x, k_r2x, c_r2x, rfl⟩ := r2x.open2
  have Lq2x := hide (q2x.lenOf (fdiv_len ((show (-2) ≠ (0 : Int) by decide)) (La2x.out)))
  have Lr2x := hide (r2x.lenOf (fmod_len ((show (-2) ≠ (0 : Int) by decide)) (Lb2x.out)))
  rw [show (7 : Int).fdiv (-2) = -4 from by decide] at q2x
  rw [show (7 : Int).fmod (-2) = -1 from by decide] at r2x
  refine hK _ _ rfl ?_
  clear hK K hb_22
  refine wpSq_call rfl (by kernel_rfl) fun K hK => ?_
  go_big_move; refine hK _ _ rfl ?_; clear hK K
  refine wpSq_call rfl (by kernel_rfl) fun K hK => ?_
  go_big_op; refine hK _ _ rfl ?_; clear hK K
  refine wpSq_call rfl (by kernel_rfl) fun K hK => ?_
  go_big_op; refine hK _ _ rfl ?_; clear hK K
  refine wpSq_call rfl (by kernel_rfl) fun K hK => ?_
  go_big_op; refine hK _ _ rfl ?_; clear hK K
  refine wpSq_call rfl (by kernel_rfl) fun K hK => ?_
  go_big_op
  clear a2x b2x
  have lt_b4 := x_b4.lt
  have lt_b5 := x_b5.lt
  obtain ⟨p_b6, w_23, eP, eW, x_b6, hn, kb_b6⟩ := newBox w_22 #[.bool false, .slice none 0 0] 36 hb.size
  have ne_b4_b6 : Hid (p_b4 ≠ p_b6) := Nat.ne_of_lt (eP ▸ lt_b4)
  have ne_b5_b6 : Hid (p_b5 ≠ p_b6) := Nat.ne_of_lt (eP ▸ lt_b5)
  rw [eW, eP]
  clear eW eP lt_b4 lt_b5
  replace q1x := q1x.bl hn; replace r1x := r1x.bl hn; replace x_b4 := x_b4.bl hn; replace x_b5 := x_b5.bl hn; replace q2x := q2x.bl hn; replace r2x := r2x.bl hn; replace hb := hb.trans (hn.mono hb.size)
  refine hK _ _ rfl ?_; clear hK K hn
  refine wpSq_call rfl (by kernel_rfl) fun K hK => ?_
  go_big_op
  have lt_b4 := x_b4.lt
  have lt_b5 := x_b5.lt
  have lt_b6 := x_b6.lt
  obtain ⟨p_b7, w_24, eP, eW, x_b7, hn, kb_b7⟩ := newBox w_23 #[.bool false, .slice none 0 0] 36 hb.size
  have ne_b4_b7 : Hid (p_b4 ≠ p_b7) := Nat.ne_of_lt (eP ▸ lt_b4)
  have ne_b5_b7 : Hid (p_b5 ≠ p_b7) := Nat.ne_of_lt (eP ▸ lt_b5)
  have ne_b6_b7 : Hid (p_b6 ≠ p_b7) := Nat.ne_of_lt (eP ▸ lt_b6)
  rw [eW, eP]
  clear eW eP lt_b4 lt_b5 lt_b6
  replace q1x := q1x.bl hn; replace r1x := r1x.bl hn; replace x_b4 := x_b4.bl hn; replace x_b5 := x_b5.bl hn; replace q2x := q2x.bl hn; replace r2x := r2x.bl hn; replace x_b6 := x_b6.bl hn; replace hb := hb.trans (hn.mono hb.size)
  refine hK _ _ rfl ?_; clear hK K hn
  refine wpSq_call rfl (by kernel_rfl) fun K hK => ?_
  obtain ⟨d0, d1⟩ := x_b6.f2
  have f0 := x_b6.free 0; have f1 := x_b6.free 1
  go_big_op
  have hnd := x_b6.nod rfl rfl
  obtain ⟨w_25, eW, x_b6', ho⟩ : ∃ w', ((w_24.setCell ⟨p_b6, 0, none⟩ (.bool n_q2x)).setCell ⟨p_b6, 1, none⟩ (.slice o_q2x k_q2x c_q2x)) = w' ∧ Bs w' p_b6 #[.bool n_q2x, .slice o_q2x k_q2x c_q2x] 36 ∧ Only p_b6 w_24 w' := x_b6.setN [(0, .bool n_q2x), (1, .slice o_q2x k_q2x c_q2x)]
  rw [eW]; clear eW d0 d1 f0 f1 x_b6
  have x_b6 := x_b6'; clear x_b6'
  replace q1x := q1x.fr hnd ho; replace r1x := r1x.fr hnd ho; replace x_b4 := x_b4.frame ho ne_b4_b6; replace x_b5 := x_b5.frame ho ne_b5_b6; replace q2x := q2x.fr hnd ho; replace r2x := r2x.fr hnd ho; replace x_b7 := x_b7.frame ho ne_b6_b7.symm; replace hb := belowOnly hb ho kb_b6
  refine hK _ _ rfl ?_; clear hK K ho hnd
  refine wpSq_call rfl (by kernel_rfl) fun K hK => ?_
  obtain ⟨d0, d1⟩ := x_b7.f2
  have f0 := x_b7.free 0; have f1 := x_b7.free 1
  go_big_op
  have hnd := x_b7.nod rfl rfl
  obtain ⟨w_26, eW, x_b7', ho⟩ : ∃ w', ((w_25.setCell ⟨p_b7, 0, none⟩ (.bool n_r2x)).setCell ⟨p_b7, 1, none⟩ (.slice o_r2x k_r2x c_r2x)) = w' ∧ Bs w' p_b7 #[.bool n_r2x, .slice o_r2x k_r2x c_r2x] 36 ∧ Only p_b7 w_25 w' := x_b7.setN [(0, .bool n_r2x), (1, .slice o_r2x k_r2x c_r2x)]
  rw [eW]; clear eW d0 d1 f0 f1 x_b7
  have x_b7 := x_b7'; clear x_b7'
  replace q1x := q1x.fr hnd ho; replace r1x := r1x.fr hnd ho; replace x_b4 := x_b4.frame ho ne_b4_b7; replace x_b5 := x_b5.frame ho ne_b5_b7; replace q2x := q2x.fr hnd ho; replace r2x := r2x.fr hnd ho; replace x_b6 := x_b6.frame ho ne_b6_b7; replace hb := belowOnly hb ho kb_b7
  refine hK _ _ rfl ?_; clear hK K ho hnd
  refine wpSq_call rfl (by kernel_rfl) fun K hK => ?_
  go_big_move; refine hK _ _ rfl ?_; clear hK K
  apply wpSq_end
  refine hK10 _ _ ?_
  refine wp_seq_k ?_
  intro K11 hK11
  refine wp_region_sq [0, 1, 2, 3, 4, 5, 6, 7, 8, 9, 10, 11] (by kernel_rfl) ?_
  refine wpSq_call rfl (by kernel_rfl) fun K hK => ?_
  go_big_op
  go_fit (i_any 1 _ (by decide) (by decide))
  rintro e w_27 ⟨v_a3x, rfl, a3x, hb_27⟩
  replace q1x := q1x.bl hb_27; replace r1x := r1x.bl hb_27; replace x_b4 := x_b4.bl hb_27; replace x_b5 := x_b5.bl hb_27; replace q2x := q2x.bl hb_27; replace r2x := r2x.bl hb_27; replace x_b6 := x_b6.bl hb_27; replace x_b7 := x_b7.bl hb_27; replace hb := hb.trans (hb_27.mono hb.size)
  replace a3x := a3x.rd
  obtain ⟨n_a3x, o_a3x, k_a3x, c_a3x, rfl⟩ := a3x.open2
  have La3x := hide (a3x.lenOf (zlen_i 1 (by decide) (by decide)))
  refine hK _ _ rfl ?_
  clear hK K hb_27
  refine wpSq_call rfl (by kernel_rfl) fun K hK => ?_
  go_big_op
  go_fit (i_any 0 _ (by decide) (by decide))
  rintro e w_28 ⟨v_b3x, rfl, b3x, hb_28⟩
  replace q1x := q1x.bl hb_28; replace r1x := r1x.bl hb_28; replace x_b4 := x_b4.bl hb_28; replace x_b5 := x_b5.bl hb_28; replace q2x := q2x.bl hb_28; replace r2x := r2x.bl hb_28; replace x_b6 := x_b6.bl hb_28; replace x_b7 := x_b7.bl hb_28; replace a3x := a3x.bl hb_28; replace hb := hb.trans (hb_28.mono hb.size)
  replace b3x := b3x.rd
  obtain ⟨n_b3x, o_b3x, k_b3x, c_b3x, rfl⟩ := b3x.open2
  have Lb3x := hide (b3x.lenOf (zlen_i 0 (by decide) (by decide)))
  refine hK _ _ rfl ?_
  clear hK K hb_28
  refine wpSq_call rfl (by kernel_rfl) fun K hK => ?_
  go_big_op
  go_fit (fdiv_zero (a3x.zn La3x.out) (b3x.zn Lb3x.out) (by omega) (by omega) )
  rintro e w_29 ⟨rfl, hb_29⟩
  replace q1x := q1x.bl hb_29; replace r1x := r1x.bl hb_29; replace x_b4 := x_b4.bl hb_29; replace x_b5 := x_b5.bl hb_29; replace q2x := q2x.bl hb_29; replace r2x := r2x.bl hb_29; replace x_b6 := x_b6.bl hb_29; replace x_b7 := x_b7.bl hb_29; replace a3x := a3x.bl hb_29; replace b3x := b3x.bl hb_29; replace hb := hb.trans (hb_29.mono hb.size)
  refine hK _ _ rfl ?_
  clear hK K hb_29
  refine wpSq_call rfl (by kernel_rfl) fun K hK => ?_
  go_big_move; refine hK _ _ rfl ?_; clear hK K
  refine wpSq_call rfl (by kernel_rfl) fun K hK => ?_
  go_big_op; refine hK _ _ rfl ?_; clear hK K
  refine wpSq_call rfl (by kernel_rfl) fun K hK => ?_
  go_big_op; refine hK _ _ rfl ?_; clear hK K
  refine wpSq_call rfl (by kernel_rfl) fun K hK => ?_
  go_big_op; refine hK _ _ rfl ?_; clear hK K
  refine wpSq_call rfl (by kernel_rfl) fun K hK => ?_
  go_big_op
  clear a3x b3x
  have lt_b4 := x_b4.lt
  have lt_b5 := x_b5.lt
  have lt_b6 := x_b6.lt
  have lt_b7 := x_b7.lt
  obtain ⟨p_b8, w_30, eP, eW, x_b8, hn, kb_b8⟩ := newBox w_29 #[.bool false, .slice none 0 0] 36 hb.size
  have ne_b4_b8 : Hid (p_b4 ≠ p_b8) := Nat.ne_of_lt (eP ▸ lt_b4)
  have ne_b5_b8 : Hid (p_b5 ≠ p_b8) := Nat.ne_of_lt (eP ▸ lt_b5)
  have ne_b6_b8 : Hid (p_b6 ≠ p_b8) := Nat.ne_of_lt (eP ▸ lt_b6)
  have ne_b7_b8 : Hid (p_b7 ≠ p_b8) := Nat.ne_of_lt (eP ▸ lt_b7)
  rw [eW, eP]
  clear eW eP lt_b4 lt_b5 lt_b6 lt_b7
  replace q1x := q1x.bl hn; replace r1x := r1x.bl hn; replace x_b4 := x_b4.bl hn; replace x_b5 := x_b5.bl hn; replace q2x := q2x.bl hn; replace r2x := r2x.bl hn; replace x_b6 := x_b6.bl hn; replace x_b7 := x_b7.bl hn; replace hb := hb.trans (hn.mono hb.size)
  refine hK _ _ rfl ?_; clear hK K hn
  refine wpSq_call rfl (by kernel_rfl) fun K hK => ?_
  go_big_op
  have lt_b4 := x_b4.lt
  have lt_b5 := x_b5.lt
  have lt_b6 := x_b6.lt
  have lt_b7 := x_b7.lt
  have lt_b8 := x_b8.lt
  obtain ⟨p_b9, w_31, eP, eW, x_b9, hn, kb_b9⟩ := newBox w_30 #[.bool false, .slice none 0 0] 36 hb.size
  have ne_b4_b9 : Hid (p_b4 ≠ p_b9) := Nat.ne_of_lt (eP ▸ lt_b4)
  have ne_b5_b9 : Hid (p_b5 ≠ p_b9) := Nat.ne_of_lt (eP ▸ lt_b5)
  have ne_b6_b9 : Hid (p_b6 ≠ p_b9) := Nat.ne_of_lt (eP ▸ lt_b6)
  have ne_b7_b9 : Hid (p_b7 ≠ p_b9) := Nat.ne_of_lt (eP ▸ lt_b7)
  have ne_b8_b9 : Hid (p_b8 ≠ p_b9) := Nat.ne_of_lt (eP ▸ lt_b8)
  rw [eW, eP]
  clear eW eP lt_b4 lt_b5 lt_b6 lt_b7 lt_b8
  replace q1x := q1x.bl hn; replace r1x := r1x.bl hn; replace x_b4 := x_b4.bl hn; replace x_b5 := x_b5.bl hn; replace q2x := q2x.bl hn; replace r2x := r2x.bl hn; replace x_b6 := x_b6.bl hn; replace x_b7 := x_b7.bl hn; replace x_b8 := x_b8.bl hn; replace hb := hb.trans (hn.mono hb.size)
  refine hK _ _ rfl ?_; clear hK K hn
  refine wpSq_call rfl (by kernel_rfl) fun K hK => ?_
  obtain ⟨d0, d1⟩ := x_b8.f2
  have f0 := x_b8.free 0; have f1 := x_b8.free 1
  go_big_op
  have hnd := x_b8.nod rfl rfl
  obtain ⟨w_32, eW, x_b8', ho⟩ : ∃ w', ((w_31.setCell ⟨p_b8, 0, none⟩ (.bool false)).setCell ⟨p_b8, 1, none⟩ (.slice none 0 0)) = w' ∧ Bs w' p_b8 #[.bool false, .slice none 0 0] 36 ∧ Only p_b8 w_31 w' := x_b8.setN [(0, .bool false), (1, .slice none 0 0)]
  rw [eW]; clear eW d0 d1 f0 f1 x_b8
  have x_b8 := x_b8'; clear x_b8'
  replace q1x := q1x.fr hnd ho; replace r1x := r1x.fr hnd ho; replace x_b4 := x_b4.frame ho ne_b4_b8; replace x_b5 := x_b5.frame ho ne_b5_b8; replace q2x := q2x.fr hnd ho; replace r2x := r2x.fr hnd ho; replace x_b6 := x_b6.frame ho ne_b6_b8; replace x_b7 := x_b7.frame ho ne_b7_b8; replace x_b9 := x_b9.frame ho ne_b8_b9.symm; replace hb := belowOnly hb ho kb_b8
  refine hK _ _ rfl ?_; clear hK K ho hnd
  refine wpSq_call rfl (by kernel_rfl) fun K hK => ?_
  obtain ⟨d0, d1⟩ := x_b9.f2
  have f0 := x_b9.free 0; have f1 := x_b9.free 1
  go_big_op
  have hnd := x_b9.nod rfl rfl
  obtain ⟨w_33, eW, x_b9', ho⟩ : ∃ w', ((w_32.setCell ⟨p_b9, 0, none⟩ (.bool false)).setCell ⟨p_b9, 1, none⟩ (.slice none 0 0)) = w' ∧ Bs w' p_b9 #[.bool false, .slice none 0 0] 36 ∧ Only p_b9 w_32 w' := x_b9.setN [(0, .bool false), (1, .slice none 0 0)]
  rw [eW]; clear eW d0 d1 f0 f1 x_b9
  have x_b9 := x_b9'; clear x_b9'
  clear x_b8
  replace q1x := q1x.fr hnd ho; replace r1x := r1x.fr hnd ho; replace x_b4 := x_b4.frame ho ne_b4_b9; replace x_b5 := x_b5.frame ho ne_b5_b9; replace q2x := q2x.fr hnd ho; replace r2x := r2x.fr hnd ho; replace x_b6 := x_b6.frame ho ne_b6_b9; replace x_b7 := x_b7.frame ho ne_b7_b9; replace hb := belowOnly hb ho kb_b9
  refine hK _ _ rfl ?_; clear hK K ho hnd
  refine wpSq_call rfl (by kernel_rfl) fun K hK => ?_
  go_big_move; refine hK _ _ rfl ?_; clear hK K
  apply wpSq_end
  refine hK11 _ _ ?_
  refine wp_seq_k ?_
  intro K12 hK12
  refine wp_seq_k ?_
  intro K13 hK13
  refine wp_region_sq [0, 1, 2, 3, 4, 5, 6, 7, 8, 9, 10, 11, 12, 13, 14, 15, 16, 17, 18, 19, 20, 21, 22, 23, 24, 25, 26, 27, 28, 29] (by kernel_rfl) ?_
  refine wpSq_call rfl (by kernel_rfl) fun K hK => ?_
  go_big_move; refine hK _ _ rfl ?_; clear hK K
  refine wpSq_call rfl (by kernel_rfl) fun K hK => ?_
  go_big_op; refine hK _ _ rfl ?_; clear hK K
  refine wpSq_call rfl (by kernel_rfl) fun K hK => ?_
  go_big_move; refine hK _ _ rfl ?_; clear hK K
  refine wpSq_call rfl (by kernel_rfl) fun K hK => ?_
  obtain ⟨d0, d1⟩ := x_b4.f2
  go_big_op; refine hK _ _ rfl ?_; clear hK K d0 d1
  refine wpSq_call rfl (by kernel_rfl) fun K hK => ?_
  go_big_op
  go_fit (small_zz (-4) q1x (by decide) (by decide))
  rintro e w_34 ⟨rfl, hb_34⟩
  clear x_b9
  replace q1x := q1x.bl hb_34; replace r1x := r1x.bl hb_34; replace x_b4 := x_b4.bl hb_34; replace x_b5 := x_b5.bl hb_34; replace q2x := q2x.bl hb_34; replace r2x := r2x.bl hb_34; replace x_b6 := x_b6.bl hb_34; replace x_b7 := x_b7.bl hb_34; replace hb := hb.trans (hb_34.mono hb.size)
  refine hK _ _ rfl ?_
  clear hK K hb_34
  refine wpSq_call rfl (by kernel_rfl) fun K hK => ?_
  go_big_op; refine hK _ _ rfl ?_; clear hK K
  refine wpSq_call rfl (by kernel_rfl) fun K hK => ?_
  go_big_op; refine hK _ _ rfl ?_; clear hK K
  refine wpSq_call rfl (by kernel_rfl) fun K hK => ?_
  go_big_move; refine hK _ _ rfl ?_; clear hK K
  refine wpSq_call rfl (by kernel_rfl) fun K hK => ?_
  obtain ⟨d0, d1⟩ := x_b5.f2
  go_big_op; refine hK _ _ rfl ?_; clear hK K d0 d1
  refine wpSq_call rfl (by kernel_rfl) fun K hK => ?_
  go_big_op
  go_fit (small_zz 1 r1x (by decide) (by decide))
  rintro e w_35 ⟨rfl, hb_35⟩
  replace q1x := q1x.bl hb_35; replace r1x := r1x.bl hb_35; replace x_b4 := x_b4.bl hb_35; replace x_b5 := x_b5.bl hb_35; replace q2x := q2x.bl hb_35; replace r2x := r2x.bl hb_35; replace x_b6 := x_b6.bl hb_35; replace x_b7 := x_b7.bl hb_35; replace hb := hb.trans (hb_35.mono hb.size)
  refine hK _ _ rfl ?_
  clear hK K hb_35
  refine wpSq_call rfl (by kernel_rfl) fun K hK => ?_
  go_big_op; refine hK _ _ rfl ?_; clear hK K
  refine wpSq_call rfl (by kernel_rfl) fun K hK => ?_
  go_big_op; refine hK _ _ rfl ?_; clear hK K
  refine wpSq_call rfl (by kernel_rfl) fun K hK => ?_
  go_big_move; refine hK _ _ rfl ?_; clear hK K
  refine wpSq_call rfl (by kernel_rfl) fun K hK => ?_
  go_big_move; refine hK _ _ rfl ?_; clear hK K
  refine wpSq_call rfl (by kernel_rfl) fun K hK => ?_
  go_big_op; refine hK _ _ rfl ?_; clear hK K
  refine wpSq_call rfl (by kernel_rfl) fun K hK => ?_
  go_big_op; refine hK _ _ rfl ?_; clear hK K
  refine wpSq_call rfl (by kernel_rfl) fun K hK => ?_
  go_big_move; refine hK _ _ rfl ?_; clear hK K
  refine wpSq_call rfl (by kernel_rfl) fun K hK => ?_
  obtain ⟨d0, d1⟩ := x_b6.f2
  go_big_op; refine hK _ _ rfl ?_; clear hK K d0 d1
  refine wpSq_call rfl (by kernel_rfl) fun K hK => ?_
  go_big_op
  go_fit (small_zz (-4) q2x (by decide) (by decide))
  rintro e w_36 ⟨rfl, hb_36⟩
  replace q1x := q1x.bl hb_36; replace r1x := r1x.bl hb_36; replace x_b4 := x_b4.bl hb_36; replace x_b5 := x_b5.bl hb_36; replace q2x := q2x.bl hb_36; replace r2x := r2x.bl hb_36; replace x_b6 := x_b6.bl hb_36; replace x_b7 := x_b7.bl hb_36; replace hb := hb.trans (hb_36.mono hb.size)
  refine hK _ _ rfl ?_
  clear hK K hb_36
  refine wpSq_call rfl (by kernel_rfl) fun K hK => ?_
  go_big_op; refine hK _ _ rfl ?_; clear hK K
  refine wpSq_call rfl (by kernel_rfl) fun K hK => ?_
  go_big_op; refine hK _ _ rfl ?_; clear hK K
  refine wpSq_call rfl (by kernel_rfl) fun K hK => ?_
  go_big_move; refine hK _ _ rfl ?_; clear hK K
  refine wpSq_call rfl (by kernel_rfl) fun K hK => ?_
  obtain ⟨d0, d1⟩ := x_b7.f2
  go_big_op; refine hK _ _ rfl ?_; clear hK K d0 d1
  refine wpSq_call rfl (by kernel_rfl) fun K hK => ?_
  go_big_op
  go_fit (small_zz (-1) r2x (by decide) (by decide))
  rintro e w_37 ⟨rfl, hb_37⟩
  replace q1x := q1x.bl hb_37; replace r1x := r1x.bl hb_37; replace x_b4 := x_b4.bl hb_37; replace x_b5 := x_b5.bl hb_37; replace q2x := q2x.bl hb_37; replace r2x := r2x.bl hb_37; replace x_b6 := x_b6.bl hb_37; replace x_b7 := x_b7.bl hb_37; replace hb := hb.trans (hb_37.mono hb.size)
  refine hK _ _ rfl ?_
  clear hK K hb_37
  refine wpSq_call rfl (by kernel_rfl) fun K hK => ?_
  go_big_op; refine hK _ _ rfl ?_; clear hK K
  refine wpSq_call rfl (by kernel_rfl) fun K hK => ?_
  go_big_op; refine hK _ _ rfl ?_; clear hK K
  refine wpSq_call rfl (by kernel_rfl) fun K hK => ?_
  go_big_move; refine hK _ _ rfl ?_; clear hK K
  refine wpSq_call rfl (by kernel_rfl) fun K hK => ?_
  go_big_move; refine hK _ _ rfl ?_; clear hK K
  refine wpSq_call rfl (by kernel_rfl) fun K hK => ?_
  go_big_op; refine hK _ _ rfl ?_; clear hK K
  refine wpSq_call rfl (by kernel_rfl) fun K hK => ?_
  go_big_op; refine hK _ _ rfl ?_; clear hK K
  apply wpSq_end
  refine hK13 _ _ ?_
  refine wp_cond_false (congrArg Value.bool (show _ = false from (by first | rfl | assumption | (simp; done) | exact decide_eq_false (by omega) | omega))) ?_
  refine wp_skip ?_
  refine hK12 _ _ ?_
  refine wp_seq_k ?_
  intro K14 hK14
  refine wp_region_sq [0, 1, 2, 3, 4, 5, 6, 7, 8, 9] (by kernel_rfl) ?_
  refine wpSq_call rfl (by kernel_rfl) fun K hK => ?_
  go_big_op
  go_fit (i_any 7 _ (by decide) (by decide))
  rintro e w_38 ⟨v_a4x, rfl, a4x, hb_38⟩
  replace q1x := q1x.bl hb_38; replace r1x := r1x.bl hb_38; replace x_b4 := x_b4.bl hb_38; replace x_b5 := x_b5.bl hb_38; replace q2x := q2x.bl hb_38; replace r2x := r2x.bl hb_38; replace x_b6 := x_b6.bl hb_38; replace x_b7 := x_b7.bl hb_38; replace hb := hb.trans (hb_38.mono hb.size)
  replace a4x := a4x.rd
  obtain ⟨n_a4x, o_a4x, k_a4x, c_a4x, rfl⟩ := a4x.open2
  have La4x := hide (a4x.lenOf (zlen_i 7 (by decide) (by decide)))
  refine hK _ _ rfl ?_
  clear hK K hb_38
  refine wpSq_call rfl (by kernel_rfl) fun K hK => ?_
  go_big_op
  go_fit (i_any 2 _ (by decide) (by decide))
  rintro e w_39 ⟨v_b4x, rfl, b4x, hb_39⟩
  replace q1x := q1x.bl hb_39; replace r1x := r1x.bl hb_39; replace x_b4 := x_b4.bl hb_39; replace x_b5 := x_b5.bl hb_39; replace q2x := q2x.bl hb_39; replace r2x := r2x.bl hb_39; replace x_b6 := x_b6.bl hb_39; replace x_b7 := x_b7.bl hb_39; replace a4x := a4x.bl hb_39; replace hb := hb.trans (hb_39.mono hb.size)
  replace b4x := b4x.rd
  obtain ⟨n_b4x, o_b4x, k_b4x, c_b4x, rfl⟩ := b4x.open2
  have Lb4x := hide (b4x.lenOf (zlen_i 2 (by decide) (by decide)))
  refine hK _ _ rfl ?_
  clear hK K hb_39
  refine wpSq_call rfl (by kernel_rfl) fun K hK => ?_
  go_big_op
  go_fit (rdiv_any (a4x.zn La4x.out) (b4x.zn Lb4x.out) (by omega) (by omega) (show 2 ≠ (0 : Int) by decide))
  rintro e w_40 ⟨v_q4x, v_r4x, rfl, q4x, r4x, hb_40⟩
  replace q1x := q1x.bl hb_40; replace r1x := r1x.bl hb_40; replace x_b4 := x_b4.bl hb_40; replace x_b5 := x_b5.bl hb_40; replace q2x := q2x.bl hb_40; replace r2x := r2x.bl hb_40; replace x_b6 := x_b6.bl hb_40; replace x_b7 := x_b7.bl hb_40; replace a4x := a4x.bl hb_40; replace b4x := b4x.bl hb_40; replace hb := hb.trans (hb_40.mono hb.size)
  replace q4x := q4x.rd
  obtain ⟨n_q4x, o_q4x, k_q4x, c_q4x, rfl⟩ := q4x.open2
  replace r4x := r4x.rd
  obtain ⟨n_r4x, o_r4x, k_r4x, c_r4x, rfl⟩ := r4x.open2
  have Lq4x := hide (q4x.lenOf (rnd_len ((show 2 ≠ (0 : Int) by decide)) (La4x.out)))
  have Lr4x := hide (r4x.lenOf (rrest_len ((show 2 ≠ (0 : Int) by decide)) (Lb4x.out)))
  rw [show rnd 7 2 = 4 from by decide] at q4x r4x
  rw [show (7 : Int) - 4 * 2 = -1 from by decide] at r4x
  refine hK _ _ rfl ?_
  clear hK K hb_40
  refine wpSq_call rfl (by kernel_rfl) fun K hK => ?_
  go_big_move; refine hK _ _ rfl ?_; clear hK K
  refine wpSq_call rfl (by kernel_rfl) fun K hK => ?_
  go_big_op; refine hK _ _ rfl ?_; clear hK K
  refine wpSq_call rfl (by kernel_rfl) fun K hK => ?_
  go_big_op; refine hK _ _ rfl ?_; clear hK K
  refine wpSq_call rfl (by kernel_rfl) fun K hK => ?_
  go_big_op; refine hK _ _ rfl ?_; clear hK K
  refine wpSq_call rfl (by kernel_rfl) fun K hK => ?_
  obtain ⟨d0, d1⟩ := x_b4.f2
  have f0 := x_b4.free 0; have f1 := x_b4.free 1
  go_big_op
  have hnd := x_b4.nod rfl rfl
  obtain ⟨w_41, eW, x_b4', ho⟩ : ∃ w', ((w_40.setCell ⟨p_b4, 0, none⟩ (.bool n_q4x)).setCell ⟨p_b4, 1, none⟩ (.slice o_q4x k_q4x c_q4x)) = w' ∧ Bs w' p_b4 #[.bool n_q4x, .slice o_q4x k_q4x c_q4x] 36 ∧ Only p_b4 w_40 w' := x_b4.setN [(0, .bool n_q4x), (1, .slice o_q4x k_q4x c_q4x)]
  rw [eW]; clear eW d0 d1 f0 f1 x_b4
  have x_b4 := x_b4'; clear x_b4'
  clear q1x a4x b4x
  replace r1x := r1x.fr hnd ho; replace x_b5 := x_b5.frame ho ne_b4_b5.symm; replace q2x := q2x.fr hnd ho; replace r2x := r2x.fr hnd ho; replace x_b6 := x_b6.frame ho ne_b4_b6.symm; replace x_b7 := x_b7.frame ho ne_b4_b7.symm; replace q4x := q4x.fr hnd ho; replace r4x := r4x.fr hnd ho; replace hb := belowOnly hb ho kb_b4
  refine hK _ _ rfl ?_; clear hK K ho hnd
  refine wpSq_call rfl (by kernel_rfl) fun K hK => ?_
  obtain ⟨d0, d1⟩ := x_b5.f2
  have f0 := x_b5.free 0; have f1 := x_b5.free 1
  go_big_op
  have hnd := x_b5.nod rfl rfl
  obtain ⟨w_42, eW, x_b5', ho⟩ : ∃ w', ((w_41.setCell ⟨p_b5, 0, none⟩ (.bool n_r4x)).setCell ⟨p_b5, 1, none⟩ (.slice o_r4x k_r4x c_r4x)) = w' ∧ Bs w' p_b5 #[.bool n_r4x, .slice o_r4x k_r4x c_r4x] 36 ∧ Only p_b5 w_41 w' := x_b5.setN [(0, .bool n_r4x), (1, .slice o_r4x k_r4x c_r4x)]
  rw [eW]; clear eW d0 d1 f0 f1 x_b5
  have x_b5 := x_b5'; clear x_b5'
  clear r1x
  replace x_b4 := x_b4.frame ho ne_b4_b5; replace q2x := q2x.fr hnd ho; replace r2x := r2x.fr hnd ho; replace x_b6 := x_b6.frame ho ne_b5_b6.symm; replace x_b7 := x_b7.frame ho ne_b5_b7.symm; replace q4x := q4x.fr hnd ho; replace r4x := r4x.fr hnd ho; replace hb := belowOnly hb ho kb_b5
  refine hK _ _ rfl ?_; clear hK K ho hnd
  refine wpSq_call rfl (by kernel_rfl) fun K hK => ?_
  go_big_move; refine hK _ _ rfl ?_; clear hK K
  apply wpSq_end
  refine hK14 _ _ ?_
  refine wp_seq_k ?_
  intro K15 hK15
  refine wp_region_sq [0, 1, 2, 3, 4, 5, 6, 7, 8, 9] (by kernel_rfl) ?_
  refine wpSq_call rfl (by kernel_rfl) fun K hK => ?_
  go_big_op
  go_fit (i_any (-7) _ (by decide) (by decide))
  rintro e w_43 ⟨v_a5x, rfl, a5x, hb_43⟩
  replace x_b4 := x_b4.bl hb_43; replace x_b5 := x_b5.bl hb_43; replace q2x := q2x.bl hb_43; replace r2x := r2x.bl hb_43; replace x_b6 := x_b6.bl hb_43; replace x_b7 := x_b7.bl hb_43; replace q4x := q4x.bl hb_43; replace r4x := r4x.bl hb_43; replace hb := hb.trans (hb_43.mono hb.size)
  replace a5x := a5x.rd
  obtain ⟨n_a5x, o_a5x, k_a5x, c_a5x, rfl⟩ := a5x.open2
  have La5x := hide (a5x.lenOf (zlen_i (-7) (by decide) (by decide)))
  refine hK _ _ rfl ?_
  clear hK K hb_43
  refine wpSq_call rfl (by kernel_rfl) fun K hK => ?_
  go_big_op
  go_fit (i_any 2 _ (by decide) (by decide))
  rintro e w_44 ⟨v_b5x, rfl, b5x, hb_44⟩
  replace x_b4 := x_b4.bl hb_44; replace x_b5 := x_b5.bl hb_44; replace q2x := q2x.bl hb_44; replace r2x := r2x.bl hb_44; replace x_b6 := x_b6.bl hb_44; replace x_b7 := x_b7.bl hb_44; replace q4x := q4x.bl hb_44; replace r4x := r4x.bl hb_44; replace a5x := a5x.bl hb_44; replace hb := hb.trans (hb_44.mono hb.size)
  replace b5x := b5x.rd
  obtain ⟨n_b5x, o_b5x, k_b5x, c_b5x, rfl⟩ := b5x.open2
  have Lb5x := hide (b5x.lenOf (zlen_i 2 (by decide) (by decide)))
  refine hK _ _ rfl ?_
  clear hK K hb_44
  refine wpSq_call rfl (by kernel_rfl) fun K hK => ?_
  go_big_op
  go_fit (rdiv_any (a5x.zn La5x.out) (b5x.zn Lb5x.out) (by omega) (by omega) (show 2 ≠ (0 : Int) by decide))
  rintro e w_45 ⟨v_q5x, v_r5x, rfl, q5x, r5x, hb_45⟩
  replace x_b4 := x_b4.bl hb_45; replace x_b5 := x_b5.bl hb_45; replace q2x := q2x.bl hb_45; replace r2x := r2x.bl hb_45; replace x_b6 := x_b6.bl hb_45; replace x_b7 := x_b7.bl hb_45; replace q4x := q4x.bl hb_45; replace r4x := r4x.bl hb_45; replace a5x := a5x.bl hb_45; replace b5x := b5x.bl hb_45; replace hb := hb.trans (hb_45.mono hb.size)
  replace q5x := q5x.rd
  obtain ⟨n_q5x, o_q5x, k_q5x, c_q5x, rfl⟩ := q5x.open2
  replace r5x := r5x.rd
  obtain ⟨n_r5x, o_r5x, k_r5x, c_r5x, rfl⟩ := r5x.open2
  have Lq5x := hide (q5x.lenOf (rnd_len ((show 2 ≠ (0 : Int) by decide)) (La5x.out)))
  have Lr5x := hide (r5x.lenOf (rrest_len ((show 2 ≠ (0 : Int) by decide)) (Lb5x.out)))
  rw [show rnd (-7) 2 = -3 from by decide] at q5x r5x
  rw [show (-7 : Int) - -3 * 2 = -1 from by decide] at r5x
  refine hK _ _ rfl ?_
  clear hK K hb_45
  refine wpSq_call rfl (by kernel_rfl) fun K hK => ?_
  go_big_move; refine hK _ _ rfl ?_; clear hK K
  refine wpSq_call rfl (by kernel_rfl) fun K hK => ?_
  go_big_op; refine hK _ _ rfl ?_; clear hK K
  refine wpSq_call rfl (by kernel_rfl) fun K hK => ?_
  go_big_op; refine hK _ _ rfl ?_; clear hK K
  refine wpSq_call rfl (by kernel_rfl) fun K hK => ?_
  go_big_op; refine hK _ _ rfl ?_; clear hK K
  refine wpSq_call rfl (by kernel_rfl) fun K hK => ?_
  obtain ⟨d0, d1⟩ := x_b6.f2
  have f0 := x_b6.free 0; have f1 := x_b6.free 1
  go_big_op
  have hnd := x_b6.nod rfl rfl
  obtain ⟨w_46, eW, x_b6', ho⟩ : ∃ w', ((w_45.setCell ⟨p_b6, 0, none⟩ (.bool n_q5x)).setCell ⟨p_b6, 1, none⟩ (.slice o_q5x k_q5x c_q5x)) = w' ∧ Bs w' p_b6 #[.bool n_q5x, .slice o_q5x k_q5x c_q5x] 36 ∧ Only p_b6 w_45 w' := x_b6.setN [(0, .bool n_q5x), (1, .slice o_q5x k_q5x c_q5x)]
  rw [eW]; clear eW d0 d1 f0 f1 x_b6
  have x_b6 := x_b6'; clear x_b6'
  clear q2x a5x b5x
  replace x_b4 := x_b4.frame ho ne_b4_b6; replace x_b5 := x_b5.frame ho ne_b5_b6; replace r2x := r2x.fr hnd ho; replace x_b7 := x_b7.frame ho ne_b6_b7.symm; replace q4x := q4x.fr hnd ho; replace r4x := r4x.fr hnd ho; replace q5x := q5x.fr hnd ho; replace r5x := r5x.fr hnd ho; replace hb := belowOnly hb ho kb_b6
  refine hK _ _ rfl ?_; clear hK K ho hnd
  refine wpSq_call rfl (by kernel_rfl) fun K hK => ?_
  obtain ⟨d0, d1⟩ := x_b7.f2
  have f0 := x_b7.free 0; have f1 := x_b7.free 1
  go_big_op
  have hnd := x_b7.nod rfl rfl
  obtain ⟨w_47, eW, x_b7', ho⟩ : ∃ w', ((w_46.setCell ⟨p_b7, 0, none⟩ (.bool n_r5x)).setCell ⟨p_b7, 1, none⟩ (.slice o_r5x k_r5x c_r5x)) = w' ∧ Bs w' p_b7 #[.bool n_r5x, .slice o_r5x k_r5x c_r5x] 36 ∧ Only p_b7 w_46 w' := x_b7.setN [(0, .bool n_r5x), (1, .slice o_r5x k_r5x c_r5x)]
  rw [eW]; clear eW d0 d1 f0 f1 x_b7
  have x_b7 := x_b7'; clear x_b7'
  clear r2x
  replace x_b4 := x_b4.frame ho ne_b4_b7; replace x_b5 := x_b5.frame ho ne_b5_b7; replace x_b6 := x_b6.frame ho ne_b6_b7; replace q4x := q4x.fr hnd ho; replace r4x := r4x.fr hnd ho; replace q5x := q5x.fr hnd ho; replace r5x := r5x.fr hnd ho; replace hb := belowOnly hb ho kb_b7
  refine hK _ _ rfl ?_; clear hK K ho hnd
  refine wpSq_call rfl (by kernel_rfl) fun K hK => ?_
  go_big_move; refine hK _ _ rfl ?_; clear hK K
  apply wpSq_end
  refine hK15 _ _ ?_
  refine wp_seq_k ?_
  intro K16 hK16
  refine wp_region_sq [0, 1, 2, 3, 4, 5, 6, 7, 8, 9, 10, 11] (by kernel_rfl) ?_
  refine wpSq_call rfl (by kernel_rfl) fun K hK => ?_
  go_big_op
  go_fit (i_any 7 _ (by decide) (by decide))
  rintro e w_48 ⟨v_a6x, rfl, a6x, hb_48⟩
  replace x_b4 := x_b4.bl hb_48; replace x_b5 := x_b5.bl hb_48; replace x_b6 := x_b6.bl hb_48; replace x_b7 := x_b7.bl hb_48; replace q4x := q4x.bl hb_48; replace r4x := r4x.bl hb_48; replace q5x := q5x.bl hb_48; replace r5x := r5x.bl hb_48; replace hb := hb.trans (hb_48.mono hb.size)
  replace a6x := a6x.rd
  obtain ⟨n_a6x, o_a6x, k_a6x, c_a6x, rfl⟩ := a6x.open2
  have La6x := hide (a6x.lenOf (zlen_i 7 (by decide) (by decide)))
  refine hK _ _ rfl ?_
  clear hK K hb_48
  refine wpSq_call rfl (by kernel_rfl) fun K hK => ?_
  go_big_op
  go_fit (i_any (-2) _ (by decide) (by decide))
  rintro e w_49 ⟨v_b6x, rfl, b6x, hb_49⟩
  replace x_b4 := x_b4.bl hb_49; replace x_b5 := x_b5.bl hb_49; replace x_b6 := x_b6.bl hb_49; replace x_b7 := x_b7.bl hb_49; replace q4x := q4x.bl hb_49; replace r4x := r4x.bl hb_49; replace q5x := q5x.bl hb_49; replace r5x := r5x.bl hb_49; replace a6x := a6x.bl hb_49; replace hb := hb.trans (hb_49.mono hb.size)
  replace b6x := b6x.rd
  obtain ⟨n_b6x, o_b6x, k_b6x, c_b6x, rfl⟩ := b6x.open2
  have Lb6x := hide (b6x.lenOf (zlen_i (-2) (by decide) (by decide)))
  refine hK _ _ rfl ?_
  clear hK K hb_49
  refine wpSq_call rfl (by kernel_rfl) fun K hK => ?_
  go_big_op
  go_fit (rdiv_any (a6x.zn La6x.out) (b6x.zn Lb6x.out) (by omega) (by omega) (show (-2) ≠ (0 : Int) by decide))
  rintro e w_50 ⟨v_q6x, v_r6x, rfl, q6x, r6x, hb_50⟩
  replace x_b4 := x_b4.bl hb_50; replace x_b5 := x_b5.bl hb_50; replace x_b6 := x_b6.bl hb_50; replace x_b7 := x_b7.bl hb_50; replace q4x := q4x.bl hb_50; replace r4x := r4x.bl hb_50; replace q5x := q5x.bl hb_50; replace r5x := r5x.bl hb_50; replace a6x := a6x.bl hb_50; replace b6x := b6x.bl hb_50; replace hb := hb.trans (hb_50.mono hb.size)
  replace q6x := q6x.rd
  obtain ⟨n_q6x, o_q6x, k_q6x, c_q6x, rfl⟩ := q6x.open2
  replace r6x := r6x.rd
  obtain ⟨n_r6x, o_r6x, k_r6x, c_r6x, rfl⟩ := r6x.open2
  have Lq6x := hide (q6x.lenOf (rnd_len ((show (-2) ≠ (0 : Int) by decide)) (La6x.out)))
  have Lr6x := hide (r6x.lenOf (rrest_len ((show (-2) ≠ (0 : Int) by decide)) (Lb6x.out)))
  rw [show rnd 7 (-2) = -3 from by decide] at q6x r6x
  rw [show (7 : Int) - -3 * -2 = 1 from by decide] at r6x
  refine hK _ _ rfl ?_
  clear hK K hb_50
  refine wpSq_call rfl (by kernel_rfl) fun K hK => ?_
  go_big_move; refine hK _ _ rfl ?_; clear hK K
  refine wpSq_call rfl (by kernel_rfl) fun K hK => ?_
  go_big_op; refine hK _ _ rfl ?_; clear hK K
  refine wpSq_call rfl (by kernel_rfl) fun K hK => ?_
  go_big_op; refine hK _ _ rfl ?_; clear hK K
  refine wpSq_call rfl (by kernel_rfl) fun K hK => ?_
  go_big_op; refine hK _ _ rfl ?_; clear hK K
  refine wpSq_call rfl (by kernel_rfl) fun K hK => ?_
  go_big_op
  clear a6x b6x
  have lt_b4 := x_b4.lt
  have lt_b5 := x_b5.lt
  have lt_b6 := x_b6.lt
  have lt_b7 := x_b7.lt
  obtain ⟨p_b10, w_51, eP, eW, x_b10, hn, kb_b10⟩ := newBox w_50 #[.bool false, .slice none 0 0] 36 hb.size
  have ne_b4_b10 : Hid (p_b4 ≠ p_b10) := Nat.ne_of_lt (eP ▸ lt_b4)
  have ne_b5_b10 : Hid (p_b5 ≠ p_b10) := Nat.ne_of_lt (eP ▸ lt_b5)
  have ne_b6_b10 : Hid (p_b6 ≠ p_b10) := Nat.ne_of_lt (eP ▸ lt_b6)
  have ne_b7_b10 : Hid (p_b7 ≠ p_b10) := Nat.ne_of_lt (eP ▸ lt_b7)
  rw [eW, eP]
  clear eW eP lt_b4 lt_b5 lt_b6 lt_b7
  replace x_b4 := x_b4.bl hn; replace x_b5 := x_b5.bl hn; replace x_b6 := x_b6.bl hn; replace x_b7 := x_b7.bl hn; replace q4x := q4x.bl hn; replace r4x := r4x.bl hn; replace q5x := q5x.bl hn; replace r5x := r5x.bl hn; replace q6x := q6x.bl hn; replace r6x := r6x.bl hn; replace hb := hb.trans (hn.mono hb.size)
  refine hK _ _ rfl ?_; clear hK K hn
  refine wpSq_call rfl (by kernel_rfl) fun K hK => ?_
  go_big_op
  have lt_b4 := x_b4.lt
  have lt_b5 := x_b5.lt
  have lt_b6 := x_b6.lt
  have lt_b7 := x_b7.lt
  have lt_b10 := x_b10.lt
  obtain ⟨p_b11, w_52, eP, eW, x_b11, hn, kb_b11⟩ := newBox w_51 #[.bool false, .slice none 0 0] 36 hb.size
  have ne_b4_b11 : Hid (p_b4 ≠ p_b11) := Nat.ne_of_lt (eP ▸ lt_b4)
  have ne_b5_b11 : Hid (p_b5 ≠ p_b11) := Nat.ne_of_lt (eP ▸ lt_b5)
  have ne_b6_b11 : Hid (p_b6 ≠ p_b11) := Nat.ne_of_lt (eP ▸ lt_b6)
  have ne_b7_b11 : Hid (p_b7 ≠ p_b11) := Nat.ne_of_lt (eP ▸ lt_b7)
  have ne_b10_b11 : Hid (p_b10 ≠ p_b11) := Nat.ne_of_lt (eP ▸ lt_b10)
  rw [eW, eP]
  clear eW eP lt_b4 lt_b5 lt_b6 lt_b7 lt_b10
  replace x_b4 := x_b4.bl hn; replace x_b5 := x_b5.bl hn; replace x_b6 := x_b6.bl hn; replace x_b7 := x_b7.bl hn; replace q4x := q4x.bl hn; replace r4x := r4x.bl hn; replace q5x := q5x.bl hn; replace r5x := r5x.bl hn; replace q6x := q6x.bl hn; replace r6x := r6x.bl hn; replace x_b10 := x_b10.bl hn; replace hb := hb.trans (hn.mono hb.size)
  refine hK _ _ rfl ?_; clear hK K hn
  refine wpSq_call rfl (by kernel_rfl) fun K hK => ?_
  obtain ⟨d0, d1⟩ := x_b10.f2
  have f0 := x_b10.free 0; have f1 := x_b10.free 1
  go_big_op
  have hnd := x_b10.nod rfl rfl
  obtain ⟨w_53, eW, x_b10', ho⟩ : ∃ w', ((w_52.setCell ⟨p_b10, 0, none⟩ (.bool n_q6x)).setCell ⟨p_b10, 1, none⟩ (.slice o_q6x k_q6x c_q6x)) = w' ∧ Bs w' p_b10 #[.bool n_q6x, .slice o_q6x k_q6x c_q6x] 36 ∧ Only p_b10 w_52 w' := x_b10.setN [(0, .bool n_q6x), (1, .slice o_q6x k_q6x c_q6x)]
  rw [eW]; clear eW d0 d1 f0 f1 x_b10
  have x_b10 := x_b10'; clear x_b10'
  replace x_b4 := x_b4.frame ho ne_b4_b10; replace x_b5 := x_b5.frame ho ne_b5_b10; replace x_b6 := x_b6.frame ho ne_b6_b10; replace x_b7 := x_b7.frame ho ne_b7_b10; replace q4x := q4x.fr hnd ho; replace r4x := r4x.fr hnd ho; replace q5x := q5x.fr hnd ho; replace r5x := r5x.fr hnd ho; replace q6x := q6x.fr hnd ho; replace r6x := r6x.fr hnd ho; replace x_b11 := x_b11.frame ho ne_b10_b11.symm; replace hb := belowOnly hb ho kb_b10
  refine hK _ _ rfl ?_; clear hK K ho hnd
  refine wpSq_call rfl (by kernel_rfl) fun K hK => ?_
  obtain ⟨d0, d1⟩ := x_b11.f2
  have f0 := x_b11.free 0; have f1 := x_b11.free 1
  go_big_op
  have hnd := x_b11.nod rfl rfl
  obtain ⟨w_54, eW, x_b11', ho⟩ : ∃ w', ((w_53.setCell ⟨p_b11, 0, none⟩ (.bool n_r6x)).setCell ⟨p_b11, 1, none⟩ (.slice o_r6x k_r6x c_r6x)) = w' ∧ Bs w' p_b11 #[.bool n_r6x, .slice o_r6x k_r6x c_r6x] 36 ∧ Only p_b11 w_53 w' := x_b11.setN [(0, .bool n_r6x), (1, .slice o_r6x k_r6x c_r6x)]
  rw [eW]; clear eW d0 d1 f0 f1 x_b11
  have x_b11 := x_b11'; clear x_b11'
  replace x_b4 := x_b4.frame ho ne_b4_b11; replace x_b5 := x_b5.frame ho ne_b5_b11; replace x_b6 := x_b6.frame ho ne_b6_b11; replace x_b7 := x_b7.frame ho ne_b7_b11; replace q4x := q4x.fr hnd ho; replace r4x := r4x.fr hnd ho; replace q5x := q5x.fr hnd ho; replace r5x := r5x.fr hnd ho; replace q6x := q6x.fr hnd ho; replace r6x := r6x.fr hnd ho; replace x_b10 := x_b10.frame ho ne_b10_b11; replace hb := belowOnly hb ho kb_b11
  refine hK _ _ rfl ?_; clear hK K ho hnd
  refine wpSq_call rfl (by kernel_rfl) fun K hK => ?_
  go_big_move; refine hK _ _ rfl ?_; clear hK K
  apply wpSq_end
  refine hK16 _ _ ?_
  refine wp_seq_k ?_
  intro K17 hK17
  refine wp_seq_k ?_
  intro K18 hK18
  refine wp_region_sq [0, 1, 2, 3, 4, 5, 6, 7, 8, 9, 10, 11, 12, 13, 14, 15, 16, 17, 18, 19, 20, 21, 22, 23, 24, 25, 26, 27, 28, 29, 30, 31, 32, 33, 34, 35, 36, 37, 38, 39] (by kernel_rfl) ?_
  refine wpSq_call rfl (by kernel_rfl) fun K hK => ?_
  go_big_move; refine hK _ _ rfl ?_; clear hK K
  refine wpSq_call rfl (by kernel_rfl) fun K hK => ?_
  go_big_op; refine hK _ _ rfl ?_; clear hK K
  refine wpSq_call rfl (by kernel_rfl) fun K hK => ?_
  go_big_move; refine hK _ _ rfl ?_; clear hK K
  refine wpSq_call rfl (by kernel_rfl) fun K hK => ?_
  obtain ⟨d0, d1⟩ := x_b4.f2
  go_big_op; refine hK _ _ rfl ?_; clear hK K d0 d1
  refine wpSq_call rfl (by kernel_rfl) fun K hK => ?_
  go_big_op
  go_fit (small_zz 4 q4x (by decide) (by decide))
  rintro e w_55 ⟨rfl, hb_55⟩
  replace x_b4 := x_b4.bl hb_55; replace x_b5 := x_b5.bl hb_55; replace x_b6 := x_b6.bl hb_55; replace x_b7 := x_b7.bl hb_55; replace q4x := q4x.bl hb_55; replace r4x := r4x.bl hb_55; replace q5x := q5x.bl hb_55; replace r5x := r5x.bl hb_55; replace q6x := q6x.bl hb_55; replace r6x := r6x.bl hb_55; replace x_b10 := x_b10.bl hb_55; replace x_b11 := x_b11.bl hb_55; replace hb := hb.trans (hb_55.mono hb.size)
  refine hK _ _ rfl ?_
  clear hK K hb_55
  refine wpSq_call rfl (by kernel_rfl) fun K hK => ?_
  go_big_op; refine hK _ _ rfl ?_; clear hK K
  refine wpSq_call rfl (by kernel_rfl) fun K hK => ?_
  go_big_op; refine hK _ _ rfl ?_; clear hK K
  refine wpSq_call rfl (by kernel_rfl) fun K hK => ?_
  go_big_move; refine hK _ _ rfl ?_; clear hK K
  refine wpSq_call rfl (by kernel_rfl) fun K hK => ?_
  obtain ⟨d0, d1⟩ := x_b5.f2
  go_big_op; refine hK _ _ rfl ?_; clear hK K d0 d1
  refine wpSq_call rfl (by kernel_rfl) fun K hK => ?_
  go_big_op
  go_fit (small_zz (-1) r4x (by decide) (by decide))
  rintro e w_56 ⟨rfl, hb_56⟩
  clear x_b5
  replace x_b4 := x_b4.bl hb_56; replace x_b6 := x_b6.bl hb_56; replace x_b7 := x_b7.bl hb_56; replace q4x := q4x.bl hb_56; replace r4x := r4x.bl hb_56; replace q5x := q5x.bl hb_56; replace r5x := r5x.bl hb_56; replace q6x := q6x.bl hb_56; replace r6x := r6x.bl hb_56; replace x_b10 := x_b10.bl hb_56; replace x_b11 := x_b11.bl hb_56; replace hb := hb.trans (hb_56.mono hb.size)
  refine hK _ _ rfl ?_
  clear hK K hb_56
  refine wpSq_call rfl (by kernel_rfl) fun K hK => ?_
  go_big_op; refine hK _ _ rfl ?_; clear hK K
  refine wpSq_call rfl (by kernel_rfl) fun K hK => ?_
  go_big_op; refine hK _ _ rfl ?_; clear hK K
  refine wpSq_call rfl (by kernel_rfl) fun K hK => ?_
  go_big_move; refine hK _ _ rfl ?_; clear hK K
  refine wpSq_call rfl (by kernel_rfl) fun K hK => ?_
  go_big_move; refine hK _ _ rfl ?_; clear hK K
  refine wpSq_call rfl (by kernel_rfl) fun K hK => ?_
  go_big_op; refine hK _ _ rfl ?_; clear hK K
  refine wpSq_call rfl (by kernel_rfl) fun K hK => ?_
  go_big_op; refine hK _ _ rfl ?_; clear hK K
  refine wpSq_call rfl (by kernel_rfl) fun K hK => ?_
  go_big_move; refine hK _ _ rfl ?_; clear hK K
  refine wpSq_call rfl (by kernel_rfl) fun K hK => ?_
  obtain ⟨d0, d1⟩ := x_b6.f2
  go_big_op; refine hK _ _ rfl ?_; clear hK K d0 d1
  refine wpSq_call rfl (by kernel_rfl) fun K hK => ?_
  go_big_op
  go_fit (small_zz (-3) q5x (by decide) (by decide))
  rintro e w_57 ⟨rfl, hb_57⟩
  clear x_b6 r4x
  replace x_b4 := x_b4.bl hb_57; replace x_b7 := x_b7.bl hb_57; replace q4x := q4x.bl hb_57; replace q5x := q5x.bl hb_57; replace r5x := r5x.bl hb_57; replace q6x := q6x.bl hb_57; replace r6x := r6x.bl hb_57; replace x_b10 := x_b10.bl hb_57; replace x_b11 := x_b11.bl hb_57; replace hb := hb.trans (hb_57.mono hb.size)
  refine hK _ _ rfl ?_
  clear hK K hb_57
  refine wpSq_call rfl (by kernel_rfl) fun K hK => ?_
  go_big_op; refine hK _ _ rfl ?_; clear hK K
  refine wpSq_call rfl (by kernel_rfl) fun K hK => ?_
  go_big_op; refine hK _ _ rfl ?_; clear hK K
  refine wpSq_call rfl (by kernel_rfl) fun K hK => ?_
  go_big_move; refine hK _ _ rfl ?_; clear hK K
  refine wpSq_call rfl (by kernel_rfl) fun K hK => ?_
  obtain ⟨d0, d1⟩ := x_b7.f2
  go_big_op; refine hK _ _ rfl ?_; clear hK K d0 d1
  refine wpSq_call rfl (by kernel_rfl) fun K hK => ?_
  go_big_op
  go_fit (small_zz (-1) r5x (by decide) (by decide))
  rintro e w_58 ⟨rfl, hb_58⟩
  clear x_b7 q5x
  replace x_b4 := x_b4.bl hb_58; replace q4x := q4x.bl hb_58; replace r5x := r5x.bl hb_58; replace q6x := q6x.bl hb_58; replace r6x := r6x.bl hb_58; replace x_b10 := x_b10.bl hb_58; replace x_b11 := x_b11.bl hb_58; replace hb := hb.trans (hb_58.mono hb.size)
  refine hK _ _ rfl ?_
  clear hK K hb_58
  refine wpSq_call rfl (by kernel_rfl) fun K hK => ?_
  go_big_op; refine hK _ _ rfl ?_; clear hK K
  refine wpSq_call rfl (by kernel_rfl) fun K hK => ?_
  go_big_op; refine hK _ _ rfl ?_; clear hK K
  refine wpSq_call rfl (by kernel_rfl) fun K hK => ?_
  go_big_move; refine hK _ _ rfl ?_; clear hK K
  refine wpSq_call rfl (by kernel_rfl) fun K hK => ?_
  go_big_move; refine hK _ _ rfl ?_; clear hK K
  refine wpSq_call rfl (by kernel_rfl) fun K hK => ?_
  go_big_op; refine hK _ _ rfl ?_; clear hK K
  refine wpSq_call rfl (by kernel_rfl) fun K hK => ?_
  go_big_op; refine hK _ _ rfl ?_; clear hK K
  refine wpSq_call rfl (by kernel_rfl) fun K hK => ?_
  go_big_move; refine hK _ _ rfl ?_; clear hK K
  refine wpSq_call rfl (by kernel_rfl) fun K hK => ?_
  obtain ⟨d0, d1⟩ := x_b10.f2
  go_big_op; refine hK _ _ rfl ?_; clear hK K d0 d1
  refine wpSq_call rfl (by kernel_rfl) fun K hK => ?_
  go_big_op
  go_fit (small_zz (-3) q6x (by decide) (by decide))
  rintro e w_59 ⟨rfl, hb_59⟩
  clear r5x x_b10
  replace x_b4 := x_b4.bl hb_59; replace q4x := q4x.bl hb_59; replace q6x := q6x.bl hb_59; replace r6x := r6x.bl hb_59; replace x_b11 := x_b11.bl hb_59; replace hb := hb.trans (hb_59.mono hb.size)
  refine hK _ _ rfl ?_
  clear hK K hb_59
  refine wpSq_call rfl (by kernel_rfl) fun K hK => ?_
  go_big_op; refine hK _ _ rfl ?_; clear hK K
  refine wpSq_call rfl (by kernel_rfl) fun K hK => ?_
  go_big_op; refine hK _ _ rfl ?_; clear hK K
  refine wpSq_call rfl (by kernel_rfl) fun K hK => ?_
  go_big_move; refine hK _ _ rfl ?_; clear hK K
  refine wpSq_call rfl (by kernel_rfl) fun K hK => ?_
  obtain ⟨d0, d1⟩ := x_b11.f2
  go_big_op; refine hK _ _ rfl ?_; clear hK K d0 d1
  refine wpSq_call rfl (by kernel_rfl) fun K hK => ?_
  go_big_op
  go_fit (small_zz 1 r6x (by decide) (by decide))
  rintro e w_60 ⟨rfl, hb_60⟩
  clear q6x x_b11
  replace x_b4 := x_b4.bl hb_60; replace q4x := q4x.bl hb_60; replace r6x := r6x.bl hb_60; replace hb := hb.trans (hb_60.mono hb.size)
  refine hK _ _ rfl ?_
  clear hK K hb_60
  refine wpSq_call rfl (by kernel_rfl) fun K hK => ?_
  go_big_op; refine hK _ _ rfl ?_; clear hK K
  refine wpSq_call rfl (by kernel_rfl) fun K hK => ?_
  go_big_op; refine hK _ _ rfl ?_; clear hK K
  apply wpSq_end
  refine hK18 _ _ ?_
  refine wp_cond_false (congrArg Value.bool (show _ = false from (by first | rfl | assumption | (simp; done) | exact decide_eq_false (by omega) | omega))) ?_
  refine wp_skip ?_
  refine hK17 _ _ ?_
  refine wp_seq_k ?_
  intro K19 hK19
  refine wp_region_sq [0, 1, 2, 3, 4, 5, 6, 7] (by kernel_rfl) ?_
  refine wpSq_call rfl (by kernel_rfl) fun K hK => ?_
  go_big_op
  go_fit (i_any 6 _ (by decide) (by decide))
  rintro e w_61 ⟨v_a7x, rfl, a7x, hb_61⟩
  clear r6x
  replace x_b4 := x_b4.bl hb_61; replace q4x := q4x.bl hb_61; replace hb := hb.trans (hb_61.mono hb.size)
  replace a7x := a7x.rd
  obtain ⟨n_a7x, o_a7x, k_a7x, c_a7x, rfl⟩ := a7x.open2
  have La7x := hide (a7x.lenOf (zlen_i 6 (by decide) (by decide)))
  refine hK _ _ rfl ?_
  clear hK K hb_61
  refine wpSq_call rfl (by kernel_rfl) fun K hK => ?_
  go_big_op
  go_fit (i_any (-3) _ (by decide) (by decide))
  rintro e w_62 ⟨v_b7x, rfl, b7x, hb_62⟩
  replace x_b4 := x_b4.bl hb_62; replace q4x := q4x.bl hb_62; replace a7x := a7x.bl hb_62; replace hb := hb.trans (hb_62.mono hb.size)
  replace b7x := b7x.rd
  obtain ⟨n_b7x, o_b7x, k_b7x, c_b7x, rfl⟩ := b7x.open2
  have Lb7x := hide (b7x.lenOf (zlen_i (-3) (by decide) (by decide)))
  refine hK _ _ rfl ?_
  clear hK K hb_62
  refine wpSq_call rfl (by kernel_rfl) fun K hK => ?_
  go_big_op
  go_fit (exact_any (a7x.zn La7x.out) (b7x.zn Lb7x.out) (by omega) (by omega) (show (-3) ≠ (0 : Int) by decide) (show (6 : Int).fmod (-3) = 0 by decide))
  rintro e w_63 ⟨v_q7x, rfl, q7x, hb_63⟩
  replace x_b4 := x_b4.bl hb_63; replace q4x := q4x.bl hb_63; replace a7x := a7x.bl hb_63; replace b7x := b7x.bl hb_63; replace hb := hb.trans (hb_63.mono hb.size)
  replace q7x := q7x.rd
  obtain ⟨n_q7x, o_q7x, k_q7x, c_q7x, rfl⟩ := q7x.open2
  have Lq7x := hide (q7x.lenOf (fdiv_len ((show (-3) ≠ (0 : Int) by decide)) (La7x.out)))
  rw [show (6 : Int).fdiv (-3) = -2 from by decide] at q7x
  refine hK _ _ rfl ?_
  clear hK K hb_63
  refine wpSq_call rfl (by kernel_rfl) fun K hK => ?_
  go_big_move; refine hK _ _ rfl ?_; clear hK K
  refine wpSq_call rfl (by kernel_rfl) fun K hK => ?_
  go_big_op; refine hK _ _ rfl ?_; clear hK K
  refine wpSq_call rfl (by kernel_rfl) fun K hK => ?_
  go_big_op; refine hK _ _ rfl ?_; clear hK K
  refine wpSq_call rfl (by kernel_rfl) fun K hK => ?_
  obtain ⟨d0, d1⟩ := x_b4.f2
  have f0 := x_b4.free 0; have f1 := x_b4.free 1
  go_big_op
  have hnd := x_b4.nod rfl rfl
  obtain ⟨w_64, eW, x_b4', ho⟩ : ∃ w', ((w_63.setCell ⟨p_b4, 0, none⟩ (.bool n_q7x)).setCell ⟨p_b4, 1, none⟩ (.slice o_q7x k_q7x c_q7x)) = w' ∧ Bs w' p_b4 #[.bool n_q7x, .slice o_q7x k_q7x c_q7x] 36 ∧ Only p_b4 w_63 w' := x_b4.setN [(0, .bool n_q7x), (1, .slice o_q7x k_q7x c_q7x)]
  rw [eW]; clear eW d0 d1 f0 f1 x_b4
  have x_b4 := x_b4'; clear x_b4'
  clear q4x a7x b7x
  replace q7x := q7x.fr hnd ho; replace hb := belowOnly hb ho kb_b4
  refine hK _ _ rfl ?_; clear hK K ho hnd
  refine wpSq_call rfl (by kernel_rfl) fun K hK => ?_
  go_big_move; refine hK _ _ rfl ?_; clear hK K
  apply wpSq_end
  refine hK19 _ _ ?_
  refine wp_seq_k ?_
  intro K20 hK20
  refine wp_region_sq [0, 1, 2, 3, 4, 5, 6] (by kernel_rfl) ?_
  refine wpSq_call rfl (by kernel_rfl) fun K hK => ?_
  go_big_op
  go_fit (i_any 7 _ (by decide) (by decide))
  rintro e w_65 ⟨v_a8x, rfl, a8x, hb_65⟩
  replace x_b4 := x_b4.bl hb_65; replace q7x := q7x.bl hb_65; replace hb := hb.trans (hb_65.mono hb.size)
  replace a8x := a8x.rd
  obtain ⟨n_a8x, o_a8x, k_a8x, c_a8x, rfl⟩ := a8x.open2
  have La8x := hide (a8x.lenOf (zlen_i 7 (by decide) (by decide)))
  refine hK _ _ rfl ?_
  clear hK K hb_65
  refine wpSq_call rfl (by kernel_rfl) fun K hK => ?_
  go_big_op
  go_fit (i_any 2 _ (by decide) (by decide))
  rintro e w_66 ⟨v_b8x, rfl, b8x, hb_66⟩
  replace x_b4 := x_b4.bl hb_66; replace q7x := q7x.bl hb_66; replace a8x := a8x.bl hb_66; replace hb := hb.trans (hb_66.mono hb.size)
  replace b8x := b8x.rd
  obtain ⟨n_b8x, o_b8x, k_b8x, c_b8x, rfl⟩ := b8x.open2
  have Lb8x := hide (b8x.lenOf (zlen_i 2 (by decide) (by decide)))
  refine hK _ _ rfl ?_
  clear hK K hb_66
  refine wpSq_call rfl (by kernel_rfl) fun K hK => ?_
  go_big_op
  go_fit (exact_rest (a8x.zn La8x.out) (b8x.zn Lb8x.out) (by omega) (by omega) (show 2 ≠ (0 : Int) by decide) (show (7 : Int).fmod 2 ≠ 0 by decide))
  rintro e w_67 ⟨rfl, hb_67⟩
  replace x_b4 := x_b4.bl hb_67; replace q7x := q7x.bl hb_67; replace a8x := a8x.bl hb_67; replace b8x := b8x.bl hb_67; replace hb := hb.trans (hb_67.mono hb.size)
  refine hK _ _ rfl ?_
  clear hK K hb_67
  refine wpSq_call rfl (by kernel_rfl) fun K hK => ?_
  go_big_move; refine hK _ _ rfl ?_; clear hK K
  refine wpSq_call rfl (by kernel_rfl) fun K hK => ?_
  go_big_op; refine hK _ _ rfl ?_; clear hK K
  refine wpSq_call rfl (by kernel_rfl) fun K hK => ?_
  go_big_op; refine hK _ _ rfl ?_; clear hK K
  refine wpSq_call rfl (by kernel_rfl) fun K hK => ?_
  go_big_move; refine hK _ _ rfl ?_; clear hK K
  apply wpSq_end
  refine hK20 _ _ ?_
  refine wp_seq_k ?_
  intro K21 hK21
  refine wp_seq_k ?_
  intro K22 hK22
  refine wp_region_sq [0, 1, 2, 3, 4, 5, 6, 7, 8, 9, 10, 11, 12, 13, 14, 15, 16, 17] (by kernel_rfl) ?_
  refine wpSq_call rfl (by kernel_rfl) fun K hK => ?_
  go_big_move; refine hK _ _ rfl ?_; clear hK K
  refine wpSq_call rfl (by kernel_rfl) fun K hK => ?_
  go_big_op; refine hK _ _ rfl ?_; clear hK K
  refine wpSq_call rfl (by kernel_rfl) fun K hK => ?_
  go_big_move; refine hK _ _ rfl ?_; clear hK K
  refine wpSq_call rfl (by kernel_rfl) fun K hK => ?_
  obtain ⟨d0, d1⟩ := x_b4.f2
  go_big_op; refine hK _ _ rfl ?_; clear hK K d0 d1
  refine wpSq_call rfl (by kernel_rfl) fun K hK => ?_
  go_big_op
  go_fit (small_zz (-2) q7x (by decide) (by decide))
  rintro e w_68 ⟨rfl, hb_68⟩
  clear x_b4 a8x b8x
  replace q7x := q7x.bl hb_68; replace hb := hb.trans (hb_68.mono hb.size)
  refine hK _ _ rfl ?_
  clear hK K hb_68
  refine wpSq_call rfl (by kernel_rfl) fun K hK => ?_
  go_big_op; refine hK _ _ rfl ?_; clear hK K
  refine wpSq_call rfl (by kernel_rfl) fun K hK => ?_
  go_big_op; refine hK _ _ rfl ?_; clear hK K
  refine wpSq_call rfl (by kernel_rfl) fun K hK => ?_
  go_big_move; refine hK _ _ rfl ?_; clear hK K
  refine wpSq_call rfl (by kernel_rfl) fun K hK => ?_
  go_big_move; refine hK _ _ rfl ?_; clear hK K
  refine wpSq_call rfl (by kernel_rfl) fun K hK => ?_
  go_big_op; refine hK _ _ rfl ?_; clear hK K
  refine wpSq_call rfl (by kernel_rfl) fun K hK => ?_
  go_big_op; refine hK _ _ rfl ?_; clear hK K
  refine wpSq_call rfl (by kernel_rfl) fun K hK => ?_
  go_big_move; refine hK _ _ rfl ?_; clear hK K
  refine wpSq_call rfl (by kernel_rfl) fun K hK => ?_
  go_big_op
  go_fit (i_any (-12) _ (by decide) (by decide))
  rintro e w_69 ⟨v_a9x, rfl, a9x, hb_69⟩
  clear q7x
  replace hb := hb.trans (hb_69.mono hb.size)
  replace a9x := a9x.rd
  obtain ⟨n_a9x, o_a9x, k_a9x, c_a9x, rfl⟩ := a9x.open2
  have La9x := hide (a9x.lenOf (zlen_i (-12) (by decide) (by decide)))
  refine hK _ _ rfl ?_
  clear hK K hb_69
  refine wpSq_call rfl (by kernel_rfl) fun K hK => ?_
  go_big_op
  go_fit (i_any 18 _ (by decide) (by decide))
  rintro e w_70 ⟨v_b9x, rfl, b9x, hb_70⟩
  replace a9x := a9x.bl hb_70; replace hb := hb.trans (hb_70.mono hb.size)
  replace b9x := b9x.rd
  obtain ⟨n_b9x, o_b9x, k_b9x, c_b9x, rfl⟩ := b9x.open2
  have Lb9x := hide (b9x.lenOf (zlen_i 18 (by decide) (by decide)))
  refine hK _ _ rfl ?_
  clear hK K hb_70
  refine wpSq_call rfl (by kernel_rfl) fun K hK => ?_
  go_big_op
  go_fit (zgcd_any (a9x.zn La9x.out) (b9x.zn Lb9x.out) (by omega) (by omega) )
  rintro e w_71 ⟨v_g9x, rfl, g9x, hb_71⟩
  replace a9x := a9x.bl hb_71; replace b9x := b9x.bl hb_71; replace hb := hb.trans (hb_71.mono hb.size)
  replace g9x := g9x.rd
  obtain ⟨n_g9x, o_g9x, k_g9x, c_g9x, rfl⟩ := g9x.open2
  have Lg9x := hide (g9x.lenOf (zlen_gcd (La9x.out) (Lb9x.out)))
  rw [show ((Int.gcd (-12) 18 : Nat) : Int) = 6 from by decide] at g9x
  refine hK _ _ rfl ?_
  clear hK K hb_71
  refine wpSq_call rfl (by kernel_rfl) fun K hK => ?_
  go_big_op
  go_fit (small_zz 6 g9x (by decide) (by decide))
  rintro e w_72 ⟨rfl, hb_72⟩
  clear a9x b9x
  replace g9x := g9x.bl hb_72; replace hb := hb.trans (hb_72.mono hb.size)
  refine hK _ _ rfl ?_
  clear hK K hb_72
  refine wpSq_call rfl (by kernel_rfl) fun K hK => ?_
  go_big_op; refine hK _ _ rfl ?_; clear hK K
  refine wpSq_call rfl (by kernel_rfl) fun K hK => ?_
  go_big_op; refine hK _ _ rfl ?_; clear hK K
  apply wpSq_end
  refine hK22 _ _ ?_
  refine wp_cond_false (congrArg Value.bool (show _ = false from (by first | rfl | assumption | (simp; done) | exact decide_eq_false (by omega) | omega))) ?_
  refine wp_skip ?_
  refine hK21 _ _ ?_
  refine wp_seq_k ?_
  intro K23 hK23
  refine wp_region_sq [0, 1, 2, 3, 4, 5, 6, 7, 8, 9, 10, 11, 12, 13] (by kernel_rfl) ?_
  refine wpSq_call rfl (by kernel_rfl) fun K hK => ?_
  go_big_op
  go_fit (given_0 _)
  rintro e w_73 ⟨rfl, hb_73⟩
  clear g9x
  replace hb := hb.trans (hb_73.mono hb.size)
  refine hK _ _ rfl ?_
  clear hK K hb_73
  refine wpSq_call rfl (by kernel_rfl) fun K hK => ?_
  go_big_move; refine hK _ _ rfl ?_; clear hK K
  refine wpSq_call rfl (by kernel_rfl) fun K hK => ?_
  go_big_op
  go_fit (given_z _)
  rintro e w_74 ⟨rfl, hb_74⟩
  replace hb := hb.trans (hb_74.mono hb.size)
  refine hK _ _ rfl ?_
  clear hK K hb_74
  refine wpSq_call rfl (by kernel_rfl) fun K hK => ?_
  go_big_op; refine hK _ _ rfl ?_; clear hK K
  refine wpSq_call rfl (by kernel_rfl) fun K hK => ?_
  go_big_move; refine hK _ _ rfl ?_; clear hK K
  refine wpSq_call rfl (by kernel_rfl) fun K hK => ?_
  go_big_op
  go_fit (given_1 _)
  rintro e w_75 ⟨rfl, hb_75⟩
  replace hb := hb.trans (hb_75.mono hb.size)
  refine hK _ _ rfl ?_
  clear hK K hb_75
  refine wpSq_call rfl (by kernel_rfl) fun K hK => ?_
  go_big_op; refine hK _ _ rfl ?_; clear hK K
  refine wpSq_call rfl (by kernel_rfl) fun K hK => ?_
  go_big_move; refine hK _ _ rfl ?_; clear hK K
  refine wpSq_call rfl (by kernel_rfl) fun K hK => ?_
  go_big_op
  go_fit (given_2 _)
  rintro e w_76 ⟨rfl, hb_76⟩
  replace hb := hb.trans (hb_76.mono hb.size)
  refine hK _ _ rfl ?_
  clear hK K hb_76
  refine wpSq_call rfl (by kernel_rfl) fun K hK => ?_
  go_big_op; refine hK _ _ rfl ?_; clear hK K
  refine wpSq_call rfl (by kernel_rfl) fun K hK => ?_
  go_big_move; refine hK _ _ rfl ?_; clear hK K
  refine wpSq_call rfl (by kernel_rfl) fun K hK => ?_
  go_big_op
  go_fit (rest_any _)
  rintro e w_77 ⟨rfl, hb_77⟩
  replace hb := hb.trans (hb_77.mono hb.size)
  refine hK _ _ rfl ?_
  clear hK K hb_77
  refine wpSq_call rfl (by kernel_rfl) fun K hK => ?_
  go_big_op; refine hK _ _ rfl ?_; clear hK K
  refine wpSq_call rfl (by kernel_rfl) fun K hK => ?_
  go_big_move; refine hK _ _ rfl ?_; clear hK K
  apply wpSq_end
  refine hK23 _ _ ?_
  refine wp_ret ?_
  try dsimp only [Exit.then, Exit.inBlock]
  refine bodyPost_ret (v := (.bool true)) (by simp [results, Tryd.results4, go_sem]) rfl ?_
  exact ⟨rfl, hb⟩
end
end Go.Proofs.YtjcfhbekpmpbeaaDoor
