/- ZintSums: the law's walk. -/
import Derived.Test.YtabmffenbkdgkaaDoorY7
import Derived.Test.YtabmffenbkdgkaaDoorRh
namespace Go.Proofs.YtabmffenbkdgkaaDoor
open Go.RowKit Dig

theorem rbits_z {w : World} {va : Value} {xs : List Nat} (hx : Rd w va xs) (hxl : xs.length ≤ 100000000000) :
    Calls Tryd.prog 44 #[va] w fun e w' => e = .returned (.int .i64 ((bitsN (val xs) : Nat) : Int)) ∧ Below w.heap.size w w' := by
  obtain ⟨oa, ca, rfl, hca, okx, hcx⟩ := hx
  exact rbits_any oa ca xs w (by omega) hca okx hcx
theorem zlen_mul {x y : Int} {l m : Nat} (hx : (dig x.natAbs).length ≤ l) (hy : (dig y.natAbs).length ≤ m) : (dig (x * y).natAbs).length ≤ l + m := by
  rw [Int.natAbs_mul]
  have h := zmul_dig_length (dig x.natAbs) (dig y.natAbs) (OK_dig _) (OK_dig _)
  rw [val_dig, val_dig] at h
  omega

set_option maxHeartbeats 4000000 in
set_option maxRecDepth 20000 in
theorem sums_walk {w : World} {va vb : Value} {x y : Int} (ha : ZN w va x 1048576) (hb' : ZN w vb y 1048576) (htab : Lib.TabIs Tryd.prog w p10 .u64 Lib.pow10Tab) :
    Calls Tryd.prog 5 #[va, vb] w fun e w' => e = .returned (.bool true) ∧ Below w.heap.size w w' := by
  have htabs := Lib.tabBelow_of_tabIs htab
  have L1 := hide (show (dig (-x).natAbs).length ≤ 4000000 by rw [Int.natAbs_neg]; exact Nat.le_trans ha.len (by omega))
  have L2 := hide (show (dig ((x.natAbs : Int)).natAbs).length ≤ 4000000 by exact Nat.le_trans ha.len (by omega))
  have L3 := hide (show (dig (x + y).natAbs).length ≤ 4000000 from Nat.le_trans (zlen_add ha.len hb'.len) (by omega))
  have L4 := hide (show (dig (x - y).natAbs).length ≤ 4000000 from Nat.le_trans (zlen_sub ha.len hb'.len) (by omega))
  have L5 := hide (show (dig (x * y).natAbs).length ≤ 4000000 from Nat.le_trans (zlen_mul ha.len hb'.len) (by omega))
  obtain ⟨na, oa, ca, xs, rfl, hca, hx, hzx, hxl⟩ := ha.open_
  obtain ⟨nb, ob, cb, ys, rfl, hcb, _, _, hyl⟩ := hb'.open_
  have hv : val xs = x.natAbs := by rw [← hzx, zv_abs]
  have HV := hide hv
  clear hv hzx
  obtain ⟨S, hS⟩ : ∃ S, x.sign = S := ⟨_, rfl⟩
  obtain ⟨C, hC⟩ : ∃ C, zcmp x y = C := ⟨_, rfl⟩
  obtain ⟨B, hB⟩ : ∃ B : Int, ((bitsN x.natAbs : Nat) : Int) = B := ⟨_, rfl⟩
  have HS := hide (And.intro hS (And.intro hC hB))
  clear hS hC hB
  have q1 : (S == S) = true := by simp
  have q2 : (C == C) = true := by simp
  have q3 : (B == B) = true := by simp
  go_enter Tryd.func5, Tryd.ntmps5
  have hb := Below.refl w.heap.size w
  have hp := Bk.new w na (.slice oa xs.length ca)
  replace ha := ha.alloc (.cells #[.bool na, (.slice oa xs.length ca)] 24)
  replace hb' := hb'.alloc (.cells #[.bool na, (.slice oa xs.length ca)] 24)
  replace hx := hx.alloc (.cells #[.bool na, (.slice oa xs.length ca)] 24)
  replace hb := hb.alloc hb.size (.cells #[.bool na, (.slice oa xs.length ca)] 24)
  have hq := Bk.new (w.alloc (.cells #[.bool na, (.slice oa xs.length ca)] 24)) nb (.slice ob ys.length cb)
  simp only [Bk.size_alloc] at hq
  replace ha := ha.alloc (.cells #[.bool nb, (.slice ob ys.length cb)] 24)
  replace hb' := hb'.alloc (.cells #[.bool nb, (.slice ob ys.length cb)] 24)
  replace hx := hx.alloc (.cells #[.bool nb, (.slice ob ys.length cb)] 24)
  replace hp := hp.alloc (.cells #[.bool nb, (.slice ob ys.length cb)] 24)
  replace hb := hb.alloc hb.size (.cells #[.bool nb, (.slice ob ys.length cb)] 24)
  replace ha := ha.drew
  replace hb' := hb'.drew
  replace hx := hx.drew
  replace hp := hp.drew
  replace hq := hq.drew
  replace hb := hb.drew
  go_wp2_with fail
  refine wp_region_pl [(0, true), (1, false), (2, false), (4, false), (3, true), (5, true), (6, false), (7, false), (8, false), (9, false), (10, false), (12, false), (13, false), (11, true), (14, true), (15, false), (16, false), (17, false), (18, false), (20, false), (19, true), (21, true), (22, true), (23, false), (24, false), (25, false), (27, false), (26, true), (28, true), (29, true), (30, false), (31, false), (32, false), (33, false), (35, false), (36, false), (34, true), (37, true), (38, true), (39, false), (40, false), (41, false), (42, false), (44, false), (45, false), (43, true), (46, true), (47, true), (48, false), (49, false), (50, false), (51, false), (53, false), (54, false), (52, true), (55, true), (56, true), (57, false), (58, false), (59, false), (61, false), (62, false), (60, true), (63, true), (64, false), (65, false), (66, false)] (fun w' => w'.cell? ⟨w.heap.size, 0, none⟩ = some (.bool na) ∧ w'.cell? ⟨w.heap.size, 1, none⟩ = some (.slice oa xs.length ca) ∧ w'.cell? ⟨w.heap.size + 1, 0, none⟩ = some (.bool nb) ∧ w'.cell? ⟨w.heap.size + 1, 1, none⟩ = some (.slice ob ys.length cb)) (by kernel_rfl) (by kernel_rfl) (by kernel_rfl) (by kernel_rfl) ⟨hp.facts.1, hp.facts.2.1, hq.facts.1, hq.facts.2.1⟩ ?_
  apply wpPl_call
  case hi => rfl
  case hw => kernel_rfl
  case h =>
  intro K hK
  have kb_1 := hb.size
  go_big_op
  go_fit (zawake_any _ (htabs _ hb))
  rintro e w_1 ⟨rfl, hb_1⟩
  replace ha := ha.below hb_1 (Nat.le_refl _)
  replace hb' := hb'.below hb_1 (Nat.le_refl _)
  replace hx := hx.below hb_1 (Nat.le_refl _)
  replace hp := hp.below hb_1 (Nat.le_refl _)
  replace hq := hq.below hb_1 (Nat.le_refl _)
  replace hb := hb.trans (hb_1.mono hb.size)
  clear hb_1
  refine hK _ _ rfl ⟨hp.facts.1, hp.facts.2.1, hq.facts.1, hq.facts.2.1⟩ ?_
  clear hK K
  apply wpPl_ld
  case hi => rfl
  case h1 => intro w' hC K hK; obtain ⟨c0, c1, c2, c3⟩ := hC; (first | go_big_move | go_big_op); exact hK
  case hw => kernel_rfl
  case hv => kernel_rfl
  case hb => kernel_rfl
  case hp => kernel_rfl
  apply wpPl_ld
  case hi => rfl
  case h1 => intro w' hC K hK; obtain ⟨c0, c1, c2, c3⟩ := hC; (first | go_big_move | go_big_op); exact hK
  case hw => kernel_rfl
  case hv => kernel_rfl
  case hb => kernel_rfl
  case hp => kernel_rfl
  apply wpPl_ld
  case hi => rfl
  case h1 => intro w' hC K hK; obtain ⟨c0, c1, c2, c3⟩ := hC; (first | go_big_move | go_big_op); exact hK
  case hw => kernel_rfl
  case hv => kernel_rfl
  case hb => kernel_rfl
  case hp => kernel_rfl
  apply wpPl_call
  case hi => rfl
  case hw => kernel_rfl
  case h =>
  intro K hK
  have kb_2 := hb.size
  go_big_op
  go_fit (zsign_any ha (by decide))
  rintro e w_2 ⟨rfl, hb_2⟩
  replace ha := ha.below hb_2 (Nat.le_refl _)
  replace hb' := hb'.below hb_2 (Nat.le_refl _)
  replace hx := hx.below hb_2 (Nat.le_refl _)
  replace hp := hp.below hb_2 (Nat.le_refl _)
  replace hq := hq.below hb_2 (Nat.le_refl _)
  replace hb := hb.trans (hb_2.mono hb.size)
  clear hb_2
  refine hK _ _ rfl ⟨hp.facts.1, hp.facts.2.1, hq.facts.1, hq.facts.2.1⟩ ?_
  clear hK K
  rw [HS.out.1]
  apply wpPl_call
  case hi => rfl
  case hw => kernel_rfl
  case h =>
  intro K hK
  have kb_3 := hb.size
  go_big_op
  go_fit (rzsign_any ha (by decide))
  rintro e w_3 ⟨rfl, hb_3⟩
  replace ha := ha.below hb_3 (Nat.le_refl _)
  replace hb' := hb'.below hb_3 (Nat.le_refl _)
  replace hx := hx.below hb_3 (Nat.le_refl _)
  replace hp := hp.below hb_3 (Nat.le_refl _)
  replace hq := hq.below hb_3 (Nat.le_refl _)
  replace hb := hb.trans (hb_3.mono hb.size)
  clear hb_3
  refine hK _ _ rfl ⟨hp.facts.1, hp.facts.2.1, hq.facts.1, hq.facts.2.1⟩ ?_
  clear hK K
  rw [HS.out.1]
  apply wpPl_ld
  case hi => rfl
  case h1 => intro w' hC K hK; obtain ⟨c0, c1, c2, c3⟩ := hC; (first | go_big_move | go_big_op); exact hK
  case hw => kernel_rfl
  case hv => kernel_rfl
  case hb => kernel_rfl
  case hp => kernel_rfl
  apply wpPl_ld
  case hi => rfl
  case h1 => intro w' hC K hK; obtain ⟨c0, c1, c2, c3⟩ := hC; (first | go_big_move | go_big_op); exact hK
  case hw => kernel_rfl
  case hv => kernel_rfl
  case hb => kernel_rfl
  case hp => kernel_rfl
  apply wpPl_ld
  case hi => rfl
  case h1 => intro w' hC K hK; obtain ⟨c0, c1, c2, c3⟩ := hC; (first | go_big_move | go_big_op); exact hK
  case hw => kernel_rfl
  case hv => kernel_rfl
  case hb => kernel_rfl
  case hp => kernel_rfl
  apply wpPl_ld
  case hi => rfl
  case h1 => intro w' hC K hK; obtain ⟨c0, c1, c2, c3⟩ := hC; (first | go_big_move | go_big_op); exact hK
  case hw => kernel_rfl
  case hv => kernel_rfl
  case hb => kernel_rfl
  case hp => kernel_rfl
  apply wpPl_ld
  case hi => rfl
  case h1 => intro w' hC K hK; obtain ⟨c0, c1, c2, c3⟩ := hC; (first | go_big_move | go_big_op); exact hK
  case hw => kernel_rfl
  case hv => kernel_rfl
  case hb => kernel_rfl
  case hp => kernel_rfl
  apply wpPl_ld
  case hi => rfl
  case h1 => intro w' hC K hK; obtain ⟨c0, c1, c2, c3⟩ := hC; (first | go_big_move | go_big_op); exact hK
  case hw => kernel_rfl
  case hv => kernel_rfl
  case hb => kernel_rfl
  case hp => kernel_rfl
  apply wpPl_ld
  case hi => rfl
  case h1 => intro w' hC K hK; obtain ⟨c0, c1, c2, c3⟩ := hC; (first | go_big_move | go_big_op); exact hK
  case hw => kernel_rfl
  case hv => kernel_rfl
  case hb => kernel_rfl
  case hp => kernel_rfl
  apply wpPl_call
  case hi => rfl
  case hw => kernel_rfl
  case h =>
  intro K hK
  have kb_4 := hb.size
  go_big_op
  go_fit (zcmp_any ha hb' (by decide) (by decide))
  rintro e w_4 ⟨rfl, hb_4⟩
  replace ha := ha.below hb_4 (Nat.le_refl _)
  replace hb' := hb'.below hb_4 (Nat.le_refl _)
  replace hx := hx.below hb_4 (Nat.le_refl _)
  replace hp := hp.below hb_4 (Nat.le_refl _)
  replace hq := hq.below hb_4 (Nat.le_refl _)
  replace hb := hb.trans (hb_4.mono hb.size)
  clear hb_4
  refine hK _ _ rfl ⟨hp.facts.1, hp.facts.2.1, hq.facts.1, hq.facts.2.1⟩ ?_
  clear hK K
  rw [HS.out.2.1]
  apply wpPl_call
  case hi => rfl
  case hw => kernel_rfl
  case h =>
  intro K hK
  have kb_5 := hb.size
  go_big_op
  go_fit (rzcmp_any ha hb' (by decide) (by decide))
  rintro e w_5 ⟨rfl, hb_5⟩
  replace ha := ha.below hb_5 (Nat.le_refl _)
  replace hb' := hb'.below hb_5 (Nat.le_refl _)
  replace hx := hx.below hb_5 (Nat.le_refl _)
  replace hp := hp.below hb_5 (Nat.le_refl _)
  replace hq := hq.below hb_5 (Nat.le_refl _)
  replace hb := hb.trans (hb_5.mono hb.size)
  clear hb_5
  refine hK _ _ rfl ⟨hp.facts.1, hp.facts.2.1, hq.facts.1, hq.facts.2.1⟩ ?_
  clear hK K
  rw [HS.out.2.1]
  apply wpPl_ld
  case hi => rfl
  case h1 => intro w' hC K hK; obtain ⟨c0, c1, c2, c3⟩ := hC; (first | go_big_move | go_big_op); exact hK
  case hw => kernel_rfl
  case hv => kernel_rfl
  case hb => kernel_rfl
  case hp => kernel_rfl
  apply wpPl_ld
  case hi => rfl
  case h1 => intro w' hC K hK; obtain ⟨c0, c1, c2, c3⟩ := hC; (first | go_big_move | go_big_op); exact hK
  case hw => kernel_rfl
  case hv => kernel_rfl
  case hb => kernel_rfl
  case hp => kernel_rfl
  apply wpPl_ld
  case hi => rfl
  case h1 => intro w' hC K hK; obtain ⟨c0, c1, c2, c3⟩ := hC; (first | go_big_move | go_big_op); exact hK
  case hw => kernel_rfl
  case hv => kernel_rfl
  case hb => kernel_rfl
  case hp => kernel_rfl
  apply wpPl_ld
  case hi => rfl
  case h1 => intro w' hC K hK; obtain ⟨c0, c1, c2, c3⟩ := hC; (first | go_big_move | go_big_op); exact hK
  case hw => kernel_rfl
  case hv => kernel_rfl
  case hb => kernel_rfl
  case hp => kernel_rfl
  apply wpPl_ld
  case hi => rfl
  case h1 => intro w' hC K hK; obtain ⟨c0, c1, c2, c3⟩ := hC; (first | go_big_move | go_big_op); exact hK
  case hw => kernel_rfl
  case hv => kernel_rfl
  case hb => kernel_rfl
  case hp => kernel_rfl
  apply wpPl_call
  case hi => rfl
  case hw => kernel_rfl
  case h =>
  intro K hK
  have kb_6 := hb.size
  go_big_op
  go_fit (zneg_any ha (by decide))
  rintro e w_6 ⟨v1, rfl, h1, hb_6⟩
  replace ha := ha.below hb_6 (Nat.le_refl _)
  replace hb' := hb'.below hb_6 (Nat.le_refl _)
  replace hx := hx.below hb_6 (Nat.le_refl _)
  replace hp := hp.below hb_6 (Nat.le_refl _)
  replace hq := hq.below hb_6 (Nat.le_refl _)
  replace hb := hb.trans (hb_6.mono hb.size)
  clear hb_6
  refine hK _ _ rfl ⟨hp.facts.1, hp.facts.2.1, hq.facts.1, hq.facts.2.1⟩ ?_
  clear hK K
  replace h1 := h1.rd
  apply wpPl_call
  case hi => rfl
  case hw => kernel_rfl
  case h =>
  intro K hK
  have kb_7 := hb.size
  go_big_op
  go_fit (rneg_any ha (by decide))
  rintro e w_7 ⟨u1, rfl, g1, hb_7⟩
  replace ha := ha.below hb_7 (Nat.le_refl _)
  replace hb' := hb'.below hb_7 (Nat.le_refl _)
  replace hx := hx.below hb_7 (Nat.le_refl _)
  replace hp := hp.below hb_7 (Nat.le_refl _)
  replace hq := hq.below hb_7 (Nat.le_refl _)
  replace h1 := h1.below hb_7 (Nat.le_refl _)
  replace hb := hb.trans (hb_7.mono hb.size)
  clear hb_7
  refine hK _ _ rfl ⟨hp.facts.1, hp.facts.2.1, hq.facts.1, hq.facts.2.1⟩ ?_
  clear hK K
  replace g1 := g1.rd
  apply wpPl_call
  case hi => rfl
  case hw => kernel_rfl
  case h =>
  intro K hK
  have kb_8 := hb.size
  go_big_op
  go_fit (is_zz h1 (g1.zn L1.out) (by omega))
  rintro e w_8 ⟨rfl, hb_8⟩
  replace ha := ha.below hb_8 (Nat.le_refl _)
  replace hb' := hb'.below hb_8 (Nat.le_refl _)
  replace hx := hx.below hb_8 (Nat.le_refl _)
  replace hp := hp.below hb_8 (Nat.le_refl _)
  replace hq := hq.below hb_8 (Nat.le_refl _)
  replace h1 := h1.below hb_8 (Nat.le_refl _)
  replace g1 := g1.below hb_8 (Nat.le_refl _)
  replace hb := hb.trans (hb_8.mono hb.size)
  clear hb_8
  refine hK _ _ rfl ⟨hp.facts.1, hp.facts.2.1, hq.facts.1, hq.facts.2.1⟩ ?_
  clear hK K
  clear h1
  clear g1
  apply wpPl_ld
  case hi => rfl
  case h1 => intro w' hC K hK; obtain ⟨c0, c1, c2, c3⟩ := hC; (first | go_big_move | go_big_op); exact hK
  case hw => kernel_rfl
  case hv => kernel_rfl
  case hb => kernel_rfl
  case hp => kernel_rfl
  apply wpPl_ld
  case hi => rfl
  case h1 => intro w' hC K hK; obtain ⟨c0, c1, c2, c3⟩ := hC; (first | go_big_move | go_big_op); exact hK
  case hw => kernel_rfl
  case hv => kernel_rfl
  case hb => kernel_rfl
  case hp => kernel_rfl
  apply wpPl_ld
  case hi => rfl
  case h1 => intro w' hC K hK; obtain ⟨c0, c1, c2, c3⟩ := hC; (first | go_big_move | go_big_op); exact hK
  case hw => kernel_rfl
  case hv => kernel_rfl
  case hb => kernel_rfl
  case hp => kernel_rfl
  apply wpPl_ld
  case hi => rfl
  case h1 => intro w' hC K hK; obtain ⟨c0, c1, c2, c3⟩ := hC; (first | go_big_move | go_big_op); exact hK
  case hw => kernel_rfl
  case hv => kernel_rfl
  case hb => kernel_rfl
  case hp => kernel_rfl
  apply wpPl_call
  case hi => rfl
  case hw => kernel_rfl
  case h =>
  intro K hK
  have kb_9 := hb.size
  go_big_op
  go_fit (zabs_any ha (by decide))
  rintro e w_9 ⟨v2, rfl, h2, hb_9⟩
  replace ha := ha.below hb_9 (Nat.le_refl _)
  replace hb' := hb'.below hb_9 (Nat.le_refl _)
  replace hx := hx.below hb_9 (Nat.le_refl _)
  replace hp := hp.below hb_9 (Nat.le_refl _)
  replace hq := hq.below hb_9 (Nat.le_refl _)
  replace hb := hb.trans (hb_9.mono hb.size)
  clear hb_9
  refine hK _ _ rfl ⟨hp.facts.1, hp.facts.2.1, hq.facts.1, hq.facts.2.1⟩ ?_
  clear hK K
  replace h2 := h2.rd
  apply wpPl_call
  case hi => rfl
  case hw => kernel_rfl
  case h =>
  intro K hK
  have kb_10 := hb.size
  go_big_op
  go_fit (rabs_any ha (by decide))
  rintro e w_10 ⟨u2, rfl, g2, hb_10⟩
  replace ha := ha.below hb_10 (Nat.le_refl _)
  replace hb' := hb'.below hb_10 (Nat.le_refl _)
  replace hx := hx.below hb_10 (Nat.le_refl _)
  replace hp := hp.below hb_10 (Nat.le_refl _)
  replace hq := hq.below hb_10 (Nat.le_refl _)
  replace h2 := h2.below hb_10 (Nat.le_refl _)
  replace hb := hb.trans (hb_10.mono hb.size)
  clear hb_10
  refine hK _ _ rfl ⟨hp.facts.1, hp.facts.2.1, hq.facts.1, hq.facts.2.1⟩ ?_
  clear hK K
  replace g2 := g2.rd
  apply wpPl_call
  case hi => rfl
  case hw => kernel_rfl
  case h =>
  intro K hK
  have kb_11 := hb.size
  go_big_op
  go_fit (is_zz h2 (g2.zn L2.out) (by omega))
  rintro e w_11 ⟨rfl, hb_11⟩
  replace ha := ha.below hb_11 (Nat.le_refl _)
  replace hb' := hb'.below hb_11 (Nat.le_refl _)
  replace hx := hx.below hb_11 (Nat.le_refl _)
  replace hp := hp.below hb_11 (Nat.le_refl _)
  replace hq := hq.below hb_11 (Nat.le_refl _)
  replace h2 := h2.below hb_11 (Nat.le_refl _)
  replace g2 := g2.below hb_11 (Nat.le_refl _)
  replace hb := hb.trans (hb_11.mono hb.size)
  clear hb_11
  refine hK _ _ rfl ⟨hp.facts.1, hp.facts.2.1, hq.facts.1, hq.facts.2.1⟩ ?_
  clear hK K
  clear h2
  clear g2
  apply wpPl_ld
  case hi => rfl
  case h1 => intro w' hC K hK; obtain ⟨c0, c1, c2, c3⟩ := hC; (first | go_big_move | go_big_op); exact hK
  case hw => kernel_rfl
  case hv => kernel_rfl
  case hb => kernel_rfl
  case hp => kernel_rfl
  apply wpPl_ld
  case hi => rfl
  case h1 => intro w' hC K hK; obtain ⟨c0, c1, c2, c3⟩ := hC; (first | go_big_move | go_big_op); exact hK
  case hw => kernel_rfl
  case hv => kernel_rfl
  case hb => kernel_rfl
  case hp => kernel_rfl
  apply wpPl_ld
  case hi => rfl
  case h1 => intro w' hC K hK; obtain ⟨c0, c1, c2, c3⟩ := hC; (first | go_big_move | go_big_op); exact hK
  case hw => kernel_rfl
  case hv => kernel_rfl
  case hb => kernel_rfl
  case hp => kernel_rfl
  apply wpPl_ld
  case hi => rfl
  case h1 => intro w' hC K hK; obtain ⟨c0, c1, c2, c3⟩ := hC; (first | go_big_move | go_big_op); exact hK
  case hw => kernel_rfl
  case hv => kernel_rfl
  case hb => kernel_rfl
  case hp => kernel_rfl
  apply wpPl_ld
  case hi => rfl
  case h1 => intro w' hC K hK; obtain ⟨c0, c1, c2, c3⟩ := hC; (first | go_big_move | go_big_op); exact hK
  case hw => kernel_rfl
  case hv => kernel_rfl
  case hb => kernel_rfl
  case hp => kernel_rfl
  apply wpPl_ld
  case hi => rfl
  case h1 => intro w' hC K hK; obtain ⟨c0, c1, c2, c3⟩ := hC; (first | go_big_move | go_big_op); exact hK
  case hw => kernel_rfl
  case hv => kernel_rfl
  case hb => kernel_rfl
  case hp => kernel_rfl
  apply wpPl_call
  case hi => rfl
  case hw => kernel_rfl
  case h =>
  intro K hK
  have kb_12 := hb.size
  go_big_op
  go_fit (zadd_any ha hb' (by decide) (by decide))
  rintro e w_12 ⟨v3, rfl, h3, hb_12⟩
  replace ha := ha.below hb_12 (Nat.le_refl _)
  replace hb' := hb'.below hb_12 (Nat.le_refl _)
  replace hx := hx.below hb_12 (Nat.le_refl _)
  replace hp := hp.below hb_12 (Nat.le_refl _)
  replace hq := hq.below hb_12 (Nat.le_refl _)
  replace hb := hb.trans (hb_12.mono hb.size)
  clear hb_12
  refine hK _ _ rfl ⟨hp.facts.1, hp.facts.2.1, hq.facts.1, hq.facts.2.1⟩ ?_
  clear hK K
  replace h3 := h3.rd
  apply wpPl_call
  case hi => rfl
  case hw => kernel_rfl
  case h =>
  intro K hK
  have kb_13 := hb.size
  go_big_op
  go_fit (rzadd_any ha hb' (by decide) (by decide))
  rintro e w_13 ⟨u3, rfl, g3, hb_13⟩
  replace ha := ha.below hb_13 (Nat.le_refl _)
  replace hb' := hb'.below hb_13 (Nat.le_refl _)
  replace hx := hx.below hb_13 (Nat.le_refl _)
  replace hp := hp.below hb_13 (Nat.le_refl _)
  replace hq := hq.below hb_13 (Nat.le_refl _)
  replace h3 := h3.below hb_13 (Nat.le_refl _)
  replace hb := hb.trans (hb_13.mono hb.size)
  clear hb_13
  refine hK _ _ rfl ⟨hp.facts.1, hp.facts.2.1, hq.facts.1, hq.facts.2.1⟩ ?_
  clear hK K
  replace g3 := g3.rd
  apply wpPl_call
  case hi => rfl
  case hw => kernel_rfl
  case h =>
  intro K hK
  have kb_14 := hb.size
  go_big_op
  go_fit (is_zz h3 (g3.zn L3.out) (by omega))
  rintro e w_14 ⟨rfl, hb_14⟩
  replace ha := ha.below hb_14 (Nat.le_refl _)
  replace hb' := hb'.below hb_14 (Nat.le_refl _)
  replace hx := hx.below hb_14 (Nat.le_refl _)
  replace hp := hp.below hb_14 (Nat.le_refl _)
  replace hq := hq.below hb_14 (Nat.le_refl _)
  replace h3 := h3.below hb_14 (Nat.le_refl _)
  replace g3 := g3.below hb_14 (Nat.le_refl _)
  replace hb := hb.trans (hb_14.mono hb.size)
  clear hb_14
  refine hK _ _ rfl ⟨hp.facts.1, hp.facts.2.1, hq.facts.1, hq.facts.2.1⟩ ?_
  clear hK K
  clear h3
  clear g3
  apply wpPl_ld
  case hi => rfl
  case h1 => intro w' hC K hK; obtain ⟨c0, c1, c2, c3⟩ := hC; (first | go_big_move | go_big_op); exact hK
  case hw => kernel_rfl
  case hv => kernel_rfl
  case hb => kernel_rfl
  case hp => kernel_rfl
  apply wpPl_ld
  case hi => rfl
  case h1 => intro w' hC K hK; obtain ⟨c0, c1, c2, c3⟩ := hC; (first | go_big_move | go_big_op); exact hK
  case hw => kernel_rfl
  case hv => kernel_rfl
  case hb => kernel_rfl
  case hp => kernel_rfl
  apply wpPl_ld
  case hi => rfl
  case h1 => intro w' hC K hK; obtain ⟨c0, c1, c2, c3⟩ := hC; (first | go_big_move | go_big_op); exact hK
  case hw => kernel_rfl
  case hv => kernel_rfl
  case hb => kernel_rfl
  case hp => kernel_rfl
  apply wpPl_ld
  case hi => rfl
  case h1 => intro w' hC K hK; obtain ⟨c0, c1, c2, c3⟩ := hC; (first | go_big_move | go_big_op); exact hK
  case hw => kernel_rfl
  case hv => kernel_rfl
  case hb => kernel_rfl
  case hp => kernel_rfl
  apply wpPl_ld
  case hi => rfl
  case h1 => intro w' hC K hK; obtain ⟨c0, c1, c2, c3⟩ := hC; (first | go_big_move | go_big_op); exact hK
  case hw => kernel_rfl
  case hv => kernel_rfl
  case hb => kernel_rfl
  case hp => kernel_rfl
  apply wpPl_ld
  case hi => rfl
  case h1 => intro w' hC K hK; obtain ⟨c0, c1, c2, c3⟩ := hC; (first | go_big_move | go_big_op); exact hK
  case hw => kernel_rfl
  case hv => kernel_rfl
  case hb => kernel_rfl
  case hp => kernel_rfl
  apply wpPl_call
  case hi => rfl
  case hw => kernel_rfl
  case h =>
  intro K hK
  have kb_15 := hb.size
  go_big_op
  go_fit (zsub_any ha hb' (by decide) (by decide))
  rintro e w_15 ⟨v4, rfl, h4, hb_15⟩
  replace ha := ha.below hb_15 (Nat.le_refl _)
  replace hb' := hb'.below hb_15 (Nat.le_refl _)
  replace hx := hx.below hb_15 (Nat.le_refl _)
  replace hp := hp.below hb_15 (Nat.le_refl _)
  replace hq := hq.below hb_15 (Nat.le_refl _)
  replace hb := hb.trans (hb_15.mono hb.size)
  clear hb_15
  refine hK _ _ rfl ⟨hp.facts.1, hp.facts.2.1, hq.facts.1, hq.facts.2.1⟩ ?_
  clear hK K
  replace h4 := h4.rd
  apply wpPl_call
  case hi => rfl
  case hw => kernel_rfl
  case h =>
  intro K hK
  have kb_16 := hb.size
  go_big_op
  go_fit (rzsub_any ha hb' (by decide) (by decide))
  rintro e w_16 ⟨u4, rfl, g4, hb_16⟩
  replace ha := ha.below hb_16 (Nat.le_refl _)
  replace hb' := hb'.below hb_16 (Nat.le_refl _)
  replace hx := hx.below hb_16 (Nat.le_refl _)
  replace hp := hp.below hb_16 (Nat.le_refl _)
  replace hq := hq.below hb_16 (Nat.le_refl _)
  replace h4 := h4.below hb_16 (Nat.le_refl _)
  replace hb := hb.trans (hb_16.mono hb.size)
  clear hb_16
  refine hK _ _ rfl ⟨hp.facts.1, hp.facts.2.1, hq.facts.1, hq.facts.2.1⟩ ?_
  clear hK K
  replace g4 := g4.rd
  apply wpPl_call
  case hi => rfl
  case hw => kernel_rfl
  case h =>
  intro K hK
  have kb_17 := hb.size
  go_big_op
  go_fit (is_zz h4 (g4.zn L4.out) (by omega))
  rintro e w_17 ⟨rfl, hb_17⟩
  replace ha := ha.below hb_17 (Nat.le_refl _)
  replace hb' := hb'.below hb_17 (Nat.le_refl _)
  replace hx := hx.below hb_17 (Nat.le_refl _)
  replace hp := hp.below hb_17 (Nat.le_refl _)
  replace hq := hq.below hb_17 (Nat.le_refl _)
  replace h4 := h4.below hb_17 (Nat.le_refl _)
  replace g4 := g4.below hb_17 (Nat.le_refl _)
  replace hb := hb.trans (hb_17.mono hb.size)
  clear hb_17
  refine hK _ _ rfl ⟨hp.facts.1, hp.facts.2.1, hq.facts.1, hq.facts.2.1⟩ ?_
  clear hK K
  clear h4
  clear g4
  apply wpPl_ld
  case hi => rfl
  case h1 => intro w' hC K hK; obtain ⟨c0, c1, c2, c3⟩ := hC; (first | go_big_move | go_big_op); exact hK
  case hw => kernel_rfl
  case hv => kernel_rfl
  case hb => kernel_rfl
  case hp => kernel_rfl
  apply wpPl_ld
  case hi => rfl
  case h1 => intro w' hC K hK; obtain ⟨c0, c1, c2, c3⟩ := hC; (first | go_big_move | go_big_op); exact hK
  case hw => kernel_rfl
  case hv => kernel_rfl
  case hb => kernel_rfl
  case hp => kernel_rfl
  apply wpPl_ld
  case hi => rfl
  case h1 => intro w' hC K hK; obtain ⟨c0, c1, c2, c3⟩ := hC; (first | go_big_move | go_big_op); exact hK
  case hw => kernel_rfl
  case hv => kernel_rfl
  case hb => kernel_rfl
  case hp => kernel_rfl
  apply wpPl_ld
  case hi => rfl
  case h1 => intro w' hC K hK; obtain ⟨c0, c1, c2, c3⟩ := hC; (first | go_big_move | go_big_op); exact hK
  case hw => kernel_rfl
  case hv => kernel_rfl
  case hb => kernel_rfl
  case hp => kernel_rfl
  apply wpPl_ld
  case hi => rfl
  case h1 => intro w' hC K hK; obtain ⟨c0, c1, c2, c3⟩ := hC; (first | go_big_move | go_big_op); exact hK
  case hw => kernel_rfl
  case hv => kernel_rfl
  case hb => kernel_rfl
  case hp => kernel_rfl
  apply wpPl_ld
  case hi => rfl
  case h1 => intro w' hC K hK; obtain ⟨c0, c1, c2, c3⟩ := hC; (first | go_big_move | go_big_op); exact hK
  case hw => kernel_rfl
  case hv => kernel_rfl
  case hb => kernel_rfl
  case hp => kernel_rfl
  apply wpPl_call
  case hi => rfl
  case hw => kernel_rfl
  case h =>
  intro K hK
  have kb_18 := hb.size
  go_big_op
  go_fit (zmul_any ha hb' (by decide) (by decide))
  rintro e w_18 ⟨v5, rfl, h5, hb_18⟩
  replace ha := ha.below hb_18 (Nat.le_refl _)
  replace hb' := hb'.below hb_18 (Nat.le_refl _)
  replace hx := hx.below hb_18 (Nat.le_refl _)
  replace hp := hp.below hb_18 (Nat.le_refl _)
  replace hq := hq.below hb_18 (Nat.le_refl _)
  replace hb := hb.trans (hb_18.mono hb.size)
  clear hb_18
  refine hK _ _ rfl ⟨hp.facts.1, hp.facts.2.1, hq.facts.1, hq.facts.2.1⟩ ?_
  clear hK K
  replace h5 := h5.rd
  apply wpPl_call
  case hi => rfl
  case hw => kernel_rfl
  case h =>
  intro K hK
  have kb_19 := hb.size
  go_big_op
  go_fit (rzmul_any ha hb' (by decide) (by decide))
  rintro e w_19 ⟨u5, rfl, g5, hb_19⟩
  replace ha := ha.below hb_19 (Nat.le_refl _)
  replace hb' := hb'.below hb_19 (Nat.le_refl _)
  replace hx := hx.below hb_19 (Nat.le_refl _)
  replace hp := hp.below hb_19 (Nat.le_refl _)
  replace hq := hq.below hb_19 (Nat.le_refl _)
  replace h5 := h5.below hb_19 (Nat.le_refl _)
  replace hb := hb.trans (hb_19.mono hb.size)
  clear hb_19
  refine hK _ _ rfl ⟨hp.facts.1, hp.facts.2.1, hq.facts.1, hq.facts.2.1⟩ ?_
  clear hK K
  replace g5 := g5.rd
  apply wpPl_call
  case hi => rfl
  case hw => kernel_rfl
  case h =>
  intro K hK
  have kb_20 := hb.size
  go_big_op
  go_fit (is_zz h5 (g5.zn L5.out) (by omega))
  rintro e w_20 ⟨rfl, hb_20⟩
  replace ha := ha.below hb_20 (Nat.le_refl _)
  replace hb' := hb'.below hb_20 (Nat.le_refl _)
  replace hx := hx.below hb_20 (Nat.le_refl _)
  replace hp := hp.below hb_20 (Nat.le_refl _)
  replace hq := hq.below hb_20 (Nat.le_refl _)
  replace h5 := h5.below hb_20 (Nat.le_refl _)
  replace g5 := g5.below hb_20 (Nat.le_refl _)
  replace hb := hb.trans (hb_20.mono hb.size)
  clear hb_20
  refine hK _ _ rfl ⟨hp.facts.1, hp.facts.2.1, hq.facts.1, hq.facts.2.1⟩ ?_
  clear hK K
  clear h5
  clear g5
  apply wpPl_ld
  case hi => rfl
  case h1 => intro w' hC K hK; obtain ⟨c0, c1, c2, c3⟩ := hC; (first | go_big_move | go_big_op); exact hK
  case hw => kernel_rfl
  case hv => kernel_rfl
  case hb => kernel_rfl
  case hp => kernel_rfl
  apply wpPl_ld
  case hi => rfl
  case h1 => intro w' hC K hK; obtain ⟨c0, c1, c2, c3⟩ := hC; (first | go_big_move | go_big_op); exact hK
  case hw => kernel_rfl
  case hv => kernel_rfl
  case hb => kernel_rfl
  case hp => kernel_rfl
  apply wpPl_ld
  case hi => rfl
  case h1 => intro w' hC K hK; obtain ⟨c0, c1, c2, c3⟩ := hC; (first | go_big_move | go_big_op); exact hK
  case hw => kernel_rfl
  case hv => kernel_rfl
  case hb => kernel_rfl
  case hp => kernel_rfl
  apply wpPl_ld
  case hi => rfl
  case h1 => intro w' hC K hK; obtain ⟨c0, c1, c2, c3⟩ := hC; (first | go_big_move | go_big_op); exact hK
  case hw => kernel_rfl
  case hv => kernel_rfl
  case hb => kernel_rfl
  case hp => kernel_rfl
  apply wpPl_ld
  case hi => rfl
  case h1 => intro w' hC K hK; obtain ⟨c0, c1, c2, c3⟩ := hC; (first | go_big_move | go_big_op); exact hK
  case hw => kernel_rfl
  case hv => kernel_rfl
  case hb => kernel_rfl
  case hp => kernel_rfl
  apply wpPl_call
  case hi => rfl
  case hw => kernel_rfl
  case h =>
  intro K hK
  have kb_21 := hb.size
  go_big_op
  go_fit (zbits_any ha (by decide))
  rintro e w_21 ⟨rfl, hb_21⟩
  replace ha := ha.below hb_21 (Nat.le_refl _)
  replace hb' := hb'.below hb_21 (Nat.le_refl _)
  replace hx := hx.below hb_21 (Nat.le_refl _)
  replace hp := hp.below hb_21 (Nat.le_refl _)
  replace hq := hq.below hb_21 (Nat.le_refl _)
  replace hb := hb.trans (hb_21.mono hb.size)
  clear hb_21
  refine hK _ _ rfl ⟨hp.facts.1, hp.facts.2.1, hq.facts.1, hq.facts.2.1⟩ ?_
  clear hK K
  rw [HS.out.2.2]
  apply wpPl_call
  case hi => rfl
  case hw => kernel_rfl
  case h =>
  intro K hK
  have kb_22 := hb.size
  go_big_op
  go_fit (rbits_z hx (by omega))
  rintro e w_22 ⟨rfl, hb_22⟩
  replace ha := ha.below hb_22 (Nat.le_refl _)
  replace hb' := hb'.below hb_22 (Nat.le_refl _)
  replace hx := hx.below hb_22 (Nat.le_refl _)
  replace hp := hp.below hb_22 (Nat.le_refl _)
  replace hq := hq.below hb_22 (Nat.le_refl _)
  replace hb := hb.trans (hb_22.mono hb.size)
  clear hb_22
  refine hK _ _ rfl ⟨hp.facts.1, hp.facts.2.1, hq.facts.1, hq.facts.2.1⟩ ?_
  clear hK K
  rw [HV.out, HS.out.2.2]
  apply wpPl_ld
  case hi => rfl
  case h1 => intro w' hC K hK; obtain ⟨c0, c1, c2, c3⟩ := hC; (first | go_big_move | go_big_op); exact hK
  case hw => kernel_rfl
  case hv => kernel_rfl
  case hb => kernel_rfl
  case hp => kernel_rfl
  apply wpPl_ld
  case hi => rfl
  case h1 => intro w' hC K hK; obtain ⟨c0, c1, c2, c3⟩ := hC; (first | go_big_move | go_big_op); exact hK
  case hw => kernel_rfl
  case hv => kernel_rfl
  case hb => kernel_rfl
  case hp => kernel_rfl
  apply wpPl_ld
  case hi => rfl
  case h1 => intro w' hC K hK; obtain ⟨c0, c1, c2, c3⟩ := hC; (first | go_big_move | go_big_op); exact hK
  case hw => kernel_rfl
  case hv => kernel_rfl
  case hb => kernel_rfl
  case hp => kernel_rfl
  apply wpPl_end
  go_wp2
  go_ret
  exact ⟨rfl, hb⟩

theorem walk_ZintSums (w : World) (na : Bool) (sa : Value) (xs : List Nat) (hx : Rd w sa xs) (hxl : xs.length ≤ 1048576) (nb : Bool) (sb : Value) (ys : List Nat) (hy : Rd w sb ys) (hyl : ys.length ≤ 1048576) (htab : Lib.TabIs Tryd.prog w p10 .u64 Lib.pow10Tab) :
    Calls Tryd.prog 5 #[.agg #[.bool na, sa], .agg #[.bool nb, sb]] w fun e w' => e = .returned (.bool true) ∧ Below w.heap.size w w' :=
  sums_walk ⟨na, sa, xs, rfl, hx, rfl, hxl⟩ ⟨nb, sb, ys, rfl, hy, rfl, hyl⟩ htab
end Go.Proofs.YtabmffenbkdgkaaDoor
