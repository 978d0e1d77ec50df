/- ZintRing: the law's walk. -/
import Derived.Test.YtabmffenbkdgkaaDoorRz
namespace Go.Proofs.YtabmffenbkdgkaaDoor
open Go.RowKit Dig

theorem zlen_mul {x y : Int} {l m : Nat} (hx : (dig x.natAbs).length ≤ l) (hy : (dig y.natAbs).length ≤ m) : (dig (x * y).natAbs).length ≤ l + m := by
  rw [Int.natAbs_mul]
  have h := zmul_dig_length (dig x.natAbs) (dig y.natAbs) (OK_dig _) (OK_dig _)
  rw [val_dig, val_dig] at h
  omega
theorem zcmp_eq {x y : Int} (h : x = y) : zcmp x y = 0 := by subst h; unfold zcmp; rw [if_neg (by omega), if_pos rfl]
theorem zcmp_swap (x y : Int) : zcmp x y = -zcmp y x := by
  unfold zcmp
  rcases Int.lt_trichotomy x y with h | h | h
  · rw [if_pos h, if_neg (by omega), if_neg (by omega)]
  · rw [if_neg (by omega), if_pos h, if_neg (by omega), if_pos h.symm]; rfl
  · rw [if_neg (by omega), if_neg (by omega), if_pos h]; rfl
theorem zcmp_bd (x y : Int) : -1 ≤ zcmp x y ∧ zcmp x y ≤ 1 := by
  unfold zcmp; split
  · omega
  · split <;> omega
theorem sign_bd (x : Int) : -1 ≤ x.sign ∧ x.sign ≤ 1 := by
  rcases Int.lt_trichotomy x 0 with h | h | h
  · rw [Int.sign_eq_neg_one_of_neg h]; omega
  · rw [h]; decide
  · rw [Int.sign_eq_one_of_pos h]; omega

set_option maxHeartbeats 4000000 in
set_option maxRecDepth 20000 in
theorem ring_walk {w : World} {va vb vc : Value} {x y z : Int} (ha : ZN w va x 1048576) (hb' : ZN w vb y 1048576) (hc : ZN w vc z 1048576) (htab : Lib.TabIs Tryd.prog w p10 .u64 Lib.pow10Tab) :
    Calls Tryd.prog 10 #[va, vb, vc] w fun e w' => e = .returned (.bool true) ∧ Below w.heap.size w w' := by
  have htabs := Lib.tabBelow_of_tabIs htab
  have La := ha.len
  have Lb := hb'.len
  have Lc := hc.len
  have L1 := hide (show (dig (y + z).natAbs).length ≤ 2097153 from Nat.le_trans (zlen_add Lb Lc) (by omega))
  have L2 := hide (show (dig (x * (y + z)).natAbs).length ≤ 4000000 from Nat.le_trans (zlen_mul La L1.out) (by omega))
  have L3 := hide (show (dig (x * y).natAbs).length ≤ 2097152 from Nat.le_trans (zlen_mul La Lb) (by omega))
  have L4 := hide (show (dig (x * z).natAbs).length ≤ 2097152 from Nat.le_trans (zlen_mul La Lc) (by omega))
  have L5 := hide (show (dig (x * y + x * z).natAbs).length ≤ 5000000 from Nat.le_trans (zlen_add L3.out L4.out) (by omega))
  have L6 := hide (show (dig (x + y).natAbs).length ≤ 2097153 from Nat.le_trans (zlen_add La Lb) (by omega))
  have L7 := hide (show (dig (-x).natAbs).length ≤ 1048576 by rw [Int.natAbs_neg]; exact La)
  have E1 := hide (show x + y - y = x by omega)
  have E2 := hide (show y + x = x + y by omega)
  have E3 := hide (Int.mul_comm y x)
  have E4 := hide (show zcmp (x * (y + z)) (x * y + x * z) = 0 from zcmp_eq (Int.mul_add x y z))
  have E5 := hide (Int.neg_neg x)
  obtain ⟨na, oa, ca, xs, rfl, hca, _, _, hxl⟩ := ha.open_
  obtain ⟨nb, ob, cb, ys, rfl, hcb, _, _, hyl⟩ := hb'.open_
  obtain ⟨nc, oc, cc, zs, rfl, hcc, _, _, hzl⟩ := hc.open_
  obtain ⟨D, hD⟩ : ∃ D, zcmp y x = D := ⟨_, rfl⟩
  obtain ⟨S, hS⟩ : ∃ S, x.sign = S := ⟨_, rfl⟩
  obtain ⟨T, hT⟩ : ∃ T, y.sign = T := ⟨_, rfl⟩
  have hD1 := (zcmp_bd y x).1
  have hD2 := (zcmp_bd y x).2
  rw [hD] at hD1 hD2
  have E6 := hide (And.intro hD ((zcmp_swap x y).trans (by rw [hD])))
  obtain ⟨U, hU⟩ : ∃ U, S * T = U := ⟨_, rfl⟩
  have hUw : IntKind.i64.wrap (S * T) = U := by
    have h1 := sign_bd (x * y)
    rw [Int.sign_mul, hS, hT, hU] at h1
    rw [hU, IntKind.wrap_i64]
    omega
  have E7 := hide (And.intro hS (And.intro hT (show (x * y).sign = U by rw [Int.sign_mul, hS, hT, hU])))
  clear hD hS hT hU La Lb Lc
  have q1 : (U == U) = true := by simp
  have q2 : (-D == -D) = true := by simp
  go_enter Tryd.func10, Tryd.ntmps10
  have hb := Below.refl w.heap.size w
  have hp := Bk.new w na (.slice oa xs.length ca)
  replace ha := ha.alloc (.cells #[.bool na, (.slice oa xs.length ca)] 24)
  replace hb' := hb'.alloc (.cells #[.bool na, (.slice oa xs.length ca)] 24)
  replace hc := hc.alloc (.cells #[.bool na, (.slice oa xs.length ca)] 24)
  replace hb := hb.alloc hb.size (.cells #[.bool na, (.slice oa xs.length ca)] 24)
  have hq := Bk.new (w.alloc (.cells #[.bool na, (.slice oa xs.length ca)] 24)) nb (.slice ob ys.length cb)
  simp only [Bk.size_alloc] at hq
  replace ha := ha.alloc (.cells #[.bool nb, (.slice ob ys.length cb)] 24)
  replace hb' := hb'.alloc (.cells #[.bool nb, (.slice ob ys.length cb)] 24)
  replace hc := hc.alloc (.cells #[.bool nb, (.slice ob ys.length cb)] 24)
  replace hp := hp.alloc (.cells #[.bool nb, (.slice ob ys.length cb)] 24)
  replace hb := hb.alloc hb.size (.cells #[.bool nb, (.slice ob ys.length cb)] 24)
  have hr := Bk.new ((w.alloc (.cells #[.bool na, (.slice oa xs.length ca)] 24)).alloc (.cells #[.bool nb, (.slice ob ys.length cb)] 24)) nc (.slice oc zs.length cc)
  simp only [Bk.size_alloc] at hr
  replace ha := ha.alloc (.cells #[.bool nc, (.slice oc zs.length cc)] 24)
  replace hb' := hb'.alloc (.cells #[.bool nc, (.slice oc zs.length cc)] 24)
  replace hc := hc.alloc (.cells #[.bool nc, (.slice oc zs.length cc)] 24)
  replace hp := hp.alloc (.cells #[.bool nc, (.slice oc zs.length cc)] 24)
  replace hq := hq.alloc (.cells #[.bool nc, (.slice oc zs.length cc)] 24)
  replace hb := hb.alloc hb.size (.cells #[.bool nc, (.slice oc zs.length cc)] 24)
  replace ha := ha.drew
  replace hb' := hb'.drew
  replace hc := hc.drew
  replace hp := hp.drew
  replace hq := hq.drew
  replace hr := hr.drew
  replace hb := hb.drew
  have lt_hp := hp.lt
  have lt_hq := hq.lt
  have lt_hr := hr.lt
  have kb0 := hb.size
  go_wp2_with fail
  refine wp_region_fl [(0, false), (1, false), (2, false), (3, true), (4, true)] [6] [5] (fun _ => obZ) (fun w' => w'.cell? ⟨w.heap.size, 0, none⟩ = some (.bool na) ∧ w'.cell? ⟨w.heap.size, 1, none⟩ = some (.slice oa xs.length ca) ∧ w'.cell? ⟨w.heap.size + 1, 0, none⟩ = some (.bool nb) ∧ w'.cell? ⟨w.heap.size + 1, 1, none⟩ = some (.slice ob ys.length cb) ∧ w'.cell? ⟨w.heap.size + 1 + 1, 0, none⟩ = some (.bool nc) ∧ w'.cell? ⟨w.heap.size + 1 + 1, 1, none⟩ = some (.slice oc zs.length cc)) (by kernel_rfl) (by kernel_rfl) (by kernel_rfl) (by kernel_rfl) (by kernel_rfl) (by kernel_rfl) (by kernel_rfl) (by decide) (by intro j hj; simp only [List.mem_cons, List.not_mem_nil, or_false] at hj; rcases hj with rfl; all_goals exact ⟨_, rfl, rfl, fun ρ w => run_alloc_z w⟩) (by intro w' o hC; obtain ⟨c0, c1, c2, c3, c4, c5⟩ := hC; exact ⟨cell_alloc c0 o, cell_alloc c1 o, cell_alloc c2 o, cell_alloc c3 o, cell_alloc c4 o, cell_alloc c5 o⟩) ⟨hp.facts.1, hp.facts.2.1, hq.facts.1, hq.facts.2.1, hr.facts.1, hr.facts.2.1⟩ ?_
  apply wpFl_ld
  case hi => rfl
  case h1 => intro w' hC K hK; obtain ⟨c0, c1, c2, c3, c4, c5⟩ := hC; (first | go_big_move | go_big_op); exact hK
  case hw => kernel_rfl
  case hv => kernel_rfl
  case hb => kernel_rfl
  case hp => kernel_rfl
  apply wpFl_ld
  case hi => rfl
  case h1 => intro w' hC K hK; obtain ⟨c0, c1, c2, c3, c4, c5⟩ := hC; (first | go_big_move | go_big_op); exact hK
  case hw => kernel_rfl
  case hv => kernel_rfl
  case hb => kernel_rfl
  case hp => kernel_rfl
  apply wpFl_ld
  case hi => rfl
  case h1 => intro w' hC K hK; obtain ⟨c0, c1, c2, c3, c4, c5⟩ := hC; (first | go_big_move | go_big_op); exact hK
  case hw => kernel_rfl
  case hv => kernel_rfl
  case hb => kernel_rfl
  case hp => kernel_rfl
  apply wpFl_call
  case hi => rfl
  case hw => kernel_rfl
  case h =>
  intro w_1 hn hC
  clear hC
  replace ha := ha.below hn (Nat.le_refl _)
  replace hb' := hb'.below hn (Nat.le_refl _)
  replace hc := hc.below hn (Nat.le_refl _)
  replace hp := hp.below hn (Nat.le_refl _)
  replace hq := hq.below hn (Nat.le_refl _)
  replace hr := hr.below hn (Nat.le_refl _)
  replace hb := hb.trans (hn.mono hb.size)
  clear hn
  intro K hK
  have kb_2 := hb.size
  go_big_op
  go_fit (zadd_any hb' hc (by decide) (by decide))
  rintro e w_2 ⟨v1, rfl, h1, hb_2⟩
  replace ha := ha.below hb_2 (Nat.le_refl _)
  replace hb' := hb'.below hb_2 (Nat.le_refl _)
  replace hc := hc.below hb_2 (Nat.le_refl _)
  replace hp := hp.below hb_2 (Nat.le_refl _)
  replace hq := hq.below hb_2 (Nat.le_refl _)
  replace hr := hr.below hb_2 (Nat.le_refl _)
  replace hb := hb.trans (hb_2.mono hb.size)
  refine hK _ _ rfl hb_2 ⟨hp.facts.1, hp.facts.2.1, hq.facts.1, hq.facts.2.1, hr.facts.1, hr.facts.2.1⟩ ?_
  clear hK K hb_2
  replace h1 := h1.rd
  apply wpFl_call
  case hi => rfl
  case hw => kernel_rfl
  case h =>
  intro w_3 hn hC
  clear hC
  replace ha := ha.below hn (Nat.le_refl _)
  replace hb' := hb'.below hn (Nat.le_refl _)
  replace hc := hc.below hn (Nat.le_refl _)
  replace hp := hp.below hn (Nat.le_refl _)
  replace hq := hq.below hn (Nat.le_refl _)
  replace hr := hr.below hn (Nat.le_refl _)
  replace h1 := h1.below hn (Nat.le_refl _)
  replace hb := hb.trans (hn.mono hb.size)
  clear hn
  intro K hK
  have kb_4 := hb.size
  go_big_op
  go_fit (zmul_any ha (h1.zn L1.out) (by decide) (by decide))
  rintro e w_4 ⟨v2, rfl, h2, hb_4⟩
  replace ha := ha.below hb_4 (Nat.le_refl _)
  replace hb' := hb'.below hb_4 (Nat.le_refl _)
  replace hc := hc.below hb_4 (Nat.le_refl _)
  replace hp := hp.below hb_4 (Nat.le_refl _)
  replace hq := hq.below hb_4 (Nat.le_refl _)
  replace hr := hr.below hb_4 (Nat.le_refl _)
  replace h1 := h1.below hb_4 (Nat.le_refl _)
  replace hb := hb.trans (hb_4.mono hb.size)
  refine hK _ _ rfl hb_4 ⟨hp.facts.1, hp.facts.2.1, hq.facts.1, hq.facts.2.1, hr.facts.1, hr.facts.2.1⟩ ?_
  clear hK K hb_4
  replace h2 := h2.rd
  clear h1
  apply wpFl_end
  case ha => intro pt; simp only [putF, nthO, Act.put, ptr, List.setIfInBounds_toArray, List.set_cons_succ, List.set_cons_zero]; rfl
  case h =>
  intro w_5 pt hn hC hF hD
  clear hC
  replace ha := ha.below hn (Nat.le_refl _)
  replace hb' := hb'.below hn (Nat.le_refl _)
  replace hc := hc.below hn (Nat.le_refl _)
  replace hp := hp.below hn (Nat.le_refl _)
  replace hq := hq.below hn (Nat.le_refl _)
  replace hr := hr.below hn (Nat.le_refl _)
  replace h2 := h2.below hn (Nat.le_refl _)
  replace hb := hb.trans (hn.mono hb.size)
  clear hn
  obtain ⟨kB_hl, hl⟩ := hF 5 (by decide)
  replace hl := obZ_bk hl
  clear hF hD
  generalize pt 5 = p_hl at *
  clear pt
  have kb_hl := Nat.le_trans kb0 kB_hl
  have ne_hp_hl : w.heap.size ≠ p_hl := Nat.ne_of_lt (Nat.lt_of_lt_of_le lt_hp kB_hl)
  have ne_hq_hl : w.heap.size + 1 ≠ p_hl := Nat.ne_of_lt (Nat.lt_of_lt_of_le lt_hq kB_hl)
  have ne_hr_hl : w.heap.size + 1 + 1 ≠ p_hl := Nat.ne_of_lt (Nat.lt_of_lt_of_le lt_hr kB_hl)
  clear kB_hl
  clear lt_hp
  clear lt_hq
  clear lt_hr
  clear kb0
  obtain ⟨sb_hl, o_hl, n_hl, c_hl, rfl⟩ := h2.open2
  apply wpTail_call
  case hi => rfl
  case hw => kernel_rfl
  case h =>
  intro K hK
  have c9 := hl.facts
  go_big_op
  have ho := Bk.only w_5 (p_hl) sb_hl (.slice o_hl n_hl c_hl)
  have hx := hl.bx
  replace ha := ha.frame hx ho
  replace hb' := hb'.frame hx ho
  replace hc := hc.frame hx ho
  replace hp := hp.frame ho (by omega)
  replace hq := hq.frame ho (by omega)
  replace hr := hr.frame ho (by omega)
  replace h2 := h2.frame hx ho
  replace hl := hl.store sb_hl (.slice o_hl n_hl c_hl)
  replace hb := (hb.setCell (p := ⟨p_hl, 0, none⟩) (by first | omega | (simp; done)) (.bool sb_hl)).setCell (p := ⟨p_hl, 1, none⟩) (by first | omega | (simp; done)) (.slice o_hl n_hl c_hl)
  refine hK _ _ rfl ?_
  clear hK K hx ho c9
  apply wpTail_end
  replace ha := ha.drew
  replace hb' := hb'.drew
  replace hc := hc.drew
  replace hp := hp.drew
  replace hq := hq.drew
  replace hr := hr.drew
  replace h2 := h2.drew
  replace hl := hl.drew
  replace hb := hb.drew
  have lt_hp := hp.lt
  have lt_hq := hq.lt
  have lt_hr := hr.lt
  have lt_hl := hl.lt
  have kb0 := hb.size
  go_wp2_with fail
  refine wp_region_fl [(0, false), (1, false), (3, false), (4, false), (2, true), (5, true), (6, true)] [8] [7] (fun _ => obZ) (fun w' => w'.cell? ⟨w.heap.size, 0, none⟩ = some (.bool na) ∧ w'.cell? ⟨w.heap.size, 1, none⟩ = some (.slice oa xs.length ca) ∧ w'.cell? ⟨w.heap.size + 1, 0, none⟩ = some (.bool nb) ∧ w'.cell? ⟨w.heap.size + 1, 1, none⟩ = some (.slice ob ys.length cb) ∧ w'.cell? ⟨w.heap.size + 1 + 1, 0, none⟩ = some (.bool nc) ∧ w'.cell? ⟨w.heap.size + 1 + 1, 1, none⟩ = some (.slice oc zs.length cc) ∧ w'.cell? ⟨p_hl, 0, none⟩ = some (.bool sb_hl) ∧ w'.cell? ⟨p_hl, 1, none⟩ = some (.slice o_hl n_hl c_hl)) (by kernel_rfl) (by kernel_rfl) (by kernel_rfl) (by kernel_rfl) (by kernel_rfl) (by kernel_rfl) (by kernel_rfl) (by decide) (by intro j hj; simp only [List.mem_cons, List.not_mem_nil, or_false] at hj; rcases hj with rfl; all_goals exact ⟨_, rfl, rfl, fun ρ w => run_alloc_z w⟩) (by intro w' o hC; obtain ⟨c0, c1, c2, c3, c4, c5, c6, c7⟩ := hC; exact ⟨cell_alloc c0 o, cell_alloc c1 o, cell_alloc c2 o, cell_alloc c3 o, cell_alloc c4 o, cell_alloc c5 o, cell_alloc c6 o, cell_alloc c7 o⟩) ⟨hp.facts.1, hp.facts.2.1, hq.facts.1, hq.facts.2.1, hr.facts.1, hr.facts.2.1, hl.facts.1, hl.facts.2.1⟩ ?_
  apply wpFl_ld
  case hi => rfl
  case h1 => intro w' hC K hK; obtain ⟨c0, c1, c2, c3, c4, c5, c6, c7⟩ := hC; (first | go_big_move | go_big_op); exact hK
  case hw => kernel_rfl
  case hv => kernel_rfl
  case hb => kernel_rfl
  case hp => kernel_rfl
  apply wpFl_ld
  case hi => rfl
  case h1 => intro w' hC K hK; obtain ⟨c0, c1, c2, c3, c4, c5, c6, c7⟩ := hC; (first | go_big_move | go_big_op); exact hK
  case hw => kernel_rfl
  case hv => kernel_rfl
  case hb => kernel_rfl
  case hp => kernel_rfl
  apply wpFl_ld
  case hi => rfl
  case h1 => intro w' hC K hK; obtain ⟨c0, c1, c2, c3, c4, c5, c6, c7⟩ := hC; (first | go_big_move | go_big_op); exact hK
  case hw => kernel_rfl
  case hv => kernel_rfl
  case hb => kernel_rfl
  case hp => kernel_rfl
  apply wpFl_ld
  case hi => rfl
  case h1 => intro w' hC K hK; obtain ⟨c0, c1, c2, c3, c4, c5, c6, c7⟩ := hC; (first | go_big_move | go_big_op); exact hK
  case hw => kernel_rfl
  case hv => kernel_rfl
  case hb => kernel_rfl
  case hp => kernel_rfl
  apply wpFl_call
  case hi => rfl
  case hw => kernel_rfl
  case h =>
  intro w_6 hn hC
  clear hC
  replace ha := ha.below hn (Nat.le_refl _)
  replace hb' := hb'.below hn (Nat.le_refl _)
  replace hc := hc.below hn (Nat.le_refl _)
  replace hp := hp.below hn (Nat.le_refl _)
  replace hq := hq.below hn (Nat.le_refl _)
  replace hr := hr.below hn (Nat.le_refl _)
  replace h2 := h2.below hn (Nat.le_refl _)
  replace hl := hl.below hn (Nat.le_refl _)
  replace hb := hb.trans (hn.mono hb.size)
  clear hn
  intro K hK
  have kb_7 := hb.size
  go_big_op
  go_fit (zmul_any ha hb' (by decide) (by decide))
  rintro e w_7 ⟨v3, rfl, h3, hb_7⟩
  replace ha := ha.below hb_7 (Nat.le_refl _)
  replace hb' := hb'.below hb_7 (Nat.le_refl _)
  replace hc := hc.below hb_7 (Nat.le_refl _)
  replace hp := hp.below hb_7 (Nat.le_refl _)
  replace hq := hq.below hb_7 (Nat.le_refl _)
  replace hr := hr.below hb_7 (Nat.le_refl _)
  replace h2 := h2.below hb_7 (Nat.le_refl _)
  replace hl := hl.below hb_7 (Nat.le_refl _)
  replace hb := hb.trans (hb_7.mono hb.size)
  refine hK _ _ rfl hb_7 ⟨hp.facts.1, hp.facts.2.1, hq.facts.1, hq.facts.2.1, hr.facts.1, hr.facts.2.1, hl.facts.1, hl.facts.2.1⟩ ?_
  clear hK K hb_7
  replace h3 := h3.rd
  apply wpFl_call
  case hi => rfl
  case hw => kernel_rfl
  case h =>
  intro w_8 hn hC
  clear hC
  replace ha := ha.below hn (Nat.le_refl _)
  replace hb' := hb'.below hn (Nat.le_refl _)
  replace hc := hc.below hn (Nat.le_refl _)
  replace hp := hp.below hn (Nat.le_refl _)
  replace hq := hq.below hn (Nat.le_refl _)
  replace hr := hr.below hn (Nat.le_refl _)
  replace h2 := h2.below hn (Nat.le_refl _)
  replace hl := hl.below hn (Nat.le_refl _)
  replace h3 := h3.below hn (Nat.le_refl _)
  replace hb := hb.trans (hn.mono hb.size)
  clear hn
  intro K hK
  have kb_9 := hb.size
  go_big_op
  go_fit (zmul_any ha hc (by decide) (by decide))
  rintro e w_9 ⟨v4, rfl, h4, hb_9⟩
  replace ha := ha.below hb_9 (Nat.le_refl _)
  replace hb' := hb'.below hb_9 (Nat.le_refl _)
  replace hc := hc.below hb_9 (Nat.le_refl _)
  replace hp := hp.below hb_9 (Nat.le_refl _)
  replace hq := hq.below hb_9 (Nat.le_refl _)
  replace hr := hr.below hb_9 (Nat.le_refl _)
  replace h2 := h2.below hb_9 (Nat.le_refl _)
  replace hl := hl.below hb_9 (Nat.le_refl _)
  replace h3 := h3.below hb_9 (Nat.le_refl _)
  replace hb := hb.trans (hb_9.mono hb.size)
  refine hK _ _ rfl hb_9 ⟨hp.facts.1, hp.facts.2.1, hq.facts.1, hq.facts.2.1, hr.facts.1, hr.facts.2.1, hl.facts.1, hl.facts.2.1⟩ ?_
  clear hK K hb_9
  replace h4 := h4.rd
  apply wpFl_call
  case hi => rfl
  case hw => kernel_rfl
  case h =>
  intro w_10 hn hC
  clear hC
  replace ha := ha.below hn (Nat.le_refl _)
  replace hb' := hb'.below hn (Nat.le_refl _)
  replace hc := hc.below hn (Nat.le_refl _)
  replace hp := hp.below hn (Nat.le_refl _)
  replace hq := hq.below hn (Nat.le_refl _)
  replace hr := hr.below hn (Nat.le_refl _)
  replace h2 := h2.below hn (Nat.le_refl _)
  replace hl := hl.below hn (Nat.le_refl _)
  replace h3 := h3.below hn (Nat.le_refl _)
  replace h4 := h4.below hn (Nat.le_refl _)
  replace hb := hb.trans (hn.mono hb.size)
  clear hn
  intro K hK
  have kb_11 := hb.size
  go_big_op
  go_fit (zadd_any (h3.zn L3.out) (h4.zn L4.out) (by decide) (by decide))
  rintro e w_11 ⟨v5, rfl, h5, hb_11⟩
  replace ha := ha.below hb_11 (Nat.le_refl _)
  replace hb' := hb'.below hb_11 (Nat.le_refl _)
  replace hc := hc.below hb_11 (Nat.le_refl _)
  replace hp := hp.below hb_11 (Nat.le_refl _)
  replace hq := hq.below hb_11 (Nat.le_refl _)
  replace hr := hr.below hb_11 (Nat.le_refl _)
  replace h2 := h2.below hb_11 (Nat.le_refl _)
  replace hl := hl.below hb_11 (Nat.le_refl _)
  replace h3 := h3.below hb_11 (Nat.le_refl _)
  replace h4 := h4.below hb_11 (Nat.le_refl _)
  replace hb := hb.trans (hb_11.mono hb.size)
  refine hK _ _ rfl hb_11 ⟨hp.facts.1, hp.facts.2.1, hq.facts.1, hq.facts.2.1, hr.facts.1, hr.facts.2.1, hl.facts.1, hl.facts.2.1⟩ ?_
  clear hK K hb_11
  replace h5 := h5.rd
  clear h3
  clear h4
  apply wpFl_end
  case ha => intro pt; simp only [putF, nthO, Act.put, ptr, List.setIfInBounds_toArray, List.set_cons_succ, List.set_cons_zero]; rfl
  case h =>
  intro w_12 pt hn hC hF hD
  clear hC
  replace ha := ha.below hn (Nat.le_refl _)
  replace hb' := hb'.below hn (Nat.le_refl _)
  replace hc := hc.below hn (Nat.le_refl _)
  replace hp := hp.below hn (Nat.le_refl _)
  replace hq := hq.below hn (Nat.le_refl _)
  replace hr := hr.below hn (Nat.le_refl _)
  replace h2 := h2.below hn (Nat.le_refl _)
  replace hl := hl.below hn (Nat.le_refl _)
  replace h5 := h5.below hn (Nat.le_refl _)
  replace hb := hb.trans (hn.mono hb.size)
  clear hn
  obtain ⟨kB_hm, hm⟩ := hF 7 (by decide)
  replace hm := obZ_bk hm
  clear hF hD
  generalize pt 7 = p_hm at *
  clear pt
  have kb_hm := Nat.le_trans kb0 kB_hm
  have ne_hp_hm : w.heap.size ≠ p_hm := Nat.ne_of_lt (Nat.lt_of_lt_of_le lt_hp kB_hm)
  have ne_hq_hm : w.heap.size + 1 ≠ p_hm := Nat.ne_of_lt (Nat.lt_of_lt_of_le lt_hq kB_hm)
  have ne_hr_hm : w.heap.size + 1 + 1 ≠ p_hm := Nat.ne_of_lt (Nat.lt_of_lt_of_le lt_hr kB_hm)
  have ne_hl_hm : p_hl ≠ p_hm := Nat.ne_of_lt (Nat.lt_of_lt_of_le lt_hl kB_hm)
  clear kB_hm
  clear lt_hp
  clear lt_hq
  clear lt_hr
  clear lt_hl
  clear kb0
  obtain ⟨sb_hm, o_hm, n_hm, c_hm, rfl⟩ := h5.open2
  apply wpTail_call
  case hi => rfl
  case hw => kernel_rfl
  case h =>
  intro K hK
  have c9 := hm.facts
  go_big_op
  have ho := Bk.only w_12 (p_hm) sb_hm (.slice o_hm n_hm c_hm)
  have hx := hm.bx
  replace ha := ha.frame hx ho
  replace hb' := hb'.frame hx ho
  replace hc := hc.frame hx ho
  replace hp := hp.frame ho (by omega)
  replace hq := hq.frame ho (by omega)
  replace hr := hr.frame ho (by omega)
  replace h2 := h2.frame hx ho
  replace hl := hl.frame ho (by omega)
  replace h5 := h5.frame hx ho
  replace hm := hm.store sb_hm (.slice o_hm n_hm c_hm)
  replace hb := (hb.setCell (p := ⟨p_hm, 0, none⟩) (by first | omega | (simp; done)) (.bool sb_hm)).setCell (p := ⟨p_hm, 1, none⟩) (by first | omega | (simp; done)) (.slice o_hm n_hm c_hm)
  refine hK _ _ rfl ?_
  clear hK K hx ho c9
  apply wpTail_end
  replace ha := ha.drew
  replace hb' := hb'.drew
  replace hc := hc.drew
  replace hp := hp.drew
  replace hq := hq.drew
  replace hr := hr.drew
  replace h2 := h2.drew
  replace hl := hl.drew
  replace h5 := h5.drew
  replace hm := hm.drew
  replace hb := hb.drew
  have lt_hp := hp.lt
  have lt_hq := hq.lt
  have lt_hr := hr.lt
  have lt_hl := hl.lt
  have lt_hm := hm.lt
  have kb0 := hb.size
  go_wp2_with fail
  refine wp_region_fl [(0, false), (1, false), (3, false), (2, true), (4, true)] [6] [5] (fun _ => obZ) (fun w' => w'.cell? ⟨w.heap.size, 0, none⟩ = some (.bool na) ∧ w'.cell? ⟨w.heap.size, 1, none⟩ = some (.slice oa xs.length ca) ∧ w'.cell? ⟨w.heap.size + 1, 0, none⟩ = some (.bool nb) ∧ w'.cell? ⟨w.heap.size + 1, 1, none⟩ = some (.slice ob ys.length cb) ∧ w'.cell? ⟨w.heap.size + 1 + 1, 0, none⟩ = some (.bool nc) ∧ w'.cell? ⟨w.heap.size + 1 + 1, 1, none⟩ = some (.slice oc zs.length cc) ∧ w'.cell? ⟨p_hl, 0, none⟩ = some (.bool sb_hl) ∧ w'.cell? ⟨p_hl, 1, none⟩ = some (.slice o_hl n_hl c_hl) ∧ w'.cell? ⟨p_hm, 0, none⟩ = some (.bool sb_hm) ∧ w'.cell? ⟨p_hm, 1, none⟩ = some (.slice o_hm n_hm c_hm)) (by kernel_rfl) (by kernel_rfl) (by kernel_rfl) (by kernel_rfl) (by kernel_rfl) (by kernel_rfl) (by kernel_rfl) (by decide) (by intro j hj; simp only [List.mem_cons, List.not_mem_nil, or_false] at hj; rcases hj with rfl; all_goals exact ⟨_, rfl, rfl, fun ρ w => run_alloc_z w⟩) (by intro w' o hC; obtain ⟨c0, c1, c2, c3, c4, c5, c6, c7, c8, c9⟩ := hC; exact ⟨cell_alloc c0 o, cell_alloc c1 o, cell_alloc c2 o, cell_alloc c3 o, cell_alloc c4 o, cell_alloc c5 o, cell_alloc c6 o, cell_alloc c7 o, cell_alloc c8 o, cell_alloc c9 o⟩) ⟨hp.facts.1, hp.facts.2.1, hq.facts.1, hq.facts.2.1, hr.facts.1, hr.facts.2.1, hl.facts.1, hl.facts.2.1, hm.facts.1, hm.facts.2.1⟩ ?_
  apply wpFl_ld
  case hi => rfl
  case h1 => intro w' hC K hK; obtain ⟨c0, c1, c2, c3, c4, c5, c6, c7, c8, c9⟩ := hC; (first | go_big_move | go_big_op); exact hK
  case hw => kernel_rfl
  case hv => kernel_rfl
  case hb => kernel_rfl
  case hp => kernel_rfl
  apply wpFl_ld
  case hi => rfl
  case h1 => intro w' hC K hK; obtain ⟨c0, c1, c2, c3, c4, c5, c6, c7, c8, c9⟩ := hC; (first | go_big_move | go_big_op); exact hK
  case hw => kernel_rfl
  case hv => kernel_rfl
  case hb => kernel_rfl
  case hp => kernel_rfl
  apply wpFl_ld
  case hi => rfl
  case h1 => intro w' hC K hK; obtain ⟨c0, c1, c2, c3, c4, c5, c6, c7, c8, c9⟩ := hC; (first | go_big_move | go_big_op); exact hK
  case hw => kernel_rfl
  case hv => kernel_rfl
  case hb => kernel_rfl
  case hp => kernel_rfl
  apply wpFl_call
  case hi => rfl
  case hw => kernel_rfl
  case h =>
  intro w_13 hn hC
  clear hC
  replace ha := ha.below hn (Nat.le_refl _)
  replace hb' := hb'.below hn (Nat.le_refl _)
  replace hc := hc.below hn (Nat.le_refl _)
  replace hp := hp.below hn (Nat.le_refl _)
  replace hq := hq.below hn (Nat.le_refl _)
  replace hr := hr.below hn (Nat.le_refl _)
  replace h2 := h2.below hn (Nat.le_refl _)
  replace hl := hl.below hn (Nat.le_refl _)
  replace h5 := h5.below hn (Nat.le_refl _)
  replace hm := hm.below hn (Nat.le_refl _)
  replace hb := hb.trans (hn.mono hb.size)
  clear hn
  intro K hK
  have kb_14 := hb.size
  go_big_op
  go_fit (zadd_any ha hb' (by decide) (by decide))
  rintro e w_14 ⟨v6, rfl, h6, hb_14⟩
  replace ha := ha.below hb_14 (Nat.le_refl _)
  replace hb' := hb'.below hb_14 (Nat.le_refl _)
  replace hc := hc.below hb_14 (Nat.le_refl _)
  replace hp := hp.below hb_14 (Nat.le_refl _)
  replace hq := hq.below hb_14 (Nat.le_refl _)
  replace hr := hr.below hb_14 (Nat.le_refl _)
  replace h2 := h2.below hb_14 (Nat.le_refl _)
  replace hl := hl.below hb_14 (Nat.le_refl _)
  replace h5 := h5.below hb_14 (Nat.le_refl _)
  replace hm := hm.below hb_14 (Nat.le_refl _)
  replace hb := hb.trans (hb_14.mono hb.size)
  refine hK _ _ rfl hb_14 ⟨hp.facts.1, hp.facts.2.1, hq.facts.1, hq.facts.2.1, hr.facts.1, hr.facts.2.1, hl.facts.1, hl.facts.2.1, hm.facts.1, hm.facts.2.1⟩ ?_
  clear hK K hb_14
  replace h6 := h6.rd
  apply wpFl_call
  case hi => rfl
  case hw => kernel_rfl
  case h =>
  intro w_15 hn hC
  clear hC
  replace ha := ha.below hn (Nat.le_refl _)
  replace hb' := hb'.below hn (Nat.le_refl _)
  replace hc := hc.below hn (Nat.le_refl _)
  replace hp := hp.below hn (Nat.le_refl _)
  replace hq := hq.below hn (Nat.le_refl _)
  replace hr := hr.below hn (Nat.le_refl _)
  replace h2 := h2.below hn (Nat.le_refl _)
  replace hl := hl.below hn (Nat.le_refl _)
  replace h5 := h5.below hn (Nat.le_refl _)
  replace hm := hm.below hn (Nat.le_refl _)
  replace h6 := h6.below hn (Nat.le_refl _)
  replace hb := hb.trans (hn.mono hb.size)
  clear hn
  intro K hK
  have kb_16 := hb.size
  go_big_op
  go_fit (zsub_any (h6.zn L6.out) hb' (by decide) (by decide))
  rintro e w_16 ⟨v7, rfl, h7, hb_16⟩
  replace ha := ha.below hb_16 (Nat.le_refl _)
  replace hb' := hb'.below hb_16 (Nat.le_refl _)
  replace hc := hc.below hb_16 (Nat.le_refl _)
  replace hp := hp.below hb_16 (Nat.le_refl _)
  replace hq := hq.below hb_16 (Nat.le_refl _)
  replace hr := hr.below hb_16 (Nat.le_refl _)
  replace h2 := h2.below hb_16 (Nat.le_refl _)
  replace hl := hl.below hb_16 (Nat.le_refl _)
  replace h5 := h5.below hb_16 (Nat.le_refl _)
  replace hm := hm.below hb_16 (Nat.le_refl _)
  replace h6 := h6.below hb_16 (Nat.le_refl _)
  replace hb := hb.trans (hb_16.mono hb.size)
  refine hK _ _ rfl hb_16 ⟨hp.facts.1, hp.facts.2.1, hq.facts.1, hq.facts.2.1, hr.facts.1, hr.facts.2.1, hl.facts.1, hl.facts.2.1, hm.facts.1, hm.facts.2.1⟩ ?_
  clear hK K hb_16
  rw [E1.out] at h7
  replace h7 := h7.rd
  clear h6
  apply wpFl_end
  case ha => intro pt; simp only [putF, nthO, Act.put, ptr, List.setIfInBounds_toArray, List.set_cons_succ, List.set_cons_zero]; rfl
  case h =>
  intro w_17 pt hn hC hF hD
  clear hC
  replace ha := ha.below hn (Nat.le_refl _)
  replace hb' := hb'.below hn (Nat.le_refl _)
  replace hc := hc.below hn (Nat.le_refl _)
  replace hp := hp.below hn (Nat.le_refl _)
  replace hq := hq.below hn (Nat.le_refl _)
  replace hr := hr.below hn (Nat.le_refl _)
  replace h2 := h2.below hn (Nat.le_refl _)
  replace hl := hl.below hn (Nat.le_refl _)
  replace h5 := h5.below hn (Nat.le_refl _)
  replace hm := hm.below hn (Nat.le_refl _)
  replace h7 := h7.below hn (Nat.le_refl _)
  replace hb := hb.trans (hn.mono hb.size)
  clear hn
  obtain ⟨kB_hs, hs⟩ := hF 5 (by decide)
  replace hs := obZ_bk hs
  clear hF hD
  generalize pt 5 = p_hs at *
  clear pt
  have kb_hs := Nat.le_trans kb0 kB_hs
  have ne_hp_hs : w.heap.size ≠ p_hs := Nat.ne_of_lt (Nat.lt_of_lt_of_le lt_hp kB_hs)
  have ne_hq_hs : w.heap.size + 1 ≠ p_hs := Nat.ne_of_lt (Nat.lt_of_lt_of_le lt_hq kB_hs)
  have ne_hr_hs : w.heap.size + 1 + 1 ≠ p_hs := Nat.ne_of_lt (Nat.lt_of_lt_of_le lt_hr kB_hs)
  have ne_hl_hs : p_hl ≠ p_hs := Nat.ne_of_lt (Nat.lt_of_lt_of_le lt_hl kB_hs)
  have ne_hm_hs : p_hm ≠ p_hs := Nat.ne_of_lt (Nat.lt_of_lt_of_le lt_hm kB_hs)
  clear kB_hs
  clear lt_hp
  clear lt_hq
  clear lt_hr
  clear lt_hl
  clear lt_hm
  clear kb0
  obtain ⟨sb_hs, o_hs, n_hs, c_hs, rfl⟩ := h7.open2
  apply wpTail_call
  case hi => rfl
  case hw => kernel_rfl
  case h =>
  intro K hK
  have c9 := hs.facts
  go_big_op
  have ho := Bk.only w_17 (p_hs) sb_hs (.slice o_hs n_hs c_hs)
  have hx := hs.bx
  replace ha := ha.frame hx ho
  replace hb' := hb'.frame hx ho
  replace hc := hc.frame hx ho
  replace hp := hp.frame ho (by omega)
  replace hq := hq.frame ho (by omega)
  replace hr := hr.frame ho (by omega)
  replace h2 := h2.frame hx ho
  replace hl := hl.frame ho (by omega)
  replace h5 := h5.frame hx ho
  replace hm := hm.frame ho (by omega)
  replace h7 := h7.frame hx ho
  replace hs := hs.store sb_hs (.slice o_hs n_hs c_hs)
  replace hb := (hb.setCell (p := ⟨p_hs, 0, none⟩) (by first | omega | (simp; done)) (.bool sb_hs)).setCell (p := ⟨p_hs, 1, none⟩) (by first | omega | (simp; done)) (.slice o_hs n_hs c_hs)
  refine hK _ _ rfl ?_
  clear hK K hx ho c9
  apply wpTail_end
  replace ha := ha.drew
  replace hb' := hb'.drew
  replace hc := hc.drew
  replace hp := hp.drew
  replace hq := hq.drew
  replace hr := hr.drew
  replace h2 := h2.drew
  replace hl := hl.drew
  replace h5 := h5.drew
  replace hm := hm.drew
  replace h7 := h7.drew
  replace hs := hs.drew
  replace hb := hb.drew
  go_wp2_with fail
  refine wp_region_pl [(0, true), (1, false), (2, false), (3, false), (4, true), (5, false), (6, false), (7, false), (8, false), (9, false), (10, true), (11, false), (12, false), (13, false), (14, false), (16, false), (17, false), (15, true), (18, true), (19, true), (20, false), (21, false), (22, false), (23, false), (25, false), (26, false), (24, true), (27, true), (28, true), (29, false), (30, false), (31, false), (34, false), (32, true), (33, true), (35, true), (36, false), (37, false), (38, false), (39, false), (42, false), (44, false), (40, true), (41, true), (43, true), (45, true), (46, false), (47, false), (48, false), (49, false), (50, false), (51, false), (53, false), (54, false), (52, true), (55, true), (56, false), (57, false), (58, false), (59, false)] (fun w' => w'.cell? ⟨w.heap.size, 0, none⟩ = some (.bool na) ∧ w'.cell? ⟨w.heap.size, 1, none⟩ = some (.slice oa xs.length ca) ∧ w'.cell? ⟨w.heap.size + 1, 0, none⟩ = some (.bool nb) ∧ w'.cell? ⟨w.heap.size + 1, 1, none⟩ = some (.slice ob ys.length cb) ∧ w'.cell? ⟨w.heap.size + 1 + 1, 0, none⟩ = some (.bool nc) ∧ w'.cell? ⟨w.heap.size + 1 + 1, 1, none⟩ = some (.slice oc zs.length cc) ∧ w'.cell? ⟨p_hl, 0, none⟩ = some (.bool sb_hl) ∧ w'.cell? ⟨p_hl, 1, none⟩ = some (.slice o_hl n_hl c_hl) ∧ w'.cell? ⟨p_hm, 0, none⟩ = some (.bool sb_hm) ∧ w'.cell? ⟨p_hm, 1, none⟩ = some (.slice o_hm n_hm c_hm) ∧ w'.cell? ⟨p_hs, 0, none⟩ = some (.bool sb_hs) ∧ w'.cell? ⟨p_hs, 1, none⟩ = some (.slice o_hs n_hs c_hs)) (by kernel_rfl) (by kernel_rfl) (by kernel_rfl) (by kernel_rfl) ⟨hp.facts.1, hp.facts.2.1, hq.facts.1, hq.facts.2.1, hr.facts.1, hr.facts.2.1, hl.facts.1, hl.facts.2.1, hm.facts.1, hm.facts.2.1, hs.facts.1, hs.facts.2.1⟩ ?_
  apply wpPl_call
  case hi => rfl
  case hw => kernel_rfl
  case h =>
  intro K hK
  have kb_18 := hb.size
  go_big_op
  go_fit (zawake_any _ (htabs _ hb))
  rintro e w_18 ⟨rfl, hb_18⟩
  replace ha := ha.below hb_18 (Nat.le_refl _)
  replace hb' := hb'.below hb_18 (Nat.le_refl _)
  replace hc := hc.below hb_18 (Nat.le_refl _)
  replace hp := hp.below hb_18 (Nat.le_refl _)
  replace hq := hq.below hb_18 (Nat.le_refl _)
  replace hr := hr.below hb_18 (Nat.le_refl _)
  replace h2 := h2.below hb_18 (Nat.le_refl _)
  replace hl := hl.below hb_18 (Nat.le_refl _)
  replace h5 := h5.below hb_18 (Nat.le_refl _)
  replace hm := hm.below hb_18 (Nat.le_refl _)
  replace h7 := h7.below hb_18 (Nat.le_refl _)
  replace hs := hs.below hb_18 (Nat.le_refl _)
  replace hb := hb.trans (hb_18.mono hb.size)
  refine hK _ _ rfl ⟨hp.facts.1, hp.facts.2.1, hq.facts.1, hq.facts.2.1, hr.facts.1, hr.facts.2.1, hl.facts.1, hl.facts.2.1, hm.facts.1, hm.facts.2.1, hs.facts.1, hs.facts.2.1⟩ ?_
  clear hK K hb_18
  apply wpPl_ld
  case hi => rfl
  case h1 => intro w' hC K hK; obtain ⟨c0, c1, c2, c3, c4, c5, c6, c7, c8, c9, c10, c11⟩ := hC; (first | go_big_move | go_big_op); exact hK
  case hw => kernel_rfl
  case hv => kernel_rfl
  case hb => kernel_rfl
  case hp => kernel_rfl
  apply wpPl_ld
  case hi => rfl
  case h1 => intro w' hC K hK; obtain ⟨c0, c1, c2, c3, c4, c5, c6, c7, c8, c9, c10, c11⟩ := hC; (first | go_big_move | go_big_op); exact hK
  case hw => kernel_rfl
  case hv => kernel_rfl
  case hb => kernel_rfl
  case hp => kernel_rfl
  apply wpPl_ld
  case hi => rfl
  case h1 => intro w' hC K hK; obtain ⟨c0, c1, c2, c3, c4, c5, c6, c7, c8, c9, c10, c11⟩ := hC; (first | go_big_move | go_big_op); exact hK
  case hw => kernel_rfl
  case hv => kernel_rfl
  case hb => kernel_rfl
  case hp => kernel_rfl
  apply wpPl_call
  case hi => rfl
  case hw => kernel_rfl
  case h =>
  intro K hK
  have kb_19 := hb.size
  go_big_op
  go_fit (zcmp_any (h2.zn L2.out) (h5.zn L5.out) (by decide) (by decide))
  rintro e w_19 ⟨rfl, hb_19⟩
  replace ha := ha.below hb_19 (Nat.le_refl _)
  replace hb' := hb'.below hb_19 (Nat.le_refl _)
  replace hc := hc.below hb_19 (Nat.le_refl _)
  replace hp := hp.below hb_19 (Nat.le_refl _)
  replace hq := hq.below hb_19 (Nat.le_refl _)
  replace hr := hr.below hb_19 (Nat.le_refl _)
  replace h2 := h2.below hb_19 (Nat.le_refl _)
  replace hl := hl.below hb_19 (Nat.le_refl _)
  replace h5 := h5.below hb_19 (Nat.le_refl _)
  replace hm := hm.below hb_19 (Nat.le_refl _)
  replace h7 := h7.below hb_19 (Nat.le_refl _)
  replace hs := hs.below hb_19 (Nat.le_refl _)
  replace hb := hb.trans (hb_19.mono hb.size)
  refine hK _ _ rfl ⟨hp.facts.1, hp.facts.2.1, hq.facts.1, hq.facts.2.1, hr.facts.1, hr.facts.2.1, hl.facts.1, hl.facts.2.1, hm.facts.1, hm.facts.2.1, hs.facts.1, hs.facts.2.1⟩ ?_
  clear hK K hb_19
  rw [E4.out]
  apply wpPl_ld
  case hi => rfl
  case h1 => intro w' hC K hK; obtain ⟨c0, c1, c2, c3, c4, c5, c6, c7, c8, c9, c10, c11⟩ := hC; (first | go_big_move | go_big_op); exact hK
  case hw => kernel_rfl
  case hv => kernel_rfl
  case hb => kernel_rfl
  case hp => kernel_rfl
  apply wpPl_ld
  case hi => rfl
  case h1 => intro w' hC K hK; obtain ⟨c0, c1, c2, c3, c4, c5, c6, c7, c8, c9, c10, c11⟩ := hC; (first | go_big_move | go_big_op); exact hK
  case hw => kernel_rfl
  case hv => kernel_rfl
  case hb => kernel_rfl
  case hp => kernel_rfl
  apply wpPl_ld
  case hi => rfl
  case h1 => intro w' hC K hK; obtain ⟨c0, c1, c2, c3, c4, c5, c6, c7, c8, c9, c10, c11⟩ := hC; (first | go_big_move | go_big_op); exact hK
  case hw => kernel_rfl
  case hv => kernel_rfl
  case hb => kernel_rfl
  case hp => kernel_rfl
  apply wpPl_ld
  case hi => rfl
  case h1 => intro w' hC K hK; obtain ⟨c0, c1, c2, c3, c4, c5, c6, c7, c8, c9, c10, c11⟩ := hC; (first | go_big_move | go_big_op); exact hK
  case hw => kernel_rfl
  case hv => kernel_rfl
  case hb => kernel_rfl
  case hp => kernel_rfl
  apply wpPl_ld
  case hi => rfl
  case h1 => intro w' hC K hK; obtain ⟨c0, c1, c2, c3, c4, c5, c6, c7, c8, c9, c10, c11⟩ := hC; (first | go_big_move | go_big_op); exact hK
  case hw => kernel_rfl
  case hv => kernel_rfl
  case hb => kernel_rfl
  case hp => kernel_rfl
  apply wpPl_call
  case hi => rfl
  case hw => kernel_rfl
  case h =>
  intro K hK
  have kb_20 := hb.size
  go_big_op
  go_fit (is_zz h7 ha (by omega))
  rintro e w_20 ⟨rfl, hb_20⟩
  replace ha := ha.below hb_20 (Nat.le_refl _)
  replace hb' := hb'.below hb_20 (Nat.le_refl _)
  replace hc := hc.below hb_20 (Nat.le_refl _)
  replace hp := hp.below hb_20 (Nat.le_refl _)
  replace hq := hq.below hb_20 (Nat.le_refl _)
  replace hr := hr.below hb_20 (Nat.le_refl _)
  replace h2 := h2.below hb_20 (Nat.le_refl _)
  replace hl := hl.below hb_20 (Nat.le_refl _)
  replace h5 := h5.below hb_20 (Nat.le_refl _)
  replace hm := hm.below hb_20 (Nat.le_refl _)
  replace h7 := h7.below hb_20 (Nat.le_refl _)
  replace hs := hs.below hb_20 (Nat.le_refl _)
  replace hb := hb.trans (hb_20.mono hb.size)
  refine hK _ _ rfl ⟨hp.facts.1, hp.facts.2.1, hq.facts.1, hq.facts.2.1, hr.facts.1, hr.facts.2.1, hl.facts.1, hl.facts.2.1, hm.facts.1, hm.facts.2.1, hs.facts.1, hs.facts.2.1⟩ ?_
  clear hK K hb_20
  apply wpPl_ld
  case hi => rfl
  case h1 => intro w' hC K hK; obtain ⟨c0, c1, c2, c3, c4, c5, c6, c7, c8, c9, c10, c11⟩ := hC; (first | go_big_move | go_big_op); exact hK
  case hw => kernel_rfl
  case hv => kernel_rfl
  case hb => kernel_rfl
  case hp => kernel_rfl
  apply wpPl_ld
  case hi => rfl
  case h1 => intro w' hC K hK; obtain ⟨c0, c1, c2, c3, c4, c5, c6, c7, c8, c9, c10, c11⟩ := hC; (first | go_big_move | go_big_op); exact hK
  case hw => kernel_rfl
  case hv => kernel_rfl
  case hb => kernel_rfl
  case hp => kernel_rfl
  apply wpPl_ld
  case hi => rfl
  case h1 => intro w' hC K hK; obtain ⟨c0, c1, c2, c3, c4, c5, c6, c7, c8, c9, c10, c11⟩ := hC; (first | go_big_move | go_big_op); exact hK
  case hw => kernel_rfl
  case hv => kernel_rfl
  case hb => kernel_rfl
  case hp => kernel_rfl
  apply wpPl_ld
  case hi => rfl
  case h1 => intro w' hC K hK; obtain ⟨c0, c1, c2, c3, c4, c5, c6, c7, c8, c9, c10, c11⟩ := hC; (first | go_big_move | go_big_op); exact hK
  case hw => kernel_rfl
  case hv => kernel_rfl
  case hb => kernel_rfl
  case hp => kernel_rfl
  apply wpPl_ld
  case hi => rfl
  case h1 => intro w' hC K hK; obtain ⟨c0, c1, c2, c3, c4, c5, c6, c7, c8, c9, c10, c11⟩ := hC; (first | go_big_move | go_big_op); exact hK
  case hw => kernel_rfl
  case hv => kernel_rfl
  case hb => kernel_rfl
  case hp => kernel_rfl
  apply wpPl_ld
  case hi => rfl
  case h1 => intro w' hC K hK; obtain ⟨c0, c1, c2, c3, c4, c5, c6, c7, c8, c9, c10, c11⟩ := hC; (first | go_big_move | go_big_op); exact hK
  case hw => kernel_rfl
  case hv => kernel_rfl
  case hb => kernel_rfl
  case hp => kernel_rfl
  apply wpPl_call
  case hi => rfl
  case hw => kernel_rfl
  case h =>
  intro K hK
  have kb_21 := hb.size
  go_big_op
  go_fit (zadd_any ha hb' (by decide) (by decide))
  rintro e w_21 ⟨v8, rfl, h8, hb_21⟩
  replace ha := ha.below hb_21 (Nat.le_refl _)
  replace hb' := hb'.below hb_21 (Nat.le_refl _)
  replace hc := hc.below hb_21 (Nat.le_refl _)
  replace hp := hp.below hb_21 (Nat.le_refl _)
  replace hq := hq.below hb_21 (Nat.le_refl _)
  replace hr := hr.below hb_21 (Nat.le_refl _)
  replace h2 := h2.below hb_21 (Nat.le_refl _)
  replace hl := hl.below hb_21 (Nat.le_refl _)
  replace h5 := h5.below hb_21 (Nat.le_refl _)
  replace hm := hm.below hb_21 (Nat.le_refl _)
  replace h7 := h7.below hb_21 (Nat.le_refl _)
  replace hs := hs.below hb_21 (Nat.le_refl _)
  replace hb := hb.trans (hb_21.mono hb.size)
  refine hK _ _ rfl ⟨hp.facts.1, hp.facts.2.1, hq.facts.1, hq.facts.2.1, hr.facts.1, hr.facts.2.1, hl.facts.1, hl.facts.2.1, hm.facts.1, hm.facts.2.1, hs.facts.1, hs.facts.2.1⟩ ?_
  clear hK K hb_21
  replace h8 := h8.rd
  apply wpPl_call
  case hi => rfl
  case hw => kernel_rfl
  case h =>
  intro K hK
  have kb_22 := hb.size
  go_big_op
  go_fit (zadd_any hb' ha (by decide) (by decide))
  rintro e w_22 ⟨v9, rfl, h9, hb_22⟩
  replace ha := ha.below hb_22 (Nat.le_refl _)
  replace hb' := hb'.below hb_22 (Nat.le_refl _)
  replace hc := hc.below hb_22 (Nat.le_refl _)
  replace hp := hp.below hb_22 (Nat.le_refl _)
  replace hq := hq.below hb_22 (Nat.le_refl _)
  replace hr := hr.below hb_22 (Nat.le_refl _)
  replace h2 := h2.below hb_22 (Nat.le_refl _)
  replace hl := hl.below hb_22 (Nat.le_refl _)
  replace h5 := h5.below hb_22 (Nat.le_refl _)
  replace hm := hm.below hb_22 (Nat.le_refl _)
  replace h7 := h7.below hb_22 (Nat.le_refl _)
  replace hs := hs.below hb_22 (Nat.le_refl _)
  replace h8 := h8.below hb_22 (Nat.le_refl _)
  replace hb := hb.trans (hb_22.mono hb.size)
  refine hK _ _ rfl ⟨hp.facts.1, hp.facts.2.1, hq.facts.1, hq.facts.2.1, hr.facts.1, hr.facts.2.1, hl.facts.1, hl.facts.2.1, hm.facts.1, hm.facts.2.1, hs.facts.1, hs.facts.2.1⟩ ?_
  clear hK K hb_22
  rw [E2.out] at h9
  replace h9 := h9.rd
  apply wpPl_call
  case hi => rfl
  case hw => kernel_rfl
  case h =>
  intro K hK
  have kb_23 := hb.size
  go_big_op
  go_fit (is_zz h8 (h9.zn L6.out) (by omega))
  rintro e w_23 ⟨rfl, hb_23⟩
  replace ha := ha.below hb_23 (Nat.le_refl _)
  replace hb' := hb'.below hb_23 (Nat.le_refl _)
  replace hc := hc.below hb_23 (Nat.le_refl _)
  replace hp := hp.below hb_23 (Nat.le_refl _)
  replace hq := hq.below hb_23 (Nat.le_refl _)
  replace hr := hr.below hb_23 (Nat.le_refl _)
  replace h2 := h2.below hb_23 (Nat.le_refl _)
  replace hl := hl.below hb_23 (Nat.le_refl _)
  replace h5 := h5.below hb_23 (Nat.le_refl _)
  replace hm := hm.below hb_23 (Nat.le_refl _)
  replace h7 := h7.below hb_23 (Nat.le_refl _)
  replace hs := hs.below hb_23 (Nat.le_refl _)
  replace h8 := h8.below hb_23 (Nat.le_refl _)
  replace h9 := h9.below hb_23 (Nat.le_refl _)
  replace hb := hb.trans (hb_23.mono hb.size)
  refine hK _ _ rfl ⟨hp.facts.1, hp.facts.2.1, hq.facts.1, hq.facts.2.1, hr.facts.1, hr.facts.2.1, hl.facts.1, hl.facts.2.1, hm.facts.1, hm.facts.2.1, hs.facts.1, hs.facts.2.1⟩ ?_
  clear hK K hb_23
  clear h8
  clear h9
  apply wpPl_ld
  case hi => rfl
  case h1 => intro w' hC K hK; obtain ⟨c0, c1, c2, c3, c4, c5, c6, c7, c8, c9, c10, c11⟩ := hC; (first | go_big_move | go_big_op); exact hK
  case hw => kernel_rfl
  case hv => kernel_rfl
  case hb => kernel_rfl
  case hp => kernel_rfl
  apply wpPl_ld
  case hi => rfl
  case h1 => intro w' hC K hK; obtain ⟨c0, c1, c2, c3, c4, c5, c6, c7, c8, c9, c10, c11⟩ := hC; (first | go_big_move | go_big_op); exact hK
  case hw => kernel_rfl
  case hv => kernel_rfl
  case hb => kernel_rfl
  case hp => kernel_rfl
  apply wpPl_ld
  case hi => rfl
  case h1 => intro w' hC K hK; obtain ⟨c0, c1, c2, c3, c4, c5, c6, c7, c8, c9, c10, c11⟩ := hC; (first | go_big_move | go_big_op); exact hK
  case hw => kernel_rfl
  case hv => kernel_rfl
  case hb => kernel_rfl
  case hp => kernel_rfl
  apply wpPl_ld
  case hi => rfl
  case h1 => intro w' hC K hK; obtain ⟨c0, c1, c2, c3, c4, c5, c6, c7, c8, c9, c10, c11⟩ := hC; (first | go_big_move | go_big_op); exact hK
  case hw => kernel_rfl
  case hv => kernel_rfl
  case hb => kernel_rfl
  case hp => kernel_rfl
  apply wpPl_ld
  case hi => rfl
  case h1 => intro w' hC K hK; obtain ⟨c0, c1, c2, c3, c4, c5, c6, c7, c8, c9, c10, c11⟩ := hC; (first | go_big_move | go_big_op); exact hK
  case hw => kernel_rfl
  case hv => kernel_rfl
  case hb => kernel_rfl
  case hp => kernel_rfl
  apply wpPl_ld
  case hi => rfl
  case h1 => intro w' hC K hK; obtain ⟨c0, c1, c2, c3, c4, c5, c6, c7, c8, c9, c10, c11⟩ := hC; (first | go_big_move | go_big_op); exact hK
  case hw => kernel_rfl
  case hv => kernel_rfl
  case hb => kernel_rfl
  case hp => kernel_rfl
  apply wpPl_call
  case hi => rfl
  case hw => kernel_rfl
  case h =>
  intro K hK
  have kb_24 := hb.size
  go_big_op
  go_fit (zmul_any ha hb' (by decide) (by decide))
  rintro e w_24 ⟨v10, rfl, h10, hb_24⟩
  replace ha := ha.below hb_24 (Nat.le_refl _)
  replace hb' := hb'.below hb_24 (Nat.le_refl _)
  replace hc := hc.below hb_24 (Nat.le_refl _)
  replace hp := hp.below hb_24 (Nat.le_refl _)
  replace hq := hq.below hb_24 (Nat.le_refl _)
  replace hr := hr.below hb_24 (Nat.le_refl _)
  replace h2 := h2.below hb_24 (Nat.le_refl _)
  replace hl := hl.below hb_24 (Nat.le_refl _)
  replace h5 := h5.below hb_24 (Nat.le_refl _)
  replace hm := hm.below hb_24 (Nat.le_refl _)
  replace h7 := h7.below hb_24 (Nat.le_refl _)
  replace hs := hs.below hb_24 (Nat.le_refl _)
  replace hb := hb.trans (hb_24.mono hb.size)
  refine hK _ _ rfl ⟨hp.facts.1, hp.facts.2.1, hq.facts.1, hq.facts.2.1, hr.facts.1, hr.facts.2.1, hl.facts.1, hl.facts.2.1, hm.facts.1, hm.facts.2.1, hs.facts.1, hs.facts.2.1⟩ ?_
  clear hK K hb_24
  replace h10 := h10.rd
  apply wpPl_call
  case hi => rfl
  case hw => kernel_rfl
  case h =>
  intro K hK
  have kb_25 := hb.size
  go_big_op
  go_fit (zmul_any hb' ha (by decide) (by decide))
  rintro e w_25 ⟨v11, rfl, h11, hb_25⟩
  replace ha := ha.below hb_25 (Nat.le_refl _)
  replace hb' := hb'.below hb_25 (Nat.le_refl _)
  replace hc := hc.below hb_25 (Nat.le_refl _)
  replace hp := hp.below hb_25 (Nat.le_refl _)
  replace hq := hq.below hb_25 (Nat.le_refl _)
  replace hr := hr.below hb_25 (Nat.le_refl _)
  replace h2 := h2.below hb_25 (Nat.le_refl _)
  replace hl := hl.below hb_25 (Nat.le_refl _)
  replace h5 := h5.below hb_25 (Nat.le_refl _)
  replace hm := hm.below hb_25 (Nat.le_refl _)
  replace h7 := h7.below hb_25 (Nat.le_refl _)
  replace hs := hs.below hb_25 (Nat.le_refl _)
  replace h10 := h10.below hb_25 (Nat.le_refl _)
  replace hb := hb.trans (hb_25.mono hb.size)
  refine hK _ _ rfl ⟨hp.facts.1, hp.facts.2.1, hq.facts.1, hq.facts.2.1, hr.facts.1, hr.facts.2.1, hl.facts.1, hl.facts.2.1, hm.facts.1, hm.facts.2.1, hs.facts.1, hs.facts.2.1⟩ ?_
  clear hK K hb_25
  rw [E3.out] at h11
  replace h11 := h11.rd
  apply wpPl_call
  case hi => rfl
  case hw => kernel_rfl
  case h =>
  intro K hK
  have kb_26 := hb.size
  go_big_op
  go_fit (is_zz h10 (h11.zn L3.out) (by omega))
  rintro e w_26 ⟨rfl, hb_26⟩
  replace ha := ha.below hb_26 (Nat.le_refl _)
  replace hb' := hb'.below hb_26 (Nat.le_refl _)
  replace hc := hc.below hb_26 (Nat.le_refl _)
  replace hp := hp.below hb_26 (Nat.le_refl _)
  replace hq := hq.below hb_26 (Nat.le_refl _)
  replace hr := hr.below hb_26 (Nat.le_refl _)
  replace h2 := h2.below hb_26 (Nat.le_refl _)
  replace hl := hl.below hb_26 (Nat.le_refl _)
  replace h5 := h5.below hb_26 (Nat.le_refl _)
  replace hm := hm.below hb_26 (Nat.le_refl _)
  replace h7 := h7.below hb_26 (Nat.le_refl _)
  replace hs := hs.below hb_26 (Nat.le_refl _)
  replace h10 := h10.below hb_26 (Nat.le_refl _)
  replace h11 := h11.below hb_26 (Nat.le_refl _)
  replace hb := hb.trans (hb_26.mono hb.size)
  refine hK _ _ rfl ⟨hp.facts.1, hp.facts.2.1, hq.facts.1, hq.facts.2.1, hr.facts.1, hr.facts.2.1, hl.facts.1, hl.facts.2.1, hm.facts.1, hm.facts.2.1, hs.facts.1, hs.facts.2.1⟩ ?_
  clear hK K hb_26
  clear h10
  clear h11
  apply wpPl_ld
  case hi => rfl
  case h1 => intro w' hC K hK; obtain ⟨c0, c1, c2, c3, c4, c5, c6, c7, c8, c9, c10, c11⟩ := hC; (first | go_big_move | go_big_op); exact hK
  case hw => kernel_rfl
  case hv => kernel_rfl
  case hb => kernel_rfl
  case hp => kernel_rfl
  apply wpPl_ld
  case hi => rfl
  case h1 => intro w' hC K hK; obtain ⟨c0, c1, c2, c3, c4, c5, c6, c7, c8, c9, c10, c11⟩ := hC; (first | go_big_move | go_big_op); exact hK
  case hw => kernel_rfl
  case hv => kernel_rfl
  case hb => kernel_rfl
  case hp => kernel_rfl
  apply wpPl_ld
  case hi => rfl
  case h1 => intro w' hC K hK; obtain ⟨c0, c1, c2, c3, c4, c5, c6, c7, c8, c9, c10, c11⟩ := hC; (first | go_big_move | go_big_op); exact hK
  case hw => kernel_rfl
  case hv => kernel_rfl
  case hb => kernel_rfl
  case hp => kernel_rfl
  apply wpPl_ld
  case hi => rfl
  case h1 => intro w' hC K hK; obtain ⟨c0, c1, c2, c3, c4, c5, c6, c7, c8, c9, c10, c11⟩ := hC; (first | go_big_move | go_big_op); exact hK
  case hw => kernel_rfl
  case hv => kernel_rfl
  case hb => kernel_rfl
  case hp => kernel_rfl
  apply wpPl_call
  case hi => rfl
  case hw => kernel_rfl
  case h =>
  intro K hK
  have kb_27 := hb.size
  go_big_op
  go_fit (zneg_any ha (by decide))
  rintro e w_27 ⟨v12, rfl, h12, hb_27⟩
  replace ha := ha.below hb_27 (Nat.le_refl _)
  replace hb' := hb'.below hb_27 (Nat.le_refl _)
  replace hc := hc.below hb_27 (Nat.le_refl _)
  replace hp := hp.below hb_27 (Nat.le_refl _)
  replace hq := hq.below hb_27 (Nat.le_refl _)
  replace hr := hr.below hb_27 (Nat.le_refl _)
  replace h2 := h2.below hb_27 (Nat.le_refl _)
  replace hl := hl.below hb_27 (Nat.le_refl _)
  replace h5 := h5.below hb_27 (Nat.le_refl _)
  replace hm := hm.below hb_27 (Nat.le_refl _)
  replace h7 := h7.below hb_27 (Nat.le_refl _)
  replace hs := hs.below hb_27 (Nat.le_refl _)
  replace hb := hb.trans (hb_27.mono hb.size)
  refine hK _ _ rfl ⟨hp.facts.1, hp.facts.2.1, hq.facts.1, hq.facts.2.1, hr.facts.1, hr.facts.2.1, hl.facts.1, hl.facts.2.1, hm.facts.1, hm.facts.2.1, hs.facts.1, hs.facts.2.1⟩ ?_
  clear hK K hb_27
  replace h12 := h12.rd
  apply wpPl_call
  case hi => rfl
  case hw => kernel_rfl
  case h =>
  intro K hK
  have kb_28 := hb.size
  go_big_op
  go_fit (zneg_any (h12.zn L7.out) (by decide))
  rintro e w_28 ⟨v13, rfl, h13, hb_28⟩
  replace ha := ha.below hb_28 (Nat.le_refl _)
  replace hb' := hb'.below hb_28 (Nat.le_refl _)
  replace hc := hc.below hb_28 (Nat.le_refl _)
  replace hp := hp.below hb_28 (Nat.le_refl _)
  replace hq := hq.below hb_28 (Nat.le_refl _)
  replace hr := hr.below hb_28 (Nat.le_refl _)
  replace h2 := h2.below hb_28 (Nat.le_refl _)
  replace hl := hl.below hb_28 (Nat.le_refl _)
  replace h5 := h5.below hb_28 (Nat.le_refl _)
  replace hm := hm.below hb_28 (Nat.le_refl _)
  replace h7 := h7.below hb_28 (Nat.le_refl _)
  replace hs := hs.below hb_28 (Nat.le_refl _)
  replace h12 := h12.below hb_28 (Nat.le_refl _)
  replace hb := hb.trans (hb_28.mono hb.size)
  refine hK _ _ rfl ⟨hp.facts.1, hp.facts.2.1, hq.facts.1, hq.facts.2.1, hr.facts.1, hr.facts.2.1, hl.facts.1, hl.facts.2.1, hm.facts.1, hm.facts.2.1, hs.facts.1, hs.facts.2.1⟩ ?_
  clear hK K hb_28
  rw [E5.out] at h13
  replace h13 := h13.rd
  clear h12
  apply wpPl_call
  case hi => rfl
  case hw => kernel_rfl
  case h =>
  intro K hK
  have kb_29 := hb.size
  go_big_op
  go_fit (is_zz h13 ha (by omega))
  rintro e w_29 ⟨rfl, hb_29⟩
  replace ha := ha.below hb_29 (Nat.le_refl _)
  replace hb' := hb'.below hb_29 (Nat.le_refl _)
  replace hc := hc.below hb_29 (Nat.le_refl _)
  replace hp := hp.below hb_29 (Nat.le_refl _)
  replace hq := hq.below hb_29 (Nat.le_refl _)
  replace hr := hr.below hb_29 (Nat.le_refl _)
  replace h2 := h2.below hb_29 (Nat.le_refl _)
  replace hl := hl.below hb_29 (Nat.le_refl _)
  replace h5 := h5.below hb_29 (Nat.le_refl _)
  replace hm := hm.below hb_29 (Nat.le_refl _)
  replace h7 := h7.below hb_29 (Nat.le_refl _)
  replace hs := hs.below hb_29 (Nat.le_refl _)
  replace h13 := h13.below hb_29 (Nat.le_refl _)
  replace hb := hb.trans (hb_29.mono hb.size)
  refine hK _ _ rfl ⟨hp.facts.1, hp.facts.2.1, hq.facts.1, hq.facts.2.1, hr.facts.1, hr.facts.2.1, hl.facts.1, hl.facts.2.1, hm.facts.1, hm.facts.2.1, hs.facts.1, hs.facts.2.1⟩ ?_
  clear hK K hb_29
  clear h13
  apply wpPl_ld
  case hi => rfl
  case h1 => intro w' hC K hK; obtain ⟨c0, c1, c2, c3, c4, c5, c6, c7, c8, c9, c10, c11⟩ := hC; (first | go_big_move | go_big_op); exact hK
  case hw => kernel_rfl
  case hv => kernel_rfl
  case hb => kernel_rfl
  case hp => kernel_rfl
  apply wpPl_ld
  case hi => rfl
  case h1 => intro w' hC K hK; obtain ⟨c0, c1, c2, c3, c4, c5, c6, c7, c8, c9, c10, c11⟩ := hC; (first | go_big_move | go_big_op); exact hK
  case hw => kernel_rfl
  case hv => kernel_rfl
  case hb => kernel_rfl
  case hp => kernel_rfl
  apply wpPl_ld
  case hi => rfl
  case h1 => intro w' hC K hK; obtain ⟨c0, c1, c2, c3, c4, c5, c6, c7, c8, c9, c10, c11⟩ := hC; (first | go_big_move | go_big_op); exact hK
  case hw => kernel_rfl
  case hv => kernel_rfl
  case hb => kernel_rfl
  case hp => kernel_rfl
  apply wpPl_ld
  case hi => rfl
  case h1 => intro w' hC K hK; obtain ⟨c0, c1, c2, c3, c4, c5, c6, c7, c8, c9, c10, c11⟩ := hC; (first | go_big_move | go_big_op); exact hK
  case hw => kernel_rfl
  case hv => kernel_rfl
  case hb => kernel_rfl
  case hp => kernel_rfl
  apply wpPl_ld
  case hi => rfl
  case h1 => intro w' hC K hK; obtain ⟨c0, c1, c2, c3, c4, c5, c6, c7, c8, c9, c10, c11⟩ := hC; (first | go_big_move | go_big_op); exact hK
  case hw => kernel_rfl
  case hv => kernel_rfl
  case hb => kernel_rfl
  case hp => kernel_rfl
  apply wpPl_ld
  case hi => rfl
  case h1 => intro w' hC K hK; obtain ⟨c0, c1, c2, c3, c4, c5, c6, c7, c8, c9, c10, c11⟩ := hC; (first | go_big_move | go_big_op); exact hK
  case hw => kernel_rfl
  case hv => kernel_rfl
  case hb => kernel_rfl
  case hp => kernel_rfl
  apply wpPl_call
  case hi => rfl
  case hw => kernel_rfl
  case h =>
  intro K hK
  have kb_30 := hb.size
  go_big_op
  go_fit (zmul_any ha hb' (by decide) (by decide))
  rintro e w_30 ⟨v14, rfl, h14, hb_30⟩
  replace ha := ha.below hb_30 (Nat.le_refl _)
  replace hb' := hb'.below hb_30 (Nat.le_refl _)
  replace hc := hc.below hb_30 (Nat.le_refl _)
  replace hp := hp.below hb_30 (Nat.le_refl _)
  replace hq := hq.below hb_30 (Nat.le_refl _)
  replace hr := hr.below hb_30 (Nat.le_refl _)
  replace h2 := h2.below hb_30 (Nat.le_refl _)
  replace hl := hl.below hb_30 (Nat.le_refl _)
  replace h5 := h5.below hb_30 (Nat.le_refl _)
  replace hm := hm.below hb_30 (Nat.le_refl _)
  replace h7 := h7.below hb_30 (Nat.le_refl _)
  replace hs := hs.below hb_30 (Nat.le_refl _)
  replace hb := hb.trans (hb_30.mono hb.size)
  refine hK _ _ rfl ⟨hp.facts.1, hp.facts.2.1, hq.facts.1, hq.facts.2.1, hr.facts.1, hr.facts.2.1, hl.facts.1, hl.facts.2.1, hm.facts.1, hm.facts.2.1, hs.facts.1, hs.facts.2.1⟩ ?_
  clear hK K hb_30
  replace h14 := h14.rd
  apply wpPl_call
  case hi => rfl
  case hw => kernel_rfl
  case h =>
  intro K hK
  have kb_31 := hb.size
  go_big_op
  go_fit (zsign_any (h14.zn L3.out) (by decide))
  rintro e w_31 ⟨rfl, hb_31⟩
  replace ha := ha.below hb_31 (Nat.le_refl _)
  replace hb' := hb'.below hb_31 (Nat.le_refl _)
  replace hc := hc.below hb_31 (Nat.le_refl _)
  replace hp := hp.below hb_31 (Nat.le_refl _)
  replace hq := hq.below hb_31 (Nat.le_refl _)
  replace hr := hr.below hb_31 (Nat.le_refl _)
  replace h2 := h2.below hb_31 (Nat.le_refl _)
  replace hl := hl.below hb_31 (Nat.le_refl _)
  replace h5 := h5.below hb_31 (Nat.le_refl _)
  replace hm := hm.below hb_31 (Nat.le_refl _)
  replace h7 := h7.below hb_31 (Nat.le_refl _)
  replace hs := hs.below hb_31 (Nat.le_refl _)
  replace h14 := h14.below hb_31 (Nat.le_refl _)
  replace hb := hb.trans (hb_31.mono hb.size)
  refine hK _ _ rfl ⟨hp.facts.1, hp.facts.2.1, hq.facts.1, hq.facts.2.1, hr.facts.1, hr.facts.2.1, hl.facts.1, hl.facts.2.1, hm.facts.1, hm.facts.2.1, hs.facts.1, hs.facts.2.1⟩ ?_
  clear hK K hb_31
  rw [E7.out.2.2]
  clear h14
  apply wpPl_call
  case hi => rfl
  case hw => kernel_rfl
  case h =>
  intro K hK
  have kb_32 := hb.size
  go_big_op
  go_fit (zsign_any ha (by decide))
  rintro e w_32 ⟨rfl, hb_32⟩
  replace ha := ha.below hb_32 (Nat.le_refl _)
  replace hb' := hb'.below hb_32 (Nat.le_refl _)
  replace hc := hc.below hb_32 (Nat.le_refl _)
  replace hp := hp.below hb_32 (Nat.le_refl _)
  replace hq := hq.below hb_32 (Nat.le_refl _)
  replace hr := hr.below hb_32 (Nat.le_refl _)
  replace h2 := h2.below hb_32 (Nat.le_refl _)
  replace hl := hl.below hb_32 (Nat.le_refl _)
  replace h5 := h5.below hb_32 (Nat.le_refl _)
  replace hm := hm.below hb_32 (Nat.le_refl _)
  replace h7 := h7.below hb_32 (Nat.le_refl _)
  replace hs := hs.below hb_32 (Nat.le_refl _)
  replace hb := hb.trans (hb_32.mono hb.size)
  refine hK _ _ rfl ⟨hp.facts.1, hp.facts.2.1, hq.facts.1, hq.facts.2.1, hr.facts.1, hr.facts.2.1, hl.facts.1, hl.facts.2.1, hm.facts.1, hm.facts.2.1, hs.facts.1, hs.facts.2.1⟩ ?_
  clear hK K hb_32
  rw [E7.out.1]
  apply wpPl_call
  case hi => rfl
  case hw => kernel_rfl
  case h =>
  intro K hK
  have kb_33 := hb.size
  go_big_op
  go_fit (zsign_any hb' (by decide))
  rintro e w_33 ⟨rfl, hb_33⟩
  replace ha := ha.below hb_33 (Nat.le_refl _)
  replace hb' := hb'.below hb_33 (Nat.le_refl _)
  replace hc := hc.below hb_33 (Nat.le_refl _)
  replace hp := hp.below hb_33 (Nat.le_refl _)
  replace hq := hq.below hb_33 (Nat.le_refl _)
  replace hr := hr.below hb_33 (Nat.le_refl _)
  replace h2 := h2.below hb_33 (Nat.le_refl _)
  replace hl := hl.below hb_33 (Nat.le_refl _)
  replace h5 := h5.below hb_33 (Nat.le_refl _)
  replace hm := hm.below hb_33 (Nat.le_refl _)
  replace h7 := h7.below hb_33 (Nat.le_refl _)
  replace hs := hs.below hb_33 (Nat.le_refl _)
  replace hb := hb.trans (hb_33.mono hb.size)
  refine hK _ _ rfl ⟨hp.facts.1, hp.facts.2.1, hq.facts.1, hq.facts.2.1, hr.facts.1, hr.facts.2.1, hl.facts.1, hl.facts.2.1, hm.facts.1, hm.facts.2.1, hs.facts.1, hs.facts.2.1⟩ ?_
  clear hK K hb_33
  rw [E7.out.2.1]
  apply wpPl_ld
  case hi => rfl
  case h1 => intro w' hC K hK; obtain ⟨c0, c1, c2, c3, c4, c5, c6, c7, c8, c9, c10, c11⟩ := hC; (first | go_big_move | go_big_op); exact hK
  case hw => kernel_rfl
  case hv => kernel_rfl
  case hb => kernel_rfl
  case hp => kernel_rfl
  apply wpPl_ld
  case hi => rfl
  case h1 => intro w' hC K hK; obtain ⟨c0, c1, c2, c3, c4, c5, c6, c7, c8, c9, c10, c11⟩ := hC; (first | go_big_move | go_big_op); exact hK
  case hw => kernel_rfl
  case hv => kernel_rfl
  case hb => kernel_rfl
  case hp => kernel_rfl
  apply wpPl_ld
  case hi => rfl
  case h1 => intro w' hC K hK; obtain ⟨c0, c1, c2, c3, c4, c5, c6, c7, c8, c9, c10, c11⟩ := hC; (first | go_big_move | go_big_op); exact hK
  case hw => kernel_rfl
  case hv => kernel_rfl
  case hb => kernel_rfl
  case hp => kernel_rfl
  apply wpPl_ld
  case hi => rfl
  case h1 => intro w' hC K hK; obtain ⟨c0, c1, c2, c3, c4, c5, c6, c7, c8, c9, c10, c11⟩ := hC; (first | go_big_move | go_big_op); exact hK
  case hw => kernel_rfl
  case hv => kernel_rfl
  case hb => kernel_rfl
  case hp => kernel_rfl
  apply wpPl_ld
  case hi => rfl
  case h1 => intro w' hC K hK; obtain ⟨c0, c1, c2, c3, c4, c5, c6, c7, c8, c9, c10, c11⟩ := hC; (first | go_big_move | go_big_op); exact hK
  case hw => kernel_rfl
  case hv => kernel_rfl
  case hb => kernel_rfl
  case hp => kernel_rfl
  apply wpPl_ld
  case hi => rfl
  case h1 => intro w' hC K hK; obtain ⟨c0, c1, c2, c3, c4, c5, c6, c7, c8, c9, c10, c11⟩ := hC; (first | go_big_move | go_big_op); exact hK
  case hw => kernel_rfl
  case hv => kernel_rfl
  case hb => kernel_rfl
  case hp => kernel_rfl
  apply wpPl_ld
  case hi => rfl
  case h1 => intro w' hC K hK; obtain ⟨c0, c1, c2, c3, c4, c5, c6, c7, c8, c9, c10, c11⟩ := hC; (first | go_big_move | go_big_op); exact hK
  case hw => kernel_rfl
  case hv => kernel_rfl
  case hb => kernel_rfl
  case hp => kernel_rfl
  apply wpPl_ld
  case hi => rfl
  case h1 => intro w' hC K hK; obtain ⟨c0, c1, c2, c3, c4, c5, c6, c7, c8, c9, c10, c11⟩ := hC; (first | go_big_move | go_big_op); exact hK
  case hw => kernel_rfl
  case hv => kernel_rfl
  case hb => kernel_rfl
  case hp => kernel_rfl
  apply wpPl_call
  case hi => rfl
  case hw => kernel_rfl
  case h =>
  intro K hK
  have kb_34 := hb.size
  go_big_op
  go_fit (zcmp_any ha hb' (by decide) (by decide))
  rintro e w_34 ⟨rfl, hb_34⟩
  replace ha := ha.below hb_34 (Nat.le_refl _)
  replace hb' := hb'.below hb_34 (Nat.le_refl _)
  replace hc := hc.below hb_34 (Nat.le_refl _)
  replace hp := hp.below hb_34 (Nat.le_refl _)
  replace hq := hq.below hb_34 (Nat.le_refl _)
  replace hr := hr.below hb_34 (Nat.le_refl _)
  replace h2 := h2.below hb_34 (Nat.le_refl _)
  replace hl := hl.below hb_34 (Nat.le_refl _)
  replace h5 := h5.below hb_34 (Nat.le_refl _)
  replace hm := hm.below hb_34 (Nat.le_refl _)
  replace h7 := h7.below hb_34 (Nat.le_refl _)
  replace hs := hs.below hb_34 (Nat.le_refl _)
  replace hb := hb.trans (hb_34.mono hb.size)
  refine hK _ _ rfl ⟨hp.facts.1, hp.facts.2.1, hq.facts.1, hq.facts.2.1, hr.facts.1, hr.facts.2.1, hl.facts.1, hl.facts.2.1, hm.facts.1, hm.facts.2.1, hs.facts.1, hs.facts.2.1⟩ ?_
  clear hK K hb_34
  rw [E6.out.2]
  apply wpPl_call
  case hi => rfl
  case hw => kernel_rfl
  case h =>
  intro K hK
  have kb_35 := hb.size
  go_big_op
  go_fit (zcmp_any hb' ha (by decide) (by decide))
  rintro e w_35 ⟨rfl, hb_35⟩
  replace ha := ha.below hb_35 (Nat.le_refl _)
  replace hb' := hb'.below hb_35 (Nat.le_refl _)
  replace hc := hc.below hb_35 (Nat.le_refl _)
  replace hp := hp.below hb_35 (Nat.le_refl _)
  replace hq := hq.below hb_35 (Nat.le_refl _)
  replace hr := hr.below hb_35 (Nat.le_refl _)
  replace h2 := h2.below hb_35 (Nat.le_refl _)
  replace hl := hl.below hb_35 (Nat.le_refl _)
  replace h5 := h5.below hb_35 (Nat.le_refl _)
  replace hm := hm.below hb_35 (Nat.le_refl _)
  replace h7 := h7.below hb_35 (Nat.le_refl _)
  replace hs := hs.below hb_35 (Nat.le_refl _)
  replace hb := hb.trans (hb_35.mono hb.size)
  refine hK _ _ rfl ⟨hp.facts.1, hp.facts.2.1, hq.facts.1, hq.facts.2.1, hr.facts.1, hr.facts.2.1, hl.facts.1, hl.facts.2.1, hm.facts.1, hm.facts.2.1, hs.facts.1, hs.facts.2.1⟩ ?_
  clear hK K hb_35
  rw [E6.out.1]
  apply wpPl_ld
  case hi => rfl
  case h1 => intro w' hC K hK; obtain ⟨c0, c1, c2, c3, c4, c5, c6, c7, c8, c9, c10, c11⟩ := hC; (first | go_big_move | go_big_op); exact hK
  case hw => kernel_rfl
  case hv => kernel_rfl
  case hb => kernel_rfl
  case hp => kernel_rfl
  apply wpPl_ld
  case hi => rfl
  case h1 => intro w' hC K hK; obtain ⟨c0, c1, c2, c3, c4, c5, c6, c7, c8, c9, c10, c11⟩ := hC; (first | go_big_move | go_big_op); exact hK
  case hw => kernel_rfl
  case hv => kernel_rfl
  case hb => kernel_rfl
  case hp => kernel_rfl
  apply wpPl_ld
  case hi => rfl
  case h1 => intro w' hC K hK; obtain ⟨c0, c1, c2, c3, c4, c5, c6, c7, c8, c9, c10, c11⟩ := hC; (first | go_big_move | go_big_op); exact hK
  case hw => kernel_rfl
  case hv => kernel_rfl
  case hb => kernel_rfl
  case hp => kernel_rfl
  apply wpPl_ld
  case hi => rfl
  case h1 => intro w' hC K hK; obtain ⟨c0, c1, c2, c3, c4, c5, c6, c7, c8, c9, c10, c11⟩ := hC; (first | go_big_move | go_big_op); exact hK
  case hw => kernel_rfl
  case hv => kernel_rfl
  case hb => kernel_rfl
  case hp => kernel_rfl
  apply wpPl_end
  go_wp2
  go_ret
  exact ⟨rfl, hb⟩

theorem walk_ZintRing (w : World) (na : Bool) (sa : Value) (xs : List Nat) (hx : Rd w sa xs) (hxl : xs.length ≤ 1048576) (nb : Bool) (sb : Value) (ys : List Nat) (hy : Rd w sb ys) (hyl : ys.length ≤ 1048576)
    (nc : Bool) (sc : Value) (zs : List Nat) (hz : Rd w sc zs) (hzl : zs.length ≤ 1048576) (htab : Lib.TabIs Tryd.prog w p10 .u64 Lib.pow10Tab) :
    Calls Tryd.prog 10 #[.agg #[.bool na, sa], .agg #[.bool nb, sb], .agg #[.bool nc, sc]] w fun e w' => e = .returned (.bool true) ∧ Below w.heap.size w w' :=
  ring_walk ⟨na, sa, xs, rfl, hx, rfl, hxl⟩ ⟨nb, sb, ys, rfl, hy, rfl, hyl⟩ ⟨nc, sc, zs, rfl, hz, rfl, hzl⟩ htab
end Go.Proofs.YtabmffenbkdgkaaDoor
