/- The reference's Round of longer numbers. -/
import Derived.Test.YtnkimagnmnocdaaGreatY8
namespace Go.Proofs.YtnkimagnmnocdaaGreat
open Go Go.RowKit Dig
set_option linter.unusedVariables false

set_option maxHeartbeats 4000000 in
set_option maxRecDepth 20000 in
theorem rround_big {w : World} {va vb : Value} {x y : Int} {l m : Nat} (ha : ZN w va x l) (hb' : ZN w vb y m) (hl : l ≤ 40000000) (hm : m ≤ 20000000) (h0 : y ≠ 0) :
    Calls Tryz.prog 205 #[va, vb] w fun e w' => ∃ v1 v2, e = .returned (.tuple #[v1, v2]) ∧ ZC w' v1 (rnd x y) ∧ ZC w' v2 (x - rnd x y * y) ∧ Below w.heap.size w w' := by
  have LX2 := hide (zlen_add ha.len ha.len)
  have LY2 := hide (zlen_add hb'.len hb'.len)
  have LS := hide (show (dig (x + x + y).natAbs).length ≤ l + 1 + m + 1 from zlen_add (show (dig (x + x).natAbs).length ≤ l + 1 by
    have := add_len x.natAbs
    rw [val_dig] at this
    rw [show (x + x).natAbs = x.natAbs + x.natAbs by omega]
    have := ha.len
    omega) hb'.len)
  have LY := hide (show (dig (y + y).natAbs).length ≤ m + 1 by
    have := add_len y.natAbs
    rw [val_dig] at this
    rw [show (y + y).natAbs = y.natAbs + y.natAbs by omega]
    have := hb'.len
    omega)
  have LN := hide (rnd_len h0 ha.len)
  have LM := hide (zlen_mul LN.out hb'.len)
  have EN := hide (show (x + x + y).fdiv (y + y) = rnd x y by unfold rnd; rw [show x + x + y = 2 * x + y by omega, show y + y = 2 * y by omega])
  have H0 := hide (show y + y ≠ 0 by omega)
  clear h0
  obtain ⟨na, oa, ca, xs, rfl, hca, _, _, hxl⟩ := ha.open_
  obtain ⟨nb, ob, cb, ys, rfl, hcb, _, _, hyl⟩ := hb'.open_
  go_enter Tryz.func205, Tryz.ntmps205
  have hb := Below.refl w.heap.size w
  have hp := Bk.new w na (.slice oa xs.length ca)
  replace ha := ha.alloc (.cells #[.bool na, (.slice oa xs.length ca)] 26)
  replace hb' := hb'.alloc (.cells #[.bool na, (.slice oa xs.length ca)] 26)
  replace hb := hb.alloc hb.size (.cells #[.bool na, (.slice oa xs.length ca)] 26)
  have hq := Bk.new (w.alloc (.cells #[.bool na, (.slice oa xs.length ca)] 26)) nb (.slice ob ys.length cb)
  simp only [Bk.size_alloc] at hq
  replace ha := ha.alloc (.cells #[.bool nb, (.slice ob ys.length cb)] 26)
  replace hb' := hb'.alloc (.cells #[.bool nb, (.slice ob ys.length cb)] 26)
  replace hp := hp.alloc (.cells #[.bool nb, (.slice ob ys.length cb)] 26)
  replace hb := hb.alloc hb.size (.cells #[.bool nb, (.slice ob ys.length cb)] 26)
  have hz1 := Bk.new ((w.alloc (.cells #[.bool na, (.slice oa xs.length ca)] 26)).alloc (.cells #[.bool nb, (.slice ob ys.length cb)] 26)) false (.slice none 0 0)
  simp only [Bk.size_alloc] at hz1
  replace ha := ha.alloc (.cells #[.bool false, (.slice none 0 0)] 26)
  replace hb' := hb'.alloc (.cells #[.bool false, (.slice none 0 0)] 26)
  replace hp := hp.alloc (.cells #[.bool false, (.slice none 0 0)] 26)
  replace hq := hq.alloc (.cells #[.bool false, (.slice none 0 0)] 26)
  replace hb := hb.alloc hb.size (.cells #[.bool false, (.slice none 0 0)] 26)
  have hz2 := Bk.new (((w.alloc (.cells #[.bool na, (.slice oa xs.length ca)] 26)).alloc (.cells #[.bool nb, (.slice ob ys.length cb)] 26)).alloc (.cells #[.bool false, (.slice none 0 0)] 26)) false (.slice none 0 0)
  simp only [Bk.size_alloc] at hz2
  replace ha := ha.alloc (.cells #[.bool false, (.slice none 0 0)] 26)
  replace hb' := hb'.alloc (.cells #[.bool false, (.slice none 0 0)] 26)
  replace hp := hp.alloc (.cells #[.bool false, (.slice none 0 0)] 26)
  replace hq := hq.alloc (.cells #[.bool false, (.slice none 0 0)] 26)
  replace hz1 := hz1.alloc (.cells #[.bool false, (.slice none 0 0)] 26)
  replace hb := hb.alloc hb.size (.cells #[.bool false, (.slice none 0 0)] 26)
  replace ha := ha.drew
  replace hb' := hb'.drew
  replace hp := hp.drew
  replace hq := hq.drew
  replace hz1 := hz1.drew
  replace hz2 := hz2.drew
  replace hb := hb.drew
  have lt_hp := hp.lt
  have lt_hq := hq.lt
  have lt_hz1 := hz1.lt
  have lt_hz2 := hz2.lt
  have kb0 := hb.size
  go_wp2_with fail
  refine wp_region_fl [(0, false), (2, false), (4, false), (1, true), (3, true), (5, true), (6, true), (7, false), (8, false), (9, false)] [12, 13] [10, 11] (fun _ => obZ) [0, 99, 1, 99, 1, 99, 99, 99, 99, 99, 99, 99, 99, 99] [] (fun w' => w'.cell? ⟨w.heap.size, 0, none⟩ = some (.bool na) ∧ w'.cell? ⟨w.heap.size, 1, none⟩ = some (.slice oa xs.length ca) ∧ w'.cell? ⟨w.heap.size + 1, 0, none⟩ = some (.bool nb) ∧ w'.cell? ⟨w.heap.size + 1, 1, none⟩ = some (.slice ob ys.length cb)) [fun w' => w'.cell? ⟨w.heap.size, 0, none⟩ = some (.bool na) ∧ w'.cell? ⟨w.heap.size, 1, none⟩ = some (.slice oa xs.length ca), fun w' => w'.cell? ⟨w.heap.size + 1, 0, none⟩ = some (.bool nb) ∧ w'.cell? ⟨w.heap.size + 1, 1, none⟩ = some (.slice ob ys.length cb)] (by kernel_rfl) (by kernel_rfl) (by kernel_rfl) (by kernel_rfl) (by kernel_rfl) (by kernel_rfl) (by kernel_rfl) (by kernel_rfl) (by decide) (by intro j hj; simp only [List.mem_cons, List.not_mem_nil, or_false] at hj; rcases hj with rfl | rfl; all_goals exact ⟨_, rfl, rfl, fun ρ w => run_alloc_z w⟩) (by intro w' o hC; obtain ⟨c0, c1, c2, c3⟩ := hC; exact ⟨cell_alloc c0 o, cell_alloc c1 o, cell_alloc c2 o, cell_alloc c3 o⟩) (by intro w' hC G hG; obtain ⟨c0, c1, c2, c3⟩ := hC; simp only [List.mem_cons, List.not_mem_nil, or_false] at hG; rcases hG with rfl | rfl <;> first | exact ⟨c0, c1⟩ | exact ⟨c2, c3⟩) ⟨hp.facts.1, hp.facts.2.1, hq.facts.1, hq.facts.2.1⟩ ?_
  apply wpFl_ld
  case hG => rfl
  case hi => rfl
  case h1 => intro w' hC K hK; obtain ⟨c0, c1⟩ := hC; (first | go_big_move | go_big_op); exact hK
  case hw => kernel_rfl
  case hv => kernel_rfl
  case hb => kernel_rfl
  case hp => kernel_rfl
  apply wpFl_ld
  case hG => rfl
  case hi => rfl
  case h1 => intro w' hC K hK; obtain ⟨c0, c1⟩ := hC; (first | go_big_move | go_big_op); exact hK
  case hw => kernel_rfl
  case hv => kernel_rfl
  case hb => kernel_rfl
  case hp => kernel_rfl
  apply wpFl_ld
  case hG => rfl
  case hi => rfl
  case h1 => intro w' hC K hK; obtain ⟨c0, c1⟩ := hC; (first | go_big_move | go_big_op); exact hK
  case hw => kernel_rfl
  case hv => kernel_rfl
  case hb => kernel_rfl
  case hp => kernel_rfl
  apply wpFl_call
  case hi => rfl
  case hw => kernel_rfl
  case h =>
  intro w_1 hn hC
  clear hC
  replace ha := ha.below hn (Nat.le_refl _)
  replace hb' := hb'.below hn (Nat.le_refl _)
  replace hp := hp.below hn (Nat.le_refl _)
  replace hq := hq.below hn (Nat.le_refl _)
  replace hz1 := hz1.below hn (Nat.le_refl _)
  replace hz2 := hz2.below hn (Nat.le_refl _)
  replace hb := hb.trans (hn.mono hb.size)
  clear hn
  intro K hK
  have kb_2 := hb.size
  go_big_op
  go_fit (twice_any ha (by omega))
  rintro e w_2 ⟨v1, rfl, g1, hb_2⟩
  replace ha := ha.below hb_2 (Nat.le_refl _)
  replace hb' := hb'.below hb_2 (Nat.le_refl _)
  replace hp := hp.below hb_2 (Nat.le_refl _)
  replace hq := hq.below hb_2 (Nat.le_refl _)
  replace hz1 := hz1.below hb_2 (Nat.le_refl _)
  replace hz2 := hz2.below hb_2 (Nat.le_refl _)
  replace hb := hb.trans (hb_2.mono hb.size)
  refine hK _ _ rfl hb_2 ⟨hp.facts.1, hp.facts.2.1, hq.facts.1, hq.facts.2.1⟩ ?_
  clear hK K hb_2
  apply wpFl_call
  case hi => rfl
  case hw => kernel_rfl
  case h =>
  intro w_3 hn hC
  clear hC
  replace ha := ha.below hn (Nat.le_refl _)
  replace hb' := hb'.below hn (Nat.le_refl _)
  replace hp := hp.below hn (Nat.le_refl _)
  replace hq := hq.below hn (Nat.le_refl _)
  replace hz1 := hz1.below hn (Nat.le_refl _)
  replace hz2 := hz2.below hn (Nat.le_refl _)
  replace g1 := g1.below hn (Nat.le_refl _)
  replace hb := hb.trans (hn.mono hb.size)
  clear hn
  intro K hK
  have kb_4 := hb.size
  go_big_op
  go_fit (rzadd_any (g1.zn LX2.out) hb' (by omega) (by omega))
  rintro e w_4 ⟨v2, rfl, g2, hb_4⟩
  replace ha := ha.below hb_4 (Nat.le_refl _)
  replace hb' := hb'.below hb_4 (Nat.le_refl _)
  replace hp := hp.below hb_4 (Nat.le_refl _)
  replace hq := hq.below hb_4 (Nat.le_refl _)
  replace hz1 := hz1.below hb_4 (Nat.le_refl _)
  replace hz2 := hz2.below hb_4 (Nat.le_refl _)
  replace g1 := g1.below hb_4 (Nat.le_refl _)
  replace hb := hb.trans (hb_4.mono hb.size)
  refine hK _ _ rfl hb_4 ⟨hp.facts.1, hp.facts.2.1, hq.facts.1, hq.facts.2.1⟩ ?_
  clear hK K hb_4
  replace g2 := g2.rd
  clear g1
  apply wpFl_call
  case hi => rfl
  case hw => kernel_rfl
  case h =>
  intro w_5 hn hC
  clear hC
  replace ha := ha.below hn (Nat.le_refl _)
  replace hb' := hb'.below hn (Nat.le_refl _)
  replace hp := hp.below hn (Nat.le_refl _)
  replace hq := hq.below hn (Nat.le_refl _)
  replace hz1 := hz1.below hn (Nat.le_refl _)
  replace hz2 := hz2.below hn (Nat.le_refl _)
  replace g2 := g2.below hn (Nat.le_refl _)
  replace hb := hb.trans (hn.mono hb.size)
  clear hn
  intro K hK
  have kb_6 := hb.size
  go_big_op
  go_fit (twice_any hb' (by omega))
  rintro e w_6 ⟨v3, rfl, g3, hb_6⟩
  replace ha := ha.below hb_6 (Nat.le_refl _)
  replace hb' := hb'.below hb_6 (Nat.le_refl _)
  replace hp := hp.below hb_6 (Nat.le_refl _)
  replace hq := hq.below hb_6 (Nat.le_refl _)
  replace hz1 := hz1.below hb_6 (Nat.le_refl _)
  replace hz2 := hz2.below hb_6 (Nat.le_refl _)
  replace g2 := g2.below hb_6 (Nat.le_refl _)
  replace hb := hb.trans (hb_6.mono hb.size)
  refine hK _ _ rfl hb_6 ⟨hp.facts.1, hp.facts.2.1, hq.facts.1, hq.facts.2.1⟩ ?_
  clear hK K hb_6
  apply wpFl_call
  case hi => rfl
  case hw => kernel_rfl
  case h =>
  intro w_7 hn hC
  clear hC
  replace ha := ha.below hn (Nat.le_refl _)
  replace hb' := hb'.below hn (Nat.le_refl _)
  replace hp := hp.below hn (Nat.le_refl _)
  replace hq := hq.below hn (Nat.le_refl _)
  replace hz1 := hz1.below hn (Nat.le_refl _)
  replace hz2 := hz2.below hn (Nat.le_refl _)
  replace g2 := g2.below hn (Nat.le_refl _)
  replace g3 := g3.below hn (Nat.le_refl _)
  replace hb := hb.trans (hn.mono hb.size)
  clear hn
  intro K hK
  have kb_8 := hb.size
  go_big_op
  go_fit (rfloor_any (g2.zn LS.out) (g3.zn LY.out) (by omega) (by omega) H0.out)
  rintro e w_8 ⟨v4, v5, rfl, g4, g5, hb_8⟩
  replace ha := ha.below hb_8 (Nat.le_refl _)
  replace hb' := hb'.below hb_8 (Nat.le_refl _)
  replace hp := hp.below hb_8 (Nat.le_refl _)
  replace hq := hq.below hb_8 (Nat.le_refl _)
  replace hz1 := hz1.below hb_8 (Nat.le_refl _)
  replace hz2 := hz2.below hb_8 (Nat.le_refl _)
  replace g2 := g2.below hb_8 (Nat.le_refl _)
  replace g3 := g3.below hb_8 (Nat.le_refl _)
  replace hb := hb.trans (hb_8.mono hb.size)
  refine hK _ _ rfl hb_8 ⟨hp.facts.1, hp.facts.2.1, hq.facts.1, hq.facts.2.1⟩ ?_
  clear hK K hb_8
  rw [EN.out] at g4
  clear g2
  clear g3
  apply wpFl_ld
  case hG => rfl
  case hi => rfl
  case h1 => intro w' hC K hK; clear hC; (first | go_big_move | go_big_op); exact hK
  case hw => kernel_rfl
  case hv => kernel_rfl
  case hb => kernel_rfl
  case hp => kernel_rfl
  apply wpFl_ld
  case hG => rfl
  case hi => rfl
  case h1 => intro w' hC K hK; clear hC; (first | go_big_move | go_big_op); exact hK
  case hw => kernel_rfl
  case hv => kernel_rfl
  case hb => kernel_rfl
  case hp => kernel_rfl
  apply wpFl_ld
  case hG => rfl
  case hi => rfl
  case h1 => intro w' hC K hK; clear hC; (first | go_big_move | go_big_op); exact hK
  case hw => kernel_rfl
  case hv => kernel_rfl
  case hb => kernel_rfl
  case hp => kernel_rfl
  apply wpFl_end
  case ha => intro pt; simp only [putF, nthO, Act.put, ptr, List.setIfInBounds_toArray, List.set_cons_succ, List.set_cons_zero]; rfl
  case h =>
  intro w_9 pt hn hC hF hD
  clear hC
  replace ha := ha.below hn (Nat.le_refl _)
  replace hb' := hb'.below hn (Nat.le_refl _)
  replace hp := hp.below hn (Nat.le_refl _)
  replace hq := hq.below hn (Nat.le_refl _)
  replace hz1 := hz1.below hn (Nat.le_refl _)
  replace hz2 := hz2.below hn (Nat.le_refl _)
  replace g4 := g4.below hn (Nat.le_refl _)
  replace g5 := g5.below hn (Nat.le_refl _)
  replace hb := hb.trans (hn.mono hb.size)
  clear hn
  obtain ⟨kB_hz3, hz3⟩ := hF 10 (by decide)
  replace hz3 := obZ_bk hz3
  obtain ⟨kB_hz4, hz4⟩ := hF 11 (by decide)
  replace hz4 := obZ_bk hz4
  have ne_hz3_hz4 := hD 10 (by decide) 11 (by decide) (by decide)
  clear hF hD
  generalize pt 10 = p_hz3 at *
  generalize pt 11 = p_hz4 at *
  clear pt
  have kb_hz3 := Nat.le_trans kb0 kB_hz3
  have ne_hp_hz3 : w.heap.size ≠ p_hz3 := Nat.ne_of_lt (Nat.lt_of_lt_of_le lt_hp kB_hz3)
  have ne_hq_hz3 : w.heap.size + 1 ≠ p_hz3 := Nat.ne_of_lt (Nat.lt_of_lt_of_le lt_hq kB_hz3)
  have ne_hz1_hz3 : w.heap.size + 1 + 1 ≠ p_hz3 := Nat.ne_of_lt (Nat.lt_of_lt_of_le lt_hz1 kB_hz3)
  have ne_hz2_hz3 : w.heap.size + 1 + 1 + 1 ≠ p_hz3 := Nat.ne_of_lt (Nat.lt_of_lt_of_le lt_hz2 kB_hz3)
  clear kB_hz3
  have kb_hz4 := Nat.le_trans kb0 kB_hz4
  have ne_hp_hz4 : w.heap.size ≠ p_hz4 := Nat.ne_of_lt (Nat.lt_of_lt_of_le lt_hp kB_hz4)
  have ne_hq_hz4 : w.heap.size + 1 ≠ p_hz4 := Nat.ne_of_lt (Nat.lt_of_lt_of_le lt_hq kB_hz4)
  have ne_hz1_hz4 : w.heap.size + 1 + 1 ≠ p_hz4 := Nat.ne_of_lt (Nat.lt_of_lt_of_le lt_hz1 kB_hz4)
  have ne_hz2_hz4 : w.heap.size + 1 + 1 + 1 ≠ p_hz4 := Nat.ne_of_lt (Nat.lt_of_lt_of_le lt_hz2 kB_hz4)
  clear kB_hz4
  clear lt_hp
  clear lt_hq
  clear lt_hz1
  clear lt_hz2
  clear kb0
  obtain ⟨sb_hz3, o_hz3, n_hz3, c_hz3, rfl⟩ := g4.open2
  apply wpTail_call
  case hi => rfl
  case hw => kernel_rfl
  case h =>
  intro K hK
  have c9_ := hz3.facts
  go_big_op
  have ho := Bk.only w_9 (p_hz3) sb_hz3 (.slice o_hz3 n_hz3 c_hz3)
  have hbx_ := hz3.bx
  replace ha := ha.frame hbx_ ho
  replace hb' := hb'.frame hbx_ ho
  replace hp := hp.frame ho (by first | assumption | (apply Ne.symm; assumption) | (simp; done) | omega)
  replace hq := hq.frame ho (by first | assumption | (apply Ne.symm; assumption) | (simp; done) | omega)
  replace hz1 := hz1.frame ho (by first | assumption | (apply Ne.symm; assumption) | (simp; done) | omega)
  replace hz2 := hz2.frame ho (by first | assumption | (apply Ne.symm; assumption) | (simp; done) | omega)
  replace g4 := g4.frame hbx_ ho
  replace g5 := g5.frame hbx_ ho
  replace hz4 := hz4.frame ho (by first | assumption | (apply Ne.symm; assumption) | (simp; done) | omega)
  replace hz3 := hz3.store sb_hz3 (.slice o_hz3 n_hz3 c_hz3)
  replace hb := (hb.setCell (p := ⟨p_hz3, 0, none⟩) (show w.heap.size ≤ p_hz3 by first | assumption | (simp; done) | omega) (.bool sb_hz3)).setCell (p := ⟨p_hz3, 1, none⟩) (show w.heap.size ≤ p_hz3 by first | assumption | (simp; done) | omega) (.slice o_hz3 n_hz3 c_hz3)
  refine hK _ _ rfl (And.intro (And.intro hp.facts.1 hp.facts.2.1) (And.intro (And.intro hq.facts.1 hq.facts.2.1) True.intro)) ?_
  clear hK K hbx_ ho c9_
  obtain ⟨sb_hz4, o_hz4, n_hz4, c_hz4, rfl⟩ := g5.open2
  apply wpTail_call
  case hi => rfl
  case hw => kernel_rfl
  case h =>
  intro K hK
  have c9_ := hz4.facts
  go_big_op
  have ho := Bk.only ((w_9.setCell ⟨p_hz3, 0, none⟩ (.bool sb_hz3)).setCell ⟨p_hz3, 1, none⟩ (.slice o_hz3 n_hz3 c_hz3)) (p_hz4) sb_hz4 (.slice o_hz4 n_hz4 c_hz4)
  have hbx_ := hz4.bx
  replace ha := ha.frame hbx_ ho
  replace hb' := hb'.frame hbx_ ho
  replace hp := hp.frame ho (by first | assumption | (apply Ne.symm; assumption) | (simp; done) | omega)
  replace hq := hq.frame ho (by first | assumption | (apply Ne.symm; assumption) | (simp; done) | omega)
  replace hz1 := hz1.frame ho (by first | assumption | (apply Ne.symm; assumption) | (simp; done) | omega)
  replace hz2 := hz2.frame ho (by first | assumption | (apply Ne.symm; assumption) | (simp; done) | omega)
  replace g4 := g4.frame hbx_ ho
  replace g5 := g5.frame hbx_ ho
  replace hz3 := hz3.frame ho (by first | assumption | (apply Ne.symm; assumption) | (simp; done) | omega)
  replace hz4 := hz4.store sb_hz4 (.slice o_hz4 n_hz4 c_hz4)
  replace hb := (hb.setCell (p := ⟨p_hz4, 0, none⟩) (show w.heap.size ≤ p_hz4 by first | assumption | (simp; done) | omega) (.bool sb_hz4)).setCell (p := ⟨p_hz4, 1, none⟩) (show w.heap.size ≤ p_hz4 by first | assumption | (simp; done) | omega) (.slice o_hz4 n_hz4 c_hz4)
  refine hK _ _ rfl (And.intro (And.intro hp.facts.1 hp.facts.2.1) (And.intro (And.intro hq.facts.1 hq.facts.2.1) True.intro)) ?_
  clear hK K hbx_ ho c9_
  apply wpTail_end
  replace ha := ha.drew
  replace hb' := hb'.drew
  replace hp := hp.drew
  replace hq := hq.drew
  replace hz1 := hz1.drew
  replace hz2 := hz2.drew
  replace g4 := g4.drew
  replace g5 := g5.drew
  replace hz3 := hz3.drew
  replace hz4 := hz4.drew
  replace hb := hb.drew
  have lt_hp := hp.lt
  have lt_hq := hq.lt
  have lt_hz1 := hz1.lt
  have lt_hz2 := hz2.lt
  have lt_hz3 := hz3.lt
  have lt_hz4 := hz4.lt
  have kb0 := hb.size
  go_wp2_with fail
  refine wp_region_fl [(0, false), (1, false), (2, false), (3, false), (4, true), (5, true)] [6, 7] [] (fun _ => obZ) [2, 0, 2, 1, 99, 99, 99, 99] [] (fun w' => w'.cell? ⟨w.heap.size, 0, none⟩ = some (.bool na) ∧ w'.cell? ⟨w.heap.size, 1, none⟩ = some (.slice oa xs.length ca) ∧ w'.cell? ⟨w.heap.size + 1, 0, none⟩ = some (.bool nb) ∧ w'.cell? ⟨w.heap.size + 1, 1, none⟩ = some (.slice ob ys.length cb) ∧ w'.cell? ⟨p_hz3, 0, none⟩ = some (.bool sb_hz3) ∧ w'.cell? ⟨p_hz3, 1, none⟩ = some (.slice o_hz3 n_hz3 c_hz3)) [fun w' => w'.cell? ⟨w.heap.size, 0, none⟩ = some (.bool na) ∧ w'.cell? ⟨w.heap.size, 1, none⟩ = some (.slice oa xs.length ca), fun w' => w'.cell? ⟨w.heap.size + 1, 0, none⟩ = some (.bool nb) ∧ w'.cell? ⟨w.heap.size + 1, 1, none⟩ = some (.slice ob ys.length cb), fun w' => w'.cell? ⟨p_hz3, 0, none⟩ = some (.bool sb_hz3) ∧ w'.cell? ⟨p_hz3, 1, none⟩ = some (.slice o_hz3 n_hz3 c_hz3)] (by kernel_rfl) (by kernel_rfl) (by kernel_rfl) (by kernel_rfl) (by kernel_rfl) (by kernel_rfl) (by kernel_rfl) (by kernel_rfl) (by decide) (by intro j hj; cases hj) (by intro w' o hC; obtain ⟨c0, c1, c2, c3, c4, c5⟩ := hC; exact ⟨cell_alloc c0 o, cell_alloc c1 o, cell_alloc c2 o, cell_alloc c3 o, cell_alloc c4 o, cell_alloc c5 o⟩) (by intro w' hC G hG; obtain ⟨c0, c1, c2, c3, c4, c5⟩ := hC; simp only [List.mem_cons, List.not_mem_nil, or_false] at hG; rcases hG with rfl | rfl | rfl <;> first | exact ⟨c0, c1⟩ | exact ⟨c2, c3⟩ | exact ⟨c4, c5⟩) ⟨hp.facts.1, hp.facts.2.1, hq.facts.1, hq.facts.2.1, hz3.facts.1, hz3.facts.2.1⟩ ?_
  apply wpFl_ld
  case hG => rfl
  case hi => rfl
  case h1 => intro w' hC K hK; obtain ⟨c0, c1⟩ := hC; (first | go_big_move | go_big_op); exact hK
  case hw => kernel_rfl
  case hv => kernel_rfl
  case hb => kernel_rfl
  case hp => kernel_rfl
  apply wpFl_ld
  case hG => rfl
  case hi => rfl
  case h1 => intro w' hC K hK; obtain ⟨c0, c1⟩ := hC; (first | go_big_move | go_big_op); exact hK
  case hw => kernel_rfl
  case hv => kernel_rfl
  case hb => kernel_rfl
  case hp => kernel_rfl
  apply wpFl_ld
  case hG => rfl
  case hi => rfl
  case h1 => intro w' hC K hK; obtain ⟨c0, c1⟩ := hC; (first | go_big_move | go_big_op); exact hK
  case hw => kernel_rfl
  case hv => kernel_rfl
  case hb => kernel_rfl
  case hp => kernel_rfl
  apply wpFl_ld
  case hG => rfl
  case hi => rfl
  case h1 => intro w' hC K hK; obtain ⟨c0, c1⟩ := hC; (first | go_big_move | go_big_op); exact hK
  case hw => kernel_rfl
  case hv => kernel_rfl
  case hb => kernel_rfl
  case hp => kernel_rfl
  apply wpFl_call
  case hi => rfl
  case hw => kernel_rfl
  case h =>
  intro w_10 hn hC
  clear hC
  replace ha := ha.below hn (Nat.le_refl _)
  replace hb' := hb'.below hn (Nat.le_refl _)
  replace hp := hp.below hn (Nat.le_refl _)
  replace hq := hq.below hn (Nat.le_refl _)
  replace hz1 := hz1.below hn (Nat.le_refl _)
  replace hz2 := hz2.below hn (Nat.le_refl _)
  replace g4 := g4.below hn (Nat.le_refl _)
  replace g5 := g5.below hn (Nat.le_refl _)
  replace hz3 := hz3.below hn (Nat.le_refl _)
  replace hz4 := hz4.below hn (Nat.le_refl _)
  replace hb := hb.trans (hn.mono hb.size)
  clear hn
  intro K hK
  have kb_11 := hb.size
  go_big_op
  go_fit (rzmul_any (g4.zn LN.out) hb' (by omega) (by omega))
  rintro e w_11 ⟨v6, rfl, g6, hb_11⟩
  replace ha := ha.below hb_11 (Nat.le_refl _)
  replace hb' := hb'.below hb_11 (Nat.le_refl _)
  replace hp := hp.below hb_11 (Nat.le_refl _)
  replace hq := hq.below hb_11 (Nat.le_refl _)
  replace hz1 := hz1.below hb_11 (Nat.le_refl _)
  replace hz2 := hz2.below hb_11 (Nat.le_refl _)
  replace g4 := g4.below hb_11 (Nat.le_refl _)
  replace g5 := g5.below hb_11 (Nat.le_refl _)
  replace hz3 := hz3.below hb_11 (Nat.le_refl _)
  replace hz4 := hz4.below hb_11 (Nat.le_refl _)
  replace hb := hb.trans (hb_11.mono hb.size)
  refine hK _ _ rfl hb_11 ⟨hp.facts.1, hp.facts.2.1, hq.facts.1, hq.facts.2.1, hz3.facts.1, hz3.facts.2.1⟩ ?_
  clear hK K hb_11
  replace g6 := g6.rd
  apply wpFl_call
  case hi => rfl
  case hw => kernel_rfl
  case h =>
  intro w_12 hn hC
  clear hC
  replace ha := ha.below hn (Nat.le_refl _)
  replace hb' := hb'.below hn (Nat.le_refl _)
  replace hp := hp.below hn (Nat.le_refl _)
  replace hq := hq.below hn (Nat.le_refl _)
  replace hz1 := hz1.below hn (Nat.le_refl _)
  replace hz2 := hz2.below hn (Nat.le_refl _)
  replace g4 := g4.below hn (Nat.le_refl _)
  replace g5 := g5.below hn (Nat.le_refl _)
  replace hz3 := hz3.below hn (Nat.le_refl _)
  replace hz4 := hz4.below hn (Nat.le_refl _)
  replace g6 := g6.below hn (Nat.le_refl _)
  replace hb := hb.trans (hn.mono hb.size)
  clear hn
  intro K hK
  have kb_13 := hb.size
  go_big_op
  go_fit (rzsub_any ha (g6.zn LM.out) (by omega) (by omega))
  rintro e w_13 ⟨v7, rfl, g7, hb_13⟩
  replace ha := ha.below hb_13 (Nat.le_refl _)
  replace hb' := hb'.below hb_13 (Nat.le_refl _)
  replace hp := hp.below hb_13 (Nat.le_refl _)
  replace hq := hq.below hb_13 (Nat.le_refl _)
  replace hz1 := hz1.below hb_13 (Nat.le_refl _)
  replace hz2 := hz2.below hb_13 (Nat.le_refl _)
  replace g4 := g4.below hb_13 (Nat.le_refl _)
  replace g5 := g5.below hb_13 (Nat.le_refl _)
  replace hz3 := hz3.below hb_13 (Nat.le_refl _)
  replace hz4 := hz4.below hb_13 (Nat.le_refl _)
  replace g6 := g6.below hb_13 (Nat.le_refl _)
  replace hb := hb.trans (hb_13.mono hb.size)
  refine hK _ _ rfl hb_13 ⟨hp.facts.1, hp.facts.2.1, hq.facts.1, hq.facts.2.1, hz3.facts.1, hz3.facts.2.1⟩ ?_
  clear hK K hb_13
  replace g7 := g7.rd
  apply wpFl_end
  case ha => intro pt; simp only [putF]; rfl
  case h =>
  intro w_14 pt hn hC hF hD
  clear hC
  replace ha := ha.below hn (Nat.le_refl _)
  replace hb' := hb'.below hn (Nat.le_refl _)
  replace hp := hp.below hn (Nat.le_refl _)
  replace hq := hq.below hn (Nat.le_refl _)
  replace hz1 := hz1.below hn (Nat.le_refl _)
  replace hz2 := hz2.below hn (Nat.le_refl _)
  replace g4 := g4.below hn (Nat.le_refl _)
  replace g5 := g5.below hn (Nat.le_refl _)
  replace hz3 := hz3.below hn (Nat.le_refl _)
  replace hz4 := hz4.below hn (Nat.le_refl _)
  replace g6 := g6.below hn (Nat.le_refl _)
  replace g7 := g7.below hn (Nat.le_refl _)
  replace hb := hb.trans (hn.mono hb.size)
  clear hn
  clear hF hD
  clear lt_hp
  clear lt_hq
  clear lt_hz1
  clear lt_hz2
  clear lt_hz3
  clear lt_hz4
  clear kb0
  apply wpTail_call
  case hi => rfl
  case hw => kernel_rfl
  case h =>
  intro K hK
  have c9_ := hz1.facts
  go_big_op
  have ho := Bk.only w_14 (w.heap.size + 1 + 1) sb_hz3 (.slice o_hz3 n_hz3 c_hz3)
  have hbx_ := hz1.bx
  replace ha := ha.frame hbx_ ho
  replace hb' := hb'.frame hbx_ ho
  replace hp := hp.frame ho (by first | assumption | (apply Ne.symm; assumption) | (simp; done) | omega)
  replace hq := hq.frame ho (by first | assumption | (apply Ne.symm; assumption) | (simp; done) | omega)
  replace hz2 := hz2.frame ho (by first | assumption | (apply Ne.symm; assumption) | (simp; done) | omega)
  replace g4 := g4.frame hbx_ ho
  replace g5 := g5.frame hbx_ ho
  replace hz3 := hz3.frame ho (by first | assumption | (apply Ne.symm; assumption) | (simp; done) | omega)
  replace hz4 := hz4.frame ho (by first | assumption | (apply Ne.symm; assumption) | (simp; done) | omega)
  replace g6 := g6.frame hbx_ ho
  replace g7 := g7.frame hbx_ ho
  replace hz1 := hz1.store sb_hz3 (.slice o_hz3 n_hz3 c_hz3)
  replace hb := (hb.setCell (p := ⟨w.heap.size + 1 + 1, 0, none⟩) (show w.heap.size ≤ w.heap.size + 1 + 1 by first | assumption | (simp; done) | omega) (.bool sb_hz3)).setCell (p := ⟨w.heap.size + 1 + 1, 1, none⟩) (show w.heap.size ≤ w.heap.size + 1 + 1 by first | assumption | (simp; done) | omega) (.slice o_hz3 n_hz3 c_hz3)
  refine hK _ _ rfl (And.intro (And.intro hp.facts.1 hp.facts.2.1) (And.intro (And.intro hq.facts.1 hq.facts.2.1) (And.intro (And.intro hz3.facts.1 hz3.facts.2.1) True.intro))) ?_
  clear hK K hbx_ ho c9_
  obtain ⟨sb_hz2, o_hz2, n_hz2, c_hz2, rfl⟩ := g7.open2
  apply wpTail_call
  case hi => rfl
  case hw => kernel_rfl
  case h =>
  intro K hK
  have c9_ := hz2.facts
  go_big_op
  have ho := Bk.only ((w_14.setCell ⟨w.heap.size + 1 + 1, 0, none⟩ (.bool sb_hz3)).setCell ⟨w.heap.size + 1 + 1, 1, none⟩ (.slice o_hz3 n_hz3 c_hz3)) (w.heap.size + 1 + 1 + 1) sb_hz2 (.slice o_hz2 n_hz2 c_hz2)
  have hbx_ := hz2.bx
  replace ha := ha.frame hbx_ ho
  replace hb' := hb'.frame hbx_ ho
  replace hp := hp.frame ho (by first | assumption | (apply Ne.symm; assumption) | (simp; done) | omega)
  replace hq := hq.frame ho (by first | assumption | (apply Ne.symm; assumption) | (simp; done) | omega)
  replace hz1 := hz1.frame ho (by first | assumption | (apply Ne.symm; assumption) | (simp; done) | omega)
  replace g4 := g4.frame hbx_ ho
  replace g5 := g5.frame hbx_ ho
  replace hz3 := hz3.frame ho (by first | assumption | (apply Ne.symm; assumption) | (simp; done) | omega)
  replace hz4 := hz4.frame ho (by first | assumption | (apply Ne.symm; assumption) | (simp; done) | omega)
  replace g6 := g6.frame hbx_ ho
  replace g7 := g7.frame hbx_ ho
  replace hz2 := hz2.store sb_hz2 (.slice o_hz2 n_hz2 c_hz2)
  replace hb := (hb.setCell (p := ⟨w.heap.size + 1 + 1 + 1, 0, none⟩) (show w.heap.size ≤ w.heap.size + 1 + 1 + 1 by first | assumption | (simp; done) | omega) (.bool sb_hz2)).setCell (p := ⟨w.heap.size + 1 + 1 + 1, 1, none⟩) (show w.heap.size ≤ w.heap.size + 1 + 1 + 1 by first | assumption | (simp; done) | omega) (.slice o_hz2 n_hz2 c_hz2)
  refine hK _ _ rfl (And.intro (And.intro hp.facts.1 hp.facts.2.1) (And.intro (And.intro hq.facts.1 hq.facts.2.1) (And.intro (And.intro hz3.facts.1 hz3.facts.2.1) True.intro))) ?_
  clear hK K hbx_ ho c9_
  apply wpTail_end
  have f1 := hz1.facts
  have f2 := hz2.facts
  go_wp2
  refine bodyPost_ret (v := .tuple #[.agg #[.bool sb_hz3, .slice o_hz3 n_hz3 c_hz3], .agg #[.bool sb_hz2, .slice o_hz2 n_hz2 c_hz2]]) (by simp [results, Tryz.results205, go_sem, f1.1, f1.2.1, f2.1, f2.2.1]) rfl ?_
  exact ⟨_, _, rfl, g4, g7, hb⟩
end Go.Proofs.YtnkimagnmnocdaaGreat

