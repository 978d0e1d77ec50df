/- zint.Xgcd, Inverse: the walks. -/
import Derived.Test.YtjcfhbekpmpbeaaDoorZ10
namespace Go.Proofs.YtjcfhbekpmpbeaaDoor
open Go.RowKit Dig

set_option maxHeartbeats 4000000 in
set_option maxRecDepth 20000 in
/-- zint.Xgcd by 0. -/
theorem xgcd_zero {w : World} {va vb : Value} {x : Int} {l m : Nat} (ha : ZN w va x l) (hb' : ZN w vb 0 m) (hl : l ≤ 100000000) (hm : m ≤ 100000000) :
    Calls Tryd.prog 31 #[va, vb] w fun e w' => ∃ v1 v2 v3, e = .returned (.tuple #[v1, v2, v3]) ∧ ZO w' w.heap.size v1 (x.natAbs : Int) ∧ ZO w' w.heap.size v2 x.sign ∧ ZO w' w.heap.size v3 0 ∧ Below w.heap.size w w' := by
  obtain ⟨S, hS⟩ : ∃ S, x.sign = S := ⟨_, rfl⟩
  have hSb := sign_bd x
  rw [hS] at hSb ⊢
  have HS := hide hS
  have hS1 := hSb.1
  have hS2 := hSb.2
  have hSw : IntKind.i64.wrap S = S := by rw [IntKind.wrap_i64]; omega
  clear hS hSb
  have e0 : ((0 : Int) == 0) = true := rfl
  obtain ⟨na, oa, ca, xs, rfl, hca, _, _, hxl⟩ := ha.open_
  obtain ⟨nb, ob, cb, ys, rfl, hcb, _, _, hyl⟩ := hb'.open_
  go_enter Tryd.func31, Tryd.ntmps31
  have hb := Below.refl w.heap.size w
  have hp := Bk.new w na (.slice oa xs.length ca)
  replace ha := ha.alloc (.cells #[.bool na, (.slice oa xs.length ca)] 36)
  replace hb' := hb'.alloc (.cells #[.bool na, (.slice oa xs.length ca)] 36)
  replace hb := hb.alloc hb.size (.cells #[.bool na, (.slice oa xs.length ca)] 36)
  have hq := Bk.new (w.alloc (.cells #[.bool na, (.slice oa xs.length ca)] 36)) nb (.slice ob ys.length cb)
  simp only [Bk.size_alloc] at hq
  replace ha := ha.alloc (.cells #[.bool nb, (.slice ob ys.length cb)] 36)
  replace hb' := hb'.alloc (.cells #[.bool nb, (.slice ob ys.length cb)] 36)
  replace hp := hp.alloc (.cells #[.bool nb, (.slice ob ys.length cb)] 36)
  replace hb := hb.alloc hb.size (.cells #[.bool nb, (.slice ob ys.length cb)] 36)
  have hz1 := Bk.new ((w.alloc (.cells #[.bool na, (.slice oa xs.length ca)] 36)).alloc (.cells #[.bool nb, (.slice ob ys.length cb)] 36)) false (.slice none 0 0)
  simp only [Bk.size_alloc] at hz1
  replace ha := ha.alloc (.cells #[.bool false, (.slice none 0 0)] 36)
  replace hb' := hb'.alloc (.cells #[.bool false, (.slice none 0 0)] 36)
  replace hp := hp.alloc (.cells #[.bool false, (.slice none 0 0)] 36)
  replace hq := hq.alloc (.cells #[.bool false, (.slice none 0 0)] 36)
  replace hb := hb.alloc hb.size (.cells #[.bool false, (.slice none 0 0)] 36)
  have hz2 := Bk.new (((w.alloc (.cells #[.bool na, (.slice oa xs.length ca)] 36)).alloc (.cells #[.bool nb, (.slice ob ys.length cb)] 36)).alloc (.cells #[.bool false, (.slice none 0 0)] 36)) false (.slice none 0 0)
  simp only [Bk.size_alloc] at hz2
  replace ha := ha.alloc (.cells #[.bool false, (.slice none 0 0)] 36)
  replace hb' := hb'.alloc (.cells #[.bool false, (.slice none 0 0)] 36)
  replace hp := hp.alloc (.cells #[.bool false, (.slice none 0 0)] 36)
  replace hq := hq.alloc (.cells #[.bool false, (.slice none 0 0)] 36)
  replace hz1 := hz1.alloc (.cells #[.bool false, (.slice none 0 0)] 36)
  replace hb := hb.alloc hb.size (.cells #[.bool false, (.slice none 0 0)] 36)
  have hz3 := Bk.new ((((w.alloc (.cells #[.bool na, (.slice oa xs.length ca)] 36)).alloc (.cells #[.bool nb, (.slice ob ys.length cb)] 36)).alloc (.cells #[.bool false, (.slice none 0 0)] 36)).alloc (.cells #[.bool false, (.slice none 0 0)] 36)) false (.slice none 0 0)
  simp only [Bk.size_alloc] at hz3
  replace ha := ha.alloc (.cells #[.bool false, (.slice none 0 0)] 36)
  replace hb' := hb'.alloc (.cells #[.bool false, (.slice none 0 0)] 36)
  replace hp := hp.alloc (.cells #[.bool false, (.slice none 0 0)] 36)
  replace hq := hq.alloc (.cells #[.bool false, (.slice none 0 0)] 36)
  replace hz1 := hz1.alloc (.cells #[.bool false, (.slice none 0 0)] 36)
  replace hz2 := hz2.alloc (.cells #[.bool false, (.slice none 0 0)] 36)
  replace hb := hb.alloc hb.size (.cells #[.bool false, (.slice none 0 0)] 36)
  have f_hq := hq.facts
  go_wp2_with fail
  refine (zsign_any hb' (by omega)).mono ?_
  rintro e w_1 ⟨rfl, hb_1⟩
  replace ha := ha.below hb_1 (Nat.le_refl _)
  replace hb' := hb'.below hb_1 (Nat.le_refl _)
  replace hp := hp.below hb_1 (Nat.le_refl _)
  replace hq := hq.below hb_1 (Nat.le_refl _)
  replace hz1 := hz1.below hb_1 (Nat.le_refl _)
  replace hz2 := hz2.below hb_1 (Nat.le_refl _)
  replace hz3 := hz3.below hb_1 (Nat.le_refl _)
  replace hb := hb.trans (hb_1.mono hb.size)
  clear hb_1
  clear f_hq
  replace ha := ha.drew
  replace hb' := hb'.drew
  replace hp := hp.drew
  replace hq := hq.drew
  replace hz1 := hz1.drew
  replace hz2 := hz2.drew
  replace hz3 := hz3.drew
  replace hb := hb.drew
  have lt_hp := hp.lt
  have lt_hq := hq.lt
  have lt_hz1 := hz1.lt
  have lt_hz2 := hz2.lt
  have lt_hz3 := hz3.lt
  have kb0 := hb.size
  go_wp2_with fail
  refine wp_region_fl [(0, false), (2, false), (5, false), (1, true), (3, true), (4, true)] [6, 7, 8] [] (fun _ => obZ) [0, 99, 0, 99, 99, 99, 99, 99, 99] [] (fun w' => w'.cell? ⟨w.heap.size, 0, none⟩ = some (.bool na) ∧ w'.cell? ⟨w.heap.size, 1, none⟩ = some (.slice oa xs.length ca)) [fun w' => w'.cell? ⟨w.heap.size, 0, none⟩ = some (.bool na) ∧ w'.cell? ⟨w.heap.size, 1, none⟩ = some (.slice oa xs.length ca)] (by kernel_rfl) (by kernel_rfl) (by kernel_rfl) (by kernel_rfl) (by kernel_rfl) (by kernel_rfl) (by kernel_rfl) (by kernel_rfl) (by decide) (by intro j hj; cases hj) (by intro w' o hC; obtain ⟨c0, c1⟩ := hC; exact ⟨cell_alloc c0 o, cell_alloc c1 o⟩) (by intro w' hC G hG; obtain ⟨c0, c1⟩ := hC; simp only [List.mem_cons, List.not_mem_nil, or_false] at hG; rcases hG with rfl <;> first | exact ⟨c0, c1⟩) ⟨hp.facts.1, hp.facts.2.1⟩ ?_
  apply wpFl_ld
  case hG => rfl
  case hi => rfl
  case h1 => intro w' hC K hK; obtain ⟨c0, c1⟩ := hC; (first | go_big_move | go_big_op); exact hK
  case hw => kernel_rfl
  case hv => kernel_rfl
  case hb => kernel_rfl
  case hp => kernel_rfl
  apply wpFl_ld
  case hG => rfl
  case hi => rfl
  case h1 => intro w' hC K hK; obtain ⟨c0, c1⟩ := hC; (first | go_big_move | go_big_op); exact hK
  case hw => kernel_rfl
  case hv => kernel_rfl
  case hb => kernel_rfl
  case hp => kernel_rfl
  apply wpFl_ld
  case hG => rfl
  case hi => rfl
  case h1 => intro w' hC K hK; clear hC; (first | go_big_move | go_big_op); exact hK
  case hw => kernel_rfl
  case hv => kernel_rfl
  case hb => kernel_rfl
  case hp => kernel_rfl
  apply wpFl_call
  case hi => rfl
  case hw => kernel_rfl
  case h =>
  intro w_2 hn hC
  clear hC
  replace ha := ha.below hn (Nat.le_refl _)
  replace hb' := hb'.below hn (Nat.le_refl _)
  replace hp := hp.below hn (Nat.le_refl _)
  replace hq := hq.below hn (Nat.le_refl _)
  replace hz1 := hz1.below hn (Nat.le_refl _)
  replace hz2 := hz2.below hn (Nat.le_refl _)
  replace hz3 := hz3.below hn (Nat.le_refl _)
  replace hb := hb.trans (hn.mono hb.size)
  clear hn
  intro K hK
  have kb_3 := hb.size
  go_big_op
  go_fit (zabs_any ha (by omega))
  rintro e w_3 ⟨v1, rfl, g1, hb_3⟩
  replace ha := ha.below hb_3 (Nat.le_refl _)
  replace hb' := hb'.below hb_3 (Nat.le_refl _)
  replace hp := hp.below hb_3 (Nat.le_refl _)
  replace hq := hq.below hb_3 (Nat.le_refl _)
  replace hz1 := hz1.below hb_3 (Nat.le_refl _)
  replace hz2 := hz2.below hb_3 (Nat.le_refl _)
  replace hz3 := hz3.below hb_3 (Nat.le_refl _)
  replace hb := hb.trans (hb_3.mono hb.size)
  refine hK _ _ rfl hb_3 ⟨hp.facts.1, hp.facts.2.1⟩ ?_
  clear hK K hb_3
  apply wpFl_call
  case hi => rfl
  case hw => kernel_rfl
  case h =>
  intro w_4 hn hC
  clear hC
  replace ha := ha.below hn (Nat.le_refl _)
  replace hb' := hb'.below hn (Nat.le_refl _)
  replace hp := hp.below hn (Nat.le_refl _)
  replace hq := hq.below hn (Nat.le_refl _)
  replace hz1 := hz1.below hn (Nat.le_refl _)
  replace hz2 := hz2.below hn (Nat.le_refl _)
  replace hz3 := hz3.below hn (Nat.le_refl _)
  replace g1 := g1.below hn (Nat.le_refl _)
  replace hb := hb.trans (hn.mono hb.size)
  clear hn
  intro K hK
  have kb_5 := hb.size
  go_big_op
  go_fit (zsign_any ha (by omega))
  rintro e w_5 ⟨rfl, hb_5⟩
  replace ha := ha.below hb_5 (Nat.le_refl _)
  replace hb' := hb'.below hb_5 (Nat.le_refl _)
  replace hp := hp.below hb_5 (Nat.le_refl _)
  replace hq := hq.below hb_5 (Nat.le_refl _)
  replace hz1 := hz1.below hb_5 (Nat.le_refl _)
  replace hz2 := hz2.below hb_5 (Nat.le_refl _)
  replace hz3 := hz3.below hb_5 (Nat.le_refl _)
  replace g1 := g1.below hb_5 (Nat.le_refl _)
  replace hb := hb.trans (hb_5.mono hb.size)
  refine hK _ _ rfl hb_5 ⟨hp.facts.1, hp.facts.2.1⟩ ?_
  clear hK K hb_5
  rw [HS.out]
  apply wpFl_call
  case hi => rfl
  case hw => kernel_rfl
  case h =>
  intro w_6 hn hC
  clear hC
  replace ha := ha.below hn (Nat.le_refl _)
  replace hb' := hb'.below hn (Nat.le_refl _)
  replace hp := hp.below hn (Nat.le_refl _)
  replace hq := hq.below hn (Nat.le_refl _)
  replace hz1 := hz1.below hn (Nat.le_refl _)
  replace hz2 := hz2.below hn (Nat.le_refl _)
  replace hz3 := hz3.below hn (Nat.le_refl _)
  replace g1 := g1.below hn (Nat.le_refl _)
  replace hb := hb.trans (hn.mono hb.size)
  clear hn
  intro K hK
  have kb_7 := hb.size
  go_big_op
  go_fit (from_any S _ (by omega) (by omega))
  rintro e w_7 ⟨v2, rfl, g2, hb_7⟩
  replace ha := ha.below hb_7 (Nat.le_refl _)
  replace hb' := hb'.below hb_7 (Nat.le_refl _)
  replace hp := hp.below hb_7 (Nat.le_refl _)
  replace hq := hq.below hb_7 (Nat.le_refl _)
  replace hz1 := hz1.below hb_7 (Nat.le_refl _)
  replace hz2 := hz2.below hb_7 (Nat.le_refl _)
  replace hz3 := hz3.below hb_7 (Nat.le_refl _)
  replace g1 := g1.below hb_7 (Nat.le_refl _)
  replace hb := hb.trans (hb_7.mono hb.size)
  refine hK _ _ rfl hb_7 ⟨hp.facts.1, hp.facts.2.1⟩ ?_
  clear hK K hb_7
  apply wpFl_end
  case ha => intro pt; simp only [putF]; rfl
  case h =>
  intro w_8 pt hn hC hF hD
  clear hC
  replace ha := ha.below hn (Nat.le_refl _)
  replace hb' := hb'.below hn (Nat.le_refl _)
  replace hp := hp.below hn (Nat.le_refl _)
  replace hq := hq.below hn (Nat.le_refl _)
  replace hz1 := hz1.below hn (Nat.le_refl _)
  replace hz2 := hz2.below hn (Nat.le_refl _)
  replace hz3 := hz3.below hn (Nat.le_refl _)
  replace g1 := g1.below hn (Nat.le_refl _)
  replace g2 := g2.below hn (Nat.le_refl _)
  replace hb := hb.trans (hn.mono hb.size)
  clear hn
  clear hF hD
  clear lt_hp
  clear lt_hq
  clear lt_hz1
  clear lt_hz2
  clear lt_hz3
  clear kb0
  obtain ⟨sb_hz1, o_hz1, n_hz1, c_hz1, rfl⟩ := g1.open2
  apply wpTail_call
  case hi => rfl
  case hw => kernel_rfl
  case h =>
  intro K hK
  have c9_ := hz1.facts
  go_big_op
  have ho := Bk.only w_8 (w.heap.size + 1 + 1) sb_hz1 (.slice o_hz1 n_hz1 c_hz1)
  have hbx_ := hz1.bx
  replace ha := ha.frame hbx_ ho
  replace hb' := hb'.frame hbx_ ho
  replace hp := hp.frame ho (by first | assumption | (apply Ne.symm; assumption) | (simp; done) | omega)
  replace hq := hq.frame ho (by first | assumption | (apply Ne.symm; assumption) | (simp; done) | omega)
  replace hz2 := hz2.frame ho (by first | assumption | (apply Ne.symm; assumption) | (simp; done) | omega)
  replace hz3 := hz3.frame ho (by first | assumption | (apply Ne.symm; assumption) | (simp; done) | omega)
  replace g1 := g1.frame hbx_ ho
  replace g2 := g2.frame hbx_ ho
  replace hz1 := hz1.store sb_hz1 (.slice o_hz1 n_hz1 c_hz1)
  replace hb := (hb.setCell (p := ⟨w.heap.size + 1 + 1, 0, none⟩) (show w.heap.size ≤ w.heap.size + 1 + 1 by first | assumption | (simp; done) | omega) (.bool sb_hz1)).setCell (p := ⟨w.heap.size + 1 + 1, 1, none⟩) (show w.heap.size ≤ w.heap.size + 1 + 1 by first | assumption | (simp; done) | omega) (.slice o_hz1 n_hz1 c_hz1)
  refine hK _ _ rfl (And.intro (And.intro hp.facts.1 hp.facts.2.1) True.intro) ?_
  clear hK K hbx_ ho c9_
  obtain ⟨sb_hz2, o_hz2, n_hz2, c_hz2, rfl⟩ := g2.open2
  apply wpTail_call
  case hi => rfl
  case hw => kernel_rfl
  case h =>
  intro K hK
  have c9_ := hz2.facts
  go_big_op
  have ho := Bk.only ((w_8.setCell ⟨w.heap.size + 1 + 1, 0, none⟩ (.bool sb_hz1)).setCell ⟨w.heap.size + 1 + 1, 1, none⟩ (.slice o_hz1 n_hz1 c_hz1)) (w.heap.size + 1 + 1 + 1) sb_hz2 (.slice o_hz2 n_hz2 c_hz2)
  have hbx_ := hz2.bx
  replace ha := ha.frame hbx_ ho
  replace hb' := hb'.frame hbx_ ho
  replace hp := hp.frame ho (by first | assumption | (apply Ne.symm; assumption) | (simp; done) | omega)
  replace hq := hq.frame ho (by first | assumption | (apply Ne.symm; assumption) | (simp; done) | omega)
  replace hz1 := hz1.frame ho (by first | assumption | (apply Ne.symm; assumption) | (simp; done) | omega)
  replace hz3 := hz3.frame ho (by first | assumption | (apply Ne.symm; assumption) | (simp; done) | omega)
  replace g1 := g1.frame hbx_ ho
  replace g2 := g2.frame hbx_ ho
  replace hz2 := hz2.store sb_hz2 (.slice o_hz2 n_hz2 c_hz2)
  replace hb := (hb.setCell (p := ⟨w.heap.size + 1 + 1 + 1, 0, none⟩) (show w.heap.size ≤ w.heap.size + 1 + 1 + 1 by first | assumption | (simp; done) | omega) (.bool sb_hz2)).setCell (p := ⟨w.heap.size + 1 + 1 + 1, 1, none⟩) (show w.heap.size ≤ w.heap.size + 1 + 1 + 1 by first | assumption | (simp; done) | omega) (.slice o_hz2 n_hz2 c_hz2)
  refine hK _ _ rfl (And.intro (And.intro hp.facts.1 hp.facts.2.1) True.intro) ?_
  clear hK K hbx_ ho c9_
  apply wpTail_call
  case hi => rfl
  case hw => kernel_rfl
  case h =>
  intro K hK
  have c9_ := hz3.facts
  go_big_op
  have ho := Bk.only ((((w_8.setCell ⟨w.heap.size + 1 + 1, 0, none⟩ (.bool sb_hz1)).setCell ⟨w.heap.size + 1 + 1, 1, none⟩ (.slice o_hz1 n_hz1 c_hz1)).setCell ⟨w.heap.size + 1 + 1 + 1, 0, none⟩ (.bool sb_hz2)).setCell ⟨w.heap.size + 1 + 1 + 1, 1, none⟩ (.slice o_hz2 n_hz2 c_hz2)) (w.heap.size + 1 + 1 + 1 + 1) false (.slice none 0 0)
  have hbx_ := hz3.bx
  replace ha := ha.frame hbx_ ho
  replace hb' := hb'.frame hbx_ ho
  replace hp := hp.frame ho (by first | assumption | (apply Ne.symm; assumption) | (simp; done) | omega)
  replace hq := hq.frame ho (by first | assumption | (apply Ne.symm; assumption) | (simp; done) | omega)
  replace hz1 := hz1.frame ho (by first | assumption | (apply Ne.symm; assumption) | (simp; done) | omega)
  replace hz2 := hz2.frame ho (by first | assumption | (apply Ne.symm; assumption) | (simp; done) | omega)
  replace g1 := g1.frame hbx_ ho
  replace g2 := g2.frame hbx_ ho
  replace hz3 := hz3.store false (.slice none 0 0)
  replace hb := (hb.setCell (p := ⟨w.heap.size + 1 + 1 + 1 + 1, 0, none⟩) (show w.heap.size ≤ w.heap.size + 1 + 1 + 1 + 1 by first | assumption | (simp; done) | omega) (.bool false)).setCell (p := ⟨w.heap.size + 1 + 1 + 1 + 1, 1, none⟩) (show w.heap.size ≤ w.heap.size + 1 + 1 + 1 + 1 by first | assumption | (simp; done) | omega) (.slice none 0 0)
  refine hK _ _ rfl (And.intro (And.intro hp.facts.1 hp.facts.2.1) True.intro) ?_
  clear hK K hbx_ ho c9_
  apply wpTail_end
  have f1 := hz1.facts
  have f2 := hz2.facts
  have f3 := hz3.facts
  go_wp2
  refine bodyPost_ret (v := .tuple #[.agg #[.bool sb_hz1, .slice o_hz1 n_hz1 c_hz1], .agg #[.bool sb_hz2, .slice o_hz2 n_hz2 c_hz2], .agg #[.bool false, .slice none 0 0]]) (by simp [results, Tryd.results31, go_sem, f1.1, f1.2.1, f2.1, f2.2.1, f3.1, f3.2.1]) rfl ?_
  exact ⟨_, _, _, rfl, g1.mono (by omega), g2.mono (by omega), zo_zero _ _, hb⟩

set_option maxHeartbeats 4000000 in
set_option maxRecDepth 20000 in
/-- zint.Xgcd by a number that is not 0. -/
theorem xgcd_any {w : World} {va vb : Value} {x y : Int} {l m : Nat} (ha : ZN w va x l) (hb' : ZN w vb y m) (hl : l ≤ 20000000) (hm : m ≤ 20000000) (h0 : y ≠ 0) :
    Calls Tryd.prog 31 #[va, vb] w fun e w' => ∃ v1 v2 v3, e = .returned (.tuple #[v1, v2, v3]) ∧ (∃ c : Int, XG x y c ∧ ZO w' w.heap.size v1 (Int.gcd x y) ∧ ZO w' w.heap.size v2 c ∧ ZO w' w.heap.size v3 (((Int.gcd x y : Int) - x * c).fdiv y)) ∧ Below w.heap.size w w' := by
  have Lx := hide ha.len
  have Ly := hb'.len
  have LA := hide (show (dig ((y.natAbs : Int)).natAbs).length ≤ m from Ly)
  have LY := hide Ly
  obtain ⟨S, hS⟩ : ∃ S, y.sign = S := ⟨_, rfl⟩
  have hS0 : (S == 0) = false := by rw [beq_eq_false_iff_ne, ← hS]; exact fun h => h0 (Int.sign_eq_zero_iff_zero.1 h)
  have HS := hide hS
  have H0 := hide h0
  have HA := hide (show 0 < ((y.natAbs : Nat) : Int) by omega)
  have HP := hide (period_eq (x := x) (y := y))
  have HPP := hide (show ((y.natAbs : Int)).fdiv (Int.gcd x y) ≠ 0 by have := period_pos (x := x) h0; omega)
  have HG0 := hide (show (Int.gcd x y : Int) ≠ 0 by have := gcd_pos (x := x) h0; omega)
  have LG := hide (show (dig ((Int.gcd x y : Int)).natAbs).length ≤ m from len_le (gcd_le h0) Ly)
  have LP := hide (fdiv_len HG0.out LA.out)
  have HGA := hide (show Int.gcd x ((y.natAbs : Nat) : Int) = Int.gcd x y by unfold Int.gcd; rw [Int.natAbs_natCast])
  clear h0 hS Ly
  obtain ⟨na, oa, ca, xs, rfl, hca, _, _, hxl⟩ := ha.open_
  obtain ⟨nb, ob, cb, ys, rfl, hcb, _, _, hyl⟩ := hb'.open_
  go_enter Tryd.func31, Tryd.ntmps31
  have hb := Below.refl w.heap.size w
  have hp := Bk.new w na (.slice oa xs.length ca)
  replace ha := ha.alloc (.cells #[.bool na, (.slice oa xs.length ca)] 36)
  replace hb' := hb'.alloc (.cells #[.bool na, (.slice oa xs.length ca)] 36)
  replace hb := hb.alloc hb.size (.cells #[.bool na, (.slice oa xs.length ca)] 36)
  have hq := Bk.new (w.alloc (.cells #[.bool na, (.slice oa xs.length ca)] 36)) nb (.slice ob ys.length cb)
  simp only [Bk.size_alloc] at hq
  replace ha := ha.alloc (.cells #[.bool nb, (.slice ob ys.length cb)] 36)
  replace hb' := hb'.alloc (.cells #[.bool nb, (.slice ob ys.length cb)] 36)
  replace hp := hp.alloc (.cells #[.bool nb, (.slice ob ys.length cb)] 36)
  replace hb := hb.alloc hb.size (.cells #[.bool nb, (.slice ob ys.length cb)] 36)
  have hz1 := Bk.new ((w.alloc (.cells #[.bool na, (.slice oa xs.length ca)] 36)).alloc (.cells #[.bool nb, (.slice ob ys.length cb)] 36)) false (.slice none 0 0)
  simp only [Bk.size_alloc] at hz1
  replace ha := ha.alloc (.cells #[.bool false, (.slice none 0 0)] 36)
  replace hb' := hb'.alloc (.cells #[.bool false, (.slice none 0 0)] 36)
  replace hp := hp.alloc (.cells #[.bool false, (.slice none 0 0)] 36)
  replace hq := hq.alloc (.cells #[.bool false, (.slice none 0 0)] 36)
  replace hb := hb.alloc hb.size (.cells #[.bool false, (.slice none 0 0)] 36)
  have hz2 := Bk.new (((w.alloc (.cells #[.bool na, (.slice oa xs.length ca)] 36)).alloc (.cells #[.bool nb, (.slice ob ys.length cb)] 36)).alloc (.cells #[.bool false, (.slice none 0 0)] 36)) false (.slice none 0 0)
  simp only [Bk.size_alloc] at hz2
  replace ha := ha.alloc (.cells #[.bool false, (.slice none 0 0)] 36)
  replace hb' := hb'.alloc (.cells #[.bool false, (.slice none 0 0)] 36)
  replace hp := hp.alloc (.cells #[.bool false, (.slice none 0 0)] 36)
  replace hq := hq.alloc (.cells #[.bool false, (.slice none 0 0)] 36)
  replace hz1 := hz1.alloc (.cells #[.bool false, (.slice none 0 0)] 36)
  replace hb := hb.alloc hb.size (.cells #[.bool false, (.slice none 0 0)] 36)
  have hz3 := Bk.new ((((w.alloc (.cells #[.bool na, (.slice oa xs.length ca)] 36)).alloc (.cells #[.bool nb, (.slice ob ys.length cb)] 36)).alloc (.cells #[.bool false, (.slice none 0 0)] 36)).alloc (.cells #[.bool false, (.slice none 0 0)] 36)) false (.slice none 0 0)
  simp only [Bk.size_alloc] at hz3
  replace ha := ha.alloc (.cells #[.bool false, (.slice none 0 0)] 36)
  replace hb' := hb'.alloc (.cells #[.bool false, (.slice none 0 0)] 36)
  replace hp := hp.alloc (.cells #[.bool false, (.slice none 0 0)] 36)
  replace hq := hq.alloc (.cells #[.bool false, (.slice none 0 0)] 36)
  replace hz1 := hz1.alloc (.cells #[.bool false, (.slice none 0 0)] 36)
  replace hz2 := hz2.alloc (.cells #[.bool false, (.slice none 0 0)] 36)
  replace hb := hb.alloc hb.size (.cells #[.bool false, (.slice none 0 0)] 36)
  have f_hq := hq.facts
  go_wp2_with fail
  refine (zsign_any hb' (by omega)).mono ?_
  rintro e w_1 ⟨rfl, hb_1⟩
  replace ha := ha.below hb_1 (Nat.le_refl _)
  replace hb' := hb'.below hb_1 (Nat.le_refl _)
  replace hp := hp.below hb_1 (Nat.le_refl _)
  replace hq := hq.below hb_1 (Nat.le_refl _)
  replace hz1 := hz1.below hb_1 (Nat.le_refl _)
  replace hz2 := hz2.below hb_1 (Nat.le_refl _)
  replace hz3 := hz3.below hb_1 (Nat.le_refl _)
  replace hb := hb.trans (hb_1.mono hb.size)
  clear hb_1
  rw [HS.out]
  clear f_hq
  replace ha := ha.drew
  replace hb' := hb'.drew
  replace hp := hp.drew
  replace hq := hq.drew
  replace hz1 := hz1.drew
  replace hz2 := hz2.drew
  replace hz3 := hz3.drew
  replace hb := hb.drew
  have lt_hp := hp.lt
  have lt_hq := hq.lt
  have lt_hz1 := hz1.lt
  have lt_hz2 := hz2.lt
  have lt_hz3 := hz3.lt
  have kb0 := hb.size
  go_wp2_with fail
  refine wp_region_fl [(0, false), (1, false), (2, true), (3, true), (4, false), (5, false), (6, false)] [7, 8] [] (fun _ => obZ) [0, 1, 99, 99, 99, 99, 99, 99, 99] [] (fun w' => w'.cell? ⟨w.heap.size, 0, none⟩ = some (.bool na) ∧ w'.cell? ⟨w.heap.size, 1, none⟩ = some (.slice oa xs.length ca) ∧ w'.cell? ⟨w.heap.size + 1, 0, none⟩ = some (.bool nb) ∧ w'.cell? ⟨w.heap.size + 1, 1, none⟩ = some (.slice ob ys.length cb)) [fun w' => w'.cell? ⟨w.heap.size, 0, none⟩ = some (.bool na) ∧ w'.cell? ⟨w.heap.size, 1, none⟩ = some (.slice oa xs.length ca), fun w' => w'.cell? ⟨w.heap.size + 1, 0, none⟩ = some (.bool nb) ∧ w'.cell? ⟨w.heap.size + 1, 1, none⟩ = some (.slice ob ys.length cb)] (by kernel_rfl) (by kernel_rfl) (by kernel_rfl) (by kernel_rfl) (by kernel_rfl) (by kernel_rfl) (by kernel_rfl) (by kernel_rfl) (by decide) (by intro j hj; cases hj) (by intro w' o hC; obtain ⟨c0, c1, c2, c3⟩ := hC; exact ⟨cell_alloc c0 o, cell_alloc c1 o, cell_alloc c2 o, cell_alloc c3 o⟩) (by intro w' hC G hG; obtain ⟨c0, c1, c2, c3⟩ := hC; simp only [List.mem_cons, List.not_mem_nil, or_false] at hG; rcases hG with rfl | rfl <;> first | exact ⟨c0, c1⟩ | exact ⟨c2, c3⟩) ⟨hp.facts.1, hp.facts.2.1, hq.facts.1, hq.facts.2.1⟩ ?_
  apply wpFl_ld
  case hG => rfl
  case hi => rfl
  case h1 => intro w' hC K hK; obtain ⟨c0, c1⟩ := hC; (first | go_big_move | go_big_op); exact hK
  case hw => kernel_rfl
  case hv => kernel_rfl
  case hb => kernel_rfl
  case hp => kernel_rfl
  apply wpFl_ld
  case hG => rfl
  case hi => rfl
  case h1 => intro w' hC K hK; obtain ⟨c0, c1⟩ := hC; (first | go_big_move | go_big_op); exact hK
  case hw => kernel_rfl
  case hv => kernel_rfl
  case hb => kernel_rfl
  case hp => kernel_rfl
  apply wpFl_call
  case hi => rfl
  case hw => kernel_rfl
  case h =>
  intro w_2 hn hC
  clear hC
  replace ha := ha.below hn (Nat.le_refl _)
  replace hb' := hb'.below hn (Nat.le_refl _)
  replace hp := hp.below hn (Nat.le_refl _)
  replace hq := hq.below hn (Nat.le_refl _)
  replace hz1 := hz1.below hn (Nat.le_refl _)
  replace hz2 := hz2.below hn (Nat.le_refl _)
  replace hz3 := hz3.below hn (Nat.le_refl _)
  replace hb := hb.trans (hn.mono hb.size)
  clear hn
  intro K hK
  have kb_3 := hb.size
  go_big_op
  go_fit (zabs_any hb' (by omega))
  rintro e w_3 ⟨v1, rfl, g1, hb_3⟩
  replace ha := ha.below hb_3 (Nat.le_refl _)
  replace hb' := hb'.below hb_3 (Nat.le_refl _)
  replace hp := hp.below hb_3 (Nat.le_refl _)
  replace hq := hq.below hb_3 (Nat.le_refl _)
  replace hz1 := hz1.below hb_3 (Nat.le_refl _)
  replace hz2 := hz2.below hb_3 (Nat.le_refl _)
  replace hz3 := hz3.below hb_3 (Nat.le_refl _)
  replace hb := hb.trans (hb_3.mono hb.size)
  refine hK _ _ rfl hb_3 ⟨hp.facts.1, hp.facts.2.1, hq.facts.1, hq.facts.2.1⟩ ?_
  clear hK K hb_3
  apply wpFl_call
  case hi => rfl
  case hw => kernel_rfl
  case h =>
  intro w_4 hn hC
  clear hC
  replace ha := ha.below hn (Nat.le_refl _)
  replace hb' := hb'.below hn (Nat.le_refl _)
  replace hp := hp.below hn (Nat.le_refl _)
  replace hq := hq.below hn (Nat.le_refl _)
  replace hz1 := hz1.below hn (Nat.le_refl _)
  replace hz2 := hz2.below hn (Nat.le_refl _)
  replace hz3 := hz3.below hn (Nat.le_refl _)
  replace g1 := g1.below hn (Nat.le_refl _)
  replace hb := hb.trans (hn.mono hb.size)
  clear hn
  intro K hK
  have kb_5 := hb.size
  go_big_op
  go_fit (ff_any ha (g1.zn LA.out) (by omega) (by omega) HA.out)
  rintro e w_5 ⟨v2, v3, rfl, ⟨X, g2, g3, hdv, hXb⟩, hb_5⟩
  replace ha := ha.below hb_5 (Nat.le_refl _)
  replace hb' := hb'.below hb_5 (Nat.le_refl _)
  replace hp := hp.below hb_5 (Nat.le_refl _)
  replace hq := hq.below hb_5 (Nat.le_refl _)
  replace hz1 := hz1.below hb_5 (Nat.le_refl _)
  replace hz2 := hz2.below hb_5 (Nat.le_refl _)
  replace hz3 := hz3.below hb_5 (Nat.le_refl _)
  replace g1 := g1.below hb_5 (Nat.le_refl _)
  replace hb := hb.trans (hb_5.mono hb.size)
  refine hK _ _ rfl hb_5 ⟨hp.facts.1, hp.facts.2.1, hq.facts.1, hq.facts.2.1⟩ ?_
  clear hK K hb_5
  rw [HGA.out] at g2 hdv
  replace hdv := hide (Int.natAbs_dvd.1 hdv)
  replace hXb := hide hXb
  clear g1
  apply wpFl_ld
  case hG => rfl
  case hi => rfl
  case h1 => intro w' hC K hK; clear hC; (first | go_big_move | go_big_op); exact hK
  case hw => kernel_rfl
  case hv => kernel_rfl
  case hb => kernel_rfl
  case hp => kernel_rfl
  apply wpFl_ld
  case hG => rfl
  case hi => rfl
  case h1 => intro w' hC K hK; clear hC; (first | go_big_move | go_big_op); exact hK
  case hw => kernel_rfl
  case hv => kernel_rfl
  case hb => kernel_rfl
  case hp => kernel_rfl
  apply wpFl_ld
  case hG => rfl
  case hi => rfl
  case h1 => intro w' hC K hK; clear hC; (first | go_big_move | go_big_op); exact hK
  case hw => kernel_rfl
  case hv => kernel_rfl
  case hb => kernel_rfl
  case hp => kernel_rfl
  apply wpFl_end
  case ha => intro pt; simp only [putF]; rfl
  case h =>
  intro w_6 pt hn hC hF hD
  clear hC
  replace ha := ha.below hn (Nat.le_refl _)
  replace hb' := hb'.below hn (Nat.le_refl _)
  replace hp := hp.below hn (Nat.le_refl _)
  replace hq := hq.below hn (Nat.le_refl _)
  replace hz1 := hz1.below hn (Nat.le_refl _)
  replace hz2 := hz2.below hn (Nat.le_refl _)
  replace hz3 := hz3.below hn (Nat.le_refl _)
  replace g2 := g2.below hn (Nat.le_refl _)
  replace g3 := g3.below hn (Nat.le_refl _)
  replace hb := hb.trans (hn.mono hb.size)
  clear hn
  clear hF hD
  clear lt_hp
  clear lt_hq
  clear lt_hz1
  clear lt_hz2
  clear lt_hz3
  clear kb0
  obtain ⟨sb_hz1, o_hz1, n_hz1, c_hz1, rfl⟩ := g2.open2
  apply wpTail_call
  case hi => rfl
  case hw => kernel_rfl
  case h =>
  intro K hK
  have c9_ := hz1.facts
  go_big_op
  have ho := Bk.only w_6 (w.heap.size + 1 + 1) sb_hz1 (.slice o_hz1 n_hz1 c_hz1)
  have hbx_ := hz1.bx
  replace ha := ha.frame hbx_ ho
  replace hb' := hb'.frame hbx_ ho
  replace hp := hp.frame ho (by first | assumption | (apply Ne.symm; assumption) | (simp; done) | omega)
  replace hq := hq.frame ho (by first | assumption | (apply Ne.symm; assumption) | (simp; done) | omega)
  replace hz2 := hz2.frame ho (by first | assumption | (apply Ne.symm; assumption) | (simp; done) | omega)
  replace hz3 := hz3.frame ho (by first | assumption | (apply Ne.symm; assumption) | (simp; done) | omega)
  replace g2 := g2.frame hbx_ ho
  replace g3 := g3.frame hbx_ ho
  replace hz1 := hz1.store sb_hz1 (.slice o_hz1 n_hz1 c_hz1)
  replace hb := (hb.setCell (p := ⟨w.heap.size + 1 + 1, 0, none⟩) (show w.heap.size ≤ w.heap.size + 1 + 1 by first | assumption | (simp; done) | omega) (.bool sb_hz1)).setCell (p := ⟨w.heap.size + 1 + 1, 1, none⟩) (show w.heap.size ≤ w.heap.size + 1 + 1 by first | assumption | (simp; done) | omega) (.slice o_hz1 n_hz1 c_hz1)
  refine hK _ _ rfl (And.intro (And.intro hp.facts.1 hp.facts.2.1) (And.intro (And.intro hq.facts.1 hq.facts.2.1) True.intro)) ?_
  clear hK K hbx_ ho c9_
  obtain ⟨sb_hz2, o_hz2, n_hz2, c_hz2, rfl⟩ := g3.open2
  apply wpTail_call
  case hi => rfl
  case hw => kernel_rfl
  case h =>
  intro K hK
  have c9_ := hz2.facts
  go_big_op
  have ho := Bk.only ((w_6.setCell ⟨w.heap.size + 1 + 1, 0, none⟩ (.bool sb_hz1)).setCell ⟨w.heap.size + 1 + 1, 1, none⟩ (.slice o_hz1 n_hz1 c_hz1)) (w.heap.size + 1 + 1 + 1) sb_hz2 (.slice o_hz2 n_hz2 c_hz2)
  have hbx_ := hz2.bx
  replace ha := ha.frame hbx_ ho
  replace hb' := hb'.frame hbx_ ho
  replace hp := hp.frame ho (by first | assumption | (apply Ne.symm; assumption) | (simp; done) | omega)
  replace hq := hq.frame ho (by first | assumption | (apply Ne.symm; assumption) | (simp; done) | omega)
  replace hz1 := hz1.frame ho (by first | assumption | (apply Ne.symm; assumption) | (simp; done) | omega)
  replace hz3 := hz3.frame ho (by first | assumption | (apply Ne.symm; assumption) | (simp; done) | omega)
  replace g2 := g2.frame hbx_ ho
  replace g3 := g3.frame hbx_ ho
  replace hz2 := hz2.store sb_hz2 (.slice o_hz2 n_hz2 c_hz2)
  replace hb := (hb.setCell (p := ⟨w.heap.size + 1 + 1 + 1, 0, none⟩) (show w.heap.size ≤ w.heap.size + 1 + 1 + 1 by first | assumption | (simp; done) | omega) (.bool sb_hz2)).setCell (p := ⟨w.heap.size + 1 + 1 + 1, 1, none⟩) (show w.heap.size ≤ w.heap.size + 1 + 1 + 1 by first | assumption | (simp; done) | omega) (.slice o_hz2 n_hz2 c_hz2)
  refine hK _ _ rfl (And.intro (And.intro hp.facts.1 hp.facts.2.1) (And.intro (And.intro hq.facts.1 hq.facts.2.1) True.intro)) ?_
  clear hK K hbx_ ho c9_
  apply wpTail_end
  have LXX := hide (show (dig X.natAbs).length ≤ m from len_le (show X.natAbs ≤ ((y.natAbs : Int)).natAbs from hXb.out) LA.out)
  obtain ⟨c, hc⟩ : ∃ c, X.fmod (((y.natAbs : Int)).fdiv (Int.gcd x y)) = c := ⟨_, rfl⟩
  have HC := hide hc
  have HXG := hide (show XG x y c by rw [← hc]; exact XG.of H0.out hdv.out)
  clear hc
  have LC := hide (show (dig c.natAbs).length ≤ m from len_le (HXG.out.le H0.out) LY.out)
  have LM := hide (zlen_mul Lx.out LC.out)
  have LD := hide (zlen_sub LG.out LM.out)
  have HDV := hide (show ((Int.gcd x y : Int) - x * c).fmod y = 0 from Int.fmod_eq_zero_of_dvd HXG.out.dv)
  replace ha := ha.drew
  replace hb' := hb'.drew
  replace hp := hp.drew
  replace hq := hq.drew
  replace hz1 := hz1.drew
  replace hz2 := hz2.drew
  replace hz3 := hz3.drew
  replace g2 := g2.drew
  replace g3 := g3.drew
  replace hb := hb.drew
  have lt_hp := hp.lt
  have lt_hq := hq.lt
  have lt_hz1 := hz1.lt
  have lt_hz2 := hz2.lt
  have lt_hz3 := hz3.lt
  have kb0 := hb.size
  go_wp2_with fail
  refine wp_region_fl [(0, false), (2, false), (1, true), (3, true), (4, false), (5, false), (6, false)] [8, 9] [7] (fun _ => obZ) [0, 99, 1, 99, 99, 99, 99, 99, 99, 99] [] (fun w' => w'.cell? ⟨w.heap.size + 1, 0, none⟩ = some (.bool nb) ∧ w'.cell? ⟨w.heap.size + 1, 1, none⟩ = some (.slice ob ys.length cb) ∧ w'.cell? ⟨w.heap.size + 1 + 1, 0, none⟩ = some (.bool sb_hz1) ∧ w'.cell? ⟨w.heap.size + 1 + 1, 1, none⟩ = some (.slice o_hz1 n_hz1 c_hz1)) [fun w' => w'.cell? ⟨w.heap.size + 1, 0, none⟩ = some (.bool nb) ∧ w'.cell? ⟨w.heap.size + 1, 1, none⟩ = some (.slice ob ys.length cb), fun w' => w'.cell? ⟨w.heap.size + 1 + 1, 0, none⟩ = some (.bool sb_hz1) ∧ w'.cell? ⟨w.heap.size + 1 + 1, 1, none⟩ = some (.slice o_hz1 n_hz1 c_hz1)] (by kernel_rfl) (by kernel_rfl) (by kernel_rfl) (by kernel_rfl) (by kernel_rfl) (by kernel_rfl) (by kernel_rfl) (by kernel_rfl) (by decide) (by intro j hj; simp only [List.mem_cons, List.not_mem_nil, or_false] at hj; rcases hj with rfl; all_goals exact ⟨_, rfl, rfl, fun ρ w => run_alloc_z w⟩) (by intro w' o hC; obtain ⟨c0, c1, c2, c3⟩ := hC; exact ⟨cell_alloc c0 o, cell_alloc c1 o, cell_alloc c2 o, cell_alloc c3 o⟩) (by intro w' hC G hG; obtain ⟨c0, c1, c2, c3⟩ := hC; simp only [List.mem_cons, List.not_mem_nil, or_false] at hG; rcases hG with rfl | rfl <;> first | exact ⟨c0, c1⟩ | exact ⟨c2, c3⟩) ⟨hq.facts.1, hq.facts.2.1, hz1.facts.1, hz1.facts.2.1⟩ ?_
  apply wpFl_ld
  case hG => rfl
  case hi => rfl
  case h1 => intro w' hC K hK; obtain ⟨c0, c1⟩ := hC; (first | go_big_move | go_big_op); exact hK
  case hw => kernel_rfl
  case hv => kernel_rfl
  case hb => kernel_rfl
  case hp => kernel_rfl
  apply wpFl_ld
  case hG => rfl
  case hi => rfl
  case h1 => intro w' hC K hK; obtain ⟨c0, c1⟩ := hC; (first | go_big_move | go_big_op); exact hK
  case hw => kernel_rfl
  case hv => kernel_rfl
  case hb => kernel_rfl
  case hp => kernel_rfl
  apply wpFl_call
  case hi => rfl
  case hw => kernel_rfl
  case h =>
  intro w_7 hn hC
  clear hC
  replace ha := ha.below hn (Nat.le_refl _)
  replace hb' := hb'.below hn (Nat.le_refl _)
  replace hp := hp.below hn (Nat.le_refl _)
  replace hq := hq.below hn (Nat.le_refl _)
  replace hz1 := hz1.below hn (Nat.le_refl _)
  replace hz2 := hz2.below hn (Nat.le_refl _)
  replace hz3 := hz3.below hn (Nat.le_refl _)
  replace g2 := g2.below hn (Nat.le_refl _)
  replace g3 := g3.below hn (Nat.le_refl _)
  replace hb := hb.trans (hn.mono hb.size)
  clear hn
  intro K hK
  have kb_8 := hb.size
  go_big_op
  go_fit (zabs_any hb' (by omega))
  rintro e w_8 ⟨v4, rfl, g4, hb_8⟩
  replace ha := ha.below hb_8 (Nat.le_refl _)
  replace hb' := hb'.below hb_8 (Nat.le_refl _)
  replace hp := hp.below hb_8 (Nat.le_refl _)
  replace hq := hq.below hb_8 (Nat.le_refl _)
  replace hz1 := hz1.below hb_8 (Nat.le_refl _)
  replace hz2 := hz2.below hb_8 (Nat.le_refl _)
  replace hz3 := hz3.below hb_8 (Nat.le_refl _)
  replace g2 := g2.below hb_8 (Nat.le_refl _)
  replace g3 := g3.below hb_8 (Nat.le_refl _)
  replace hb := hb.trans (hb_8.mono hb.size)
  refine hK _ _ rfl hb_8 ⟨hq.facts.1, hq.facts.2.1, hz1.facts.1, hz1.facts.2.1⟩ ?_
  clear hK K hb_8
  apply wpFl_call
  case hi => rfl
  case hw => kernel_rfl
  case h =>
  intro w_9 hn hC
  clear hC
  replace ha := ha.below hn (Nat.le_refl _)
  replace hb' := hb'.below hn (Nat.le_refl _)
  replace hp := hp.below hn (Nat.le_refl _)
  replace hq := hq.below hn (Nat.le_refl _)
  replace hz1 := hz1.below hn (Nat.le_refl _)
  replace hz2 := hz2.below hn (Nat.le_refl _)
  replace hz3 := hz3.below hn (Nat.le_refl _)
  replace g2 := g2.below hn (Nat.le_refl _)
  replace g3 := g3.below hn (Nat.le_refl _)
  replace g4 := g4.below hn (Nat.le_refl _)
  replace hb := hb.trans (hn.mono hb.size)
  clear hn
  intro K hK
  have kb_10 := hb.size
  go_big_op
  go_fit (exact_any (g4.zn LA.out) (g2.zn LG.out) (by omega) (by omega) HG0.out HP.out.2)
  rintro e w_10 ⟨v5, rfl, g5, hb_10⟩
  replace ha := ha.below hb_10 (Nat.le_refl _)
  replace hb' := hb'.below hb_10 (Nat.le_refl _)
  replace hp := hp.below hb_10 (Nat.le_refl _)
  replace hq := hq.below hb_10 (Nat.le_refl _)
  replace hz1 := hz1.below hb_10 (Nat.le_refl _)
  replace hz2 := hz2.below hb_10 (Nat.le_refl _)
  replace hz3 := hz3.below hb_10 (Nat.le_refl _)
  replace g2 := g2.below hb_10 (Nat.le_refl _)
  replace g3 := g3.below hb_10 (Nat.le_refl _)
  replace g4 := g4.below hb_10 (Nat.le_refl _)
  replace hb := hb.trans (hb_10.mono hb.size)
  refine hK _ _ rfl hb_10 ⟨hq.facts.1, hq.facts.2.1, hz1.facts.1, hz1.facts.2.1⟩ ?_
  clear hK K hb_10
  clear g4
  apply wpFl_ld
  case hG => rfl
  case hi => rfl
  case h1 => intro w' hC K hK; clear hC; (first | go_big_move | go_big_op); exact hK
  case hw => kernel_rfl
  case hv => kernel_rfl
  case hb => kernel_rfl
  case hp => kernel_rfl
  apply wpFl_ld
  case hG => rfl
  case hi => rfl
  case h1 => intro w' hC K hK; clear hC; (first | go_big_move | go_big_op); exact hK
  case hw => kernel_rfl
  case hv => kernel_rfl
  case hb => kernel_rfl
  case hp => kernel_rfl
  apply wpFl_ld
  case hG => rfl
  case hi => rfl
  case h1 => intro w' hC K hK; clear hC; (first | go_big_move | go_big_op); exact hK
  case hw => kernel_rfl
  case hv => kernel_rfl
  case hb => kernel_rfl
  case hp => kernel_rfl
  apply wpFl_end
  case ha => intro pt; simp only [putF, nthO, Act.put, ptr, List.setIfInBounds_toArray, List.set_cons_succ, List.set_cons_zero]; rfl
  case h =>
  intro w_11 pt hn hC hF hD
  clear hC
  replace ha := ha.below hn (Nat.le_refl _)
  replace hb' := hb'.below hn (Nat.le_refl _)
  replace hp := hp.below hn (Nat.le_refl _)
  replace hq := hq.below hn (Nat.le_refl _)
  replace hz1 := hz1.below hn (Nat.le_refl _)
  replace hz2 := hz2.below hn (Nat.le_refl _)
  replace hz3 := hz3.below hn (Nat.le_refl _)
  replace g2 := g2.below hn (Nat.le_refl _)
  replace g3 := g3.below hn (Nat.le_refl _)
  replace g5 := g5.below hn (Nat.le_refl _)
  replace hb := hb.trans (hn.mono hb.size)
  clear hn
  obtain ⟨kB_h7, h7⟩ := hF 7 (by decide)
  replace h7 := obZ_bk h7
  clear hF hD
  generalize pt 7 = p_h7 at *
  clear pt
  have kb_h7 := Nat.le_trans kb0 kB_h7
  have ne_hp_h7 : w.heap.size ≠ p_h7 := Nat.ne_of_lt (Nat.lt_of_lt_of_le lt_hp kB_h7)
  have ne_hq_h7 : w.heap.size + 1 ≠ p_h7 := Nat.ne_of_lt (Nat.lt_of_lt_of_le lt_hq kB_h7)
  have ne_hz1_h7 : w.heap.size + 1 + 1 ≠ p_h7 := Nat.ne_of_lt (Nat.lt_of_lt_of_le lt_hz1 kB_h7)
  have ne_hz2_h7 : w.heap.size + 1 + 1 + 1 ≠ p_h7 := Nat.ne_of_lt (Nat.lt_of_lt_of_le lt_hz2 kB_h7)
  have ne_hz3_h7 : w.heap.size + 1 + 1 + 1 + 1 ≠ p_h7 := Nat.ne_of_lt (Nat.lt_of_lt_of_le lt_hz3 kB_h7)
  clear kB_h7
  clear lt_hp
  clear lt_hq
  clear lt_hz1
  clear lt_hz2
  clear lt_hz3
  clear kb0
  obtain ⟨sb_h7, o_h7, n_h7, c_h7, rfl⟩ := g5.open2
  apply wpTail_call
  case hi => rfl
  case hw => kernel_rfl
  case h =>
  intro K hK
  have c9_ := h7.facts
  go_big_op
  have ho := Bk.only w_11 (p_h7) sb_h7 (.slice o_h7 n_h7 c_h7)
  have hbx_ := h7.bx
  replace ha := ha.frame hbx_ ho
  replace hb' := hb'.frame hbx_ ho
  replace hp := hp.frame ho (by first | assumption | (apply Ne.symm; assumption) | (simp; done) | omega)
  replace hq := hq.frame ho (by first | assumption | (apply Ne.symm; assumption) | (simp; done) | omega)
  replace hz1 := hz1.frame ho (by first | assumption | (apply Ne.symm; assumption) | (simp; done) | omega)
  replace hz2 := hz2.frame ho (by first | assumption | (apply Ne.symm; assumption) | (simp; done) | omega)
  replace hz3 := hz3.frame ho (by first | assumption | (apply Ne.symm; assumption) | (simp; done) | omega)
  replace g2 := g2.frame hbx_ ho
  replace g3 := g3.frame hbx_ ho
  replace g5 := g5.frame hbx_ ho
  replace h7 := h7.store sb_h7 (.slice o_h7 n_h7 c_h7)
  replace hb := (hb.setCell (p := ⟨p_h7, 0, none⟩) (show w.heap.size ≤ p_h7 by first | assumption | (simp; done) | omega) (.bool sb_h7)).setCell (p := ⟨p_h7, 1, none⟩) (show w.heap.size ≤ p_h7 by first | assumption | (simp; done) | omega) (.slice o_h7 n_h7 c_h7)
  refine hK _ _ rfl (And.intro (And.intro hq.facts.1 hq.facts.2.1) (And.intro (And.intro hz1.facts.1 hz1.facts.2.1) True.intro)) ?_
  clear hK K hbx_ ho c9_
  apply wpTail_move
  case hi => rfl
  case hw => kernel_rfl
  case h =>
  intro K hK
  go_big_move
  refine hK _ _ rfl rfl ?_
  clear hK K
  apply wpTail_end
  have f_hz2 := hz2.facts
  have f_h7 := h7.facts
  go_wp2_with fail
  refine (fdiv_any (g3.zn LXX.out) (g5.zn LP.out) (by omega) (by omega) HPP.out).mono ?_
  rintro e w_12 ⟨v6, v7, rfl, g6, g7, hb_12⟩
  replace ha := ha.below hb_12 (Nat.le_refl _)
  replace hb' := hb'.below hb_12 (Nat.le_refl _)
  replace hp := hp.below hb_12 (Nat.le_refl _)
  replace hq := hq.below hb_12 (Nat.le_refl _)
  replace hz1 := hz1.below hb_12 (Nat.le_refl _)
  replace hz2 := hz2.below hb_12 (Nat.le_refl _)
  replace hz3 := hz3.below hb_12 (Nat.le_refl _)
  replace g2 := g2.below hb_12 (Nat.le_refl _)
  replace g3 := g3.below hb_12 (Nat.le_refl _)
  replace g5 := g5.below hb_12 (Nat.le_refl _)
  replace h7 := h7.below hb_12 (Nat.le_refl _)
  have kk7 := hb.size
  replace hb := hb.trans (hb_12.mono hb.size)
  clear hb_12
  rw [HC.out] at g7
  clear f_hz2 f_h7
  clear g6
  obtain ⟨sb_hz2, o_hz2, n_hz2, c_hz2, rfl⟩ := g7.open2
  have f_hz2 := hz2.facts
  have ho := Bk.only w_12 (w.heap.size + 1 + 1 + 1) sb_hz2 (.slice o_hz2 n_hz2 c_hz2)
  have hbx_ := hz2.bx
  replace ha := ha.frame hbx_ ho
  replace hb' := hb'.frame hbx_ ho
  replace hp := hp.frame ho (by first | assumption | (apply Ne.symm; assumption) | (simp; done) | omega)
  replace hq := hq.frame ho (by first | assumption | (apply Ne.symm; assumption) | (simp; done) | omega)
  replace hz1 := hz1.frame ho (by first | assumption | (apply Ne.symm; assumption) | (simp; done) | omega)
  replace hz3 := hz3.frame ho (by first | assumption | (apply Ne.symm; assumption) | (simp; done) | omega)
  replace g2 := g2.frame hbx_ ho
  replace g3 := g3.frame hbx_ ho
  replace g5 := g5.frame hbx_ ho
  replace h7 := h7.frame ho (by first | assumption | (apply Ne.symm; assumption) | (simp; done) | omega)
  replace g7 := g7.frame hbx_ ho
  replace hz2 := hz2.store sb_hz2 (.slice o_hz2 n_hz2 c_hz2)
  replace hb := (hb.setCell (p := ⟨w.heap.size + 1 + 1 + 1, 0, none⟩) (show w.heap.size ≤ w.heap.size + 1 + 1 + 1 by first | assumption | (simp; done) | omega) (.bool sb_hz2)).setCell (p := ⟨w.heap.size + 1 + 1 + 1, 1, none⟩) (show w.heap.size ≤ w.heap.size + 1 + 1 + 1 by first | assumption | (simp; done) | omega) (.slice o_hz2 n_hz2 c_hz2)
  clear ho hbx_
  obtain ⟨w_13, hw_13⟩ : ∃ v, ((w_12.setCell ⟨w.heap.size + 1 + 1 + 1, 0, none⟩ (.bool sb_hz2)).setCell ⟨w.heap.size + 1 + 1 + 1, 1, none⟩ (.slice o_hz2 n_hz2 c_hz2)) = v := ⟨_, rfl⟩
  rw [hw_13] at ha hb' hp hq hz1 hz2 hz3 g2 g3 g5 h7 g7 hb
  replace ha := ha.drew
  replace hb' := hb'.drew
  replace hp := hp.drew
  replace hq := hq.drew
  replace hz1 := hz1.drew
  replace hz2 := hz2.drew
  replace hz3 := hz3.drew
  replace g2 := g2.drew
  replace g3 := g3.drew
  replace g5 := g5.drew
  replace h7 := h7.drew
  replace g7 := g7.drew
  replace hb := hb.drew
  have lt_hp := hp.lt
  have lt_hq := hq.lt
  have lt_hz1 := hz1.lt
  have lt_hz2 := hz2.lt
  have lt_hz3 := hz3.lt
  have lt_h7 := h7.lt
  have kb0 := hb.size
  go_wp2_with fail
  refine wp_region_fl [(0, false), (1, false), (2, false), (5, false), (3, true), (4, true), (6, true), (7, false), (8, false), (9, false)] [10] [] (fun _ => obZ) [2, 0, 3, 99, 99, 1, 99, 99, 99, 99, 99] [] (fun w' => w'.cell? ⟨w.heap.size, 0, none⟩ = some (.bool na) ∧ w'.cell? ⟨w.heap.size, 1, none⟩ = some (.slice oa xs.length ca) ∧ w'.cell? ⟨w.heap.size + 1, 0, none⟩ = some (.bool nb) ∧ w'.cell? ⟨w.heap.size + 1, 1, none⟩ = some (.slice ob ys.length cb) ∧ w'.cell? ⟨w.heap.size + 1 + 1, 0, none⟩ = some (.bool sb_hz1) ∧ w'.cell? ⟨w.heap.size + 1 + 1, 1, none⟩ = some (.slice o_hz1 n_hz1 c_hz1) ∧ w'.cell? ⟨w.heap.size + 1 + 1 + 1, 0, none⟩ = some (.bool sb_hz2) ∧ w'.cell? ⟨w.heap.size + 1 + 1 + 1, 1, none⟩ = some (.slice o_hz2 n_hz2 c_hz2)) [fun w' => w'.cell? ⟨w.heap.size, 0, none⟩ = some (.bool na) ∧ w'.cell? ⟨w.heap.size, 1, none⟩ = some (.slice oa xs.length ca), fun w' => w'.cell? ⟨w.heap.size + 1, 0, none⟩ = some (.bool nb) ∧ w'.cell? ⟨w.heap.size + 1, 1, none⟩ = some (.slice ob ys.length cb), fun w' => w'.cell? ⟨w.heap.size + 1 + 1, 0, none⟩ = some (.bool sb_hz1) ∧ w'.cell? ⟨w.heap.size + 1 + 1, 1, none⟩ = some (.slice o_hz1 n_hz1 c_hz1), fun w' => w'.cell? ⟨w.heap.size + 1 + 1 + 1, 0, none⟩ = some (.bool sb_hz2) ∧ w'.cell? ⟨w.heap.size + 1 + 1 + 1, 1, none⟩ = some (.slice o_hz2 n_hz2 c_hz2)] (by kernel_rfl) (by kernel_rfl) (by kernel_rfl) (by kernel_rfl) (by kernel_rfl) (by kernel_rfl) (by kernel_rfl) (by kernel_rfl) (by decide) (by intro j hj; cases hj) (by intro w' o hC; obtain ⟨c0, c1, c2, c3, c4, c5, c6, c7⟩ := hC; exact ⟨cell_alloc c0 o, cell_alloc c1 o, cell_alloc c2 o, cell_alloc c3 o, cell_alloc c4 o, cell_alloc c5 o, cell_alloc c6 o, cell_alloc c7 o⟩) (by intro w' hC G hG; obtain ⟨c0, c1, c2, c3, c4, c5, c6, c7⟩ := hC; simp only [List.mem_cons, List.not_mem_nil, or_false] at hG; rcases hG with rfl | rfl | rfl | rfl <;> first | exact ⟨c0, c1⟩ | exact ⟨c2, c3⟩ | exact ⟨c4, c5⟩ | exact ⟨c6, c7⟩) ⟨hp.facts.1, hp.facts.2.1, hq.facts.1, hq.facts.2.1, hz1.facts.1, hz1.facts.2.1, hz2.facts.1, hz2.facts.2.1⟩ ?_
  clear f_hz2
  apply wpFl_ld
  case hG => rfl
  case hi => rfl
  case h1 => intro w' hC K hK; obtain ⟨c0, c1⟩ := hC; (first | go_big_move | go_big_op); exact hK
  case hw => kernel_rfl
  case hv => kernel_rfl
  case hb => kernel_rfl
  case hp => kernel_rfl
  apply wpFl_ld
  case hG => rfl
  case hi => rfl
  case h1 => intro w' hC K hK; obtain ⟨c0, c1⟩ := hC; (first | go_big_move | go_big_op); exact hK
  case hw => kernel_rfl
  case hv => kernel_rfl
  case hb => kernel_rfl
  case hp => kernel_rfl
  apply wpFl_ld
  case hG => rfl
  case hi => rfl
  case h1 => intro w' hC K hK; obtain ⟨c0, c1⟩ := hC; (first | go_big_move | go_big_op); exact hK
  case hw => kernel_rfl
  case hv => kernel_rfl
  case hb => kernel_rfl
  case hp => kernel_rfl
  apply wpFl_ld
  case hG => rfl
  case hi => rfl
  case h1 => intro w' hC K hK; obtain ⟨c0, c1⟩ := hC; (first | go_big_move | go_big_op); exact hK
  case hw => kernel_rfl
  case hv => kernel_rfl
  case hb => kernel_rfl
  case hp => kernel_rfl
  apply wpFl_call
  case hi => rfl
  case hw => kernel_rfl
  case h =>
  intro w_14 hn hC
  clear hC
  replace ha := ha.below hn (Nat.le_refl _)
  replace hb' := hb'.below hn (Nat.le_refl _)
  replace hp := hp.below hn (Nat.le_refl _)
  replace hq := hq.below hn (Nat.le_refl _)
  replace hz1 := hz1.below hn (Nat.le_refl _)
  replace hz2 := hz2.below hn (Nat.le_refl _)
  replace hz3 := hz3.below hn (Nat.le_refl _)
  replace g2 := g2.below hn (Nat.le_refl _)
  replace g3 := g3.below hn (Nat.le_refl _)
  replace g5 := g5.below hn (Nat.le_refl _)
  replace h7 := h7.below hn (Nat.le_refl _)
  replace g7 := g7.below hn (Nat.le_refl _)
  replace hb := hb.trans (hn.mono hb.size)
  clear hn
  intro K hK
  have kb_15 := hb.size
  go_big_op
  go_fit (zmul_any ha (g7.zn LC.out) (by omega) (by omega))
  rintro e w_15 ⟨v8, rfl, g8, hb_15⟩
  replace ha := ha.below hb_15 (Nat.le_refl _)
  replace hb' := hb'.below hb_15 (Nat.le_refl _)
  replace hp := hp.below hb_15 (Nat.le_refl _)
  replace hq := hq.below hb_15 (Nat.le_refl _)
  replace hz1 := hz1.below hb_15 (Nat.le_refl _)
  replace hz2 := hz2.below hb_15 (Nat.le_refl _)
  replace hz3 := hz3.below hb_15 (Nat.le_refl _)
  replace g2 := g2.below hb_15 (Nat.le_refl _)
  replace g3 := g3.below hb_15 (Nat.le_refl _)
  replace g5 := g5.below hb_15 (Nat.le_refl _)
  replace h7 := h7.below hb_15 (Nat.le_refl _)
  replace g7 := g7.below hb_15 (Nat.le_refl _)
  replace hb := hb.trans (hb_15.mono hb.size)
  refine hK _ _ rfl hb_15 ⟨hp.facts.1, hp.facts.2.1, hq.facts.1, hq.facts.2.1, hz1.facts.1, hz1.facts.2.1, hz2.facts.1, hz2.facts.2.1⟩ ?_
  clear hK K hb_15
  apply wpFl_call
  case hi => rfl
  case hw => kernel_rfl
  case h =>
  intro w_16 hn hC
  clear hC
  replace ha := ha.below hn (Nat.le_refl _)
  replace hb' := hb'.below hn (Nat.le_refl _)
  replace hp := hp.below hn (Nat.le_refl _)
  replace hq := hq.below hn (Nat.le_refl _)
  replace hz1 := hz1.below hn (Nat.le_refl _)
  replace hz2 := hz2.below hn (Nat.le_refl _)
  replace hz3 := hz3.below hn (Nat.le_refl _)
  replace g2 := g2.below hn (Nat.le_refl _)
  replace g3 := g3.below hn (Nat.le_refl _)
  replace g5 := g5.below hn (Nat.le_refl _)
  replace h7 := h7.below hn (Nat.le_refl _)
  replace g7 := g7.below hn (Nat.le_refl _)
  replace g8 := g8.below hn (Nat.le_refl _)
  replace hb := hb.trans (hn.mono hb.size)
  clear hn
  intro K hK
  have kb_17 := hb.size
  go_big_op
  go_fit (zsub_any (g2.zn LG.out) (g8.zn LM.out) (by omega) (by omega))
  rintro e w_17 ⟨v9, rfl, g9, hb_17⟩
  replace ha := ha.below hb_17 (Nat.le_refl _)
  replace hb' := hb'.below hb_17 (Nat.le_refl _)
  replace hp := hp.below hb_17 (Nat.le_refl _)
  replace hq := hq.below hb_17 (Nat.le_refl _)
  replace hz1 := hz1.below hb_17 (Nat.le_refl _)
  replace hz2 := hz2.below hb_17 (Nat.le_refl _)
  replace hz3 := hz3.below hb_17 (Nat.le_refl _)
  replace g2 := g2.below hb_17 (Nat.le_refl _)
  replace g3 := g3.below hb_17 (Nat.le_refl _)
  replace g5 := g5.below hb_17 (Nat.le_refl _)
  replace h7 := h7.below hb_17 (Nat.le_refl _)
  replace g7 := g7.below hb_17 (Nat.le_refl _)
  replace g8 := g8.below hb_17 (Nat.le_refl _)
  replace hb := hb.trans (hb_17.mono hb.size)
  refine hK _ _ rfl hb_17 ⟨hp.facts.1, hp.facts.2.1, hq.facts.1, hq.facts.2.1, hz1.facts.1, hz1.facts.2.1, hz2.facts.1, hz2.facts.2.1⟩ ?_
  clear hK K hb_17
  clear g8
  apply wpFl_call
  case hi => rfl
  case hw => kernel_rfl
  case h =>
  intro w_18 hn hC
  clear hC
  replace ha := ha.below hn (Nat.le_refl _)
  replace hb' := hb'.below hn (Nat.le_refl _)
  replace hp := hp.below hn (Nat.le_refl _)
  replace hq := hq.below hn (Nat.le_refl _)
  replace hz1 := hz1.below hn (Nat.le_refl _)
  replace hz2 := hz2.below hn (Nat.le_refl _)
  replace hz3 := hz3.below hn (Nat.le_refl _)
  replace g2 := g2.below hn (Nat.le_refl _)
  replace g3 := g3.below hn (Nat.le_refl _)
  replace g5 := g5.below hn (Nat.le_refl _)
  replace h7 := h7.below hn (Nat.le_refl _)
  replace g7 := g7.below hn (Nat.le_refl _)
  replace g9 := g9.below hn (Nat.le_refl _)
  replace hb := hb.trans (hn.mono hb.size)
  clear hn
  intro K hK
  have kb_19 := hb.size
  go_big_op
  go_fit (exact_any (g9.zn LD.out) hb' (by omega) (by omega) H0.out HDV.out)
  rintro e w_19 ⟨v10, rfl, g10, hb_19⟩
  replace ha := ha.below hb_19 (Nat.le_refl _)
  replace hb' := hb'.below hb_19 (Nat.le_refl _)
  replace hp := hp.below hb_19 (Nat.le_refl _)
  replace hq := hq.below hb_19 (Nat.le_refl _)
  replace hz1 := hz1.below hb_19 (Nat.le_refl _)
  replace hz2 := hz2.below hb_19 (Nat.le_refl _)
  replace hz3 := hz3.below hb_19 (Nat.le_refl _)
  replace g2 := g2.below hb_19 (Nat.le_refl _)
  replace g3 := g3.below hb_19 (Nat.le_refl _)
  replace g5 := g5.below hb_19 (Nat.le_refl _)
  replace h7 := h7.below hb_19 (Nat.le_refl _)
  replace g7 := g7.below hb_19 (Nat.le_refl _)
  replace g9 := g9.below hb_19 (Nat.le_refl _)
  replace hb := hb.trans (hb_19.mono hb.size)
  refine hK _ _ rfl hb_19 ⟨hp.facts.1, hp.facts.2.1, hq.facts.1, hq.facts.2.1, hz1.facts.1, hz1.facts.2.1, hz2.facts.1, hz2.facts.2.1⟩ ?_
  clear hK K hb_19
  clear g9
  apply wpFl_ld
  case hG => rfl
  case hi => rfl
  case h1 => intro w' hC K hK; clear hC; (first | go_big_move | go_big_op); exact hK
  case hw => kernel_rfl
  case hv => kernel_rfl
  case hb => kernel_rfl
  case hp => kernel_rfl
  apply wpFl_ld
  case hG => rfl
  case hi => rfl
  case h1 => intro w' hC K hK; clear hC; (first | go_big_move | go_big_op); exact hK
  case hw => kernel_rfl
  case hv => kernel_rfl
  case hb => kernel_rfl
  case hp => kernel_rfl
  apply wpFl_ld
  case hG => rfl
  case hi => rfl
  case h1 => intro w' hC K hK; clear hC; (first | go_big_move | go_big_op); exact hK
  case hw => kernel_rfl
  case hv => kernel_rfl
  case hb => kernel_rfl
  case hp => kernel_rfl
  apply wpFl_end
  case ha => intro pt; simp only [putF]; rfl
  case h =>
  intro w_20 pt hn hC hF hD
  clear hC
  replace ha := ha.below hn (Nat.le_refl _)
  replace hb' := hb'.below hn (Nat.le_refl _)
  replace hp := hp.below hn (Nat.le_refl _)
  replace hq := hq.below hn (Nat.le_refl _)
  replace hz1 := hz1.below hn (Nat.le_refl _)
  replace hz2 := hz2.below hn (Nat.le_refl _)
  replace hz3 := hz3.below hn (Nat.le_refl _)
  replace g2 := g2.below hn (Nat.le_refl _)
  replace g3 := g3.below hn (Nat.le_refl _)
  replace g5 := g5.below hn (Nat.le_refl _)
  replace h7 := h7.below hn (Nat.le_refl _)
  replace g7 := g7.below hn (Nat.le_refl _)
  replace g10 := g10.below hn (Nat.le_refl _)
  replace hb := hb.trans (hn.mono hb.size)
  clear hn
  clear hF hD
  clear lt_hp
  clear lt_hq
  clear lt_hz1
  clear lt_hz2
  clear lt_hz3
  clear lt_h7
  clear kb0
  obtain ⟨sb_hz3, o_hz3, n_hz3, c_hz3, rfl⟩ := g10.open2
  apply wpTail_call
  case hi => rfl
  case hw => kernel_rfl
  case h =>
  intro K hK
  have c9_ := hz3.facts
  go_big_op
  have ho := Bk.only w_20 (w.heap.size + 1 + 1 + 1 + 1) sb_hz3 (.slice o_hz3 n_hz3 c_hz3)
  have hbx_ := hz3.bx
  replace ha := ha.frame hbx_ ho
  replace hb' := hb'.frame hbx_ ho
  replace hp := hp.frame ho (by first | assumption | (apply Ne.symm; assumption) | (simp; done) | omega)
  replace hq := hq.frame ho (by first | assumption | (apply Ne.symm; assumption) | (simp; done) | omega)
  replace hz1 := hz1.frame ho (by first | assumption | (apply Ne.symm; assumption) | (simp; done) | omega)
  replace hz2 := hz2.frame ho (by first | assumption | (apply Ne.symm; assumption) | (simp; done) | omega)
  replace g2 := g2.frame hbx_ ho
  replace g3 := g3.frame hbx_ ho
  replace g5 := g5.frame hbx_ ho
  replace h7 := h7.frame ho (by first | assumption | (apply Ne.symm; assumption) | (simp; done) | omega)
  replace g7 := g7.frame hbx_ ho
  replace g10 := g10.frame hbx_ ho
  replace hz3 := hz3.store sb_hz3 (.slice o_hz3 n_hz3 c_hz3)
  replace hb := (hb.setCell (p := ⟨w.heap.size + 1 + 1 + 1 + 1, 0, none⟩) (show w.heap.size ≤ w.heap.size + 1 + 1 + 1 + 1 by first | assumption | (simp; done) | omega) (.bool sb_hz3)).setCell (p := ⟨w.heap.size + 1 + 1 + 1 + 1, 1, none⟩) (show w.heap.size ≤ w.heap.size + 1 + 1 + 1 + 1 by first | assumption | (simp; done) | omega) (.slice o_hz3 n_hz3 c_hz3)
  refine hK _ _ rfl (And.intro (And.intro hp.facts.1 hp.facts.2.1) (And.intro (And.intro hq.facts.1 hq.facts.2.1) (And.intro (And.intro hz1.facts.1 hz1.facts.2.1) (And.intro (And.intro hz2.facts.1 hz2.facts.2.1) True.intro)))) ?_
  clear hK K hbx_ ho c9_
  apply wpTail_end
  replace ha := ha.drew
  replace hb' := hb'.drew
  replace hp := hp.drew
  replace hq := hq.drew
  replace hz1 := hz1.drew
  replace hz2 := hz2.drew
  replace hz3 := hz3.drew
  replace g2 := g2.drew
  replace g3 := g3.drew
  replace g5 := g5.drew
  replace h7 := h7.drew
  replace g7 := g7.drew
  replace g10 := g10.drew
  replace hb := hb.drew
  have lt_hp := hp.lt
  have lt_hq := hq.lt
  have lt_hz1 := hz1.lt
  have lt_hz2 := hz2.lt
  have lt_hz3 := hz3.lt
  have lt_h7 := h7.lt
  have kb0 := hb.size
  go_wp2_with fail
  refine wp_region_fl [(0, false), (1, false), (2, false)] [3, 4, 5] [] (fun _ => obZ) [0, 1, 2, 99, 99, 99] [(3, 0), (4, 0), (4, 1), (5, 0), (5, 1), (5, 2)] (fun w' => w'.cell? ⟨w.heap.size + 1 + 1, 0, none⟩ = some (.bool sb_hz1) ∧ w'.cell? ⟨w.heap.size + 1 + 1, 1, none⟩ = some (.slice o_hz1 n_hz1 c_hz1) ∧ w'.cell? ⟨w.heap.size + 1 + 1 + 1, 0, none⟩ = some (.bool sb_hz2) ∧ w'.cell? ⟨w.heap.size + 1 + 1 + 1, 1, none⟩ = some (.slice o_hz2 n_hz2 c_hz2) ∧ w'.cell? ⟨w.heap.size + 1 + 1 + 1 + 1, 0, none⟩ = some (.bool sb_hz3) ∧ w'.cell? ⟨w.heap.size + 1 + 1 + 1 + 1, 1, none⟩ = some (.slice o_hz3 n_hz3 c_hz3)) [fun w' => w'.cell? ⟨w.heap.size + 1 + 1, 0, none⟩ = some (.bool sb_hz1) ∧ w'.cell? ⟨w.heap.size + 1 + 1, 1, none⟩ = some (.slice o_hz1 n_hz1 c_hz1), fun w' => w'.cell? ⟨w.heap.size + 1 + 1 + 1, 0, none⟩ = some (.bool sb_hz2) ∧ w'.cell? ⟨w.heap.size + 1 + 1 + 1, 1, none⟩ = some (.slice o_hz2 n_hz2 c_hz2), fun w' => w'.cell? ⟨w.heap.size + 1 + 1 + 1 + 1, 0, none⟩ = some (.bool sb_hz3) ∧ w'.cell? ⟨w.heap.size + 1 + 1 + 1 + 1, 1, none⟩ = some (.slice o_hz3 n_hz3 c_hz3)] (by kernel_rfl) (by kernel_rfl) (by kernel_rfl) (by kernel_rfl) (by kernel_rfl) (by kernel_rfl) (by kernel_rfl) (by kernel_rfl) (by decide) (by intro j hj; cases hj) (by intro w' o hC; obtain ⟨c0, c1, c2, c3, c4, c5⟩ := hC; exact ⟨cell_alloc c0 o, cell_alloc c1 o, cell_alloc c2 o, cell_alloc c3 o, cell_alloc c4 o, cell_alloc c5 o⟩) (by intro w' hC G hG; obtain ⟨c0, c1, c2, c3, c4, c5⟩ := hC; simp only [List.mem_cons, List.not_mem_nil, or_false] at hG; rcases hG with rfl | rfl | rfl <;> first | exact ⟨c0, c1⟩ | exact ⟨c2, c3⟩ | exact ⟨c4, c5⟩) ⟨hz1.facts.1, hz1.facts.2.1, hz2.facts.1, hz2.facts.2.1, hz3.facts.1, hz3.facts.2.1⟩ ?_
  apply wpFl_ld
  case hG => rfl
  case hi => rfl
  case h1 => intro w' hC K hK; obtain ⟨c0, c1⟩ := hC; (first | go_big_move | go_big_op); exact hK
  case hw => kernel_rfl
  case hv => kernel_rfl
  case hb => kernel_rfl
  case hp => kernel_rfl
  apply wpFl_ld
  case hG => rfl
  case hi => rfl
  case h1 => intro w' hC K hK; obtain ⟨c0, c1⟩ := hC; (first | go_big_move | go_big_op); exact hK
  case hw => kernel_rfl
  case hv => kernel_rfl
  case hb => kernel_rfl
  case hp => kernel_rfl
  apply wpFl_ld
  case hG => rfl
  case hi => rfl
  case h1 => intro w' hC K hK; obtain ⟨c0, c1⟩ := hC; (first | go_big_move | go_big_op); exact hK
  case hw => kernel_rfl
  case hv => kernel_rfl
  case hb => kernel_rfl
  case hp => kernel_rfl
  apply wpFl_end
  case ha => intro pt; simp only [putF]; rfl
  case h =>
  intro w_21 pt hn hC hF hD
  clear hC
  replace ha := ha.below hn (Nat.le_refl _)
  replace hb' := hb'.below hn (Nat.le_refl _)
  replace hp := hp.below hn (Nat.le_refl _)
  replace hq := hq.below hn (Nat.le_refl _)
  replace hz1 := hz1.below hn (Nat.le_refl _)
  replace hz2 := hz2.below hn (Nat.le_refl _)
  replace hz3 := hz3.below hn (Nat.le_refl _)
  replace g2 := g2.below hn (Nat.le_refl _)
  replace g3 := g3.below hn (Nat.le_refl _)
  replace g5 := g5.below hn (Nat.le_refl _)
  replace h7 := h7.below hn (Nat.le_refl _)
  replace g7 := g7.below hn (Nat.le_refl _)
  replace g10 := g10.below hn (Nat.le_refl _)
  replace hb := hb.trans (hn.mono hb.size)
  clear hn
  clear hF hD
  clear lt_hp
  clear lt_hq
  clear lt_hz1
  clear lt_hz2
  clear lt_hz3
  clear lt_h7
  clear kb0
  apply wpTail_call
  case hi => rfl
  case hw => kernel_rfl
  case h =>
  intro K hK
  have c9_ := hz1.facts
  go_big_op
  have ho := Bk.only w_21 (w.heap.size + 1 + 1) sb_hz1 (.slice o_hz1 n_hz1 c_hz1)
  have hbx_ := hz1.bx
  replace ha := ha.frame hbx_ ho
  replace hb' := hb'.frame hbx_ ho
  replace hp := hp.frame ho (by first | assumption | (apply Ne.symm; assumption) | (simp; done) | omega)
  replace hq := hq.frame ho (by first | assumption | (apply Ne.symm; assumption) | (simp; done) | omega)
  replace hz2 := hz2.frame ho (by first | assumption | (apply Ne.symm; assumption) | (simp; done) | omega)
  replace hz3 := hz3.frame ho (by first | assumption | (apply Ne.symm; assumption) | (simp; done) | omega)
  replace g2 := g2.frame hbx_ ho
  replace g3 := g3.frame hbx_ ho
  replace g5 := g5.frame hbx_ ho
  replace h7 := h7.frame ho (by first | assumption | (apply Ne.symm; assumption) | (simp; done) | omega)
  replace g7 := g7.frame hbx_ ho
  replace g10 := g10.frame hbx_ ho
  replace hz1 := hz1.store sb_hz1 (.slice o_hz1 n_hz1 c_hz1)
  replace hb := (hb.setCell (p := ⟨w.heap.size + 1 + 1, 0, none⟩) (show w.heap.size ≤ w.heap.size + 1 + 1 by first | assumption | (simp; done) | omega) (.bool sb_hz1)).setCell (p := ⟨w.heap.size + 1 + 1, 1, none⟩) (show w.heap.size ≤ w.heap.size + 1 + 1 by first | assumption | (simp; done) | omega) (.slice o_hz1 n_hz1 c_hz1)
  refine hK _ _ rfl (And.intro True.intro (And.intro (And.intro hz2.facts.1 hz2.facts.2.1) (And.intro (And.intro hz3.facts.1 hz3.facts.2.1) True.intro))) ?_
  clear hK K hbx_ ho c9_
  apply wpTail_call
  case hi => rfl
  case hw => kernel_rfl
  case h =>
  intro K hK
  have c9_ := hz2.facts
  go_big_op
  have ho := Bk.only ((w_21.setCell ⟨w.heap.size + 1 + 1, 0, none⟩ (.bool sb_hz1)).setCell ⟨w.heap.size + 1 + 1, 1, none⟩ (.slice o_hz1 n_hz1 c_hz1)) (w.heap.size + 1 + 1 + 1) sb_hz2 (.slice o_hz2 n_hz2 c_hz2)
  have hbx_ := hz2.bx
  replace ha := ha.frame hbx_ ho
  replace hb' := hb'.frame hbx_ ho
  replace hp := hp.frame ho (by first | assumption | (apply Ne.symm; assumption) | (simp; done) | omega)
  replace hq := hq.frame ho (by first | assumption | (apply Ne.symm; assumption) | (simp; done) | omega)
  replace hz1 := hz1.frame ho (by first | assumption | (apply Ne.symm; assumption) | (simp; done) | omega)
  replace hz3 := hz3.frame ho (by first | assumption | (apply Ne.symm; assumption) | (simp; done) | omega)
  replace g2 := g2.frame hbx_ ho
  replace g3 := g3.frame hbx_ ho
  replace g5 := g5.frame hbx_ ho
  replace h7 := h7.frame ho (by first | assumption | (apply Ne.symm; assumption) | (simp; done) | omega)
  replace g7 := g7.frame hbx_ ho
  replace g10 := g10.frame hbx_ ho
  replace hz2 := hz2.store sb_hz2 (.slice o_hz2 n_hz2 c_hz2)
  replace hb := (hb.setCell (p := ⟨w.heap.size + 1 + 1 + 1, 0, none⟩) (show w.heap.size ≤ w.heap.size + 1 + 1 + 1 by first | assumption | (simp; done) | omega) (.bool sb_hz2)).setCell (p := ⟨w.heap.size + 1 + 1 + 1, 1, none⟩) (show w.heap.size ≤ w.heap.size + 1 + 1 + 1 by first | assumption | (simp; done) | omega) (.slice o_hz2 n_hz2 c_hz2)
  refine hK _ _ rfl (And.intro True.intro (And.intro True.intro (And.intro (And.intro hz3.facts.1 hz3.facts.2.1) True.intro))) ?_
  clear hK K hbx_ ho c9_
  apply wpTail_call
  case hi => rfl
  case hw => kernel_rfl
  case h =>
  intro K hK
  have c9_ := hz3.facts
  go_big_op
  have ho := Bk.only ((((w_21.setCell ⟨w.heap.size + 1 + 1, 0, none⟩ (.bool sb_hz1)).setCell ⟨w.heap.size + 1 + 1, 1, none⟩ (.slice o_hz1 n_hz1 c_hz1)).setCell ⟨w.heap.size + 1 + 1 + 1, 0, none⟩ (.bool sb_hz2)).setCell ⟨w.heap.size + 1 + 1 + 1, 1, none⟩ (.slice o_hz2 n_hz2 c_hz2)) (w.heap.size + 1 + 1 + 1 + 1) sb_hz3 (.slice o_hz3 n_hz3 c_hz3)
  have hbx_ := hz3.bx
  replace ha := ha.frame hbx_ ho
  replace hb' := hb'.frame hbx_ ho
  replace hp := hp.frame ho (by first | assumption | (apply Ne.symm; assumption) | (simp; done) | omega)
  replace hq := hq.frame ho (by first | assumption | (apply Ne.symm; assumption) | (simp; done) | omega)
  replace hz1 := hz1.frame ho (by first | assumption | (apply Ne.symm; assumption) | (simp; done) | omega)
  replace hz2 := hz2.frame ho (by first | assumption | (apply Ne.symm; assumption) | (simp; done) | omega)
  replace g2 := g2.frame hbx_ ho
  replace g3 := g3.frame hbx_ ho
  replace g5 := g5.frame hbx_ ho
  replace h7 := h7.frame ho (by first | assumption | (apply Ne.symm; assumption) | (simp; done) | omega)
  replace g7 := g7.frame hbx_ ho
  replace g10 := g10.frame hbx_ ho
  replace hz3 := hz3.store sb_hz3 (.slice o_hz3 n_hz3 c_hz3)
  replace hb := (hb.setCell (p := ⟨w.heap.size + 1 + 1 + 1 + 1, 0, none⟩) (show w.heap.size ≤ w.heap.size + 1 + 1 + 1 + 1 by first | assumption | (simp; done) | omega) (.bool sb_hz3)).setCell (p := ⟨w.heap.size + 1 + 1 + 1 + 1, 1, none⟩) (show w.heap.size ≤ w.heap.size + 1 + 1 + 1 + 1 by first | assumption | (simp; done) | omega) (.slice o_hz3 n_hz3 c_hz3)
  refine hK _ _ rfl (And.intro True.intro (And.intro True.intro (And.intro True.intro True.intro))) ?_
  clear hK K hbx_ ho c9_
  apply wpTail_end
  have f1 := hz1.facts
  have f2 := hz2.facts
  have f3 := hz3.facts
  go_wp2
  refine bodyPost_ret (v := .tuple #[.agg #[.bool sb_hz1, .slice o_hz1 n_hz1 c_hz1], .agg #[.bool sb_hz2, .slice o_hz2 n_hz2 c_hz2], .agg #[.bool sb_hz3, .slice o_hz3 n_hz3 c_hz3]]) (by simp [results, Tryd.results31, go_sem, f1.1, f1.2.1, f2.1, f2.2.1, f3.1, f3.2.1]) rfl ?_
  exact ⟨_, _, _, rfl, ⟨c, HXG.out, g2.mono (by omega), g7.mono (by omega), g10.mono (by omega)⟩, hb⟩
end Go.Proofs.YtjcfhbekpmpbeaaDoor
