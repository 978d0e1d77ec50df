/- zint's reference: Gcd, Xgcd by 0. -/
import Derived.Test.YtabmffenbkdgkaaDoorY8
import Derived.Test.YtabmffenbkdgkaaDoorZ10
namespace Go.Proofs.YtabmffenbkdgkaaDoor
open Go.RowKit Dig

set_option maxHeartbeats 2000000 in
set_option maxRecDepth 20000 in
/-- tesselref2.Gcd. -/
theorem rzgcd_any {w : World} {va vb : Value} {x y : Int} {l m : Nat} (ha : ZN w va x l) (hb' : ZN w vb y m) (hl : l ≤ 90000000) (hm : m ≤ 90000000) :
    Calls Tryd.prog 78 #[va, vb] w fun e w' => ∃ v', e = .returned v' ∧ ZC w' v' (Int.gcd x y) ∧ Below w.heap.size w w' := by
  obtain ⟨na, oa, ca, xs, rfl, hca, hx, hzx, hxl⟩ := ha.open_
  obtain ⟨nb, ob, cb, ys, rfl, hcb, hy, hzy, hyl⟩ := hb'.open_
  have E1 := hide (show (if false = true then -((val (dig (Nat.gcd (val xs) (val ys))) : Nat) : Int) else ((val (dig (Nat.gcd (val xs) (val ys))) : Nat) : Int)) = Int.gcd x y by
    rw [val_dig]; unfold Int.gcd; rw [← hzx, ← hzy, zv_abs, zv_abs]; rfl)
  have LD := hide (show (dig (Nat.gcd (val xs) (val ys))).length ≤ l + m by
    by_cases h : val ys = 0
    · rw [h, Nat.gcd_zero_right]; have := dig_length_le (n := val xs) (k := l) (Nat.lt_of_lt_of_le (val_lt hx.ok) (pw_mono hxl)); omega
    · have := len_le (Nat.gcd_le_right (val xs) (Nat.pos_of_ne_zero h)) (dig_length_le (n := val ys) (k := m) (Nat.lt_of_lt_of_le (val_lt hy.ok) (pw_mono hyl))); omega)
  clear ha hb' hzx hzy
  go_enter Tryd.func78, Tryd.ntmps78
  have hb := Below.refl w.heap.size w
  have hp := Bk.new w na (.slice oa xs.length ca)
  replace hx := hx.alloc (.cells #[.bool na, (.slice oa xs.length ca)] 24)
  replace hy := hy.alloc (.cells #[.bool na, (.slice oa xs.length ca)] 24)
  replace hb := hb.alloc hb.size (.cells #[.bool na, (.slice oa xs.length ca)] 24)
  have hq := Bk.new (w.alloc (.cells #[.bool na, (.slice oa xs.length ca)] 24)) nb (.slice ob ys.length cb)
  simp only [Bk.size_alloc] at hq
  replace hx := hx.alloc (.cells #[.bool nb, (.slice ob ys.length cb)] 24)
  replace hy := hy.alloc (.cells #[.bool nb, (.slice ob ys.length cb)] 24)
  replace hp := hp.alloc (.cells #[.bool nb, (.slice ob ys.length cb)] 24)
  replace hb := hb.alloc hb.size (.cells #[.bool nb, (.slice ob ys.length cb)] 24)
  have hz := Bk.new ((w.alloc (.cells #[.bool na, (.slice oa xs.length ca)] 24)).alloc (.cells #[.bool nb, (.slice ob ys.length cb)] 24)) false (.slice none 0 0)
  simp only [Bk.size_alloc] at hz
  replace hx := hx.alloc (.cells #[.bool false, (.slice none 0 0)] 24)
  replace hy := hy.alloc (.cells #[.bool false, (.slice none 0 0)] 24)
  replace hp := hp.alloc (.cells #[.bool false, (.slice none 0 0)] 24)
  replace hq := hq.alloc (.cells #[.bool false, (.slice none 0 0)] 24)
  replace hb := hb.alloc hb.size (.cells #[.bool false, (.slice none 0 0)] 24)
  have f_hp := hp.facts
  have f_hq := hq.facts
  go_wp2_with fail
  refine (rgcd_rd hx hy (by omega) (by omega)).mono ?_
  rintro e w_1 ⟨s1, rfl, h1, hb_1⟩
  replace hx := hx.below hb_1 (Nat.le_refl _)
  replace hy := hy.below hb_1 (Nat.le_refl _)
  replace hp := hp.below hb_1 (Nat.le_refl _)
  replace hq := hq.below hb_1 (Nat.le_refl _)
  replace hz := hz.below hb_1 (Nat.le_refl _)
  replace hb := hb.trans (hb_1.mono hb.size)
  clear hb_1
  clear f_hp f_hq
  go_wp2_with fail
  refine (make_any false _ h1 (by have := LD.out; omega) E1.out).mono ?_
  rintro e w_2 ⟨v1, rfl, g1, hb_2⟩
  replace hx := hx.below hb_2 (Nat.le_refl _)
  replace hy := hy.below hb_2 (Nat.le_refl _)
  replace hp := hp.below hb_2 (Nat.le_refl _)
  replace hq := hq.below hb_2 (Nat.le_refl _)
  replace hz := hz.below hb_2 (Nat.le_refl _)
  replace h1 := h1.below hb_2 (Nat.le_refl _)
  replace hb := hb.trans (hb_2.mono hb.size)
  clear hb_2
  replace g1 := g1.rd
  clear h1
  obtain ⟨sb_hz, o_hz, n_hz, c_hz, rfl⟩ := g1.open2
  have f_hz := hz.facts
  have ho := Bk.only w_2 (w.heap.size + 1 + 1) sb_hz (.slice o_hz n_hz c_hz)
  have hbx_ := hz.bx
  replace hx := hx.frame hbx_ ho
  replace hy := hy.frame hbx_ ho
  replace hp := hp.frame ho (by omega)
  replace hq := hq.frame ho (by omega)
  replace g1 := g1.frame hbx_ ho
  replace hz := hz.store sb_hz (.slice o_hz n_hz c_hz)
  replace hb := (hb.setCell (p := ⟨w.heap.size + 1 + 1, 0, none⟩) (show w.heap.size ≤ w.heap.size + 1 + 1 by omega) (.bool sb_hz)).setCell (p := ⟨w.heap.size + 1 + 1, 1, none⟩) (show w.heap.size ≤ w.heap.size + 1 + 1 by omega) (.slice o_hz n_hz c_hz)
  clear ho hbx_
  obtain ⟨w_3, hw_3⟩ : ∃ v, ((w_2.setCell ⟨w.heap.size + 1 + 1, 0, none⟩ (.bool sb_hz)).setCell ⟨w.heap.size + 1 + 1, 1, none⟩ (.slice o_hz n_hz c_hz)) = v := ⟨_, rfl⟩
  rw [hw_3] at hx hy hp hq hz g1 hb
  have f1 := hz.facts
  go_wp2
  refine bodyPost_ret (v := .agg #[.bool sb_hz, .slice o_hz n_hz c_hz]) (by simp [results, Tryd.results78, go_sem, f1.1, f1.2.1]) rfl ?_
  exact ⟨_, rfl, g1, hb⟩

set_option maxHeartbeats 4000000 in
set_option maxRecDepth 20000 in
/-- tesselref2.Xgcd by 0. -/
theorem rxgcd_zero {w : World} {va vb : Value} {x : Int} {l m : Nat} (ha : ZN w va x l) (hb' : ZN w vb 0 m) (hl : l ≤ 20000000) (hm : m ≤ 20000000) :
    Calls Tryd.prog 49 #[va, vb] w fun e w' => ∃ v1 v2 v3, e = .returned (.tuple #[v1, v2, v3]) ∧ (ZC w' v1 (x.natAbs : Int) ∧ ZC w' v2 x.sign ∧ ZC w' v3 0) ∧ Below w.heap.size w w' := by
  obtain ⟨S, hS⟩ : ∃ S, x.sign = S := ⟨_, rfl⟩
  have hSb := sign_bd x
  rw [hS] at hSb ⊢
  have HS := hide hS
  have hS1 := hSb.1
  have hS2 := hSb.2
  have EG := hide (show ((Int.gcd x 0 : Nat) : Int) = (x.natAbs : Int) by rw [Int.gcd_zero_right])
  clear hS hSb
  have e0 : ((0 : Int) == 0) = true := rfl
  obtain ⟨na, oa, ca, xs, rfl, hca, _, _, hxl⟩ := ha.open_
  obtain ⟨nb, ob, cb, ys, rfl, hcb, _, _, hyl⟩ := hb'.open_
  go_enter Tryd.func49, Tryd.ntmps49
  have hb := Below.refl w.heap.size w
  have hp := Bk.new w na (.slice oa xs.length ca)
  replace ha := ha.alloc (.cells #[.bool na, (.slice oa xs.length ca)] 24)
  replace hb' := hb'.alloc (.cells #[.bool na, (.slice oa xs.length ca)] 24)
  replace hb := hb.alloc hb.size (.cells #[.bool na, (.slice oa xs.length ca)] 24)
  have hq := Bk.new (w.alloc (.cells #[.bool na, (.slice oa xs.length ca)] 24)) nb (.slice ob ys.length cb)
  simp only [Bk.size_alloc] at hq
  replace ha := ha.alloc (.cells #[.bool nb, (.slice ob ys.length cb)] 24)
  replace hb' := hb'.alloc (.cells #[.bool nb, (.slice ob ys.length cb)] 24)
  replace hp := hp.alloc (.cells #[.bool nb, (.slice ob ys.length cb)] 24)
  replace hb := hb.alloc hb.size (.cells #[.bool nb, (.slice ob ys.length cb)] 24)
  have hz1 := Bk.new ((w.alloc (.cells #[.bool na, (.slice oa xs.length ca)] 24)).alloc (.cells #[.bool nb, (.slice ob ys.length cb)] 24)) false (.slice none 0 0)
  simp only [Bk.size_alloc] at hz1
  replace ha := ha.alloc (.cells #[.bool false, (.slice none 0 0)] 24)
  replace hb' := hb'.alloc (.cells #[.bool false, (.slice none 0 0)] 24)
  replace hp := hp.alloc (.cells #[.bool false, (.slice none 0 0)] 24)
  replace hq := hq.alloc (.cells #[.bool false, (.slice none 0 0)] 24)
  replace hb := hb.alloc hb.size (.cells #[.bool false, (.slice none 0 0)] 24)
  have hz2 := Bk.new (((w.alloc (.cells #[.bool na, (.slice oa xs.length ca)] 24)).alloc (.cells #[.bool nb, (.slice ob ys.length cb)] 24)).alloc (.cells #[.bool false, (.slice none 0 0)] 24)) false (.slice none 0 0)
  simp only [Bk.size_alloc] at hz2
  replace ha := ha.alloc (.cells #[.bool false, (.slice none 0 0)] 24)
  replace hb' := hb'.alloc (.cells #[.bool false, (.slice none 0 0)] 24)
  replace hp := hp.alloc (.cells #[.bool false, (.slice none 0 0)] 24)
  replace hq := hq.alloc (.cells #[.bool false, (.slice none 0 0)] 24)
  replace hz1 := hz1.alloc (.cells #[.bool false, (.slice none 0 0)] 24)
  replace hb := hb.alloc hb.size (.cells #[.bool false, (.slice none 0 0)] 24)
  have hz3 := Bk.new ((((w.alloc (.cells #[.bool na, (.slice oa xs.length ca)] 24)).alloc (.cells #[.bool nb, (.slice ob ys.length cb)] 24)).alloc (.cells #[.bool false, (.slice none 0 0)] 24)).alloc (.cells #[.bool false, (.slice none 0 0)] 24)) false (.slice none 0 0)
  simp only [Bk.size_alloc] at hz3
  replace ha := ha.alloc (.cells #[.bool false, (.slice none 0 0)] 24)
  replace hb' := hb'.alloc (.cells #[.bool false, (.slice none 0 0)] 24)
  replace hp := hp.alloc (.cells #[.bool false, (.slice none 0 0)] 24)
  replace hq := hq.alloc (.cells #[.bool false, (.slice none 0 0)] 24)
  replace hz1 := hz1.alloc (.cells #[.bool false, (.slice none 0 0)] 24)
  replace hz2 := hz2.alloc (.cells #[.bool false, (.slice none 0 0)] 24)
  replace hb := hb.alloc hb.size (.cells #[.bool false, (.slice none 0 0)] 24)
  have f_hp := hp.facts
  have f_hq := hq.facts
  go_wp2_with fail
  refine (rzgcd_any ha hb' (by omega) (by omega)).mono ?_
  rintro e w_1 ⟨v1, rfl, g1, hb_1⟩
  replace ha := ha.below hb_1 (Nat.le_refl _)
  replace hb' := hb'.below hb_1 (Nat.le_refl _)
  replace hp := hp.below hb_1 (Nat.le_refl _)
  replace hq := hq.below hb_1 (Nat.le_refl _)
  replace hz1 := hz1.below hb_1 (Nat.le_refl _)
  replace hz2 := hz2.below hb_1 (Nat.le_refl _)
  replace hz3 := hz3.below hb_1 (Nat.le_refl _)
  replace hb := hb.trans (hb_1.mono hb.size)
  clear hb_1
  rw [EG.out] at g1
  clear f_hp f_hq
  have kb_h7 := hb.size
  have ne_hp_h7 : w.heap.size ≠ w_1.heap.size := by have := hp.lt; (try simp only [Bk.size_alloc] at this); omega
  have ne_hq_h7 : w.heap.size + 1 ≠ w_1.heap.size := by have := hq.lt; (try simp only [Bk.size_alloc] at this); omega
  have ne_hz1_h7 : w.heap.size + 1 + 1 ≠ w_1.heap.size := by have := hz1.lt; (try simp only [Bk.size_alloc] at this); omega
  have ne_hz2_h7 : w.heap.size + 1 + 1 + 1 ≠ w_1.heap.size := by have := hz2.lt; (try simp only [Bk.size_alloc] at this); omega
  have ne_hz3_h7 : w.heap.size + 1 + 1 + 1 + 1 ≠ w_1.heap.size := by have := hz3.lt; (try simp only [Bk.size_alloc] at this); omega
  have h7 := Bk.new w_1 false (.slice none 0 0)
  replace ha := ha.alloc (.cells #[.bool false, (.slice none 0 0)] 24)
  replace hb' := hb'.alloc (.cells #[.bool false, (.slice none 0 0)] 24)
  replace hp := hp.alloc (.cells #[.bool false, (.slice none 0 0)] 24)
  replace hq := hq.alloc (.cells #[.bool false, (.slice none 0 0)] 24)
  replace hz1 := hz1.alloc (.cells #[.bool false, (.slice none 0 0)] 24)
  replace hz2 := hz2.alloc (.cells #[.bool false, (.slice none 0 0)] 24)
  replace hz3 := hz3.alloc (.cells #[.bool false, (.slice none 0 0)] 24)
  replace g1 := g1.alloc (.cells #[.bool false, (.slice none 0 0)] 24)
  replace hb := hb.alloc hb.size (.cells #[.bool false, (.slice none 0 0)] 24)
  obtain ⟨w_2, hw_2⟩ : ∃ v, (w_1.alloc (.cells #[.bool false, (.slice none 0 0)] 24)) = v := ⟨_, rfl⟩
  rw [hw_2] at ha hb' hp hq hz1 hz2 hz3 g1 h7 hb
  obtain ⟨sb_h7, o_h7, n_h7, c_h7, rfl⟩ := g1.open2
  have f_h7 := h7.facts
  have ho := Bk.only w_2 (w_1.heap.size) sb_h7 (.slice o_h7 n_h7 c_h7)
  have hbx_ := h7.bx
  replace ha := ha.frame hbx_ ho
  replace hb' := hb'.frame hbx_ ho
  replace hp := hp.frame ho (by omega)
  replace hq := hq.frame ho (by omega)
  replace hz1 := hz1.frame ho (by omega)
  replace hz2 := hz2.frame ho (by omega)
  replace hz3 := hz3.frame ho (by omega)
  replace g1 := g1.frame hbx_ ho
  replace h7 := h7.store sb_h7 (.slice o_h7 n_h7 c_h7)
  replace hb := (hb.setCell (p := ⟨w_1.heap.size, 0, none⟩) (show w.heap.size ≤ w_1.heap.size by omega) (.bool sb_h7)).setCell (p := ⟨w_1.heap.size, 1, none⟩) (show w.heap.size ≤ w_1.heap.size by omega) (.slice o_h7 n_h7 c_h7)
  clear ho hbx_
  obtain ⟨w_3, hw_3⟩ : ∃ v, ((w_2.setCell ⟨w_1.heap.size, 0, none⟩ (.bool sb_h7)).setCell ⟨w_1.heap.size, 1, none⟩ (.slice o_h7 n_h7 c_h7)) = v := ⟨_, rfl⟩
  rw [hw_3] at ha hb' hp hq hz1 hz2 hz3 g1 h7 hb
  have f_hq := hq.facts
  go_wp2_with fail
  refine (rzsign_any hb' (by omega)).mono ?_
  rintro e w_4 ⟨rfl, hb_4⟩
  replace ha := ha.below hb_4 (Nat.le_refl _)
  replace hb' := hb'.below hb_4 (Nat.le_refl _)
  replace hp := hp.below hb_4 (Nat.le_refl _)
  replace hq := hq.below hb_4 (Nat.le_refl _)
  replace hz1 := hz1.below hb_4 (Nat.le_refl _)
  replace hz2 := hz2.below hb_4 (Nat.le_refl _)
  replace hz3 := hz3.below hb_4 (Nat.le_refl _)
  replace g1 := g1.below hb_4 (Nat.le_refl _)
  replace h7 := h7.below hb_4 (Nat.le_refl _)
  replace hb := hb.trans (hb_4.mono hb.size)
  clear hb_4
  clear f_hq f_h7
  replace ha := ha.drew
  replace hb' := hb'.drew
  replace hp := hp.drew
  replace hq := hq.drew
  replace hz1 := hz1.drew
  replace hz2 := hz2.drew
  replace hz3 := hz3.drew
  replace g1 := g1.drew
  replace h7 := h7.drew
  replace hb := hb.drew
  have lt_hp := hp.lt
  have lt_hq := hq.lt
  have lt_hz1 := hz1.lt
  have lt_hz2 := hz2.lt
  have lt_hz3 := hz3.lt
  have lt_h7 := h7.lt
  have kb0 := hb.size
  go_wp2_with fail
  refine wp_region_fl [(0, false), (1, false), (2, true), (3, true), (4, true)] [5, 6, 7] [] (fun _ => obZ) [1, 0, 99, 99, 99, 99, 99, 99] [] (fun w' => w'.cell? ⟨w.heap.size, 0, none⟩ = some (.bool na) ∧ w'.cell? ⟨w.heap.size, 1, none⟩ = some (.slice oa xs.length ca) ∧ w'.cell? ⟨w_1.heap.size, 0, none⟩ = some (.bool sb_h7) ∧ w'.cell? ⟨w_1.heap.size, 1, none⟩ = some (.slice o_h7 n_h7 c_h7)) [fun w' => w'.cell? ⟨w.heap.size, 0, none⟩ = some (.bool na) ∧ w'.cell? ⟨w.heap.size, 1, none⟩ = some (.slice oa xs.length ca), fun w' => w'.cell? ⟨w_1.heap.size, 0, none⟩ = some (.bool sb_h7) ∧ w'.cell? ⟨w_1.heap.size, 1, none⟩ = some (.slice o_h7 n_h7 c_h7)] (by kernel_rfl) (by kernel_rfl) (by kernel_rfl) (by kernel_rfl) (by kernel_rfl) (by kernel_rfl) (by kernel_rfl) (by kernel_rfl) (by decide) (by intro j hj; cases hj) (by intro w' o hC; obtain ⟨c0, c1, c2, c3⟩ := hC; exact ⟨cell_alloc c0 o, cell_alloc c1 o, cell_alloc c2 o, cell_alloc c3 o⟩) (by intro w' hC G hG; obtain ⟨c0, c1, c2, c3⟩ := hC; simp only [List.mem_cons, List.not_mem_nil, or_false] at hG; rcases hG with rfl | rfl <;> first | exact ⟨c0, c1⟩ | exact ⟨c2, c3⟩) ⟨hp.facts.1, hp.facts.2.1, h7.facts.1, h7.facts.2.1⟩ ?_
  apply wpFl_ld
  case hG => rfl
  case hi => rfl
  case h1 => intro w' hC K hK; obtain ⟨c0, c1⟩ := hC; (first | go_big_move | go_big_op); exact hK
  case hw => kernel_rfl
  case hv => kernel_rfl
  case hb => kernel_rfl
  case hp => kernel_rfl
  apply wpFl_ld
  case hG => rfl
  case hi => rfl
  case h1 => intro w' hC K hK; obtain ⟨c0, c1⟩ := hC; (first | go_big_move | go_big_op); exact hK
  case hw => kernel_rfl
  case hv => kernel_rfl
  case hb => kernel_rfl
  case hp => kernel_rfl
  apply wpFl_call
  case hi => rfl
  case hw => kernel_rfl
  case h =>
  intro w_5 hn hC
  clear hC
  replace ha := ha.below hn (Nat.le_refl _)
  replace hb' := hb'.below hn (Nat.le_refl _)
  replace hp := hp.below hn (Nat.le_refl _)
  replace hq := hq.below hn (Nat.le_refl _)
  replace hz1 := hz1.below hn (Nat.le_refl _)
  replace hz2 := hz2.below hn (Nat.le_refl _)
  replace hz3 := hz3.below hn (Nat.le_refl _)
  replace g1 := g1.below hn (Nat.le_refl _)
  replace h7 := h7.below hn (Nat.le_refl _)
  replace hb := hb.trans (hn.mono hb.size)
  clear hn
  intro K hK
  have kb_6 := hb.size
  go_big_op
  go_fit (rzsign_any ha (by omega))
  rintro e w_6 ⟨rfl, hb_6⟩
  replace ha := ha.below hb_6 (Nat.le_refl _)
  replace hb' := hb'.below hb_6 (Nat.le_refl _)
  replace hp := hp.below hb_6 (Nat.le_refl _)
  replace hq := hq.below hb_6 (Nat.le_refl _)
  replace hz1 := hz1.below hb_6 (Nat.le_refl _)
  replace hz2 := hz2.below hb_6 (Nat.le_refl _)
  replace hz3 := hz3.below hb_6 (Nat.le_refl _)
  replace g1 := g1.below hb_6 (Nat.le_refl _)
  replace h7 := h7.below hb_6 (Nat.le_refl _)
  replace hb := hb.trans (hb_6.mono hb.size)
  refine hK _ _ rfl hb_6 ⟨hp.facts.1, hp.facts.2.1, h7.facts.1, h7.facts.2.1⟩ ?_
  clear hK K hb_6
  rw [HS.out]
  apply wpFl_call
  case hi => rfl
  case hw => kernel_rfl
  case h =>
  intro w_7 hn hC
  clear hC
  replace ha := ha.below hn (Nat.le_refl _)
  replace hb' := hb'.below hn (Nat.le_refl _)
  replace hp := hp.below hn (Nat.le_refl _)
  replace hq := hq.below hn (Nat.le_refl _)
  replace hz1 := hz1.below hn (Nat.le_refl _)
  replace hz2 := hz2.below hn (Nat.le_refl _)
  replace hz3 := hz3.below hn (Nat.le_refl _)
  replace g1 := g1.below hn (Nat.le_refl _)
  replace h7 := h7.below hn (Nat.le_refl _)
  replace hb := hb.trans (hn.mono hb.size)
  clear hn
  intro K hK
  have kb_8 := hb.size
  go_big_op
  go_fit (ri_any S _ (by omega) (by omega))
  rintro e w_8 ⟨v2, rfl, g2, hb_8⟩
  replace ha := ha.below hb_8 (Nat.le_refl _)
  replace hb' := hb'.below hb_8 (Nat.le_refl _)
  replace hp := hp.below hb_8 (Nat.le_refl _)
  replace hq := hq.below hb_8 (Nat.le_refl _)
  replace hz1 := hz1.below hb_8 (Nat.le_refl _)
  replace hz2 := hz2.below hb_8 (Nat.le_refl _)
  replace hz3 := hz3.below hb_8 (Nat.le_refl _)
  replace g1 := g1.below hb_8 (Nat.le_refl _)
  replace h7 := h7.below hb_8 (Nat.le_refl _)
  replace hb := hb.trans (hb_8.mono hb.size)
  refine hK _ _ rfl hb_8 ⟨hp.facts.1, hp.facts.2.1, h7.facts.1, h7.facts.2.1⟩ ?_
  clear hK K hb_8
  replace g2 := g2.rd
  apply wpFl_call
  case hi => rfl
  case hw => kernel_rfl
  case h =>
  intro w_9 hn hC
  clear hC
  replace ha := ha.below hn (Nat.le_refl _)
  replace hb' := hb'.below hn (Nat.le_refl _)
  replace hp := hp.below hn (Nat.le_refl _)
  replace hq := hq.below hn (Nat.le_refl _)
  replace hz1 := hz1.below hn (Nat.le_refl _)
  replace hz2 := hz2.below hn (Nat.le_refl _)
  replace hz3 := hz3.below hn (Nat.le_refl _)
  replace g1 := g1.below hn (Nat.le_refl _)
  replace h7 := h7.below hn (Nat.le_refl _)
  replace g2 := g2.below hn (Nat.le_refl _)
  replace hb := hb.trans (hn.mono hb.size)
  clear hn
  intro K hK
  have kb_10 := hb.size
  go_big_op
  go_fit (ri_any 0 _ (by decide) (by decide))
  rintro e w_10 ⟨v3, rfl, g3, hb_10⟩
  replace ha := ha.below hb_10 (Nat.le_refl _)
  replace hb' := hb'.below hb_10 (Nat.le_refl _)
  replace hp := hp.below hb_10 (Nat.le_refl _)
  replace hq := hq.below hb_10 (Nat.le_refl _)
  replace hz1 := hz1.below hb_10 (Nat.le_refl _)
  replace hz2 := hz2.below hb_10 (Nat.le_refl _)
  replace hz3 := hz3.below hb_10 (Nat.le_refl _)
  replace g1 := g1.below hb_10 (Nat.le_refl _)
  replace h7 := h7.below hb_10 (Nat.le_refl _)
  replace g2 := g2.below hb_10 (Nat.le_refl _)
  replace hb := hb.trans (hb_10.mono hb.size)
  refine hK _ _ rfl hb_10 ⟨hp.facts.1, hp.facts.2.1, h7.facts.1, h7.facts.2.1⟩ ?_
  clear hK K hb_10
  replace g3 := g3.rd
  apply wpFl_end
  case ha => intro pt; simp only [putF]; rfl
  case h =>
  intro w_11 pt hn hC hF hD
  clear hC
  replace ha := ha.below hn (Nat.le_refl _)
  replace hb' := hb'.below hn (Nat.le_refl _)
  replace hp := hp.below hn (Nat.le_refl _)
  replace hq := hq.below hn (Nat.le_refl _)
  replace hz1 := hz1.below hn (Nat.le_refl _)
  replace hz2 := hz2.below hn (Nat.le_refl _)
  replace hz3 := hz3.below hn (Nat.le_refl _)
  replace g1 := g1.below hn (Nat.le_refl _)
  replace h7 := h7.below hn (Nat.le_refl _)
  replace g2 := g2.below hn (Nat.le_refl _)
  replace g3 := g3.below hn (Nat.le_refl _)
  replace hb := hb.trans (hn.mono hb.size)
  clear hn
  clear hF hD
  clear lt_hp
  clear lt_hq
  clear lt_hz1
  clear lt_hz2
  clear lt_hz3
  clear lt_h7
  clear kb0
  apply wpTail_call
  case hi => rfl
  case hw => kernel_rfl
  case h =>
  intro K hK
  have c9_ := hz1.facts
  go_big_op
  have ho := Bk.only w_11 (w.heap.size + 1 + 1) sb_h7 (.slice o_h7 n_h7 c_h7)
  have hbx_ := hz1.bx
  replace ha := ha.frame hbx_ ho
  replace hb' := hb'.frame hbx_ ho
  replace hp := hp.frame ho (by omega)
  replace hq := hq.frame ho (by omega)
  replace hz2 := hz2.frame ho (by omega)
  replace hz3 := hz3.frame ho (by omega)
  replace g1 := g1.frame hbx_ ho
  replace h7 := h7.frame ho (by omega)
  replace g2 := g2.frame hbx_ ho
  replace g3 := g3.frame hbx_ ho
  replace hz1 := hz1.store sb_h7 (.slice o_h7 n_h7 c_h7)
  replace hb := (hb.setCell (p := ⟨w.heap.size + 1 + 1, 0, none⟩) (show w.heap.size ≤ w.heap.size + 1 + 1 by omega) (.bool sb_h7)).setCell (p := ⟨w.heap.size + 1 + 1, 1, none⟩) (show w.heap.size ≤ w.heap.size + 1 + 1 by omega) (.slice o_h7 n_h7 c_h7)
  refine hK _ _ rfl (And.intro (And.intro hp.facts.1 hp.facts.2.1) (And.intro (And.intro h7.facts.1 h7.facts.2.1) True.intro)) ?_
  clear hK K hbx_ ho c9_
  obtain ⟨sb_hz2, o_hz2, n_hz2, c_hz2, rfl⟩ := g2.open2
  apply wpTail_call
  case hi => rfl
  case hw => kernel_rfl
  case h =>
  intro K hK
  have c9_ := hz2.facts
  go_big_op
  have ho := Bk.only ((w_11.setCell ⟨w.heap.size + 1 + 1, 0, none⟩ (.bool sb_h7)).setCell ⟨w.heap.size + 1 + 1, 1, none⟩ (.slice o_h7 n_h7 c_h7)) (w.heap.size + 1 + 1 + 1) sb_hz2 (.slice o_hz2 n_hz2 c_hz2)
  have hbx_ := hz2.bx
  replace ha := ha.frame hbx_ ho
  replace hb' := hb'.frame hbx_ ho
  replace hp := hp.frame ho (by omega)
  replace hq := hq.frame ho (by omega)
  replace hz1 := hz1.frame ho (by omega)
  replace hz3 := hz3.frame ho (by omega)
  replace g1 := g1.frame hbx_ ho
  replace h7 := h7.frame ho (by omega)
  replace g2 := g2.frame hbx_ ho
  replace g3 := g3.frame hbx_ ho
  replace hz2 := hz2.store sb_hz2 (.slice o_hz2 n_hz2 c_hz2)
  replace hb := (hb.setCell (p := ⟨w.heap.size + 1 + 1 + 1, 0, none⟩) (show w.heap.size ≤ w.heap.size + 1 + 1 + 1 by omega) (.bool sb_hz2)).setCell (p := ⟨w.heap.size + 1 + 1 + 1, 1, none⟩) (show w.heap.size ≤ w.heap.size + 1 + 1 + 1 by omega) (.slice o_hz2 n_hz2 c_hz2)
  refine hK _ _ rfl (And.intro (And.intro hp.facts.1 hp.facts.2.1) (And.intro (And.intro h7.facts.1 h7.facts.2.1) True.intro)) ?_
  clear hK K hbx_ ho c9_
  obtain ⟨sb_hz3, o_hz3, n_hz3, c_hz3, rfl⟩ := g3.open2
  apply wpTail_call
  case hi => rfl
  case hw => kernel_rfl
  case h =>
  intro K hK
  have c9_ := hz3.facts
  go_big_op
  have ho := Bk.only ((((w_11.setCell ⟨w.heap.size + 1 + 1, 0, none⟩ (.bool sb_h7)).setCell ⟨w.heap.size + 1 + 1, 1, none⟩ (.slice o_h7 n_h7 c_h7)).setCell ⟨w.heap.size + 1 + 1 + 1, 0, none⟩ (.bool sb_hz2)).setCell ⟨w.heap.size + 1 + 1 + 1, 1, none⟩ (.slice o_hz2 n_hz2 c_hz2)) (w.heap.size + 1 + 1 + 1 + 1) sb_hz3 (.slice o_hz3 n_hz3 c_hz3)
  have hbx_ := hz3.bx
  replace ha := ha.frame hbx_ ho
  replace hb' := hb'.frame hbx_ ho
  replace hp := hp.frame ho (by omega)
  replace hq := hq.frame ho (by omega)
  replace hz1 := hz1.frame ho (by omega)
  replace hz2 := hz2.frame ho (by omega)
  replace g1 := g1.frame hbx_ ho
  replace h7 := h7.frame ho (by omega)
  replace g2 := g2.frame hbx_ ho
  replace g3 := g3.frame hbx_ ho
  replace hz3 := hz3.store sb_hz3 (.slice o_hz3 n_hz3 c_hz3)
  replace hb := (hb.setCell (p := ⟨w.heap.size + 1 + 1 + 1 + 1, 0, none⟩) (show w.heap.size ≤ w.heap.size + 1 + 1 + 1 + 1 by omega) (.bool sb_hz3)).setCell (p := ⟨w.heap.size + 1 + 1 + 1 + 1, 1, none⟩) (show w.heap.size ≤ w.heap.size + 1 + 1 + 1 + 1 by omega) (.slice o_hz3 n_hz3 c_hz3)
  refine hK _ _ rfl (And.intro (And.intro hp.facts.1 hp.facts.2.1) (And.intro (And.intro h7.facts.1 h7.facts.2.1) True.intro)) ?_
  clear hK K hbx_ ho c9_
  apply wpTail_end
  have f1 := hz1.facts
  have f2 := hz2.facts
  have f3 := hz3.facts
  go_wp2
  refine bodyPost_ret (v := .tuple #[.agg #[.bool sb_h7, .slice o_h7 n_h7 c_h7], .agg #[.bool sb_hz2, .slice o_hz2 n_hz2 c_hz2], .agg #[.bool sb_hz3, .slice o_hz3 n_hz3 c_hz3]]) (by simp [results, Tryd.results49, go_sem, f1.1, f1.2.1, f2.1, f2.2.1, f3.1, f3.2.1]) rfl ?_
  exact ⟨_, _, _, rfl, ⟨g1, g2, g3⟩, hb⟩
end Go.Proofs.YtabmffenbkdgkaaDoor
