/- ZintBezout: the law's walk. -/
import Derived.Test.YtabmffenbkdgkaaDoorZ12
namespace Go.Proofs.YtabmffenbkdgkaaDoor
open Go.RowKit Dig

theorem bez_exact {x y c : Int} (h : XG x y c) : x * c + y * (((Int.gcd x y : Int) - x * c).fdiv y) = (Int.gcd x y : Int) := by
  have h1 := fmod_eq ((Int.gcd x y : Int) - x * c) y
  rw [Int.fmod_eq_zero_of_dvd h.dv] at h1
  rw [Int.mul_comm y]
  omega
theorem gcd_parts {x y : Int} (h0 : (Int.gcd x y : Int) ≠ 0) : Int.gcd (x.fdiv (Int.gcd x y)) (y.fdiv (Int.gcd x y)) = 1 ∧ x.fmod (Int.gcd x y) = 0 ∧ y.fmod (Int.gcd x y) = 0 ∧ x.fdiv (Int.gcd x y) * (Int.gcd x y : Int) = x ∧ y.fdiv (Int.gcd x y) * (Int.gcd x y : Int) = y := by
  have hx : (Int.gcd x y : Int) ∣ x := Int.gcd_dvd_left ..
  have hy : (Int.gcd x y : Int) ∣ y := Int.gcd_dvd_right ..
  have ex := fmod_eq x (Int.gcd x y)
  have ey := fmod_eq y (Int.gcd x y)
  have fx := Int.fmod_eq_zero_of_dvd hx
  have fy := Int.fmod_eq_zero_of_dvd hy
  refine ⟨?_, fx, fy, by omega, by omega⟩
  have h1 := Int.gcd_mul_right (x.fdiv (Int.gcd x y)) (Int.gcd x y : Int) (y.fdiv (Int.gcd x y))
  rw [show x.fdiv (Int.gcd x y) * (Int.gcd x y : Int) = x by omega, show y.fdiv (Int.gcd x y) * (Int.gcd x y : Int) = y by omega, Int.natAbs_natCast] at h1
  have hg : 0 < Int.gcd x y := by omega
  have h2 : 1 * Int.gcd x y = Int.gcd (x.fdiv (Int.gcd x y)) (y.fdiv (Int.gcd x y)) * Int.gcd x y := by omega
  exact (Nat.eq_of_mul_eq_mul_right hg h2).symm
theorem sign_pos' {n : Int} (h : 0 < n) : n.sign = 1 := Int.sign_eq_one_of_pos h
theorem sign_nn {n : Int} (h : 0 ≤ n) : 0 ≤ n.sign := by
  rcases Int.lt_or_eq_of_le h with h1 | h1
  · rw [Int.sign_eq_one_of_pos h1]; omega
  · rw [← h1]; decide

set_option maxHeartbeats 8000000 in
set_option maxRecDepth 20000 in
theorem bezout_nought {w : World} {va vb : Value} (ha : ZN w va 0 1048576) (hb' : ZN w vb 0 1048576) (htab : Lib.TabIs Tryd.prog w p10 .u64 Lib.pow10Tab) :
    Calls Tryd.prog 12 #[va, vb] w fun e w' => e = .returned (.bool true) ∧ Below w.heap.size w w' := by
  have htabs := Lib.tabBelow_of_tabIs htab
  have Lx := hide ha.len
  have Ly := hide hb'.len
  have LC := hide (show (dig ((0 : Int).sign).natAbs).length ≤ 2 from sign_len 0)
  have LD := hide (show (dig (0 : Int).natAbs).length ≤ 2 from zlen_i 0 (by decide) (by decide))
  have LG := hide (show (dig (((0 : Int).natAbs : Int)).natAbs).length ≤ 1048576 from Lx.out)
  have EB := hide (show 0 * (0 : Int).sign + 0 * 0 = ((0 : Int).natAbs : Int) by rw [Int.mul_sign_self]; omega)
  have LM1 := hide (zlen_mul Lx.out LC.out)
  have LM2 := hide (zlen_mul Ly.out LD.out)
  have ES := hide (show (((0 : Int).natAbs : Int)).sign = 0 from rfl)
  have e0 : ((0 : Int) == 0) = true := rfl
  obtain ⟨na, oa, ca, xs, rfl, hca, _, _, hxl⟩ := ha.open_
  obtain ⟨nb, ob, cb, ys, rfl, hcb, _, _, hyl⟩ := hb'.open_
  go_enter Tryd.func12, Tryd.ntmps12
  have hb := Below.refl w.heap.size w
  have hp := Bk.new w na (.slice oa xs.length ca)
  replace ha := ha.alloc (.cells #[.bool na, (.slice oa xs.length ca)] 24)
  replace hb' := hb'.alloc (.cells #[.bool na, (.slice oa xs.length ca)] 24)
  replace hb := hb.alloc hb.size (.cells #[.bool na, (.slice oa xs.length ca)] 24)
  have hq := Bk.new (w.alloc (.cells #[.bool na, (.slice oa xs.length ca)] 24)) nb (.slice ob ys.length cb)
  simp only [Bk.size_alloc] at hq
  replace ha := ha.alloc (.cells #[.bool nb, (.slice ob ys.length cb)] 24)
  replace hb' := hb'.alloc (.cells #[.bool nb, (.slice ob ys.length cb)] 24)
  replace hp := hp.alloc (.cells #[.bool nb, (.slice ob ys.length cb)] 24)
  replace hb := hb.alloc hb.size (.cells #[.bool nb, (.slice ob ys.length cb)] 24)
  go_wp2_with fail
  refine (zawake_any _ (htabs _ hb)).mono ?_
  rintro e w_1 ⟨rfl, hb_1⟩
  replace ha := ha.below hb_1 (Nat.le_refl _)
  replace hb' := hb'.below hb_1 (Nat.le_refl _)
  replace hp := hp.below hb_1 (Nat.le_refl _)
  replace hq := hq.below hb_1 (Nat.le_refl _)
  replace hb := hb.trans (hb_1.mono hb.size)
  clear hb_1
  have f_hp := hp.facts
  have f_hq := hq.facts
  go_wp2_with fail
  refine (xgcd_zero ha hb' (by decide) (by decide)).mono ?_
  rintro e w_2 ⟨v1, v2, v3, rfl, g1, g2, g3, hb_2⟩
  replace ha := ha.below hb_2 (Nat.le_refl _)
  replace hb' := hb'.below hb_2 (Nat.le_refl _)
  replace hp := hp.below hb_2 (Nat.le_refl _)
  replace hq := hq.below hb_2 (Nat.le_refl _)
  replace hb := hb.trans (hb_2.mono hb.size)
  clear hb_2
  replace g1 := g1.rd
  replace g2 := g2.rd
  replace g3 := g3.rd
  clear f_hp f_hq
  have kb_h5 := hb.size
  have ne_hp_h5 : w.heap.size ≠ w_2.heap.size := by have := hp.lt; (try simp only [Bk.size_alloc] at this); omega
  have ne_hq_h5 : w.heap.size + 1 ≠ w_2.heap.size := by have := hq.lt; (try simp only [Bk.size_alloc] at this); omega
  have h5 := Bk.new w_2 false (.slice none 0 0)
  replace ha := ha.alloc (.cells #[.bool false, (.slice none 0 0)] 24)
  replace hb' := hb'.alloc (.cells #[.bool false, (.slice none 0 0)] 24)
  replace hp := hp.alloc (.cells #[.bool false, (.slice none 0 0)] 24)
  replace hq := hq.alloc (.cells #[.bool false, (.slice none 0 0)] 24)
  replace g1 := g1.alloc (.cells #[.bool false, (.slice none 0 0)] 24)
  replace g2 := g2.alloc (.cells #[.bool false, (.slice none 0 0)] 24)
  replace g3 := g3.alloc (.cells #[.bool false, (.slice none 0 0)] 24)
  replace hb := hb.alloc hb.size (.cells #[.bool false, (.slice none 0 0)] 24)
  obtain ⟨w_3, hw_3⟩ : ∃ v, (w_2.alloc (.cells #[.bool false, (.slice none 0 0)] 24)) = v := ⟨_, rfl⟩
  rw [hw_3] at ha hb' hp hq g1 g2 g3 h5 hb
  have kb_h6 := hb.size
  have ne_hp_h6 : w.heap.size ≠ w_3.heap.size := by have := hp.lt; (try simp only [Bk.size_alloc] at this); omega
  have ne_hq_h6 : w.heap.size + 1 ≠ w_3.heap.size := by have := hq.lt; (try simp only [Bk.size_alloc] at this); omega
  have ne_h5_h6 : w_2.heap.size ≠ w_3.heap.size := by have := h5.lt; (try simp only [Bk.size_alloc] at this); omega
  have h6 := Bk.new w_3 false (.slice none 0 0)
  replace ha := ha.alloc (.cells #[.bool false, (.slice none 0 0)] 24)
  replace hb' := hb'.alloc (.cells #[.bool false, (.slice none 0 0)] 24)
  replace hp := hp.alloc (.cells #[.bool false, (.slice none 0 0)] 24)
  replace hq := hq.alloc (.cells #[.bool false, (.slice none 0 0)] 24)
  replace g1 := g1.alloc (.cells #[.bool false, (.slice none 0 0)] 24)
  replace g2 := g2.alloc (.cells #[.bool false, (.slice none 0 0)] 24)
  replace g3 := g3.alloc (.cells #[.bool false, (.slice none 0 0)] 24)
  replace h5 := h5.alloc (.cells #[.bool false, (.slice none 0 0)] 24)
  replace hb := hb.alloc hb.size (.cells #[.bool false, (.slice none 0 0)] 24)
  obtain ⟨w_4, hw_4⟩ : ∃ v, (w_3.alloc (.cells #[.bool false, (.slice none 0 0)] 24)) = v := ⟨_, rfl⟩
  rw [hw_4] at ha hb' hp hq g1 g2 g3 h5 h6 hb
  have kb_h7 := hb.size
  have ne_hp_h7 : w.heap.size ≠ w_4.heap.size := by have := hp.lt; (try simp only [Bk.size_alloc] at this); omega
  have ne_hq_h7 : w.heap.size + 1 ≠ w_4.heap.size := by have := hq.lt; (try simp only [Bk.size_alloc] at this); omega
  have ne_h5_h7 : w_2.heap.size ≠ w_4.heap.size := by have := h5.lt; (try simp only [Bk.size_alloc] at this); omega
  have ne_h6_h7 : w_3.heap.size ≠ w_4.heap.size := by have := h6.lt; (try simp only [Bk.size_alloc] at this); omega
  have h7 := Bk.new w_4 false (.slice none 0 0)
  replace ha := ha.alloc (.cells #[.bool false, (.slice none 0 0)] 24)
  replace hb' := hb'.alloc (.cells #[.bool false, (.slice none 0 0)] 24)
  replace hp := hp.alloc (.cells #[.bool false, (.slice none 0 0)] 24)
  replace hq := hq.alloc (.cells #[.bool false, (.slice none 0 0)] 24)
  replace g1 := g1.alloc (.cells #[.bool false, (.slice none 0 0)] 24)
  replace g2 := g2.alloc (.cells #[.bool false, (.slice none 0 0)] 24)
  replace g3 := g3.alloc (.cells #[.bool false, (.slice none 0 0)] 24)
  replace h5 := h5.alloc (.cells #[.bool false, (.slice none 0 0)] 24)
  replace h6 := h6.alloc (.cells #[.bool false, (.slice none 0 0)] 24)
  replace hb := hb.alloc hb.size (.cells #[.bool false, (.slice none 0 0)] 24)
  obtain ⟨w_5, hw_5⟩ : ∃ v, (w_4.alloc (.cells #[.bool false, (.slice none 0 0)] 24)) = v := ⟨_, rfl⟩
  rw [hw_5] at ha hb' hp hq g1 g2 g3 h5 h6 h7 hb
  obtain ⟨sb_h5, o_h5, n_h5, c_h5, rfl⟩ := g1.open2
  have f_h5 := h5.facts
  have ho := Bk.only w_5 (w_2.heap.size) sb_h5 (.slice o_h5 n_h5 c_h5)
  have hbx_ := h5.bx
  replace ha := ha.frame hbx_ ho
  replace hb' := hb'.frame hbx_ ho
  replace hp := hp.frame ho (by omega)
  replace hq := hq.frame ho (by omega)
  replace g1 := g1.frame hbx_ ho
  replace g2 := g2.frame hbx_ ho
  replace g3 := g3.frame hbx_ ho
  replace h6 := h6.frame ho (by omega)
  replace h7 := h7.frame ho (by omega)
  replace h5 := h5.store sb_h5 (.slice o_h5 n_h5 c_h5)
  replace hb := (hb.setCell (p := ⟨w_2.heap.size, 0, none⟩) (show w.heap.size ≤ w_2.heap.size by omega) (.bool sb_h5)).setCell (p := ⟨w_2.heap.size, 1, none⟩) (show w.heap.size ≤ w_2.heap.size by omega) (.slice o_h5 n_h5 c_h5)
  clear ho hbx_
  obtain ⟨w_6, hw_6⟩ : ∃ v, ((w_5.setCell ⟨w_2.heap.size, 0, none⟩ (.bool sb_h5)).setCell ⟨w_2.heap.size, 1, none⟩ (.slice o_h5 n_h5 c_h5)) = v := ⟨_, rfl⟩
  rw [hw_6] at ha hb' hp hq g1 g2 g3 h5 h6 h7 hb
  obtain ⟨sb_h6, o_h6, n_h6, c_h6, rfl⟩ := g2.open2
  have f_h6 := h6.facts
  have ho := Bk.only w_6 (w_3.heap.size) sb_h6 (.slice o_h6 n_h6 c_h6)
  have hbx_ := h6.bx
  replace ha := ha.frame hbx_ ho
  replace hb' := hb'.frame hbx_ ho
  replace hp := hp.frame ho (by omega)
  replace hq := hq.frame ho (by omega)
  replace g1 := g1.frame hbx_ ho
  replace g2 := g2.frame hbx_ ho
  replace g3 := g3.frame hbx_ ho
  replace h5 := h5.frame ho (by omega)
  replace h7 := h7.frame ho (by omega)
  replace h6 := h6.store sb_h6 (.slice o_h6 n_h6 c_h6)
  replace hb := (hb.setCell (p := ⟨w_3.heap.size, 0, none⟩) (show w.heap.size ≤ w_3.heap.size by omega) (.bool sb_h6)).setCell (p := ⟨w_3.heap.size, 1, none⟩) (show w.heap.size ≤ w_3.heap.size by omega) (.slice o_h6 n_h6 c_h6)
  clear ho hbx_
  obtain ⟨w_7, hw_7⟩ : ∃ v, ((w_6.setCell ⟨w_3.heap.size, 0, none⟩ (.bool sb_h6)).setCell ⟨w_3.heap.size, 1, none⟩ (.slice o_h6 n_h6 c_h6)) = v := ⟨_, rfl⟩
  rw [hw_7] at ha hb' hp hq g1 g2 g3 h5 h6 h7 hb
  obtain ⟨sb_h7, o_h7, n_h7, c_h7, rfl⟩ := g3.open2
  have f_h7 := h7.facts
  have ho := Bk.only w_7 (w_4.heap.size) sb_h7 (.slice o_h7 n_h7 c_h7)
  have hbx_ := h7.bx
  replace ha := ha.frame hbx_ ho
  replace hb' := hb'.frame hbx_ ho
  replace hp := hp.frame ho (by omega)
  replace hq := hq.frame ho (by omega)
  replace g1 := g1.frame hbx_ ho
  replace g2 := g2.frame hbx_ ho
  replace g3 := g3.frame hbx_ ho
  replace h5 := h5.frame ho (by omega)
  replace h6 := h6.frame ho (by omega)
  replace h7 := h7.store sb_h7 (.slice o_h7 n_h7 c_h7)
  replace hb := (hb.setCell (p := ⟨w_4.heap.size, 0, none⟩) (show w.heap.size ≤ w_4.heap.size by omega) (.bool sb_h7)).setCell (p := ⟨w_4.heap.size, 1, none⟩) (show w.heap.size ≤ w_4.heap.size by omega) (.slice o_h7 n_h7 c_h7)
  clear ho hbx_
  obtain ⟨w_8, hw_8⟩ : ∃ v, ((w_7.setCell ⟨w_4.heap.size, 0, none⟩ (.bool sb_h7)).setCell ⟨w_4.heap.size, 1, none⟩ (.slice o_h7 n_h7 c_h7)) = v := ⟨_, rfl⟩
  rw [hw_8] at ha hb' hp hq g1 g2 g3 h5 h6 h7 hb
  replace ha := ha.drew
  replace hb' := hb'.drew
  replace hp := hp.drew
  replace hq := hq.drew
  replace g1 := g1.drew
  replace g2 := g2.drew
  replace g3 := g3.drew
  replace h5 := h5.drew
  replace h6 := h6.drew
  replace h7 := h7.drew
  replace hb := hb.drew
  go_wp2_with fail
  refine wp_region_pl [(0, false), (1, false), (3, false), (4, false), (7, false), (2, true), (5, true), (6, true), (8, true), (9, false), (10, false), (11, false), (12, true), (13, false), (14, false)] (fun w' => w'.cell? ⟨w.heap.size, 0, none⟩ = some (.bool na) ∧ w'.cell? ⟨w.heap.size, 1, none⟩ = some (.slice oa xs.length ca) ∧ w'.cell? ⟨w.heap.size + 1, 0, none⟩ = some (.bool nb) ∧ w'.cell? ⟨w.heap.size + 1, 1, none⟩ = some (.slice ob ys.length cb) ∧ w'.cell? ⟨w_2.heap.size, 0, none⟩ = some (.bool sb_h5) ∧ w'.cell? ⟨w_2.heap.size, 1, none⟩ = some (.slice o_h5 n_h5 c_h5) ∧ w'.cell? ⟨w_3.heap.size, 0, none⟩ = some (.bool sb_h6) ∧ w'.cell? ⟨w_3.heap.size, 1, none⟩ = some (.slice o_h6 n_h6 c_h6) ∧ w'.cell? ⟨w_4.heap.size, 0, none⟩ = some (.bool sb_h7) ∧ w'.cell? ⟨w_4.heap.size, 1, none⟩ = some (.slice o_h7 n_h7 c_h7)) (by kernel_rfl) (by kernel_rfl) (by kernel_rfl) (by kernel_rfl) ⟨hp.facts.1, hp.facts.2.1, hq.facts.1, hq.facts.2.1, h5.facts.1, h5.facts.2.1, h6.facts.1, h6.facts.2.1, h7.facts.1, h7.facts.2.1⟩ ?_
  clear f_h5 f_h6 f_h7
  apply wpPl_ld
  case hi => rfl
  case h1 => intro w' hC K hK; obtain ⟨c0, c1, c2, c3, c4, c5, c6, c7, c8, c9⟩ := hC; (first | go_big_move | go_big_op); exact hK
  case hw => kernel_rfl
  case hv => kernel_rfl
  case hb => kernel_rfl
  case hp => kernel_rfl
  apply wpPl_ld
  case hi => rfl
  case h1 => intro w' hC K hK; obtain ⟨c0, c1, c2, c3, c4, c5, c6, c7, c8, c9⟩ := hC; (first | go_big_move | go_big_op); exact hK
  case hw => kernel_rfl
  case hv => kernel_rfl
  case hb => kernel_rfl
  case hp => kernel_rfl
  apply wpPl_ld
  case hi => rfl
  case h1 => intro w' hC K hK; obtain ⟨c0, c1, c2, c3, c4, c5, c6, c7, c8, c9⟩ := hC; (first | go_big_move | go_big_op); exact hK
  case hw => kernel_rfl
  case hv => kernel_rfl
  case hb => kernel_rfl
  case hp => kernel_rfl
  apply wpPl_ld
  case hi => rfl
  case h1 => intro w' hC K hK; obtain ⟨c0, c1, c2, c3, c4, c5, c6, c7, c8, c9⟩ := hC; (first | go_big_move | go_big_op); exact hK
  case hw => kernel_rfl
  case hv => kernel_rfl
  case hb => kernel_rfl
  case hp => kernel_rfl
  apply wpPl_ld
  case hi => rfl
  case h1 => intro w' hC K hK; obtain ⟨c0, c1, c2, c3, c4, c5, c6, c7, c8, c9⟩ := hC; (first | go_big_move | go_big_op); exact hK
  case hw => kernel_rfl
  case hv => kernel_rfl
  case hb => kernel_rfl
  case hp => kernel_rfl
  apply wpPl_call
  case hi => rfl
  case hw => kernel_rfl
  case h =>
  intro K hK
  have kb_9 := hb.size
  go_big_op
  go_fit (zmul_any ha (g2.zn LC.out) (by decide) (by decide))
  rintro e w_9 ⟨v4, rfl, k1, hb_9⟩
  replace ha := ha.below hb_9 (Nat.le_refl _)
  replace hb' := hb'.below hb_9 (Nat.le_refl _)
  replace hp := hp.below hb_9 (Nat.le_refl _)
  replace hq := hq.below hb_9 (Nat.le_refl _)
  replace g1 := g1.below hb_9 (Nat.le_refl _)
  replace g2 := g2.below hb_9 (Nat.le_refl _)
  replace g3 := g3.below hb_9 (Nat.le_refl _)
  replace h5 := h5.below hb_9 (Nat.le_refl _)
  replace h6 := h6.below hb_9 (Nat.le_refl _)
  replace h7 := h7.below hb_9 (Nat.le_refl _)
  replace hb := hb.trans (hb_9.mono hb.size)
  refine hK _ _ rfl ⟨hp.facts.1, hp.facts.2.1, hq.facts.1, hq.facts.2.1, h5.facts.1, h5.facts.2.1, h6.facts.1, h6.facts.2.1, h7.facts.1, h7.facts.2.1⟩ ?_
  clear hK K hb_9
  replace k1 := k1.rd
  apply wpPl_call
  case hi => rfl
  case hw => kernel_rfl
  case h =>
  intro K hK
  have kb_10 := hb.size
  go_big_op
  go_fit (zmul_any hb' (g3.zn LD.out) (by decide) (by decide))
  rintro e w_10 ⟨v5, rfl, k2, hb_10⟩
  replace ha := ha.below hb_10 (Nat.le_refl _)
  replace hb' := hb'.below hb_10 (Nat.le_refl _)
  replace hp := hp.below hb_10 (Nat.le_refl _)
  replace hq := hq.below hb_10 (Nat.le_refl _)
  replace g1 := g1.below hb_10 (Nat.le_refl _)
  replace g2 := g2.below hb_10 (Nat.le_refl _)
  replace g3 := g3.below hb_10 (Nat.le_refl _)
  replace h5 := h5.below hb_10 (Nat.le_refl _)
  replace h6 := h6.below hb_10 (Nat.le_refl _)
  replace h7 := h7.below hb_10 (Nat.le_refl _)
  replace k1 := k1.below hb_10 (Nat.le_refl _)
  replace hb := hb.trans (hb_10.mono hb.size)
  refine hK _ _ rfl ⟨hp.facts.1, hp.facts.2.1, hq.facts.1, hq.facts.2.1, h5.facts.1, h5.facts.2.1, h6.facts.1, h6.facts.2.1, h7.facts.1, h7.facts.2.1⟩ ?_
  clear hK K hb_10
  replace k2 := k2.rd
  apply wpPl_call
  case hi => rfl
  case hw => kernel_rfl
  case h =>
  intro K hK
  have kb_11 := hb.size
  go_big_op
  go_fit (zadd_any (k1.zn LM1.out) (k2.zn LM2.out) (by decide) (by decide))
  rintro e w_11 ⟨v6, rfl, k3, hb_11⟩
  replace ha := ha.below hb_11 (Nat.le_refl _)
  replace hb' := hb'.below hb_11 (Nat.le_refl _)
  replace hp := hp.below hb_11 (Nat.le_refl _)
  replace hq := hq.below hb_11 (Nat.le_refl _)
  replace g1 := g1.below hb_11 (Nat.le_refl _)
  replace g2 := g2.below hb_11 (Nat.le_refl _)
  replace g3 := g3.below hb_11 (Nat.le_refl _)
  replace h5 := h5.below hb_11 (Nat.le_refl _)
  replace h6 := h6.below hb_11 (Nat.le_refl _)
  replace h7 := h7.below hb_11 (Nat.le_refl _)
  replace k1 := k1.below hb_11 (Nat.le_refl _)
  replace k2 := k2.below hb_11 (Nat.le_refl _)
  replace hb := hb.trans (hb_11.mono hb.size)
  refine hK _ _ rfl ⟨hp.facts.1, hp.facts.2.1, hq.facts.1, hq.facts.2.1, h5.facts.1, h5.facts.2.1, h6.facts.1, h6.facts.2.1, h7.facts.1, h7.facts.2.1⟩ ?_
  clear hK K hb_11
  rw [EB.out] at k3
  replace k3 := k3.rd
  clear k1
  clear k2
  apply wpPl_call
  case hi => rfl
  case hw => kernel_rfl
  case h =>
  intro K hK
  have kb_12 := hb.size
  go_big_op
  go_fit (is_zz k3 (g1.zn LG.out) (by decide))
  rintro e w_12 ⟨rfl, hb_12⟩
  replace ha := ha.below hb_12 (Nat.le_refl _)
  replace hb' := hb'.below hb_12 (Nat.le_refl _)
  replace hp := hp.below hb_12 (Nat.le_refl _)
  replace hq := hq.below hb_12 (Nat.le_refl _)
  replace g1 := g1.below hb_12 (Nat.le_refl _)
  replace g2 := g2.below hb_12 (Nat.le_refl _)
  replace g3 := g3.below hb_12 (Nat.le_refl _)
  replace h5 := h5.below hb_12 (Nat.le_refl _)
  replace h6 := h6.below hb_12 (Nat.le_refl _)
  replace h7 := h7.below hb_12 (Nat.le_refl _)
  replace k3 := k3.below hb_12 (Nat.le_refl _)
  replace hb := hb.trans (hb_12.mono hb.size)
  refine hK _ _ rfl ⟨hp.facts.1, hp.facts.2.1, hq.facts.1, hq.facts.2.1, h5.facts.1, h5.facts.2.1, h6.facts.1, h6.facts.2.1, h7.facts.1, h7.facts.2.1⟩ ?_
  clear hK K hb_12
  clear k3
  apply wpPl_ld
  case hi => rfl
  case h1 => intro w' hC K hK; obtain ⟨c0, c1, c2, c3, c4, c5, c6, c7, c8, c9⟩ := hC; (first | go_big_move | go_big_op); exact hK
  case hw => kernel_rfl
  case hv => kernel_rfl
  case hb => kernel_rfl
  case hp => kernel_rfl
  apply wpPl_ld
  case hi => rfl
  case h1 => intro w' hC K hK; obtain ⟨c0, c1, c2, c3, c4, c5, c6, c7, c8, c9⟩ := hC; (first | go_big_move | go_big_op); exact hK
  case hw => kernel_rfl
  case hv => kernel_rfl
  case hb => kernel_rfl
  case hp => kernel_rfl
  apply wpPl_ld
  case hi => rfl
  case h1 => intro w' hC K hK; obtain ⟨c0, c1, c2, c3, c4, c5, c6, c7, c8, c9⟩ := hC; (first | go_big_move | go_big_op); exact hK
  case hw => kernel_rfl
  case hv => kernel_rfl
  case hb => kernel_rfl
  case hp => kernel_rfl
  apply wpPl_call
  case hi => rfl
  case hw => kernel_rfl
  case h =>
  intro K hK
  have kb_13 := hb.size
  go_big_op
  go_fit (zsign_any (g1.zn LG.out) (by decide))
  rintro e w_13 ⟨rfl, hb_13⟩
  replace ha := ha.below hb_13 (Nat.le_refl _)
  replace hb' := hb'.below hb_13 (Nat.le_refl _)
  replace hp := hp.below hb_13 (Nat.le_refl _)
  replace hq := hq.below hb_13 (Nat.le_refl _)
  replace g1 := g1.below hb_13 (Nat.le_refl _)
  replace g2 := g2.below hb_13 (Nat.le_refl _)
  replace g3 := g3.below hb_13 (Nat.le_refl _)
  replace h5 := h5.below hb_13 (Nat.le_refl _)
  replace h6 := h6.below hb_13 (Nat.le_refl _)
  replace h7 := h7.below hb_13 (Nat.le_refl _)
  replace hb := hb.trans (hb_13.mono hb.size)
  refine hK _ _ rfl ⟨hp.facts.1, hp.facts.2.1, hq.facts.1, hq.facts.2.1, h5.facts.1, h5.facts.2.1, h6.facts.1, h6.facts.2.1, h7.facts.1, h7.facts.2.1⟩ ?_
  clear hK K hb_13
  rw [ES.out]
  apply wpPl_ld
  case hi => rfl
  case h1 => intro w' hC K hK; obtain ⟨c0, c1, c2, c3, c4, c5, c6, c7, c8, c9⟩ := hC; (first | go_big_move | go_big_op); exact hK
  case hw => kernel_rfl
  case hv => kernel_rfl
  case hb => kernel_rfl
  case hp => kernel_rfl
  apply wpPl_ld
  case hi => rfl
  case h1 => intro w' hC K hK; obtain ⟨c0, c1, c2, c3, c4, c5, c6, c7, c8, c9⟩ := hC; (first | go_big_move | go_big_op); exact hK
  case hw => kernel_rfl
  case hv => kernel_rfl
  case hb => kernel_rfl
  case hp => kernel_rfl
  apply wpPl_end
  have f_h5 := h5.facts
  go_wp2_with fail
  refine (zsign_any (g1.zn LG.out) (by decide)).mono ?_
  rintro e w_14 ⟨rfl, hb_14⟩
  replace ha := ha.below hb_14 (Nat.le_refl _)
  replace hb' := hb'.below hb_14 (Nat.le_refl _)
  replace hp := hp.below hb_14 (Nat.le_refl _)
  replace hq := hq.below hb_14 (Nat.le_refl _)
  replace g1 := g1.below hb_14 (Nat.le_refl _)
  replace g2 := g2.below hb_14 (Nat.le_refl _)
  replace g3 := g3.below hb_14 (Nat.le_refl _)
  replace h5 := h5.below hb_14 (Nat.le_refl _)
  replace h6 := h6.below hb_14 (Nat.le_refl _)
  replace h7 := h7.below hb_14 (Nat.le_refl _)
  replace hb := hb.trans (hb_14.mono hb.size)
  clear hb_14
  rw [ES.out]
  clear f_h5
  have f_hp := hp.facts
  go_wp2_with fail
  refine (zsign_any ha (by decide)).mono ?_
  rintro e w_15 ⟨rfl, hb_15⟩
  replace ha := ha.below hb_15 (Nat.le_refl _)
  replace hb' := hb'.below hb_15 (Nat.le_refl _)
  replace hp := hp.below hb_15 (Nat.le_refl _)
  replace hq := hq.below hb_15 (Nat.le_refl _)
  replace g1 := g1.below hb_15 (Nat.le_refl _)
  replace g2 := g2.below hb_15 (Nat.le_refl _)
  replace g3 := g3.below hb_15 (Nat.le_refl _)
  replace h5 := h5.below hb_15 (Nat.le_refl _)
  replace h6 := h6.below hb_15 (Nat.le_refl _)
  replace h7 := h7.below hb_15 (Nat.le_refl _)
  replace hb := hb.trans (hb_15.mono hb.size)
  clear hb_15
  clear f_hp
  have f_hq := hq.facts
  go_wp2_with fail
  refine (zsign_any hb' (by decide)).mono ?_
  rintro e w_16 ⟨rfl, hb_16⟩
  replace ha := ha.below hb_16 (Nat.le_refl _)
  replace hb' := hb'.below hb_16 (Nat.le_refl _)
  replace hp := hp.below hb_16 (Nat.le_refl _)
  replace hq := hq.below hb_16 (Nat.le_refl _)
  replace g1 := g1.below hb_16 (Nat.le_refl _)
  replace g2 := g2.below hb_16 (Nat.le_refl _)
  replace g3 := g3.below hb_16 (Nat.le_refl _)
  replace h5 := h5.below hb_16 (Nat.le_refl _)
  replace h6 := h6.below hb_16 (Nat.le_refl _)
  replace h7 := h7.below hb_16 (Nat.le_refl _)
  replace hb := hb.trans (hb_16.mono hb.size)
  clear hb_16
  clear f_hq
  go_wp2
  go_ret
  exact ⟨rfl, hb⟩

set_option maxHeartbeats 8000000 in
set_option maxRecDepth 20000 in
theorem bezout_first {w : World} {va vb : Value} {x : Int} (ha : ZN w va x 1048576) (hb' : ZN w vb 0 1048576) (h0 : x ≠ 0) (htab : Lib.TabIs Tryd.prog w p10 .u64 Lib.pow10Tab) :
    Calls Tryd.prog 12 #[va, vb] w fun e w' => e = .returned (.bool true) ∧ Below w.heap.size w w' := by
  have htabs := Lib.tabBelow_of_tabIs htab
  have Lx := hide ha.len
  have Ly := hide hb'.len
  have LC := hide (show (dig (x.sign).natAbs).length ≤ 2 from sign_len x)
  have LD := hide (show (dig (0 : Int).natAbs).length ≤ 2 from zlen_i 0 (by decide) (by decide))
  have LG := hide (show (dig ((x.natAbs : Int)).natAbs).length ≤ 1048576 from Lx.out)
  have EB := hide (show x * x.sign + 0 * 0 = (x.natAbs : Int) by rw [Int.mul_sign_self]; omega)
  have LM1 := hide (zlen_mul Lx.out LC.out)
  have LM2 := hide (zlen_mul Ly.out LD.out)
  have hg : Int.gcd x 0 = x.natAbs := Int.gcd_zero_right x
  have ES := hide (show ((x.natAbs : Int)).sign = 1 from Int.sign_eq_one_of_pos (by omega))
  have e0 : ((0 : Int) == 0) = true := rfl
  have e1 : ((1 : Int) == 0) = false := rfl
  have HG0 := hide (show ((x.natAbs : Nat) : Int) ≠ 0 by omega)
  have HP := hide (show Int.gcd (x.fdiv (x.natAbs : Int)) ((0 : Int).fdiv (x.natAbs : Int)) = 1 ∧ x.fmod (x.natAbs : Int) = 0 ∧ (0 : Int).fmod (x.natAbs : Int) = 0 ∧ True by
    have h := gcd_parts (x := x) (y := 0) (by rw [hg]; omega)
    rw [hg] at h
    exact ⟨h.1, h.2.1, h.2.2.1, trivial⟩)
  have LP := hide (fdiv_len HG0.out Lx.out)
  have LQ := hide (fdiv_len HG0.out Ly.out)
  have E1 := hide (show ((Int.gcd (x.fdiv (x.natAbs : Int)) ((0 : Int).fdiv (x.natAbs : Int)) : Nat) : Int) = 1 by rw [HP.out.1]; rfl)
  have L1 := hide (show (dig (1 : Int).natAbs).length ≤ 2 from zlen_i 1 (by decide) (by decide))
  have HT := hide (show (0 : Int).sign = 0 from rfl)
  clear hg h0
  obtain ⟨na, oa, ca, xs, rfl, hca, _, _, hxl⟩ := ha.open_
  obtain ⟨nb, ob, cb, ys, rfl, hcb, _, _, hyl⟩ := hb'.open_
  go_enter Tryd.func12, Tryd.ntmps12
  have hb := Below.refl w.heap.size w
  have hp := Bk.new w na (.slice oa xs.length ca)
  replace ha := ha.alloc (.cells #[.bool na, (.slice oa xs.length ca)] 24)
  replace hb' := hb'.alloc (.cells #[.bool na, (.slice oa xs.length ca)] 24)
  replace hb := hb.alloc hb.size (.cells #[.bool na, (.slice oa xs.length ca)] 24)
  have hq := Bk.new (w.alloc (.cells #[.bool na, (.slice oa xs.length ca)] 24)) nb (.slice ob ys.length cb)
  simp only [Bk.size_alloc] at hq
  replace ha := ha.alloc (.cells #[.bool nb, (.slice ob ys.length cb)] 24)
  replace hb' := hb'.alloc (.cells #[.bool nb, (.slice ob ys.length cb)] 24)
  replace hp := hp.alloc (.cells #[.bool nb, (.slice ob ys.length cb)] 24)
  replace hb := hb.alloc hb.size (.cells #[.bool nb, (.slice ob ys.length cb)] 24)
  go_wp2_with fail
  refine (zawake_any _ (htabs _ hb)).mono ?_
  rintro e w_1 ⟨rfl, hb_1⟩
  replace ha := ha.below hb_1 (Nat.le_refl _)
  replace hb' := hb'.below hb_1 (Nat.le_refl _)
  replace hp := hp.below hb_1 (Nat.le_refl _)
  replace hq := hq.below hb_1 (Nat.le_refl _)
  replace hb := hb.trans (hb_1.mono hb.size)
  clear hb_1
  have f_hp := hp.facts
  have f_hq := hq.facts
  go_wp2_with fail
  refine (xgcd_zero ha hb' (by decide) (by decide)).mono ?_
  rintro e w_2 ⟨v1, v2, v3, rfl, g1, g2, g3, hb_2⟩
  replace ha := ha.below hb_2 (Nat.le_refl _)
  replace hb' := hb'.below hb_2 (Nat.le_refl _)
  replace hp := hp.below hb_2 (Nat.le_refl _)
  replace hq := hq.below hb_2 (Nat.le_refl _)
  replace hb := hb.trans (hb_2.mono hb.size)
  clear hb_2
  replace g1 := g1.rd
  replace g2 := g2.rd
  replace g3 := g3.rd
  clear f_hp f_hq
  have kb_h5 := hb.size
  have ne_hp_h5 : w.heap.size ≠ w_2.heap.size := by have := hp.lt; (try simp only [Bk.size_alloc] at this); omega
  have ne_hq_h5 : w.heap.size + 1 ≠ w_2.heap.size := by have := hq.lt; (try simp only [Bk.size_alloc] at this); omega
  have h5 := Bk.new w_2 false (.slice none 0 0)
  replace ha := ha.alloc (.cells #[.bool false, (.slice none 0 0)] 24)
  replace hb' := hb'.alloc (.cells #[.bool false, (.slice none 0 0)] 24)
  replace hp := hp.alloc (.cells #[.bool false, (.slice none 0 0)] 24)
  replace hq := hq.alloc (.cells #[.bool false, (.slice none 0 0)] 24)
  replace g1 := g1.alloc (.cells #[.bool false, (.slice none 0 0)] 24)
  replace g2 := g2.alloc (.cells #[.bool false, (.slice none 0 0)] 24)
  replace g3 := g3.alloc (.cells #[.bool false, (.slice none 0 0)] 24)
  replace hb := hb.alloc hb.size (.cells #[.bool false, (.slice none 0 0)] 24)
  obtain ⟨w_3, hw_3⟩ : ∃ v, (w_2.alloc (.cells #[.bool false, (.slice none 0 0)] 24)) = v := ⟨_, rfl⟩
  rw [hw_3] at ha hb' hp hq g1 g2 g3 h5 hb
  have kb_h6 := hb.size
  have ne_hp_h6 : w.heap.size ≠ w_3.heap.size := by have := hp.lt; (try simp only [Bk.size_alloc] at this); omega
  have ne_hq_h6 : w.heap.size + 1 ≠ w_3.heap.size := by have := hq.lt; (try simp only [Bk.size_alloc] at this); omega
  have ne_h5_h6 : w_2.heap.size ≠ w_3.heap.size := by have := h5.lt; (try simp only [Bk.size_alloc] at this); omega
  have h6 := Bk.new w_3 false (.slice none 0 0)
  replace ha := ha.alloc (.cells #[.bool false, (.slice none 0 0)] 24)
  replace hb' := hb'.alloc (.cells #[.bool false, (.slice none 0 0)] 24)
  replace hp := hp.alloc (.cells #[.bool false, (.slice none 0 0)] 24)
  replace hq := hq.alloc (.cells #[.bool false, (.slice none 0 0)] 24)
  replace g1 := g1.alloc (.cells #[.bool false, (.slice none 0 0)] 24)
  replace g2 := g2.alloc (.cells #[.bool false, (.slice none 0 0)] 24)
  replace g3 := g3.alloc (.cells #[.bool false, (.slice none 0 0)] 24)
  replace h5 := h5.alloc (.cells #[.bool false, (.slice none 0 0)] 24)
  replace hb := hb.alloc hb.size (.cells #[.bool false, (.slice none 0 0)] 24)
  obtain ⟨w_4, hw_4⟩ : ∃ v, (w_3.alloc (.cells #[.bool false, (.slice none 0 0)] 24)) = v := ⟨_, rfl⟩
  rw [hw_4] at ha hb' hp hq g1 g2 g3 h5 h6 hb
  have kb_h7 := hb.size
  have ne_hp_h7 : w.heap.size ≠ w_4.heap.size := by have := hp.lt; (try simp only [Bk.size_alloc] at this); omega
  have ne_hq_h7 : w.heap.size + 1 ≠ w_4.heap.size := by have := hq.lt; (try simp only [Bk.size_alloc] at this); omega
  have ne_h5_h7 : w_2.heap.size ≠ w_4.heap.size := by have := h5.lt; (try simp only [Bk.size_alloc] at this); omega
  have ne_h6_h7 : w_3.heap.size ≠ w_4.heap.size := by have := h6.lt; (try simp only [Bk.size_alloc] at this); omega
  have h7 := Bk.new w_4 false (.slice none 0 0)
  replace ha := ha.alloc (.cells #[.bool false, (.slice none 0 0)] 24)
  replace hb' := hb'.alloc (.cells #[.bool false, (.slice none 0 0)] 24)
  replace hp := hp.alloc (.cells #[.bool false, (.slice none 0 0)] 24)
  replace hq := hq.alloc (.cells #[.bool false, (.slice none 0 0)] 24)
  replace g1 := g1.alloc (.cells #[.bool false, (.slice none 0 0)] 24)
  replace g2 := g2.alloc (.cells #[.bool false, (.slice none 0 0)] 24)
  replace g3 := g3.alloc (.cells #[.bool false, (.slice none 0 0)] 24)
  replace h5 := h5.alloc (.cells #[.bool false, (.slice none 0 0)] 24)
  replace h6 := h6.alloc (.cells #[.bool false, (.slice none 0 0)] 24)
  replace hb := hb.alloc hb.size (.cells #[.bool false, (.slice none 0 0)] 24)
  obtain ⟨w_5, hw_5⟩ : ∃ v, (w_4.alloc (.cells #[.bool false, (.slice none 0 0)] 24)) = v := ⟨_, rfl⟩
  rw [hw_5] at ha hb' hp hq g1 g2 g3 h5 h6 h7 hb
  obtain ⟨sb_h5, o_h5, n_h5, c_h5, rfl⟩ := g1.open2
  have f_h5 := h5.facts
  have ho := Bk.only w_5 (w_2.heap.size) sb_h5 (.slice o_h5 n_h5 c_h5)
  have hbx_ := h5.bx
  replace ha := ha.frame hbx_ ho
  replace hb' := hb'.frame hbx_ ho
  replace hp := hp.frame ho (by omega)
  replace hq := hq.frame ho (by omega)
  replace g1 := g1.frame hbx_ ho
  replace g2 := g2.frame hbx_ ho
  replace g3 := g3.frame hbx_ ho
  replace h6 := h6.frame ho (by omega)
  replace h7 := h7.frame ho (by omega)
  replace h5 := h5.store sb_h5 (.slice o_h5 n_h5 c_h5)
  replace hb := (hb.setCell (p := ⟨w_2.heap.size, 0, none⟩) (show w.heap.size ≤ w_2.heap.size by omega) (.bool sb_h5)).setCell (p := ⟨w_2.heap.size, 1, none⟩) (show w.heap.size ≤ w_2.heap.size by omega) (.slice o_h5 n_h5 c_h5)
  clear ho hbx_
  obtain ⟨w_6, hw_6⟩ : ∃ v, ((w_5.setCell ⟨w_2.heap.size, 0, none⟩ (.bool sb_h5)).setCell ⟨w_2.heap.size, 1, none⟩ (.slice o_h5 n_h5 c_h5)) = v := ⟨_, rfl⟩
  rw [hw_6] at ha hb' hp hq g1 g2 g3 h5 h6 h7 hb
  obtain ⟨sb_h6, o_h6, n_h6, c_h6, rfl⟩ := g2.open2
  have f_h6 := h6.facts
  have ho := Bk.only w_6 (w_3.heap.size) sb_h6 (.slice o_h6 n_h6 c_h6)
  have hbx_ := h6.bx
  replace ha := ha.frame hbx_ ho
  replace hb' := hb'.frame hbx_ ho
  replace hp := hp.frame ho (by omega)
  replace hq := hq.frame ho (by omega)
  replace g1 := g1.frame hbx_ ho
  replace g2 := g2.frame hbx_ ho
  replace g3 := g3.frame hbx_ ho
  replace h5 := h5.frame ho (by omega)
  replace h7 := h7.frame ho (by omega)
  replace h6 := h6.store sb_h6 (.slice o_h6 n_h6 c_h6)
  replace hb := (hb.setCell (p := ⟨w_3.heap.size, 0, none⟩) (show w.heap.size ≤ w_3.heap.size by omega) (.bool sb_h6)).setCell (p := ⟨w_3.heap.size, 1, none⟩) (show w.heap.size ≤ w_3.heap.size by omega) (.slice o_h6 n_h6 c_h6)
  clear ho hbx_
  obtain ⟨w_7, hw_7⟩ : ∃ v, ((w_6.setCell ⟨w_3.heap.size, 0, none⟩ (.bool sb_h6)).setCell ⟨w_3.heap.size, 1, none⟩ (.slice o_h6 n_h6 c_h6)) = v := ⟨_, rfl⟩
  rw [hw_7] at ha hb' hp hq g1 g2 g3 h5 h6 h7 hb
  obtain ⟨sb_h7, o_h7, n_h7, c_h7, rfl⟩ := g3.open2
  have f_h7 := h7.facts
  have ho := Bk.only w_7 (w_4.heap.size) sb_h7 (.slice o_h7 n_h7 c_h7)
  have hbx_ := h7.bx
  replace ha := ha.frame hbx_ ho
  replace hb' := hb'.frame hbx_ ho
  replace hp := hp.frame ho (by omega)
  replace hq := hq.frame ho (by omega)
  replace g1 := g1.frame hbx_ ho
  replace g2 := g2.frame hbx_ ho
  replace g3 := g3.frame hbx_ ho
  replace h5 := h5.frame ho (by omega)
  replace h6 := h6.frame ho (by omega)
  replace h7 := h7.store sb_h7 (.slice o_h7 n_h7 c_h7)
  replace hb := (hb.setCell (p := ⟨w_4.heap.size, 0, none⟩) (show w.heap.size ≤ w_4.heap.size by omega) (.bool sb_h7)).setCell (p := ⟨w_4.heap.size, 1, none⟩) (show w.heap.size ≤ w_4.heap.size by omega) (.slice o_h7 n_h7 c_h7)
  clear ho hbx_
  obtain ⟨w_8, hw_8⟩ : ∃ v, ((w_7.setCell ⟨w_4.heap.size, 0, none⟩ (.bool sb_h7)).setCell ⟨w_4.heap.size, 1, none⟩ (.slice o_h7 n_h7 c_h7)) = v := ⟨_, rfl⟩
  rw [hw_8] at ha hb' hp hq g1 g2 g3 h5 h6 h7 hb
  replace ha := ha.drew
  replace hb' := hb'.drew
  replace hp := hp.drew
  replace hq := hq.drew
  replace g1 := g1.drew
  replace g2 := g2.drew
  replace g3 := g3.drew
  replace h5 := h5.drew
  replace h6 := h6.drew
  replace h7 := h7.drew
  replace hb := hb.drew
  go_wp2_with fail
  refine wp_region_pl [(0, false), (1, false), (3, false), (4, false), (7, false), (2, true), (5, true), (6, true), (8, true), (9, false), (10, false), (11, false), (12, true), (13, false), (14, false)] (fun w' => w'.cell? ⟨w.heap.size, 0, none⟩ = some (.bool na) ∧ w'.cell? ⟨w.heap.size, 1, none⟩ = some (.slice oa xs.length ca) ∧ w'.cell? ⟨w.heap.size + 1, 0, none⟩ = some (.bool nb) ∧ w'.cell? ⟨w.heap.size + 1, 1, none⟩ = some (.slice ob ys.length cb) ∧ w'.cell? ⟨w_2.heap.size, 0, none⟩ = some (.bool sb_h5) ∧ w'.cell? ⟨w_2.heap.size, 1, none⟩ = some (.slice o_h5 n_h5 c_h5) ∧ w'.cell? ⟨w_3.heap.size, 0, none⟩ = some (.bool sb_h6) ∧ w'.cell? ⟨w_3.heap.size, 1, none⟩ = some (.slice o_h6 n_h6 c_h6) ∧ w'.cell? ⟨w_4.heap.size, 0, none⟩ = some (.bool sb_h7) ∧ w'.cell? ⟨w_4.heap.size, 1, none⟩ = some (.slice o_h7 n_h7 c_h7)) (by kernel_rfl) (by kernel_rfl) (by kernel_rfl) (by kernel_rfl) ⟨hp.facts.1, hp.facts.2.1, hq.facts.1, hq.facts.2.1, h5.facts.1, h5.facts.2.1, h6.facts.1, h6.facts.2.1, h7.facts.1, h7.facts.2.1⟩ ?_
  clear f_h5 f_h6 f_h7
  apply wpPl_ld
  case hi => rfl
  case h1 => intro w' hC K hK; obtain ⟨c0, c1, c2, c3, c4, c5, c6, c7, c8, c9⟩ := hC; (first | go_big_move | go_big_op); exact hK
  case hw => kernel_rfl
  case hv => kernel_rfl
  case hb => kernel_rfl
  case hp => kernel_rfl
  apply wpPl_ld
  case hi => rfl
  case h1 => intro w' hC K hK; obtain ⟨c0, c1, c2, c3, c4, c5, c6, c7, c8, c9⟩ := hC; (first | go_big_move | go_big_op); exact hK
  case hw => kernel_rfl
  case hv => kernel_rfl
  case hb => kernel_rfl
  case hp => kernel_rfl
  apply wpPl_ld
  case hi => rfl
  case h1 => intro w' hC K hK; obtain ⟨c0, c1, c2, c3, c4, c5, c6, c7, c8, c9⟩ := hC; (first | go_big_move | go_big_op); exact hK
  case hw => kernel_rfl
  case hv => kernel_rfl
  case hb => kernel_rfl
  case hp => kernel_rfl
  apply wpPl_ld
  case hi => rfl
  case h1 => intro w' hC K hK; obtain ⟨c0, c1, c2, c3, c4, c5, c6, c7, c8, c9⟩ := hC; (first | go_big_move | go_big_op); exact hK
  case hw => kernel_rfl
  case hv => kernel_rfl
  case hb => kernel_rfl
  case hp => kernel_rfl
  apply wpPl_ld
  case hi => rfl
  case h1 => intro w' hC K hK; obtain ⟨c0, c1, c2, c3, c4, c5, c6, c7, c8, c9⟩ := hC; (first | go_big_move | go_big_op); exact hK
  case hw => kernel_rfl
  case hv => kernel_rfl
  case hb => kernel_rfl
  case hp => kernel_rfl
  apply wpPl_call
  case hi => rfl
  case hw => kernel_rfl
  case h =>
  intro K hK
  have kb_9 := hb.size
  go_big_op
  go_fit (zmul_any ha (g2.zn LC.out) (by decide) (by decide))
  rintro e w_9 ⟨v4, rfl, k1, hb_9⟩
  replace ha := ha.below hb_9 (Nat.le_refl _)
  replace hb' := hb'.below hb_9 (Nat.le_refl _)
  replace hp := hp.below hb_9 (Nat.le_refl _)
  replace hq := hq.below hb_9 (Nat.le_refl _)
  replace g1 := g1.below hb_9 (Nat.le_refl _)
  replace g2 := g2.below hb_9 (Nat.le_refl _)
  replace g3 := g3.below hb_9 (Nat.le_refl _)
  replace h5 := h5.below hb_9 (Nat.le_refl _)
  replace h6 := h6.below hb_9 (Nat.le_refl _)
  replace h7 := h7.below hb_9 (Nat.le_refl _)
  replace hb := hb.trans (hb_9.mono hb.size)
  refine hK _ _ rfl ⟨hp.facts.1, hp.facts.2.1, hq.facts.1, hq.facts.2.1, h5.facts.1, h5.facts.2.1, h6.facts.1, h6.facts.2.1, h7.facts.1, h7.facts.2.1⟩ ?_
  clear hK K hb_9
  replace k1 := k1.rd
  apply wpPl_call
  case hi => rfl
  case hw => kernel_rfl
  case h =>
  intro K hK
  have kb_10 := hb.size
  go_big_op
  go_fit (zmul_any hb' (g3.zn LD.out) (by decide) (by decide))
  rintro e w_10 ⟨v5, rfl, k2, hb_10⟩
  replace ha := ha.below hb_10 (Nat.le_refl _)
  replace hb' := hb'.below hb_10 (Nat.le_refl _)
  replace hp := hp.below hb_10 (Nat.le_refl _)
  replace hq := hq.below hb_10 (Nat.le_refl _)
  replace g1 := g1.below hb_10 (Nat.le_refl _)
  replace g2 := g2.below hb_10 (Nat.le_refl _)
  replace g3 := g3.below hb_10 (Nat.le_refl _)
  replace h5 := h5.below hb_10 (Nat.le_refl _)
  replace h6 := h6.below hb_10 (Nat.le_refl _)
  replace h7 := h7.below hb_10 (Nat.le_refl _)
  replace k1 := k1.below hb_10 (Nat.le_refl _)
  replace hb := hb.trans (hb_10.mono hb.size)
  refine hK _ _ rfl ⟨hp.facts.1, hp.facts.2.1, hq.facts.1, hq.facts.2.1, h5.facts.1, h5.facts.2.1, h6.facts.1, h6.facts.2.1, h7.facts.1, h7.facts.2.1⟩ ?_
  clear hK K hb_10
  replace k2 := k2.rd
  apply wpPl_call
  case hi => rfl
  case hw => kernel_rfl
  case h =>
  intro K hK
  have kb_11 := hb.size
  go_big_op
  go_fit (zadd_any (k1.zn LM1.out) (k2.zn LM2.out) (by decide) (by decide))
  rintro e w_11 ⟨v6, rfl, k3, hb_11⟩
  replace ha := ha.below hb_11 (Nat.le_refl _)
  replace hb' := hb'.below hb_11 (Nat.le_refl _)
  replace hp := hp.below hb_11 (Nat.le_refl _)
  replace hq := hq.below hb_11 (Nat.le_refl _)
  replace g1 := g1.below hb_11 (Nat.le_refl _)
  replace g2 := g2.below hb_11 (Nat.le_refl _)
  replace g3 := g3.below hb_11 (Nat.le_refl _)
  replace h5 := h5.below hb_11 (Nat.le_refl _)
  replace h6 := h6.below hb_11 (Nat.le_refl _)
  replace h7 := h7.below hb_11 (Nat.le_refl _)
  replace k1 := k1.below hb_11 (Nat.le_refl _)
  replace k2 := k2.below hb_11 (Nat.le_refl _)
  replace hb := hb.trans (hb_11.mono hb.size)
  refine hK _ _ rfl ⟨hp.facts.1, hp.facts.2.1, hq.facts.1, hq.facts.2.1, h5.facts.1, h5.facts.2.1, h6.facts.1, h6.facts.2.1, h7.facts.1, h7.facts.2.1⟩ ?_
  clear hK K hb_11
  rw [EB.out] at k3
  replace k3 := k3.rd
  clear k1
  clear k2
  apply wpPl_call
  case hi => rfl
  case hw => kernel_rfl
  case h =>
  intro K hK
  have kb_12 := hb.size
  go_big_op
  go_fit (is_zz k3 (g1.zn LG.out) (by decide))
  rintro e w_12 ⟨rfl, hb_12⟩
  replace ha := ha.below hb_12 (Nat.le_refl _)
  replace hb' := hb'.below hb_12 (Nat.le_refl _)
  replace hp := hp.below hb_12 (Nat.le_refl _)
  replace hq := hq.below hb_12 (Nat.le_refl _)
  replace g1 := g1.below hb_12 (Nat.le_refl _)
  replace g2 := g2.below hb_12 (Nat.le_refl _)
  replace g3 := g3.below hb_12 (Nat.le_refl _)
  replace h5 := h5.below hb_12 (Nat.le_refl _)
  replace h6 := h6.below hb_12 (Nat.le_refl _)
  replace h7 := h7.below hb_12 (Nat.le_refl _)
  replace k3 := k3.below hb_12 (Nat.le_refl _)
  replace hb := hb.trans (hb_12.mono hb.size)
  refine hK _ _ rfl ⟨hp.facts.1, hp.facts.2.1, hq.facts.1, hq.facts.2.1, h5.facts.1, h5.facts.2.1, h6.facts.1, h6.facts.2.1, h7.facts.1, h7.facts.2.1⟩ ?_
  clear hK K hb_12
  clear k3
  apply wpPl_ld
  case hi => rfl
  case h1 => intro w' hC K hK; obtain ⟨c0, c1, c2, c3, c4, c5, c6, c7, c8, c9⟩ := hC; (first | go_big_move | go_big_op); exact hK
  case hw => kernel_rfl
  case hv => kernel_rfl
  case hb => kernel_rfl
  case hp => kernel_rfl
  apply wpPl_ld
  case hi => rfl
  case h1 => intro w' hC K hK; obtain ⟨c0, c1, c2, c3, c4, c5, c6, c7, c8, c9⟩ := hC; (first | go_big_move | go_big_op); exact hK
  case hw => kernel_rfl
  case hv => kernel_rfl
  case hb => kernel_rfl
  case hp => kernel_rfl
  apply wpPl_ld
  case hi => rfl
  case h1 => intro w' hC K hK; obtain ⟨c0, c1, c2, c3, c4, c5, c6, c7, c8, c9⟩ := hC; (first | go_big_move | go_big_op); exact hK
  case hw => kernel_rfl
  case hv => kernel_rfl
  case hb => kernel_rfl
  case hp => kernel_rfl
  apply wpPl_call
  case hi => rfl
  case hw => kernel_rfl
  case h =>
  intro K hK
  have kb_13 := hb.size
  go_big_op
  go_fit (zsign_any (g1.zn LG.out) (by decide))
  rintro e w_13 ⟨rfl, hb_13⟩
  replace ha := ha.below hb_13 (Nat.le_refl _)
  replace hb' := hb'.below hb_13 (Nat.le_refl _)
  replace hp := hp.below hb_13 (Nat.le_refl _)
  replace hq := hq.below hb_13 (Nat.le_refl _)
  replace g1 := g1.below hb_13 (Nat.le_refl _)
  replace g2 := g2.below hb_13 (Nat.le_refl _)
  replace g3 := g3.below hb_13 (Nat.le_refl _)
  replace h5 := h5.below hb_13 (Nat.le_refl _)
  replace h6 := h6.below hb_13 (Nat.le_refl _)
  replace h7 := h7.below hb_13 (Nat.le_refl _)
  replace hb := hb.trans (hb_13.mono hb.size)
  refine hK _ _ rfl ⟨hp.facts.1, hp.facts.2.1, hq.facts.1, hq.facts.2.1, h5.facts.1, h5.facts.2.1, h6.facts.1, h6.facts.2.1, h7.facts.1, h7.facts.2.1⟩ ?_
  clear hK K hb_13
  rw [ES.out]
  apply wpPl_ld
  case hi => rfl
  case h1 => intro w' hC K hK; obtain ⟨c0, c1, c2, c3, c4, c5, c6, c7, c8, c9⟩ := hC; (first | go_big_move | go_big_op); exact hK
  case hw => kernel_rfl
  case hv => kernel_rfl
  case hb => kernel_rfl
  case hp => kernel_rfl
  apply wpPl_ld
  case hi => rfl
  case h1 => intro w' hC K hK; obtain ⟨c0, c1, c2, c3, c4, c5, c6, c7, c8, c9⟩ := hC; (first | go_big_move | go_big_op); exact hK
  case hw => kernel_rfl
  case hv => kernel_rfl
  case hb => kernel_rfl
  case hp => kernel_rfl
  apply wpPl_end
  have f_h5 := h5.facts
  go_wp2_with fail
  refine (zsign_any (g1.zn LG.out) (by decide)).mono ?_
  rintro e w_14 ⟨rfl, hb_14⟩
  replace ha := ha.below hb_14 (Nat.le_refl _)
  replace hb' := hb'.below hb_14 (Nat.le_refl _)
  replace hp := hp.below hb_14 (Nat.le_refl _)
  replace hq := hq.below hb_14 (Nat.le_refl _)
  replace g1 := g1.below hb_14 (Nat.le_refl _)
  replace g2 := g2.below hb_14 (Nat.le_refl _)
  replace g3 := g3.below hb_14 (Nat.le_refl _)
  replace h5 := h5.below hb_14 (Nat.le_refl _)
  replace h6 := h6.below hb_14 (Nat.le_refl _)
  replace h7 := h7.below hb_14 (Nat.le_refl _)
  replace hb := hb.trans (hb_14.mono hb.size)
  clear hb_14
  rw [ES.out]
  clear f_h5
  have f_hp := hp.facts
  have f_h5 := h5.facts
  go_wp2_with fail
  refine (exact_any ha (g1.zn LG.out) (by decide) (by decide) HG0.out HP.out.2.1).mono ?_
  rintro e w_15 ⟨v8, rfl, g8, hb_15⟩
  replace ha := ha.below hb_15 (Nat.le_refl _)
  replace hb' := hb'.below hb_15 (Nat.le_refl _)
  replace hp := hp.below hb_15 (Nat.le_refl _)
  replace hq := hq.below hb_15 (Nat.le_refl _)
  replace g1 := g1.below hb_15 (Nat.le_refl _)
  replace g2 := g2.below hb_15 (Nat.le_refl _)
  replace g3 := g3.below hb_15 (Nat.le_refl _)
  replace h5 := h5.below hb_15 (Nat.le_refl _)
  replace h6 := h6.below hb_15 (Nat.le_refl _)
  replace h7 := h7.below hb_15 (Nat.le_refl _)
  replace hb := hb.trans (hb_15.mono hb.size)
  clear hb_15
  replace g8 := g8.rd
  clear f_hp f_h5
  have kb_h8 := hb.size
  have ne_hp_h8 : w.heap.size ≠ w_15.heap.size := by have := hp.lt; (try simp only [Bk.size_alloc] at this); omega
  have ne_hq_h8 : w.heap.size + 1 ≠ w_15.heap.size := by have := hq.lt; (try simp only [Bk.size_alloc] at this); omega
  have ne_h5_h8 : w_2.heap.size ≠ w_15.heap.size := by have := h5.lt; (try simp only [Bk.size_alloc] at this); omega
  have ne_h6_h8 : w_3.heap.size ≠ w_15.heap.size := by have := h6.lt; (try simp only [Bk.size_alloc] at this); omega
  have ne_h7_h8 : w_4.heap.size ≠ w_15.heap.size := by have := h7.lt; (try simp only [Bk.size_alloc] at this); omega
  have h8 := Bk.new w_15 false (.slice none 0 0)
  replace ha := ha.alloc (.cells #[.bool false, (.slice none 0 0)] 24)
  replace hb' := hb'.alloc (.cells #[.bool false, (.slice none 0 0)] 24)
  replace hp := hp.alloc (.cells #[.bool false, (.slice none 0 0)] 24)
  replace hq := hq.alloc (.cells #[.bool false, (.slice none 0 0)] 24)
  replace g1 := g1.alloc (.cells #[.bool false, (.slice none 0 0)] 24)
  replace g2 := g2.alloc (.cells #[.bool false, (.slice none 0 0)] 24)
  replace g3 := g3.alloc (.cells #[.bool false, (.slice none 0 0)] 24)
  replace h5 := h5.alloc (.cells #[.bool false, (.slice none 0 0)] 24)
  replace h6 := h6.alloc (.cells #[.bool false, (.slice none 0 0)] 24)
  replace h7 := h7.alloc (.cells #[.bool false, (.slice none 0 0)] 24)
  replace g8 := g8.alloc (.cells #[.bool false, (.slice none 0 0)] 24)
  replace hb := hb.alloc hb.size (.cells #[.bool false, (.slice none 0 0)] 24)
  obtain ⟨w_16, hw_16⟩ : ∃ v, (w_15.alloc (.cells #[.bool false, (.slice none 0 0)] 24)) = v := ⟨_, rfl⟩
  rw [hw_16] at ha hb' hp hq g1 g2 g3 h5 h6 h7 g8 h8 hb
  obtain ⟨sb_h8, o_h8, n_h8, c_h8, rfl⟩ := g8.open2
  have f_h8 := h8.facts
  have ho := Bk.only w_16 (w_15.heap.size) sb_h8 (.slice o_h8 n_h8 c_h8)
  have hbx_ := h8.bx
  replace ha := ha.frame hbx_ ho
  replace hb' := hb'.frame hbx_ ho
  replace hp := hp.frame ho (by omega)
  replace hq := hq.frame ho (by omega)
  replace g1 := g1.frame hbx_ ho
  replace g2 := g2.frame hbx_ ho
  replace g3 := g3.frame hbx_ ho
  replace h5 := h5.frame ho (by omega)
  replace h6 := h6.frame ho (by omega)
  replace h7 := h7.frame ho (by omega)
  replace g8 := g8.frame hbx_ ho
  replace h8 := h8.store sb_h8 (.slice o_h8 n_h8 c_h8)
  replace hb := (hb.setCell (p := ⟨w_15.heap.size, 0, none⟩) (show w.heap.size ≤ w_15.heap.size by omega) (.bool sb_h8)).setCell (p := ⟨w_15.heap.size, 1, none⟩) (show w.heap.size ≤ w_15.heap.size by omega) (.slice o_h8 n_h8 c_h8)
  clear ho hbx_
  obtain ⟨w_17, hw_17⟩ : ∃ v, ((w_16.setCell ⟨w_15.heap.size, 0, none⟩ (.bool sb_h8)).setCell ⟨w_15.heap.size, 1, none⟩ (.slice o_h8 n_h8 c_h8)) = v := ⟨_, rfl⟩
  rw [hw_17] at ha hb' hp hq g1 g2 g3 h5 h6 h7 g8 h8 hb
  have f_hq := hq.facts
  have f_h5 := h5.facts
  go_wp2_with fail
  refine (exact_any hb' (g1.zn LG.out) (by decide) (by decide) HG0.out HP.out.2.2.1).mono ?_
  rintro e w_18 ⟨v9, rfl, g9, hb_18⟩
  replace ha := ha.below hb_18 (Nat.le_refl _)
  replace hb' := hb'.below hb_18 (Nat.le_refl _)
  replace hp := hp.below hb_18 (Nat.le_refl _)
  replace hq := hq.below hb_18 (Nat.le_refl _)
  replace g1 := g1.below hb_18 (Nat.le_refl _)
  replace g2 := g2.below hb_18 (Nat.le_refl _)
  replace g3 := g3.below hb_18 (Nat.le_refl _)
  replace h5 := h5.below hb_18 (Nat.le_refl _)
  replace h6 := h6.below hb_18 (Nat.le_refl _)
  replace h7 := h7.below hb_18 (Nat.le_refl _)
  replace g8 := g8.below hb_18 (Nat.le_refl _)
  replace h8 := h8.below hb_18 (Nat.le_refl _)
  replace hb := hb.trans (hb_18.mono hb.size)
  clear hb_18
  replace g9 := g9.rd
  clear f_hq f_h5 f_h8
  have kb_h10 := hb.size
  have ne_hp_h10 : w.heap.size ≠ w_18.heap.size := by have := hp.lt; (try simp only [Bk.size_alloc] at this); omega
  have ne_hq_h10 : w.heap.size + 1 ≠ w_18.heap.size := by have := hq.lt; (try simp only [Bk.size_alloc] at this); omega
  have ne_h5_h10 : w_2.heap.size ≠ w_18.heap.size := by have := h5.lt; (try simp only [Bk.size_alloc] at this); omega
  have ne_h6_h10 : w_3.heap.size ≠ w_18.heap.size := by have := h6.lt; (try simp only [Bk.size_alloc] at this); omega
  have ne_h7_h10 : w_4.heap.size ≠ w_18.heap.size := by have := h7.lt; (try simp only [Bk.size_alloc] at this); omega
  have ne_h8_h10 : w_15.heap.size ≠ w_18.heap.size := by have := h8.lt; (try simp only [Bk.size_alloc] at this); omega
  have h10 := Bk.new w_18 false (.slice none 0 0)
  replace ha := ha.alloc (.cells #[.bool false, (.slice none 0 0)] 24)
  replace hb' := hb'.alloc (.cells #[.bool false, (.slice none 0 0)] 24)
  replace hp := hp.alloc (.cells #[.bool false, (.slice none 0 0)] 24)
  replace hq := hq.alloc (.cells #[.bool false, (.slice none 0 0)] 24)
  replace g1 := g1.alloc (.cells #[.bool false, (.slice none 0 0)] 24)
  replace g2 := g2.alloc (.cells #[.bool false, (.slice none 0 0)] 24)
  replace g3 := g3.alloc (.cells #[.bool false, (.slice none 0 0)] 24)
  replace h5 := h5.alloc (.cells #[.bool false, (.slice none 0 0)] 24)
  replace h6 := h6.alloc (.cells #[.bool false, (.slice none 0 0)] 24)
  replace h7 := h7.alloc (.cells #[.bool false, (.slice none 0 0)] 24)
  replace g8 := g8.alloc (.cells #[.bool false, (.slice none 0 0)] 24)
  replace h8 := h8.alloc (.cells #[.bool false, (.slice none 0 0)] 24)
  replace g9 := g9.alloc (.cells #[.bool false, (.slice none 0 0)] 24)
  replace hb := hb.alloc hb.size (.cells #[.bool false, (.slice none 0 0)] 24)
  obtain ⟨w_19, hw_19⟩ : ∃ v, (w_18.alloc (.cells #[.bool false, (.slice none 0 0)] 24)) = v := ⟨_, rfl⟩
  rw [hw_19] at ha hb' hp hq g1 g2 g3 h5 h6 h7 g8 h8 g9 h10 hb
  obtain ⟨sb_h10, o_h10, n_h10, c_h10, rfl⟩ := g9.open2
  have f_h10 := h10.facts
  have ho := Bk.only w_19 (w_18.heap.size) sb_h10 (.slice o_h10 n_h10 c_h10)
  have hbx_ := h10.bx
  replace ha := ha.frame hbx_ ho
  replace hb' := hb'.frame hbx_ ho
  replace hp := hp.frame ho (by omega)
  replace hq := hq.frame ho (by omega)
  replace g1 := g1.frame hbx_ ho
  replace g2 := g2.frame hbx_ ho
  replace g3 := g3.frame hbx_ ho
  replace h5 := h5.frame ho (by omega)
  replace h6 := h6.frame ho (by omega)
  replace h7 := h7.frame ho (by omega)
  replace g8 := g8.frame hbx_ ho
  replace h8 := h8.frame ho (by omega)
  replace g9 := g9.frame hbx_ ho
  replace h10 := h10.store sb_h10 (.slice o_h10 n_h10 c_h10)
  replace hb := (hb.setCell (p := ⟨w_18.heap.size, 0, none⟩) (show w.heap.size ≤ w_18.heap.size by omega) (.bool sb_h10)).setCell (p := ⟨w_18.heap.size, 1, none⟩) (show w.heap.size ≤ w_18.heap.size by omega) (.slice o_h10 n_h10 c_h10)
  clear ho hbx_
  obtain ⟨w_20, hw_20⟩ : ∃ v, ((w_19.setCell ⟨w_18.heap.size, 0, none⟩ (.bool sb_h10)).setCell ⟨w_18.heap.size, 1, none⟩ (.slice o_h10 n_h10 c_h10)) = v := ⟨_, rfl⟩
  rw [hw_20] at ha hb' hp hq g1 g2 g3 h5 h6 h7 g8 h8 g9 h10 hb
  have f_h8 := h8.facts
  have f_h10 := h10.facts
  go_wp2_with fail
  refine (zgcd_any (g8.zn LP.out) (g9.zn LQ.out) (by decide) (by decide)).mono ?_
  rintro e w_21 ⟨v10, rfl, k4, hb_21⟩
  replace ha := ha.below hb_21 (Nat.le_refl _)
  replace hb' := hb'.below hb_21 (Nat.le_refl _)
  replace hp := hp.below hb_21 (Nat.le_refl _)
  replace hq := hq.below hb_21 (Nat.le_refl _)
  replace g1 := g1.below hb_21 (Nat.le_refl _)
  replace g2 := g2.below hb_21 (Nat.le_refl _)
  replace g3 := g3.below hb_21 (Nat.le_refl _)
  replace h5 := h5.below hb_21 (Nat.le_refl _)
  replace h6 := h6.below hb_21 (Nat.le_refl _)
  replace h7 := h7.below hb_21 (Nat.le_refl _)
  replace g8 := g8.below hb_21 (Nat.le_refl _)
  replace h8 := h8.below hb_21 (Nat.le_refl _)
  replace g9 := g9.below hb_21 (Nat.le_refl _)
  replace h10 := h10.below hb_21 (Nat.le_refl _)
  replace hb := hb.trans (hb_21.mono hb.size)
  clear hb_21
  rw [E1.out] at k4
  replace k4 := k4.rd
  clear f_h8 f_h10
  clear f_h10
  go_wp2_with fail
  refine (i_any 1 _ (by decide) (by decide)).mono ?_
  rintro e w_22 ⟨v11, rfl, k5, hb_22⟩
  replace ha := ha.below hb_22 (Nat.le_refl _)
  replace hb' := hb'.below hb_22 (Nat.le_refl _)
  replace hp := hp.below hb_22 (Nat.le_refl _)
  replace hq := hq.below hb_22 (Nat.le_refl _)
  replace g1 := g1.below hb_22 (Nat.le_refl _)
  replace g2 := g2.below hb_22 (Nat.le_refl _)
  replace g3 := g3.below hb_22 (Nat.le_refl _)
  replace h5 := h5.below hb_22 (Nat.le_refl _)
  replace h6 := h6.below hb_22 (Nat.le_refl _)
  replace h7 := h7.below hb_22 (Nat.le_refl _)
  replace g8 := g8.below hb_22 (Nat.le_refl _)
  replace h8 := h8.below hb_22 (Nat.le_refl _)
  replace g9 := g9.below hb_22 (Nat.le_refl _)
  replace h10 := h10.below hb_22 (Nat.le_refl _)
  replace k4 := k4.below hb_22 (Nat.le_refl _)
  replace hb := hb.trans (hb_22.mono hb.size)
  clear hb_22
  replace k5 := k5.rd
  go_wp2_with fail
  refine (is_zz k4 (k5.zn L1.out) (by decide)).mono ?_
  rintro e w_23 ⟨rfl, hb_23⟩
  replace ha := ha.below hb_23 (Nat.le_refl _)
  replace hb' := hb'.below hb_23 (Nat.le_refl _)
  replace hp := hp.below hb_23 (Nat.le_refl _)
  replace hq := hq.below hb_23 (Nat.le_refl _)
  replace g1 := g1.below hb_23 (Nat.le_refl _)
  replace g2 := g2.below hb_23 (Nat.le_refl _)
  replace g3 := g3.below hb_23 (Nat.le_refl _)
  replace h5 := h5.below hb_23 (Nat.le_refl _)
  replace h6 := h6.below hb_23 (Nat.le_refl _)
  replace h7 := h7.below hb_23 (Nat.le_refl _)
  replace g8 := g8.below hb_23 (Nat.le_refl _)
  replace h8 := h8.below hb_23 (Nat.le_refl _)
  replace g9 := g9.below hb_23 (Nat.le_refl _)
  replace h10 := h10.below hb_23 (Nat.le_refl _)
  replace k4 := k4.below hb_23 (Nat.le_refl _)
  replace k5 := k5.below hb_23 (Nat.le_refl _)
  replace hb := hb.trans (hb_23.mono hb.size)
  clear hb_23
  clear k4
  clear k5
  have f_hq := hq.facts
  go_wp2_with fail
  refine (zsign_any hb' (by decide)).mono ?_
  rintro e w_24 ⟨rfl, hb_24⟩
  replace ha := ha.below hb_24 (Nat.le_refl _)
  replace hb' := hb'.below hb_24 (Nat.le_refl _)
  replace hp := hp.below hb_24 (Nat.le_refl _)
  replace hq := hq.below hb_24 (Nat.le_refl _)
  replace g1 := g1.below hb_24 (Nat.le_refl _)
  replace g2 := g2.below hb_24 (Nat.le_refl _)
  replace g3 := g3.below hb_24 (Nat.le_refl _)
  replace h5 := h5.below hb_24 (Nat.le_refl _)
  replace h6 := h6.below hb_24 (Nat.le_refl _)
  replace h7 := h7.below hb_24 (Nat.le_refl _)
  replace g8 := g8.below hb_24 (Nat.le_refl _)
  replace h8 := h8.below hb_24 (Nat.le_refl _)
  replace g9 := g9.below hb_24 (Nat.le_refl _)
  replace h10 := h10.below hb_24 (Nat.le_refl _)
  replace hb := hb.trans (hb_24.mono hb.size)
  clear hb_24
  rw [HT.out]
  clear f_hq
  go_wp2
  go_ret
  exact ⟨rfl, hb⟩

set_option maxHeartbeats 8000000 in
set_option maxRecDepth 20000 in
theorem bezout_both {w : World} {va vb : Value} {x y : Int} (ha : ZN w va x 1048576) (hb' : ZN w vb y 1048576) (h0 : y ≠ 0) (htab : Lib.TabIs Tryd.prog w p10 .u64 Lib.pow10Tab) :
    Calls Tryd.prog 12 #[va, vb] w fun e w' => e = .returned (.bool true) ∧ Below w.heap.size w w' := by
  have htabs := Lib.tabBelow_of_tabIs htab
  have Lx := hide ha.len
  have Ly := hide hb'.len
  have LG := hide (show (dig ((Int.gcd x y : Int)).natAbs).length ≤ 1048576 from len_le (gcd_le h0) Ly.out)
  have hgp := gcd_pos (x := x) h0
  have ES := hide (show ((Int.gcd x y : Int)).sign = 1 from Int.sign_eq_one_of_pos hgp)
  have e0 : ((0 : Int) == 0) = true := rfl
  have e1 : ((1 : Int) == 0) = false := rfl
  have HG0 := hide (show (Int.gcd x y : Int) ≠ 0 by omega)
  have HP := hide (gcd_parts HG0.out)
  have HG1 := hide HP.out.1
  have LP := hide (fdiv_len HG0.out Lx.out)
  have LQ := hide (fdiv_len HG0.out Ly.out)
  have LQA := hide (show (dig (((y.fdiv (Int.gcd x y)).natAbs : Int)).natAbs).length ≤ 1048576 from LQ.out)
  have E1 := hide (show ((Int.gcd (x.fdiv (Int.gcd x y)) (y.fdiv (Int.gcd x y)) : Nat) : Int) = 1 by rw [HP.out.1]; rfl)
  have L1 := hide (show (dig (1 : Int).natAbs).length ≤ 2 from zlen_i 1 (by decide) (by decide))
  obtain ⟨T, hT⟩ : ∃ T, y.sign = T := ⟨_, rfl⟩
  have hT0 : (T == 0) = false := by rw [beq_eq_false_iff_ne, ← hT]; exact fun h => h0 (Int.sign_eq_zero_iff_zero.1 h)
  have HT := hide hT
  have H0 := hide h0
  have HQ0 := hide (show y.fdiv (Int.gcd x y) ≠ 0 by intro h; have h2 := HP.out.2.2.2.2; rw [h] at h2; omega)
  clear hT h0 hgp
  obtain ⟨na, oa, ca, xs, rfl, hca, _, _, hxl⟩ := ha.open_
  obtain ⟨nb, ob, cb, ys, rfl, hcb, _, _, hyl⟩ := hb'.open_
  go_enter Tryd.func12, Tryd.ntmps12
  have hb := Below.refl w.heap.size w
  have hp := Bk.new w na (.slice oa xs.length ca)
  replace ha := ha.alloc (.cells #[.bool na, (.slice oa xs.length ca)] 24)
  replace hb' := hb'.alloc (.cells #[.bool na, (.slice oa xs.length ca)] 24)
  replace hb := hb.alloc hb.size (.cells #[.bool na, (.slice oa xs.length ca)] 24)
  have hq := Bk.new (w.alloc (.cells #[.bool na, (.slice oa xs.length ca)] 24)) nb (.slice ob ys.length cb)
  simp only [Bk.size_alloc] at hq
  replace ha := ha.alloc (.cells #[.bool nb, (.slice ob ys.length cb)] 24)
  replace hb' := hb'.alloc (.cells #[.bool nb, (.slice ob ys.length cb)] 24)
  replace hp := hp.alloc (.cells #[.bool nb, (.slice ob ys.length cb)] 24)
  replace hb := hb.alloc hb.size (.cells #[.bool nb, (.slice ob ys.length cb)] 24)
  go_wp2_with fail
  refine (zawake_any _ (htabs _ hb)).mono ?_
  rintro e w_1 ⟨rfl, hb_1⟩
  replace ha := ha.below hb_1 (Nat.le_refl _)
  replace hb' := hb'.below hb_1 (Nat.le_refl _)
  replace hp := hp.below hb_1 (Nat.le_refl _)
  replace hq := hq.below hb_1 (Nat.le_refl _)
  replace hb := hb.trans (hb_1.mono hb.size)
  clear hb_1
  have f_hp := hp.facts
  have f_hq := hq.facts
  go_wp2_with fail
  refine (xgcd_any ha hb' (by decide) (by decide) H0.out).mono ?_
  rintro e w_2 ⟨v1, v2, v3, rfl, ⟨c, hxg, g1, g2, g3⟩, hb_2⟩
  replace ha := ha.below hb_2 (Nat.le_refl _)
  replace hb' := hb'.below hb_2 (Nat.le_refl _)
  replace hp := hp.below hb_2 (Nat.le_refl _)
  replace hq := hq.below hb_2 (Nat.le_refl _)
  replace hb := hb.trans (hb_2.mono hb.size)
  clear hb_2
  replace hxg := hide hxg
  replace g1 := g1.rd
  replace g2 := g2.rd
  replace g3 := g3.rd
  have LC := hide (show (dig c.natAbs).length ≤ 1048576 from len_le (hxg.out.le H0.out) Ly.out)
  have LM1 := hide (zlen_mul Lx.out LC.out)
  have LD := hide (show (dig (((Int.gcd x y : Int) - x * c).fdiv y).natAbs).length ≤ 4000000 from Nat.le_trans (fdiv_len H0.out (zlen_sub LG.out LM1.out)) (by omega))
  have LM2 := hide (zlen_mul Ly.out LD.out)
  have EB := hide (bez_exact hxg.out)
  obtain ⟨U, hU⟩ : ∃ U, c.sign = U := ⟨_, rfl⟩
  have HU := hide hU
  have hU0 : 0 ≤ U := by rw [← hU]; exact sign_nn hxg.out.lo
  have hU1 : (U < 0) = False := eq_false (by omega)
  have E2 := hide (show zcmp c ((y.fdiv (Int.gcd x y)).natAbs : Int) = -1 from zcmp_lt (by
    have h := hxg.out.hi
    have h2 : ((y.fdiv (Int.gcd x y)).natAbs : Int) * (Int.gcd x y : Int) = (y.natAbs : Int) := by
      conv => rhs; rw [← HP.out.2.2.2.2, Int.natAbs_mul, Int.natAbs_natCast]
      rw [Int.natCast_mul]
    rw [← h2] at h
    exact Int.lt_of_mul_lt_mul_right h (by omega)))
  clear hU
  clear f_hp f_hq
  have kb_h5 := hb.size
  have ne_hp_h5 : w.heap.size ≠ w_2.heap.size := by have := hp.lt; (try simp only [Bk.size_alloc] at this); omega
  have ne_hq_h5 : w.heap.size + 1 ≠ w_2.heap.size := by have := hq.lt; (try simp only [Bk.size_alloc] at this); omega
  have h5 := Bk.new w_2 false (.slice none 0 0)
  replace ha := ha.alloc (.cells #[.bool false, (.slice none 0 0)] 24)
  replace hb' := hb'.alloc (.cells #[.bool false, (.slice none 0 0)] 24)
  replace hp := hp.alloc (.cells #[.bool false, (.slice none 0 0)] 24)
  replace hq := hq.alloc (.cells #[.bool false, (.slice none 0 0)] 24)
  replace g1 := g1.alloc (.cells #[.bool false, (.slice none 0 0)] 24)
  replace g2 := g2.alloc (.cells #[.bool false, (.slice none 0 0)] 24)
  replace g3 := g3.alloc (.cells #[.bool false, (.slice none 0 0)] 24)
  replace hb := hb.alloc hb.size (.cells #[.bool false, (.slice none 0 0)] 24)
  obtain ⟨w_3, hw_3⟩ : ∃ v, (w_2.alloc (.cells #[.bool false, (.slice none 0 0)] 24)) = v := ⟨_, rfl⟩
  rw [hw_3] at ha hb' hp hq g1 g2 g3 h5 hb
  have kb_h6 := hb.size
  have ne_hp_h6 : w.heap.size ≠ w_3.heap.size := by have := hp.lt; (try simp only [Bk.size_alloc] at this); omega
  have ne_hq_h6 : w.heap.size + 1 ≠ w_3.heap.size := by have := hq.lt; (try simp only [Bk.size_alloc] at this); omega
  have ne_h5_h6 : w_2.heap.size ≠ w_3.heap.size := by have := h5.lt; (try simp only [Bk.size_alloc] at this); omega
  have h6 := Bk.new w_3 false (.slice none 0 0)
  replace ha := ha.alloc (.cells #[.bool false, (.slice none 0 0)] 24)
  replace hb' := hb'.alloc (.cells #[.bool false, (.slice none 0 0)] 24)
  replace hp := hp.alloc (.cells #[.bool false, (.slice none 0 0)] 24)
  replace hq := hq.alloc (.cells #[.bool false, (.slice none 0 0)] 24)
  replace g1 := g1.alloc (.cells #[.bool false, (.slice none 0 0)] 24)
  replace g2 := g2.alloc (.cells #[.bool false, (.slice none 0 0)] 24)
  replace g3 := g3.alloc (.cells #[.bool false, (.slice none 0 0)] 24)
  replace h5 := h5.alloc (.cells #[.bool false, (.slice none 0 0)] 24)
  replace hb := hb.alloc hb.size (.cells #[.bool false, (.slice none 0 0)] 24)
  obtain ⟨w_4, hw_4⟩ : ∃ v, (w_3.alloc (.cells #[.bool false, (.slice none 0 0)] 24)) = v := ⟨_, rfl⟩
  rw [hw_4] at ha hb' hp hq g1 g2 g3 h5 h6 hb
  have kb_h7 := hb.size
  have ne_hp_h7 : w.heap.size ≠ w_4.heap.size := by have := hp.lt; (try simp only [Bk.size_alloc] at this); omega
  have ne_hq_h7 : w.heap.size + 1 ≠ w_4.heap.size := by have := hq.lt; (try simp only [Bk.size_alloc] at this); omega
  have ne_h5_h7 : w_2.heap.size ≠ w_4.heap.size := by have := h5.lt; (try simp only [Bk.size_alloc] at this); omega
  have ne_h6_h7 : w_3.heap.size ≠ w_4.heap.size := by have := h6.lt; (try simp only [Bk.size_alloc] at this); omega
  have h7 := Bk.new w_4 false (.slice none 0 0)
  replace ha := ha.alloc (.cells #[.bool false, (.slice none 0 0)] 24)
  replace hb' := hb'.alloc (.cells #[.bool false, (.slice none 0 0)] 24)
  replace hp := hp.alloc (.cells #[.bool false, (.slice none 0 0)] 24)
  replace hq := hq.alloc (.cells #[.bool false, (.slice none 0 0)] 24)
  replace g1 := g1.alloc (.cells #[.bool false, (.slice none 0 0)] 24)
  replace g2 := g2.alloc (.cells #[.bool false, (.slice none 0 0)] 24)
  replace g3 := g3.alloc (.cells #[.bool false, (.slice none 0 0)] 24)
  replace h5 := h5.alloc (.cells #[.bool false, (.slice none 0 0)] 24)
  replace h6 := h6.alloc (.cells #[.bool false, (.slice none 0 0)] 24)
  replace hb := hb.alloc hb.size (.cells #[.bool false, (.slice none 0 0)] 24)
  obtain ⟨w_5, hw_5⟩ : ∃ v, (w_4.alloc (.cells #[.bool false, (.slice none 0 0)] 24)) = v := ⟨_, rfl⟩
  rw [hw_5] at ha hb' hp hq g1 g2 g3 h5 h6 h7 hb
  obtain ⟨sb_h5, o_h5, n_h5, c_h5, rfl⟩ := g1.open2
  have f_h5 := h5.facts
  have ho := Bk.only w_5 (w_2.heap.size) sb_h5 (.slice o_h5 n_h5 c_h5)
  have hbx_ := h5.bx
  replace ha := ha.frame hbx_ ho
  replace hb' := hb'.frame hbx_ ho
  replace hp := hp.frame ho (by omega)
  replace hq := hq.frame ho (by omega)
  replace g1 := g1.frame hbx_ ho
  replace g2 := g2.frame hbx_ ho
  replace g3 := g3.frame hbx_ ho
  replace h6 := h6.frame ho (by omega)
  replace h7 := h7.frame ho (by omega)
  replace h5 := h5.store sb_h5 (.slice o_h5 n_h5 c_h5)
  replace hb := (hb.setCell (p := ⟨w_2.heap.size, 0, none⟩) (show w.heap.size ≤ w_2.heap.size by omega) (.bool sb_h5)).setCell (p := ⟨w_2.heap.size, 1, none⟩) (show w.heap.size ≤ w_2.heap.size by omega) (.slice o_h5 n_h5 c_h5)
  clear ho hbx_
  obtain ⟨w_6, hw_6⟩ : ∃ v, ((w_5.setCell ⟨w_2.heap.size, 0, none⟩ (.bool sb_h5)).setCell ⟨w_2.heap.size, 1, none⟩ (.slice o_h5 n_h5 c_h5)) = v := ⟨_, rfl⟩
  rw [hw_6] at ha hb' hp hq g1 g2 g3 h5 h6 h7 hb
  obtain ⟨sb_h6, o_h6, n_h6, c_h6, rfl⟩ := g2.open2
  have f_h6 := h6.facts
  have ho := Bk.only w_6 (w_3.heap.size) sb_h6 (.slice o_h6 n_h6 c_h6)
  have hbx_ := h6.bx
  replace ha := ha.frame hbx_ ho
  replace hb' := hb'.frame hbx_ ho
  replace hp := hp.frame ho (by omega)
  replace hq := hq.frame ho (by omega)
  replace g1 := g1.frame hbx_ ho
  replace g2 := g2.frame hbx_ ho
  replace g3 := g3.frame hbx_ ho
  replace h5 := h5.frame ho (by omega)
  replace h7 := h7.frame ho (by omega)
  replace h6 := h6.store sb_h6 (.slice o_h6 n_h6 c_h6)
  replace hb := (hb.setCell (p := ⟨w_3.heap.size, 0, none⟩) (show w.heap.size ≤ w_3.heap.size by omega) (.bool sb_h6)).setCell (p := ⟨w_3.heap.size, 1, none⟩) (show w.heap.size ≤ w_3.heap.size by omega) (.slice o_h6 n_h6 c_h6)
  clear ho hbx_
  obtain ⟨w_7, hw_7⟩ : ∃ v, ((w_6.setCell ⟨w_3.heap.size, 0, none⟩ (.bool sb_h6)).setCell ⟨w_3.heap.size, 1, none⟩ (.slice o_h6 n_h6 c_h6)) = v := ⟨_, rfl⟩
  rw [hw_7] at ha hb' hp hq g1 g2 g3 h5 h6 h7 hb
  obtain ⟨sb_h7, o_h7, n_h7, c_h7, rfl⟩ := g3.open2
  have f_h7 := h7.facts
  have ho := Bk.only w_7 (w_4.heap.size) sb_h7 (.slice o_h7 n_h7 c_h7)
  have hbx_ := h7.bx
  replace ha := ha.frame hbx_ ho
  replace hb' := hb'.frame hbx_ ho
  replace hp := hp.frame ho (by omega)
  replace hq := hq.frame ho (by omega)
  replace g1 := g1.frame hbx_ ho
  replace g2 := g2.frame hbx_ ho
  replace g3 := g3.frame hbx_ ho
  replace h5 := h5.frame ho (by omega)
  replace h6 := h6.frame ho (by omega)
  replace h7 := h7.store sb_h7 (.slice o_h7 n_h7 c_h7)
  replace hb := (hb.setCell (p := ⟨w_4.heap.size, 0, none⟩) (show w.heap.size ≤ w_4.heap.size by omega) (.bool sb_h7)).setCell (p := ⟨w_4.heap.size, 1, none⟩) (show w.heap.size ≤ w_4.heap.size by omega) (.slice o_h7 n_h7 c_h7)
  clear ho hbx_
  obtain ⟨w_8, hw_8⟩ : ∃ v, ((w_7.setCell ⟨w_4.heap.size, 0, none⟩ (.bool sb_h7)).setCell ⟨w_4.heap.size, 1, none⟩ (.slice o_h7 n_h7 c_h7)) = v := ⟨_, rfl⟩
  rw [hw_8] at ha hb' hp hq g1 g2 g3 h5 h6 h7 hb
  replace ha := ha.drew
  replace hb' := hb'.drew
  replace hp := hp.drew
  replace hq := hq.drew
  replace g1 := g1.drew
  replace g2 := g2.drew
  replace g3 := g3.drew
  replace h5 := h5.drew
  replace h6 := h6.drew
  replace h7 := h7.drew
  replace hb := hb.drew
  go_wp2_with fail
  refine wp_region_pl [(0, false), (1, false), (3, false), (4, false), (7, false), (2, true), (5, true), (6, true), (8, true), (9, false), (10, false), (11, false), (12, true), (13, false), (14, false)] (fun w' => w'.cell? ⟨w.heap.size, 0, none⟩ = some (.bool na) ∧ w'.cell? ⟨w.heap.size, 1, none⟩ = some (.slice oa xs.length ca) ∧ w'.cell? ⟨w.heap.size + 1, 0, none⟩ = some (.bool nb) ∧ w'.cell? ⟨w.heap.size + 1, 1, none⟩ = some (.slice ob ys.length cb) ∧ w'.cell? ⟨w_2.heap.size, 0, none⟩ = some (.bool sb_h5) ∧ w'.cell? ⟨w_2.heap.size, 1, none⟩ = some (.slice o_h5 n_h5 c_h5) ∧ w'.cell? ⟨w_3.heap.size, 0, none⟩ = some (.bool sb_h6) ∧ w'.cell? ⟨w_3.heap.size, 1, none⟩ = some (.slice o_h6 n_h6 c_h6) ∧ w'.cell? ⟨w_4.heap.size, 0, none⟩ = some (.bool sb_h7) ∧ w'.cell? ⟨w_4.heap.size, 1, none⟩ = some (.slice o_h7 n_h7 c_h7)) (by kernel_rfl) (by kernel_rfl) (by kernel_rfl) (by kernel_rfl) ⟨hp.facts.1, hp.facts.2.1, hq.facts.1, hq.facts.2.1, h5.facts.1, h5.facts.2.1, h6.facts.1, h6.facts.2.1, h7.facts.1, h7.facts.2.1⟩ ?_
  clear f_h5 f_h6 f_h7
  apply wpPl_ld
  case hi => rfl
  case h1 => intro w' hC K hK; obtain ⟨c0, c1, c2, c3, c4, c5, c6, c7, c8, c9⟩ := hC; (first | go_big_move | go_big_op); exact hK
  case hw => kernel_rfl
  case hv => kernel_rfl
  case hb => kernel_rfl
  case hp => kernel_rfl
  apply wpPl_ld
  case hi => rfl
  case h1 => intro w' hC K hK; obtain ⟨c0, c1, c2, c3, c4, c5, c6, c7, c8, c9⟩ := hC; (first | go_big_move | go_big_op); exact hK
  case hw => kernel_rfl
  case hv => kernel_rfl
  case hb => kernel_rfl
  case hp => kernel_rfl
  apply wpPl_ld
  case hi => rfl
  case h1 => intro w' hC K hK; obtain ⟨c0, c1, c2, c3, c4, c5, c6, c7, c8, c9⟩ := hC; (first | go_big_move | go_big_op); exact hK
  case hw => kernel_rfl
  case hv => kernel_rfl
  case hb => kernel_rfl
  case hp => kernel_rfl
  apply wpPl_ld
  case hi => rfl
  case h1 => intro w' hC K hK; obtain ⟨c0, c1, c2, c3, c4, c5, c6, c7, c8, c9⟩ := hC; (first | go_big_move | go_big_op); exact hK
  case hw => kernel_rfl
  case hv => kernel_rfl
  case hb => kernel_rfl
  case hp => kernel_rfl
  apply wpPl_ld
  case hi => rfl
  case h1 => intro w' hC K hK; obtain ⟨c0, c1, c2, c3, c4, c5, c6, c7, c8, c9⟩ := hC; (first | go_big_move | go_big_op); exact hK
  case hw => kernel_rfl
  case hv => kernel_rfl
  case hb => kernel_rfl
  case hp => kernel_rfl
  apply wpPl_call
  case hi => rfl
  case hw => kernel_rfl
  case h =>
  intro K hK
  have kb_9 := hb.size
  go_big_op
  go_fit (zmul_any ha (g2.zn LC.out) (by decide) (by decide))
  rintro e w_9 ⟨v4, rfl, k1, hb_9⟩
  replace ha := ha.below hb_9 (Nat.le_refl _)
  replace hb' := hb'.below hb_9 (Nat.le_refl _)
  replace hp := hp.below hb_9 (Nat.le_refl _)
  replace hq := hq.below hb_9 (Nat.le_refl _)
  replace g1 := g1.below hb_9 (Nat.le_refl _)
  replace g2 := g2.below hb_9 (Nat.le_refl _)
  replace g3 := g3.below hb_9 (Nat.le_refl _)
  replace h5 := h5.below hb_9 (Nat.le_refl _)
  replace h6 := h6.below hb_9 (Nat.le_refl _)
  replace h7 := h7.below hb_9 (Nat.le_refl _)
  replace hb := hb.trans (hb_9.mono hb.size)
  refine hK _ _ rfl ⟨hp.facts.1, hp.facts.2.1, hq.facts.1, hq.facts.2.1, h5.facts.1, h5.facts.2.1, h6.facts.1, h6.facts.2.1, h7.facts.1, h7.facts.2.1⟩ ?_
  clear hK K hb_9
  replace k1 := k1.rd
  apply wpPl_call
  case hi => rfl
  case hw => kernel_rfl
  case h =>
  intro K hK
  have kb_10 := hb.size
  go_big_op
  go_fit (zmul_any hb' (g3.zn LD.out) (by decide) (by decide))
  rintro e w_10 ⟨v5, rfl, k2, hb_10⟩
  replace ha := ha.below hb_10 (Nat.le_refl _)
  replace hb' := hb'.below hb_10 (Nat.le_refl _)
  replace hp := hp.below hb_10 (Nat.le_refl _)
  replace hq := hq.below hb_10 (Nat.le_refl _)
  replace g1 := g1.below hb_10 (Nat.le_refl _)
  replace g2 := g2.below hb_10 (Nat.le_refl _)
  replace g3 := g3.below hb_10 (Nat.le_refl _)
  replace h5 := h5.below hb_10 (Nat.le_refl _)
  replace h6 := h6.below hb_10 (Nat.le_refl _)
  replace h7 := h7.below hb_10 (Nat.le_refl _)
  replace k1 := k1.below hb_10 (Nat.le_refl _)
  replace hb := hb.trans (hb_10.mono hb.size)
  refine hK _ _ rfl ⟨hp.facts.1, hp.facts.2.1, hq.facts.1, hq.facts.2.1, h5.facts.1, h5.facts.2.1, h6.facts.1, h6.facts.2.1, h7.facts.1, h7.facts.2.1⟩ ?_
  clear hK K hb_10
  replace k2 := k2.rd
  apply wpPl_call
  case hi => rfl
  case hw => kernel_rfl
  case h =>
  intro K hK
  have kb_11 := hb.size
  go_big_op
  go_fit (zadd_any (k1.zn LM1.out) (k2.zn LM2.out) (by decide) (by decide))
  rintro e w_11 ⟨v6, rfl, k3, hb_11⟩
  replace ha := ha.below hb_11 (Nat.le_refl _)
  replace hb' := hb'.below hb_11 (Nat.le_refl _)
  replace hp := hp.below hb_11 (Nat.le_refl _)
  replace hq := hq.below hb_11 (Nat.le_refl _)
  replace g1 := g1.below hb_11 (Nat.le_refl _)
  replace g2 := g2.below hb_11 (Nat.le_refl _)
  replace g3 := g3.below hb_11 (Nat.le_refl _)
  replace h5 := h5.below hb_11 (Nat.le_refl _)
  replace h6 := h6.below hb_11 (Nat.le_refl _)
  replace h7 := h7.below hb_11 (Nat.le_refl _)
  replace k1 := k1.below hb_11 (Nat.le_refl _)
  replace k2 := k2.below hb_11 (Nat.le_refl _)
  replace hb := hb.trans (hb_11.mono hb.size)
  refine hK _ _ rfl ⟨hp.facts.1, hp.facts.2.1, hq.facts.1, hq.facts.2.1, h5.facts.1, h5.facts.2.1, h6.facts.1, h6.facts.2.1, h7.facts.1, h7.facts.2.1⟩ ?_
  clear hK K hb_11
  rw [EB.out] at k3
  replace k3 := k3.rd
  clear k1
  clear k2
  apply wpPl_call
  case hi => rfl
  case hw => kernel_rfl
  case h =>
  intro K hK
  have kb_12 := hb.size
  go_big_op
  go_fit (is_zz k3 (g1.zn LG.out) (by decide))
  rintro e w_12 ⟨rfl, hb_12⟩
  replace ha := ha.below hb_12 (Nat.le_refl _)
  replace hb' := hb'.below hb_12 (Nat.le_refl _)
  replace hp := hp.below hb_12 (Nat.le_refl _)
  replace hq := hq.below hb_12 (Nat.le_refl _)
  replace g1 := g1.below hb_12 (Nat.le_refl _)
  replace g2 := g2.below hb_12 (Nat.le_refl _)
  replace g3 := g3.below hb_12 (Nat.le_refl _)
  replace h5 := h5.below hb_12 (Nat.le_refl _)
  replace h6 := h6.below hb_12 (Nat.le_refl _)
  replace h7 := h7.below hb_12 (Nat.le_refl _)
  replace k3 := k3.below hb_12 (Nat.le_refl _)
  replace hb := hb.trans (hb_12.mono hb.size)
  refine hK _ _ rfl ⟨hp.facts.1, hp.facts.2.1, hq.facts.1, hq.facts.2.1, h5.facts.1, h5.facts.2.1, h6.facts.1, h6.facts.2.1, h7.facts.1, h7.facts.2.1⟩ ?_
  clear hK K hb_12
  clear k3
  apply wpPl_ld
  case hi => rfl
  case h1 => intro w' hC K hK; obtain ⟨c0, c1, c2, c3, c4, c5, c6, c7, c8, c9⟩ := hC; (first | go_big_move | go_big_op); exact hK
  case hw => kernel_rfl
  case hv => kernel_rfl
  case hb => kernel_rfl
  case hp => kernel_rfl
  apply wpPl_ld
  case hi => rfl
  case h1 => intro w' hC K hK; obtain ⟨c0, c1, c2, c3, c4, c5, c6, c7, c8, c9⟩ := hC; (first | go_big_move | go_big_op); exact hK
  case hw => kernel_rfl
  case hv => kernel_rfl
  case hb => kernel_rfl
  case hp => kernel_rfl
  apply wpPl_ld
  case hi => rfl
  case h1 => intro w' hC K hK; obtain ⟨c0, c1, c2, c3, c4, c5, c6, c7, c8, c9⟩ := hC; (first | go_big_move | go_big_op); exact hK
  case hw => kernel_rfl
  case hv => kernel_rfl
  case hb => kernel_rfl
  case hp => kernel_rfl
  apply wpPl_call
  case hi => rfl
  case hw => kernel_rfl
  case h =>
  intro K hK
  have kb_13 := hb.size
  go_big_op
  go_fit (zsign_any (g1.zn LG.out) (by decide))
  rintro e w_13 ⟨rfl, hb_13⟩
  replace ha := ha.below hb_13 (Nat.le_refl _)
  replace hb' := hb'.below hb_13 (Nat.le_refl _)
  replace hp := hp.below hb_13 (Nat.le_refl _)
  replace hq := hq.below hb_13 (Nat.le_refl _)
  replace g1 := g1.below hb_13 (Nat.le_refl _)
  replace g2 := g2.below hb_13 (Nat.le_refl _)
  replace g3 := g3.below hb_13 (Nat.le_refl _)
  replace h5 := h5.below hb_13 (Nat.le_refl _)
  replace h6 := h6.below hb_13 (Nat.le_refl _)
  replace h7 := h7.below hb_13 (Nat.le_refl _)
  replace hb := hb.trans (hb_13.mono hb.size)
  refine hK _ _ rfl ⟨hp.facts.1, hp.facts.2.1, hq.facts.1, hq.facts.2.1, h5.facts.1, h5.facts.2.1, h6.facts.1, h6.facts.2.1, h7.facts.1, h7.facts.2.1⟩ ?_
  clear hK K hb_13
  rw [ES.out]
  apply wpPl_ld
  case hi => rfl
  case h1 => intro w' hC K hK; obtain ⟨c0, c1, c2, c3, c4, c5, c6, c7, c8, c9⟩ := hC; (first | go_big_move | go_big_op); exact hK
  case hw => kernel_rfl
  case hv => kernel_rfl
  case hb => kernel_rfl
  case hp => kernel_rfl
  apply wpPl_ld
  case hi => rfl
  case h1 => intro w' hC K hK; obtain ⟨c0, c1, c2, c3, c4, c5, c6, c7, c8, c9⟩ := hC; (first | go_big_move | go_big_op); exact hK
  case hw => kernel_rfl
  case hv => kernel_rfl
  case hb => kernel_rfl
  case hp => kernel_rfl
  apply wpPl_end
  have f_h5 := h5.facts
  go_wp2_with fail
  refine (zsign_any (g1.zn LG.out) (by decide)).mono ?_
  rintro e w_14 ⟨rfl, hb_14⟩
  replace ha := ha.below hb_14 (Nat.le_refl _)
  replace hb' := hb'.below hb_14 (Nat.le_refl _)
  replace hp := hp.below hb_14 (Nat.le_refl _)
  replace hq := hq.below hb_14 (Nat.le_refl _)
  replace g1 := g1.below hb_14 (Nat.le_refl _)
  replace g2 := g2.below hb_14 (Nat.le_refl _)
  replace g3 := g3.below hb_14 (Nat.le_refl _)
  replace h5 := h5.below hb_14 (Nat.le_refl _)
  replace h6 := h6.below hb_14 (Nat.le_refl _)
  replace h7 := h7.below hb_14 (Nat.le_refl _)
  replace hb := hb.trans (hb_14.mono hb.size)
  clear hb_14
  rw [ES.out]
  clear f_h5
  have f_hp := hp.facts
  have f_h5 := h5.facts
  go_wp2_with fail
  refine (exact_any ha (g1.zn LG.out) (by decide) (by decide) HG0.out HP.out.2.1).mono ?_
  rintro e w_15 ⟨v8, rfl, g8, hb_15⟩
  replace ha := ha.below hb_15 (Nat.le_refl _)
  replace hb' := hb'.below hb_15 (Nat.le_refl _)
  replace hp := hp.below hb_15 (Nat.le_refl _)
  replace hq := hq.below hb_15 (Nat.le_refl _)
  replace g1 := g1.below hb_15 (Nat.le_refl _)
  replace g2 := g2.below hb_15 (Nat.le_refl _)
  replace g3 := g3.below hb_15 (Nat.le_refl _)
  replace h5 := h5.below hb_15 (Nat.le_refl _)
  replace h6 := h6.below hb_15 (Nat.le_refl _)
  replace h7 := h7.below hb_15 (Nat.le_refl _)
  replace hb := hb.trans (hb_15.mono hb.size)
  clear hb_15
  replace g8 := g8.rd
  clear f_hp f_h5
  have kb_h8 := hb.size
  have ne_hp_h8 : w.heap.size ≠ w_15.heap.size := by have := hp.lt; (try simp only [Bk.size_alloc] at this); omega
  have ne_hq_h8 : w.heap.size + 1 ≠ w_15.heap.size := by have := hq.lt; (try simp only [Bk.size_alloc] at this); omega
  have ne_h5_h8 : w_2.heap.size ≠ w_15.heap.size := by have := h5.lt; (try simp only [Bk.size_alloc] at this); omega
  have ne_h6_h8 : w_3.heap.size ≠ w_15.heap.size := by have := h6.lt; (try simp only [Bk.size_alloc] at this); omega
  have ne_h7_h8 : w_4.heap.size ≠ w_15.heap.size := by have := h7.lt; (try simp only [Bk.size_alloc] at this); omega
  have h8 := Bk.new w_15 false (.slice none 0 0)
  replace ha := ha.alloc (.cells #[.bool false, (.slice none 0 0)] 24)
  replace hb' := hb'.alloc (.cells #[.bool false, (.slice none 0 0)] 24)
  replace hp := hp.alloc (.cells #[.bool false, (.slice none 0 0)] 24)
  replace hq := hq.alloc (.cells #[.bool false, (.slice none 0 0)] 24)
  replace g1 := g1.alloc (.cells #[.bool false, (.slice none 0 0)] 24)
  replace g2 := g2.alloc (.cells #[.bool false, (.slice none 0 0)] 24)
  replace g3 := g3.alloc (.cells #[.bool false, (.slice none 0 0)] 24)
  replace h5 := h5.alloc (.cells #[.bool false, (.slice none 0 0)] 24)
  replace h6 := h6.alloc (.cells #[.bool false, (.slice none 0 0)] 24)
  replace h7 := h7.alloc (.cells #[.bool false, (.slice none 0 0)] 24)
  replace g8 := g8.alloc (.cells #[.bool false, (.slice none 0 0)] 24)
  replace hb := hb.alloc hb.size (.cells #[.bool false, (.slice none 0 0)] 24)
  obtain ⟨w_16, hw_16⟩ : ∃ v, (w_15.alloc (.cells #[.bool false, (.slice none 0 0)] 24)) = v := ⟨_, rfl⟩
  rw [hw_16] at ha hb' hp hq g1 g2 g3 h5 h6 h7 g8 h8 hb
  obtain ⟨sb_h8, o_h8, n_h8, c_h8, rfl⟩ := g8.open2
  have f_h8 := h8.facts
  have ho := Bk.only w_16 (w_15.heap.size) sb_h8 (.slice o_h8 n_h8 c_h8)
  have hbx_ := h8.bx
  replace ha := ha.frame hbx_ ho
  replace hb' := hb'.frame hbx_ ho
  replace hp := hp.frame ho (by omega)
  replace hq := hq.frame ho (by omega)
  replace g1 := g1.frame hbx_ ho
  replace g2 := g2.frame hbx_ ho
  replace g3 := g3.frame hbx_ ho
  replace h5 := h5.frame ho (by omega)
  replace h6 := h6.frame ho (by omega)
  replace h7 := h7.frame ho (by omega)
  replace g8 := g8.frame hbx_ ho
  replace h8 := h8.store sb_h8 (.slice o_h8 n_h8 c_h8)
  replace hb := (hb.setCell (p := ⟨w_15.heap.size, 0, none⟩) (show w.heap.size ≤ w_15.heap.size by omega) (.bool sb_h8)).setCell (p := ⟨w_15.heap.size, 1, none⟩) (show w.heap.size ≤ w_15.heap.size by omega) (.slice o_h8 n_h8 c_h8)
  clear ho hbx_
  obtain ⟨w_17, hw_17⟩ : ∃ v, ((w_16.setCell ⟨w_15.heap.size, 0, none⟩ (.bool sb_h8)).setCell ⟨w_15.heap.size, 1, none⟩ (.slice o_h8 n_h8 c_h8)) = v := ⟨_, rfl⟩
  rw [hw_17] at ha hb' hp hq g1 g2 g3 h5 h6 h7 g8 h8 hb
  have f_hq := hq.facts
  have f_h5 := h5.facts
  go_wp2_with fail
  refine (exact_any hb' (g1.zn LG.out) (by decide) (by decide) HG0.out HP.out.2.2.1).mono ?_
  rintro e w_18 ⟨v9, rfl, g9, hb_18⟩
  replace ha := ha.below hb_18 (Nat.le_refl _)
  replace hb' := hb'.below hb_18 (Nat.le_refl _)
  replace hp := hp.below hb_18 (Nat.le_refl _)
  replace hq := hq.below hb_18 (Nat.le_refl _)
  replace g1 := g1.below hb_18 (Nat.le_refl _)
  replace g2 := g2.below hb_18 (Nat.le_refl _)
  replace g3 := g3.below hb_18 (Nat.le_refl _)
  replace h5 := h5.below hb_18 (Nat.le_refl _)
  replace h6 := h6.below hb_18 (Nat.le_refl _)
  replace h7 := h7.below hb_18 (Nat.le_refl _)
  replace g8 := g8.below hb_18 (Nat.le_refl _)
  replace h8 := h8.below hb_18 (Nat.le_refl _)
  replace hb := hb.trans (hb_18.mono hb.size)
  clear hb_18
  replace g9 := g9.rd
  clear f_hq f_h5 f_h8
  have kb_h10 := hb.size
  have ne_hp_h10 : w.heap.size ≠ w_18.heap.size := by have := hp.lt; (try simp only [Bk.size_alloc] at this); omega
  have ne_hq_h10 : w.heap.size + 1 ≠ w_18.heap.size := by have := hq.lt; (try simp only [Bk.size_alloc] at this); omega
  have ne_h5_h10 : w_2.heap.size ≠ w_18.heap.size := by have := h5.lt; (try simp only [Bk.size_alloc] at this); omega
  have ne_h6_h10 : w_3.heap.size ≠ w_18.heap.size := by have := h6.lt; (try simp only [Bk.size_alloc] at this); omega
  have ne_h7_h10 : w_4.heap.size ≠ w_18.heap.size := by have := h7.lt; (try simp only [Bk.size_alloc] at this); omega
  have ne_h8_h10 : w_15.heap.size ≠ w_18.heap.size := by have := h8.lt; (try simp only [Bk.size_alloc] at this); omega
  have h10 := Bk.new w_18 false (.slice none 0 0)
  replace ha := ha.alloc (.cells #[.bool false, (.slice none 0 0)] 24)
  replace hb' := hb'.alloc (.cells #[.bool false, (.slice none 0 0)] 24)
  replace hp := hp.alloc (.cells #[.bool false, (.slice none 0 0)] 24)
  replace hq := hq.alloc (.cells #[.bool false, (.slice none 0 0)] 24)
  replace g1 := g1.alloc (.cells #[.bool false, (.slice none 0 0)] 24)
  replace g2 := g2.alloc (.cells #[.bool false, (.slice none 0 0)] 24)
  replace g3 := g3.alloc (.cells #[.bool false, (.slice none 0 0)] 24)
  replace h5 := h5.alloc (.cells #[.bool false, (.slice none 0 0)] 24)
  replace h6 := h6.alloc (.cells #[.bool false, (.slice none 0 0)] 24)
  replace h7 := h7.alloc (.cells #[.bool false, (.slice none 0 0)] 24)
  replace g8 := g8.alloc (.cells #[.bool false, (.slice none 0 0)] 24)
  replace h8 := h8.alloc (.cells #[.bool false, (.slice none 0 0)] 24)
  replace g9 := g9.alloc (.cells #[.bool false, (.slice none 0 0)] 24)
  replace hb := hb.alloc hb.size (.cells #[.bool false, (.slice none 0 0)] 24)
  obtain ⟨w_19, hw_19⟩ : ∃ v, (w_18.alloc (.cells #[.bool false, (.slice none 0 0)] 24)) = v := ⟨_, rfl⟩
  rw [hw_19] at ha hb' hp hq g1 g2 g3 h5 h6 h7 g8 h8 g9 h10 hb
  obtain ⟨sb_h10, o_h10, n_h10, c_h10, rfl⟩ := g9.open2
  have f_h10 := h10.facts
  have ho := Bk.only w_19 (w_18.heap.size) sb_h10 (.slice o_h10 n_h10 c_h10)
  have hbx_ := h10.bx
  replace ha := ha.frame hbx_ ho
  replace hb' := hb'.frame hbx_ ho
  replace hp := hp.frame ho (by omega)
  replace hq := hq.frame ho (by omega)
  replace g1 := g1.frame hbx_ ho
  replace g2 := g2.frame hbx_ ho
  replace g3 := g3.frame hbx_ ho
  replace h5 := h5.frame ho (by omega)
  replace h6 := h6.frame ho (by omega)
  replace h7 := h7.frame ho (by omega)
  replace g8 := g8.frame hbx_ ho
  replace h8 := h8.frame ho (by omega)
  replace g9 := g9.frame hbx_ ho
  replace h10 := h10.store sb_h10 (.slice o_h10 n_h10 c_h10)
  replace hb := (hb.setCell (p := ⟨w_18.heap.size, 0, none⟩) (show w.heap.size ≤ w_18.heap.size by omega) (.bool sb_h10)).setCell (p := ⟨w_18.heap.size, 1, none⟩) (show w.heap.size ≤ w_18.heap.size by omega) (.slice o_h10 n_h10 c_h10)
  clear ho hbx_
  obtain ⟨w_20, hw_20⟩ : ∃ v, ((w_19.setCell ⟨w_18.heap.size, 0, none⟩ (.bool sb_h10)).setCell ⟨w_18.heap.size, 1, none⟩ (.slice o_h10 n_h10 c_h10)) = v := ⟨_, rfl⟩
  rw [hw_20] at ha hb' hp hq g1 g2 g3 h5 h6 h7 g8 h8 g9 h10 hb
  have f_h8 := h8.facts
  have f_h10 := h10.facts
  go_wp2_with fail
  refine (zgcd_any (g8.zn LP.out) (g9.zn LQ.out) (by decide) (by decide)).mono ?_
  rintro e w_21 ⟨v10, rfl, k4, hb_21⟩
  replace ha := ha.below hb_21 (Nat.le_refl _)
  replace hb' := hb'.below hb_21 (Nat.le_refl _)
  replace hp := hp.below hb_21 (Nat.le_refl _)
  replace hq := hq.below hb_21 (Nat.le_refl _)
  replace g1 := g1.below hb_21 (Nat.le_refl _)
  replace g2 := g2.below hb_21 (Nat.le_refl _)
  replace g3 := g3.below hb_21 (Nat.le_refl _)
  replace h5 := h5.below hb_21 (Nat.le_refl _)
  replace h6 := h6.below hb_21 (Nat.le_refl _)
  replace h7 := h7.below hb_21 (Nat.le_refl _)
  replace g8 := g8.below hb_21 (Nat.le_refl _)
  replace h8 := h8.below hb_21 (Nat.le_refl _)
  replace g9 := g9.below hb_21 (Nat.le_refl _)
  replace h10 := h10.below hb_21 (Nat.le_refl _)
  replace hb := hb.trans (hb_21.mono hb.size)
  clear hb_21
  rw [E1.out] at k4
  replace k4 := k4.rd
  clear f_h8 f_h10
  clear f_h10
  go_wp2_with fail
  refine (i_any 1 _ (by decide) (by decide)).mono ?_
  rintro e w_22 ⟨v11, rfl, k5, hb_22⟩
  replace ha := ha.below hb_22 (Nat.le_refl _)
  replace hb' := hb'.below hb_22 (Nat.le_refl _)
  replace hp := hp.below hb_22 (Nat.le_refl _)
  replace hq := hq.below hb_22 (Nat.le_refl _)
  replace g1 := g1.below hb_22 (Nat.le_refl _)
  replace g2 := g2.below hb_22 (Nat.le_refl _)
  replace g3 := g3.below hb_22 (Nat.le_refl _)
  replace h5 := h5.below hb_22 (Nat.le_refl _)
  replace h6 := h6.below hb_22 (Nat.le_refl _)
  replace h7 := h7.below hb_22 (Nat.le_refl _)
  replace g8 := g8.below hb_22 (Nat.le_refl _)
  replace h8 := h8.below hb_22 (Nat.le_refl _)
  replace g9 := g9.below hb_22 (Nat.le_refl _)
  replace h10 := h10.below hb_22 (Nat.le_refl _)
  replace k4 := k4.below hb_22 (Nat.le_refl _)
  replace hb := hb.trans (hb_22.mono hb.size)
  clear hb_22
  replace k5 := k5.rd
  go_wp2_with fail
  refine (is_zz k4 (k5.zn L1.out) (by decide)).mono ?_
  rintro e w_23 ⟨rfl, hb_23⟩
  replace ha := ha.below hb_23 (Nat.le_refl _)
  replace hb' := hb'.below hb_23 (Nat.le_refl _)
  replace hp := hp.below hb_23 (Nat.le_refl _)
  replace hq := hq.below hb_23 (Nat.le_refl _)
  replace g1 := g1.below hb_23 (Nat.le_refl _)
  replace g2 := g2.below hb_23 (Nat.le_refl _)
  replace g3 := g3.below hb_23 (Nat.le_refl _)
  replace h5 := h5.below hb_23 (Nat.le_refl _)
  replace h6 := h6.below hb_23 (Nat.le_refl _)
  replace h7 := h7.below hb_23 (Nat.le_refl _)
  replace g8 := g8.below hb_23 (Nat.le_refl _)
  replace h8 := h8.below hb_23 (Nat.le_refl _)
  replace g9 := g9.below hb_23 (Nat.le_refl _)
  replace h10 := h10.below hb_23 (Nat.le_refl _)
  replace k4 := k4.below hb_23 (Nat.le_refl _)
  replace k5 := k5.below hb_23 (Nat.le_refl _)
  replace hb := hb.trans (hb_23.mono hb.size)
  clear hb_23
  clear k4
  clear k5
  have f_hq := hq.facts
  go_wp2_with fail
  refine (zsign_any hb' (by decide)).mono ?_
  rintro e w_24 ⟨rfl, hb_24⟩
  replace ha := ha.below hb_24 (Nat.le_refl _)
  replace hb' := hb'.below hb_24 (Nat.le_refl _)
  replace hp := hp.below hb_24 (Nat.le_refl _)
  replace hq := hq.below hb_24 (Nat.le_refl _)
  replace g1 := g1.below hb_24 (Nat.le_refl _)
  replace g2 := g2.below hb_24 (Nat.le_refl _)
  replace g3 := g3.below hb_24 (Nat.le_refl _)
  replace h5 := h5.below hb_24 (Nat.le_refl _)
  replace h6 := h6.below hb_24 (Nat.le_refl _)
  replace h7 := h7.below hb_24 (Nat.le_refl _)
  replace g8 := g8.below hb_24 (Nat.le_refl _)
  replace h8 := h8.below hb_24 (Nat.le_refl _)
  replace g9 := g9.below hb_24 (Nat.le_refl _)
  replace h10 := h10.below hb_24 (Nat.le_refl _)
  replace hb := hb.trans (hb_24.mono hb.size)
  clear hb_24
  rw [HT.out]
  clear f_hq
  replace ha := ha.drew
  replace hb' := hb'.drew
  replace hp := hp.drew
  replace hq := hq.drew
  replace g1 := g1.drew
  replace g2 := g2.drew
  replace g3 := g3.drew
  replace h5 := h5.drew
  replace h6 := h6.drew
  replace h7 := h7.drew
  replace g8 := g8.drew
  replace h8 := h8.drew
  replace g9 := g9.drew
  replace h10 := h10.drew
  replace hb := hb.drew
  go_wp2_with fail
  refine wp_region_pl [(0, false), (1, true), (2, false), (3, false), (4, false), (5, false), (6, true), (7, true), (8, false), (9, false)] (fun w' => w'.cell? ⟨w.heap.size, 0, none⟩ = some (.bool na) ∧ w'.cell? ⟨w.heap.size, 1, none⟩ = some (.slice oa xs.length ca) ∧ w'.cell? ⟨w.heap.size + 1, 0, none⟩ = some (.bool nb) ∧ w'.cell? ⟨w.heap.size + 1, 1, none⟩ = some (.slice ob ys.length cb) ∧ w'.cell? ⟨w_2.heap.size, 0, none⟩ = some (.bool sb_h5) ∧ w'.cell? ⟨w_2.heap.size, 1, none⟩ = some (.slice o_h5 n_h5 c_h5) ∧ w'.cell? ⟨w_3.heap.size, 0, none⟩ = some (.bool sb_h6) ∧ w'.cell? ⟨w_3.heap.size, 1, none⟩ = some (.slice o_h6 n_h6 c_h6) ∧ w'.cell? ⟨w_4.heap.size, 0, none⟩ = some (.bool sb_h7) ∧ w'.cell? ⟨w_4.heap.size, 1, none⟩ = some (.slice o_h7 n_h7 c_h7) ∧ w'.cell? ⟨w_15.heap.size, 0, none⟩ = some (.bool sb_h8) ∧ w'.cell? ⟨w_15.heap.size, 1, none⟩ = some (.slice o_h8 n_h8 c_h8) ∧ w'.cell? ⟨w_18.heap.size, 0, none⟩ = some (.bool sb_h10) ∧ w'.cell? ⟨w_18.heap.size, 1, none⟩ = some (.slice o_h10 n_h10 c_h10)) (by kernel_rfl) (by kernel_rfl) (by kernel_rfl) (by kernel_rfl) ⟨hp.facts.1, hp.facts.2.1, hq.facts.1, hq.facts.2.1, h5.facts.1, h5.facts.2.1, h6.facts.1, h6.facts.2.1, h7.facts.1, h7.facts.2.1, h8.facts.1, h8.facts.2.1, h10.facts.1, h10.facts.2.1⟩ ?_
  apply wpPl_ld
  case hi => rfl
  case h1 => intro w' hC K hK; obtain ⟨c0, c1, c2, c3, c4, c5, c6, c7, c8, c9, c10, c11, c12, c13⟩ := hC; (first | go_big_move | go_big_op); exact hK
  case hw => kernel_rfl
  case hv => kernel_rfl
  case hb => kernel_rfl
  case hp => kernel_rfl
  apply wpPl_call
  case hi => rfl
  case hw => kernel_rfl
  case h =>
  intro K hK
  have kb_25 := hb.size
  go_big_op
  go_fit (zsign_any (g2.zn LC.out) (by decide))
  rintro e w_25 ⟨rfl, hb_25⟩
  replace ha := ha.below hb_25 (Nat.le_refl _)
  replace hb' := hb'.below hb_25 (Nat.le_refl _)
  replace hp := hp.below hb_25 (Nat.le_refl _)
  replace hq := hq.below hb_25 (Nat.le_refl _)
  replace g1 := g1.below hb_25 (Nat.le_refl _)
  replace g2 := g2.below hb_25 (Nat.le_refl _)
  replace g3 := g3.below hb_25 (Nat.le_refl _)
  replace h5 := h5.below hb_25 (Nat.le_refl _)
  replace h6 := h6.below hb_25 (Nat.le_refl _)
  replace h7 := h7.below hb_25 (Nat.le_refl _)
  replace g8 := g8.below hb_25 (Nat.le_refl _)
  replace h8 := h8.below hb_25 (Nat.le_refl _)
  replace g9 := g9.below hb_25 (Nat.le_refl _)
  replace h10 := h10.below hb_25 (Nat.le_refl _)
  replace hb := hb.trans (hb_25.mono hb.size)
  refine hK _ _ rfl ⟨hp.facts.1, hp.facts.2.1, hq.facts.1, hq.facts.2.1, h5.facts.1, h5.facts.2.1, h6.facts.1, h6.facts.2.1, h7.facts.1, h7.facts.2.1, h8.facts.1, h8.facts.2.1, h10.facts.1, h10.facts.2.1⟩ ?_
  clear hK K hb_25
  rw [HU.out]
  apply wpPl_ld
  case hi => rfl
  case h1 => intro w' hC K hK; obtain ⟨c0, c1, c2, c3, c4, c5, c6, c7, c8, c9, c10, c11, c12, c13⟩ := hC; (first | go_big_move | go_big_op); exact hK
  case hw => kernel_rfl
  case hv => kernel_rfl
  case hb => kernel_rfl
  case hp => kernel_rfl
  apply wpPl_ld
  case hi => rfl
  case h1 => intro w' hC K hK; obtain ⟨c0, c1, c2, c3, c4, c5, c6, c7, c8, c9, c10, c11, c12, c13⟩ := hC; (first | go_big_move | go_big_op); exact hK
  case hw => kernel_rfl
  case hv => kernel_rfl
  case hb => kernel_rfl
  case hp => kernel_rfl
  apply wpPl_ld
  case hi => rfl
  case h1 => intro w' hC K hK; obtain ⟨c0, c1, c2, c3, c4, c5, c6, c7, c8, c9, c10, c11, c12, c13⟩ := hC; (first | go_big_move | go_big_op); exact hK
  case hw => kernel_rfl
  case hv => kernel_rfl
  case hb => kernel_rfl
  case hp => kernel_rfl
  apply wpPl_ld
  case hi => rfl
  case h1 => intro w' hC K hK; obtain ⟨c0, c1, c2, c3, c4, c5, c6, c7, c8, c9, c10, c11, c12, c13⟩ := hC; (first | go_big_move | go_big_op); exact hK
  case hw => kernel_rfl
  case hv => kernel_rfl
  case hb => kernel_rfl
  case hp => kernel_rfl
  apply wpPl_call
  case hi => rfl
  case hw => kernel_rfl
  case h =>
  intro K hK
  have kb_26 := hb.size
  go_big_op
  go_fit (zabs_any (g9.zn LQ.out) (by decide))
  rintro e w_26 ⟨v12, rfl, k6, hb_26⟩
  replace ha := ha.below hb_26 (Nat.le_refl _)
  replace hb' := hb'.below hb_26 (Nat.le_refl _)
  replace hp := hp.below hb_26 (Nat.le_refl _)
  replace hq := hq.below hb_26 (Nat.le_refl _)
  replace g1 := g1.below hb_26 (Nat.le_refl _)
  replace g2 := g2.below hb_26 (Nat.le_refl _)
  replace g3 := g3.below hb_26 (Nat.le_refl _)
  replace h5 := h5.below hb_26 (Nat.le_refl _)
  replace h6 := h6.below hb_26 (Nat.le_refl _)
  replace h7 := h7.below hb_26 (Nat.le_refl _)
  replace g8 := g8.below hb_26 (Nat.le_refl _)
  replace h8 := h8.below hb_26 (Nat.le_refl _)
  replace g9 := g9.below hb_26 (Nat.le_refl _)
  replace h10 := h10.below hb_26 (Nat.le_refl _)
  replace hb := hb.trans (hb_26.mono hb.size)
  refine hK _ _ rfl ⟨hp.facts.1, hp.facts.2.1, hq.facts.1, hq.facts.2.1, h5.facts.1, h5.facts.2.1, h6.facts.1, h6.facts.2.1, h7.facts.1, h7.facts.2.1, h8.facts.1, h8.facts.2.1, h10.facts.1, h10.facts.2.1⟩ ?_
  clear hK K hb_26
  replace k6 := k6.rd
  apply wpPl_call
  case hi => rfl
  case hw => kernel_rfl
  case h =>
  intro K hK
  have kb_27 := hb.size
  go_big_op
  go_fit (zcmp_any (g2.zn LC.out) (k6.zn LQA.out) (by decide) (by decide))
  rintro e w_27 ⟨rfl, hb_27⟩
  replace ha := ha.below hb_27 (Nat.le_refl _)
  replace hb' := hb'.below hb_27 (Nat.le_refl _)
  replace hp := hp.below hb_27 (Nat.le_refl _)
  replace hq := hq.below hb_27 (Nat.le_refl _)
  replace g1 := g1.below hb_27 (Nat.le_refl _)
  replace g2 := g2.below hb_27 (Nat.le_refl _)
  replace g3 := g3.below hb_27 (Nat.le_refl _)
  replace h5 := h5.below hb_27 (Nat.le_refl _)
  replace h6 := h6.below hb_27 (Nat.le_refl _)
  replace h7 := h7.below hb_27 (Nat.le_refl _)
  replace g8 := g8.below hb_27 (Nat.le_refl _)
  replace h8 := h8.below hb_27 (Nat.le_refl _)
  replace g9 := g9.below hb_27 (Nat.le_refl _)
  replace h10 := h10.below hb_27 (Nat.le_refl _)
  replace k6 := k6.below hb_27 (Nat.le_refl _)
  replace hb := hb.trans (hb_27.mono hb.size)
  refine hK _ _ rfl ⟨hp.facts.1, hp.facts.2.1, hq.facts.1, hq.facts.2.1, h5.facts.1, h5.facts.2.1, h6.facts.1, h6.facts.2.1, h7.facts.1, h7.facts.2.1, h8.facts.1, h8.facts.2.1, h10.facts.1, h10.facts.2.1⟩ ?_
  clear hK K hb_27
  rw [E2.out]
  clear k6
  apply wpPl_ld
  case hi => rfl
  case h1 => intro w' hC K hK; obtain ⟨c0, c1, c2, c3, c4, c5, c6, c7, c8, c9, c10, c11, c12, c13⟩ := hC; (first | go_big_move | go_big_op); exact hK
  case hw => kernel_rfl
  case hv => kernel_rfl
  case hb => kernel_rfl
  case hp => kernel_rfl
  apply wpPl_ld
  case hi => rfl
  case h1 => intro w' hC K hK; obtain ⟨c0, c1, c2, c3, c4, c5, c6, c7, c8, c9, c10, c11, c12, c13⟩ := hC; (first | go_big_move | go_big_op); exact hK
  case hw => kernel_rfl
  case hv => kernel_rfl
  case hb => kernel_rfl
  case hp => kernel_rfl
  apply wpPl_end
  have f_h8 := h8.facts
  have f_h10 := h10.facts
  go_wp2_with fail
  refine (zinv_any (g8.zn LP.out) (g9.zn LQ.out) (by decide) (by decide) HQ0.out HG1.out).mono ?_
  rintro e w_28 ⟨v13, rfl, ⟨v, hxv, g12⟩, hb_28⟩
  replace ha := ha.below hb_28 (Nat.le_refl _)
  replace hb' := hb'.below hb_28 (Nat.le_refl _)
  replace hp := hp.below hb_28 (Nat.le_refl _)
  replace hq := hq.below hb_28 (Nat.le_refl _)
  replace g1 := g1.below hb_28 (Nat.le_refl _)
  replace g2 := g2.below hb_28 (Nat.le_refl _)
  replace g3 := g3.below hb_28 (Nat.le_refl _)
  replace h5 := h5.below hb_28 (Nat.le_refl _)
  replace h6 := h6.below hb_28 (Nat.le_refl _)
  replace h7 := h7.below hb_28 (Nat.le_refl _)
  replace g8 := g8.below hb_28 (Nat.le_refl _)
  replace h8 := h8.below hb_28 (Nat.le_refl _)
  replace g9 := g9.below hb_28 (Nat.le_refl _)
  replace h10 := h10.below hb_28 (Nat.le_refl _)
  replace hb := hb.trans (hb_28.mono hb.size)
  clear hb_28
  replace hxv := hide hxv
  replace g12 := g12.rd
  clear f_h8 f_h10
  have LV := hide (show (dig v.natAbs).length ≤ 1048576 from len_le (hxv.out.le HQ0.out) LQ.out)
  have LPV := hide (zlen_mul LP.out LV.out)
  have LPS := hide (show (dig ((x.fdiv (Int.gcd x y)) * v - 1).natAbs).length ≤ 4000000 from Nat.le_trans (zlen_sub LPV.out L1.out) (by omega))
  obtain ⟨V, hV⟩ : ∃ V, v.sign = V := ⟨_, rfl⟩
  have HV := hide hV
  have hV0 : 0 ≤ V := by rw [← hV]; exact sign_nn hxv.out.lo
  have hV1 : (V < 0) = False := eq_false (by omega)
  have E3 := hide (show zcmp v ((y.fdiv (Int.gcd x y)).natAbs : Int) = -1 from zcmp_lt (by have h := hxv.out.hi; rw [HG1.out] at h; omega))
  have E4 := hide (show ((x.fdiv (Int.gcd x y)) * v - 1).fmod (y.fdiv (Int.gcd x y)) = 0 from Int.fmod_eq_zero_of_dvd (by
    have h := hxv.out.dv
    rw [HG1.out] at h
    have h2 := Int.dvd_neg.2 h
    rwa [show -(((1 : Nat) : Int) - (x.fdiv (Int.gcd x y)) * v) = (x.fdiv (Int.gcd x y)) * v - 1 by omega] at h2))
  have LZ := hide (show (dig (0 : Int).natAbs).length ≤ 2 from zlen_i 0 (by decide) (by decide))
  clear hV
  have kb_h12 := hb.size
  have ne_hp_h12 : w.heap.size ≠ w_28.heap.size := by have := hp.lt; (try simp only [Bk.size_alloc] at this); omega
  have ne_hq_h12 : w.heap.size + 1 ≠ w_28.heap.size := by have := hq.lt; (try simp only [Bk.size_alloc] at this); omega
  have ne_h5_h12 : w_2.heap.size ≠ w_28.heap.size := by have := h5.lt; (try simp only [Bk.size_alloc] at this); omega
  have ne_h6_h12 : w_3.heap.size ≠ w_28.heap.size := by have := h6.lt; (try simp only [Bk.size_alloc] at this); omega
  have ne_h7_h12 : w_4.heap.size ≠ w_28.heap.size := by have := h7.lt; (try simp only [Bk.size_alloc] at this); omega
  have ne_h8_h12 : w_15.heap.size ≠ w_28.heap.size := by have := h8.lt; (try simp only [Bk.size_alloc] at this); omega
  have ne_h10_h12 : w_18.heap.size ≠ w_28.heap.size := by have := h10.lt; (try simp only [Bk.size_alloc] at this); omega
  have h12 := Bk.new w_28 false (.slice none 0 0)
  replace ha := ha.alloc (.cells #[.bool false, (.slice none 0 0)] 24)
  replace hb' := hb'.alloc (.cells #[.bool false, (.slice none 0 0)] 24)
  replace hp := hp.alloc (.cells #[.bool false, (.slice none 0 0)] 24)
  replace hq := hq.alloc (.cells #[.bool false, (.slice none 0 0)] 24)
  replace g1 := g1.alloc (.cells #[.bool false, (.slice none 0 0)] 24)
  replace g2 := g2.alloc (.cells #[.bool false, (.slice none 0 0)] 24)
  replace g3 := g3.alloc (.cells #[.bool false, (.slice none 0 0)] 24)
  replace h5 := h5.alloc (.cells #[.bool false, (.slice none 0 0)] 24)
  replace h6 := h6.alloc (.cells #[.bool false, (.slice none 0 0)] 24)
  replace h7 := h7.alloc (.cells #[.bool false, (.slice none 0 0)] 24)
  replace g8 := g8.alloc (.cells #[.bool false, (.slice none 0 0)] 24)
  replace h8 := h8.alloc (.cells #[.bool false, (.slice none 0 0)] 24)
  replace g9 := g9.alloc (.cells #[.bool false, (.slice none 0 0)] 24)
  replace h10 := h10.alloc (.cells #[.bool false, (.slice none 0 0)] 24)
  replace g12 := g12.alloc (.cells #[.bool false, (.slice none 0 0)] 24)
  replace hb := hb.alloc hb.size (.cells #[.bool false, (.slice none 0 0)] 24)
  obtain ⟨w_29, hw_29⟩ : ∃ v, (w_28.alloc (.cells #[.bool false, (.slice none 0 0)] 24)) = v := ⟨_, rfl⟩
  rw [hw_29] at ha hb' hp hq g1 g2 g3 h5 h6 h7 g8 h8 g9 h10 g12 h12 hb
  obtain ⟨sb_h12, o_h12, n_h12, c_h12, rfl⟩ := g12.open2
  have f_h12 := h12.facts
  have ho := Bk.only w_29 (w_28.heap.size) sb_h12 (.slice o_h12 n_h12 c_h12)
  have hbx_ := h12.bx
  replace ha := ha.frame hbx_ ho
  replace hb' := hb'.frame hbx_ ho
  replace hp := hp.frame ho (by omega)
  replace hq := hq.frame ho (by omega)
  replace g1 := g1.frame hbx_ ho
  replace g2 := g2.frame hbx_ ho
  replace g3 := g3.frame hbx_ ho
  replace h5 := h5.frame ho (by omega)
  replace h6 := h6.frame ho (by omega)
  replace h7 := h7.frame ho (by omega)
  replace g8 := g8.frame hbx_ ho
  replace h8 := h8.frame ho (by omega)
  replace g9 := g9.frame hbx_ ho
  replace h10 := h10.frame ho (by omega)
  replace g12 := g12.frame hbx_ ho
  replace h12 := h12.store sb_h12 (.slice o_h12 n_h12 c_h12)
  replace hb := (hb.setCell (p := ⟨w_28.heap.size, 0, none⟩) (show w.heap.size ≤ w_28.heap.size by omega) (.bool sb_h12)).setCell (p := ⟨w_28.heap.size, 1, none⟩) (show w.heap.size ≤ w_28.heap.size by omega) (.slice o_h12 n_h12 c_h12)
  clear ho hbx_
  obtain ⟨w_30, hw_30⟩ : ∃ v, ((w_29.setCell ⟨w_28.heap.size, 0, none⟩ (.bool sb_h12)).setCell ⟨w_28.heap.size, 1, none⟩ (.slice o_h12 n_h12 c_h12)) = v := ⟨_, rfl⟩
  rw [hw_30] at ha hb' hp hq g1 g2 g3 h5 h6 h7 g8 h8 g9 h10 g12 h12 hb
  replace ha := ha.drew
  replace hb' := hb'.drew
  replace hp := hp.drew
  replace hq := hq.drew
  replace g1 := g1.drew
  replace g2 := g2.drew
  replace g3 := g3.drew
  replace h5 := h5.drew
  replace h6 := h6.drew
  replace h7 := h7.drew
  replace g8 := g8.drew
  replace h8 := h8.drew
  replace g9 := g9.drew
  replace h10 := h10.drew
  replace g12 := g12.drew
  replace h12 := h12.drew
  replace hb := hb.drew
  go_wp2_with fail
  refine wp_region_pl [(0, false), (1, false), (2, false), (3, false), (4, true), (5, false), (6, false), (7, false), (8, false), (9, false), (10, true), (11, true), (12, false), (13, false)] (fun w' => w'.cell? ⟨w.heap.size, 0, none⟩ = some (.bool na) ∧ w'.cell? ⟨w.heap.size, 1, none⟩ = some (.slice oa xs.length ca) ∧ w'.cell? ⟨w.heap.size + 1, 0, none⟩ = some (.bool nb) ∧ w'.cell? ⟨w.heap.size + 1, 1, none⟩ = some (.slice ob ys.length cb) ∧ w'.cell? ⟨w_2.heap.size, 0, none⟩ = some (.bool sb_h5) ∧ w'.cell? ⟨w_2.heap.size, 1, none⟩ = some (.slice o_h5 n_h5 c_h5) ∧ w'.cell? ⟨w_3.heap.size, 0, none⟩ = some (.bool sb_h6) ∧ w'.cell? ⟨w_3.heap.size, 1, none⟩ = some (.slice o_h6 n_h6 c_h6) ∧ w'.cell? ⟨w_4.heap.size, 0, none⟩ = some (.bool sb_h7) ∧ w'.cell? ⟨w_4.heap.size, 1, none⟩ = some (.slice o_h7 n_h7 c_h7) ∧ w'.cell? ⟨w_15.heap.size, 0, none⟩ = some (.bool sb_h8) ∧ w'.cell? ⟨w_15.heap.size, 1, none⟩ = some (.slice o_h8 n_h8 c_h8) ∧ w'.cell? ⟨w_18.heap.size, 0, none⟩ = some (.bool sb_h10) ∧ w'.cell? ⟨w_18.heap.size, 1, none⟩ = some (.slice o_h10 n_h10 c_h10) ∧ w'.cell? ⟨w_28.heap.size, 0, none⟩ = some (.bool sb_h12) ∧ w'.cell? ⟨w_28.heap.size, 1, none⟩ = some (.slice o_h12 n_h12 c_h12)) (by kernel_rfl) (by kernel_rfl) (by kernel_rfl) (by kernel_rfl) ⟨hp.facts.1, hp.facts.2.1, hq.facts.1, hq.facts.2.1, h5.facts.1, h5.facts.2.1, h6.facts.1, h6.facts.2.1, h7.facts.1, h7.facts.2.1, h8.facts.1, h8.facts.2.1, h10.facts.1, h10.facts.2.1, h12.facts.1, h12.facts.2.1⟩ ?_
  clear f_h12
  apply wpPl_ld
  case hi => rfl
  case h1 => intro w' hC K hK; obtain ⟨c0, c1, c2, c3, c4, c5, c6, c7, c8, c9, c10, c11, c12, c13, c14, c15⟩ := hC; (first | go_big_move | go_big_op); exact hK
  case hw => kernel_rfl
  case hv => kernel_rfl
  case hb => kernel_rfl
  case hp => kernel_rfl
  apply wpPl_ld
  case hi => rfl
  case h1 => intro w' hC K hK; obtain ⟨c0, c1, c2, c3, c4, c5, c6, c7, c8, c9, c10, c11, c12, c13, c14, c15⟩ := hC; (first | go_big_move | go_big_op); exact hK
  case hw => kernel_rfl
  case hv => kernel_rfl
  case hb => kernel_rfl
  case hp => kernel_rfl
  apply wpPl_ld
  case hi => rfl
  case h1 => intro w' hC K hK; obtain ⟨c0, c1, c2, c3, c4, c5, c6, c7, c8, c9, c10, c11, c12, c13, c14, c15⟩ := hC; (first | go_big_move | go_big_op); exact hK
  case hw => kernel_rfl
  case hv => kernel_rfl
  case hb => kernel_rfl
  case hp => kernel_rfl
  apply wpPl_ld
  case hi => rfl
  case h1 => intro w' hC K hK; obtain ⟨c0, c1, c2, c3, c4, c5, c6, c7, c8, c9, c10, c11, c12, c13, c14, c15⟩ := hC; (first | go_big_move | go_big_op); exact hK
  case hw => kernel_rfl
  case hv => kernel_rfl
  case hb => kernel_rfl
  case hp => kernel_rfl
  apply wpPl_call
  case hi => rfl
  case hw => kernel_rfl
  case h =>
  intro K hK
  have kb_31 := hb.size
  go_big_op
  go_fit (zsign_any (g12.zn LV.out) (by decide))
  rintro e w_31 ⟨rfl, hb_31⟩
  replace ha := ha.below hb_31 (Nat.le_refl _)
  replace hb' := hb'.below hb_31 (Nat.le_refl _)
  replace hp := hp.below hb_31 (Nat.le_refl _)
  replace hq := hq.below hb_31 (Nat.le_refl _)
  replace g1 := g1.below hb_31 (Nat.le_refl _)
  replace g2 := g2.below hb_31 (Nat.le_refl _)
  replace g3 := g3.below hb_31 (Nat.le_refl _)
  replace h5 := h5.below hb_31 (Nat.le_refl _)
  replace h6 := h6.below hb_31 (Nat.le_refl _)
  replace h7 := h7.below hb_31 (Nat.le_refl _)
  replace g8 := g8.below hb_31 (Nat.le_refl _)
  replace h8 := h8.below hb_31 (Nat.le_refl _)
  replace g9 := g9.below hb_31 (Nat.le_refl _)
  replace h10 := h10.below hb_31 (Nat.le_refl _)
  replace g12 := g12.below hb_31 (Nat.le_refl _)
  replace h12 := h12.below hb_31 (Nat.le_refl _)
  replace hb := hb.trans (hb_31.mono hb.size)
  refine hK _ _ rfl ⟨hp.facts.1, hp.facts.2.1, hq.facts.1, hq.facts.2.1, h5.facts.1, h5.facts.2.1, h6.facts.1, h6.facts.2.1, h7.facts.1, h7.facts.2.1, h8.facts.1, h8.facts.2.1, h10.facts.1, h10.facts.2.1, h12.facts.1, h12.facts.2.1⟩ ?_
  clear hK K hb_31
  rw [HV.out]
  apply wpPl_ld
  case hi => rfl
  case h1 => intro w' hC K hK; obtain ⟨c0, c1, c2, c3, c4, c5, c6, c7, c8, c9, c10, c11, c12, c13, c14, c15⟩ := hC; (first | go_big_move | go_big_op); exact hK
  case hw => kernel_rfl
  case hv => kernel_rfl
  case hb => kernel_rfl
  case hp => kernel_rfl
  apply wpPl_ld
  case hi => rfl
  case h1 => intro w' hC K hK; obtain ⟨c0, c1, c2, c3, c4, c5, c6, c7, c8, c9, c10, c11, c12, c13, c14, c15⟩ := hC; (first | go_big_move | go_big_op); exact hK
  case hw => kernel_rfl
  case hv => kernel_rfl
  case hb => kernel_rfl
  case hp => kernel_rfl
  apply wpPl_ld
  case hi => rfl
  case h1 => intro w' hC K hK; obtain ⟨c0, c1, c2, c3, c4, c5, c6, c7, c8, c9, c10, c11, c12, c13, c14, c15⟩ := hC; (first | go_big_move | go_big_op); exact hK
  case hw => kernel_rfl
  case hv => kernel_rfl
  case hb => kernel_rfl
  case hp => kernel_rfl
  apply wpPl_ld
  case hi => rfl
  case h1 => intro w' hC K hK; obtain ⟨c0, c1, c2, c3, c4, c5, c6, c7, c8, c9, c10, c11, c12, c13, c14, c15⟩ := hC; (first | go_big_move | go_big_op); exact hK
  case hw => kernel_rfl
  case hv => kernel_rfl
  case hb => kernel_rfl
  case hp => kernel_rfl
  apply wpPl_ld
  case hi => rfl
  case h1 => intro w' hC K hK; obtain ⟨c0, c1, c2, c3, c4, c5, c6, c7, c8, c9, c10, c11, c12, c13, c14, c15⟩ := hC; (first | go_big_move | go_big_op); exact hK
  case hw => kernel_rfl
  case hv => kernel_rfl
  case hb => kernel_rfl
  case hp => kernel_rfl
  apply wpPl_call
  case hi => rfl
  case hw => kernel_rfl
  case h =>
  intro K hK
  have kb_32 := hb.size
  go_big_op
  go_fit (zabs_any (g9.zn LQ.out) (by decide))
  rintro e w_32 ⟨v14, rfl, k7, hb_32⟩
  replace ha := ha.below hb_32 (Nat.le_refl _)
  replace hb' := hb'.below hb_32 (Nat.le_refl _)
  replace hp := hp.below hb_32 (Nat.le_refl _)
  replace hq := hq.below hb_32 (Nat.le_refl _)
  replace g1 := g1.below hb_32 (Nat.le_refl _)
  replace g2 := g2.below hb_32 (Nat.le_refl _)
  replace g3 := g3.below hb_32 (Nat.le_refl _)
  replace h5 := h5.below hb_32 (Nat.le_refl _)
  replace h6 := h6.below hb_32 (Nat.le_refl _)
  replace h7 := h7.below hb_32 (Nat.le_refl _)
  replace g8 := g8.below hb_32 (Nat.le_refl _)
  replace h8 := h8.below hb_32 (Nat.le_refl _)
  replace g9 := g9.below hb_32 (Nat.le_refl _)
  replace h10 := h10.below hb_32 (Nat.le_refl _)
  replace g12 := g12.below hb_32 (Nat.le_refl _)
  replace h12 := h12.below hb_32 (Nat.le_refl _)
  replace hb := hb.trans (hb_32.mono hb.size)
  refine hK _ _ rfl ⟨hp.facts.1, hp.facts.2.1, hq.facts.1, hq.facts.2.1, h5.facts.1, h5.facts.2.1, h6.facts.1, h6.facts.2.1, h7.facts.1, h7.facts.2.1, h8.facts.1, h8.facts.2.1, h10.facts.1, h10.facts.2.1, h12.facts.1, h12.facts.2.1⟩ ?_
  clear hK K hb_32
  replace k7 := k7.rd
  apply wpPl_call
  case hi => rfl
  case hw => kernel_rfl
  case h =>
  intro K hK
  have kb_33 := hb.size
  go_big_op
  go_fit (zcmp_any (g12.zn LV.out) (k7.zn LQA.out) (by decide) (by decide))
  rintro e w_33 ⟨rfl, hb_33⟩
  replace ha := ha.below hb_33 (Nat.le_refl _)
  replace hb' := hb'.below hb_33 (Nat.le_refl _)
  replace hp := hp.below hb_33 (Nat.le_refl _)
  replace hq := hq.below hb_33 (Nat.le_refl _)
  replace g1 := g1.below hb_33 (Nat.le_refl _)
  replace g2 := g2.below hb_33 (Nat.le_refl _)
  replace g3 := g3.below hb_33 (Nat.le_refl _)
  replace h5 := h5.below hb_33 (Nat.le_refl _)
  replace h6 := h6.below hb_33 (Nat.le_refl _)
  replace h7 := h7.below hb_33 (Nat.le_refl _)
  replace g8 := g8.below hb_33 (Nat.le_refl _)
  replace h8 := h8.below hb_33 (Nat.le_refl _)
  replace g9 := g9.below hb_33 (Nat.le_refl _)
  replace h10 := h10.below hb_33 (Nat.le_refl _)
  replace g12 := g12.below hb_33 (Nat.le_refl _)
  replace h12 := h12.below hb_33 (Nat.le_refl _)
  replace k7 := k7.below hb_33 (Nat.le_refl _)
  replace hb := hb.trans (hb_33.mono hb.size)
  refine hK _ _ rfl ⟨hp.facts.1, hp.facts.2.1, hq.facts.1, hq.facts.2.1, h5.facts.1, h5.facts.2.1, h6.facts.1, h6.facts.2.1, h7.facts.1, h7.facts.2.1, h8.facts.1, h8.facts.2.1, h10.facts.1, h10.facts.2.1, h12.facts.1, h12.facts.2.1⟩ ?_
  clear hK K hb_33
  rw [E3.out]
  clear k7
  apply wpPl_ld
  case hi => rfl
  case h1 => intro w' hC K hK; obtain ⟨c0, c1, c2, c3, c4, c5, c6, c7, c8, c9, c10, c11, c12, c13, c14, c15⟩ := hC; (first | go_big_move | go_big_op); exact hK
  case hw => kernel_rfl
  case hv => kernel_rfl
  case hb => kernel_rfl
  case hp => kernel_rfl
  apply wpPl_ld
  case hi => rfl
  case h1 => intro w' hC K hK; obtain ⟨c0, c1, c2, c3, c4, c5, c6, c7, c8, c9, c10, c11, c12, c13, c14, c15⟩ := hC; (first | go_big_move | go_big_op); exact hK
  case hw => kernel_rfl
  case hv => kernel_rfl
  case hb => kernel_rfl
  case hp => kernel_rfl
  apply wpPl_end
  replace ha := ha.drew
  replace hb' := hb'.drew
  replace hp := hp.drew
  replace hq := hq.drew
  replace g1 := g1.drew
  replace g2 := g2.drew
  replace g3 := g3.drew
  replace h5 := h5.drew
  replace h6 := h6.drew
  replace h7 := h7.drew
  replace g8 := g8.drew
  replace h8 := h8.drew
  replace g9 := g9.drew
  replace h10 := h10.drew
  replace g12 := g12.drew
  replace h12 := h12.drew
  replace hb := hb.drew
  have lt_hp := hp.lt
  have lt_hq := hq.lt
  have lt_h5 := h5.lt
  have lt_h6 := h6.lt
  have lt_h7 := h7.lt
  have lt_h8 := h8.lt
  have lt_h10 := h10.lt
  have lt_h12 := h12.lt
  have kb0 := hb.size
  go_wp2_with fail
  refine wp_region_fl [(0, false), (1, false), (5, false), (2, true), (3, true), (4, true), (6, true), (7, false), (8, false), (9, false), (10, false)] [13, 14, 15] [11, 12] (fun _ => obZ) [0, 2, 99, 99, 99, 1, 99, 99, 99, 99, 99, 99, 99, 99, 99, 99] [] (fun w' => w'.cell? ⟨w_15.heap.size, 0, none⟩ = some (.bool sb_h8) ∧ w'.cell? ⟨w_15.heap.size, 1, none⟩ = some (.slice o_h8 n_h8 c_h8) ∧ w'.cell? ⟨w_18.heap.size, 0, none⟩ = some (.bool sb_h10) ∧ w'.cell? ⟨w_18.heap.size, 1, none⟩ = some (.slice o_h10 n_h10 c_h10) ∧ w'.cell? ⟨w_28.heap.size, 0, none⟩ = some (.bool sb_h12) ∧ w'.cell? ⟨w_28.heap.size, 1, none⟩ = some (.slice o_h12 n_h12 c_h12)) [fun w' => w'.cell? ⟨w_15.heap.size, 0, none⟩ = some (.bool sb_h8) ∧ w'.cell? ⟨w_15.heap.size, 1, none⟩ = some (.slice o_h8 n_h8 c_h8), fun w' => w'.cell? ⟨w_18.heap.size, 0, none⟩ = some (.bool sb_h10) ∧ w'.cell? ⟨w_18.heap.size, 1, none⟩ = some (.slice o_h10 n_h10 c_h10), fun w' => w'.cell? ⟨w_28.heap.size, 0, none⟩ = some (.bool sb_h12) ∧ w'.cell? ⟨w_28.heap.size, 1, none⟩ = some (.slice o_h12 n_h12 c_h12)] (by kernel_rfl) (by kernel_rfl) (by kernel_rfl) (by kernel_rfl) (by kernel_rfl) (by kernel_rfl) (by kernel_rfl) (by kernel_rfl) (by decide) (by intro j hj; simp only [List.mem_cons, List.not_mem_nil, or_false] at hj; rcases hj with rfl | rfl; all_goals exact ⟨_, rfl, rfl, fun ρ w => run_alloc_z w⟩) (by intro w' o hC; obtain ⟨c0, c1, c2, c3, c4, c5⟩ := hC; exact ⟨cell_alloc c0 o, cell_alloc c1 o, cell_alloc c2 o, cell_alloc c3 o, cell_alloc c4 o, cell_alloc c5 o⟩) (by intro w' hC G hG; obtain ⟨c0, c1, c2, c3, c4, c5⟩ := hC; simp only [List.mem_cons, List.not_mem_nil, or_false] at hG; rcases hG with rfl | rfl | rfl <;> first | exact ⟨c0, c1⟩ | exact ⟨c2, c3⟩ | exact ⟨c4, c5⟩) ⟨h8.facts.1, h8.facts.2.1, h10.facts.1, h10.facts.2.1, h12.facts.1, h12.facts.2.1⟩ ?_
  apply wpFl_ld
  case hG => rfl
  case hi => rfl
  case h1 => intro w' hC K hK; obtain ⟨c0, c1⟩ := hC; (first | go_big_move | go_big_op); exact hK
  case hw => kernel_rfl
  case hv => kernel_rfl
  case hb => kernel_rfl
  case hp => kernel_rfl
  apply wpFl_ld
  case hG => rfl
  case hi => rfl
  case h1 => intro w' hC K hK; obtain ⟨c0, c1⟩ := hC; (first | go_big_move | go_big_op); exact hK
  case hw => kernel_rfl
  case hv => kernel_rfl
  case hb => kernel_rfl
  case hp => kernel_rfl
  apply wpFl_ld
  case hG => rfl
  case hi => rfl
  case h1 => intro w' hC K hK; obtain ⟨c0, c1⟩ := hC; (first | go_big_move | go_big_op); exact hK
  case hw => kernel_rfl
  case hv => kernel_rfl
  case hb => kernel_rfl
  case hp => kernel_rfl
  apply wpFl_call
  case hi => rfl
  case hw => kernel_rfl
  case h =>
  intro w_34 hn hC
  clear hC
  replace ha := ha.below hn (Nat.le_refl _)
  replace hb' := hb'.below hn (Nat.le_refl _)
  replace hp := hp.below hn (Nat.le_refl _)
  replace hq := hq.below hn (Nat.le_refl _)
  replace g1 := g1.below hn (Nat.le_refl _)
  replace g2 := g2.below hn (Nat.le_refl _)
  replace g3 := g3.below hn (Nat.le_refl _)
  replace h5 := h5.below hn (Nat.le_refl _)
  replace h6 := h6.below hn (Nat.le_refl _)
  replace h7 := h7.below hn (Nat.le_refl _)
  replace g8 := g8.below hn (Nat.le_refl _)
  replace h8 := h8.below hn (Nat.le_refl _)
  replace g9 := g9.below hn (Nat.le_refl _)
  replace h10 := h10.below hn (Nat.le_refl _)
  replace g12 := g12.below hn (Nat.le_refl _)
  replace h12 := h12.below hn (Nat.le_refl _)
  replace hb := hb.trans (hn.mono hb.size)
  clear hn
  intro K hK
  have kb_35 := hb.size
  go_big_op
  go_fit (zmul_any (g8.zn LP.out) (g12.zn LV.out) (by decide) (by decide))
  rintro e w_35 ⟨v15, rfl, k8, hb_35⟩
  replace ha := ha.below hb_35 (Nat.le_refl _)
  replace hb' := hb'.below hb_35 (Nat.le_refl _)
  replace hp := hp.below hb_35 (Nat.le_refl _)
  replace hq := hq.below hb_35 (Nat.le_refl _)
  replace g1 := g1.below hb_35 (Nat.le_refl _)
  replace g2 := g2.below hb_35 (Nat.le_refl _)
  replace g3 := g3.below hb_35 (Nat.le_refl _)
  replace h5 := h5.below hb_35 (Nat.le_refl _)
  replace h6 := h6.below hb_35 (Nat.le_refl _)
  replace h7 := h7.below hb_35 (Nat.le_refl _)
  replace g8 := g8.below hb_35 (Nat.le_refl _)
  replace h8 := h8.below hb_35 (Nat.le_refl _)
  replace g9 := g9.below hb_35 (Nat.le_refl _)
  replace h10 := h10.below hb_35 (Nat.le_refl _)
  replace g12 := g12.below hb_35 (Nat.le_refl _)
  replace h12 := h12.below hb_35 (Nat.le_refl _)
  replace hb := hb.trans (hb_35.mono hb.size)
  refine hK _ _ rfl hb_35 ⟨h8.facts.1, h8.facts.2.1, h10.facts.1, h10.facts.2.1, h12.facts.1, h12.facts.2.1⟩ ?_
  clear hK K hb_35
  replace k8 := k8.rd
  apply wpFl_call
  case hi => rfl
  case hw => kernel_rfl
  case h =>
  intro w_36 hn hC
  clear hC
  replace ha := ha.below hn (Nat.le_refl _)
  replace hb' := hb'.below hn (Nat.le_refl _)
  replace hp := hp.below hn (Nat.le_refl _)
  replace hq := hq.below hn (Nat.le_refl _)
  replace g1 := g1.below hn (Nat.le_refl _)
  replace g2 := g2.below hn (Nat.le_refl _)
  replace g3 := g3.below hn (Nat.le_refl _)
  replace h5 := h5.below hn (Nat.le_refl _)
  replace h6 := h6.below hn (Nat.le_refl _)
  replace h7 := h7.below hn (Nat.le_refl _)
  replace g8 := g8.below hn (Nat.le_refl _)
  replace h8 := h8.below hn (Nat.le_refl _)
  replace g9 := g9.below hn (Nat.le_refl _)
  replace h10 := h10.below hn (Nat.le_refl _)
  replace g12 := g12.below hn (Nat.le_refl _)
  replace h12 := h12.below hn (Nat.le_refl _)
  replace k8 := k8.below hn (Nat.le_refl _)
  replace hb := hb.trans (hn.mono hb.size)
  clear hn
  intro K hK
  have kb_37 := hb.size
  go_big_op
  go_fit (i_any 1 _ (by decide) (by decide))
  rintro e w_37 ⟨v16, rfl, k9, hb_37⟩
  replace ha := ha.below hb_37 (Nat.le_refl _)
  replace hb' := hb'.below hb_37 (Nat.le_refl _)
  replace hp := hp.below hb_37 (Nat.le_refl _)
  replace hq := hq.below hb_37 (Nat.le_refl _)
  replace g1 := g1.below hb_37 (Nat.le_refl _)
  replace g2 := g2.below hb_37 (Nat.le_refl _)
  replace g3 := g3.below hb_37 (Nat.le_refl _)
  replace h5 := h5.below hb_37 (Nat.le_refl _)
  replace h6 := h6.below hb_37 (Nat.le_refl _)
  replace h7 := h7.below hb_37 (Nat.le_refl _)
  replace g8 := g8.below hb_37 (Nat.le_refl _)
  replace h8 := h8.below hb_37 (Nat.le_refl _)
  replace g9 := g9.below hb_37 (Nat.le_refl _)
  replace h10 := h10.below hb_37 (Nat.le_refl _)
  replace g12 := g12.below hb_37 (Nat.le_refl _)
  replace h12 := h12.below hb_37 (Nat.le_refl _)
  replace k8 := k8.below hb_37 (Nat.le_refl _)
  replace hb := hb.trans (hb_37.mono hb.size)
  refine hK _ _ rfl hb_37 ⟨h8.facts.1, h8.facts.2.1, h10.facts.1, h10.facts.2.1, h12.facts.1, h12.facts.2.1⟩ ?_
  clear hK K hb_37
  replace k9 := k9.rd
  apply wpFl_call
  case hi => rfl
  case hw => kernel_rfl
  case h =>
  intro w_38 hn hC
  clear hC
  replace ha := ha.below hn (Nat.le_refl _)
  replace hb' := hb'.below hn (Nat.le_refl _)
  replace hp := hp.below hn (Nat.le_refl _)
  replace hq := hq.below hn (Nat.le_refl _)
  replace g1 := g1.below hn (Nat.le_refl _)
  replace g2 := g2.below hn (Nat.le_refl _)
  replace g3 := g3.below hn (Nat.le_refl _)
  replace h5 := h5.below hn (Nat.le_refl _)
  replace h6 := h6.below hn (Nat.le_refl _)
  replace h7 := h7.below hn (Nat.le_refl _)
  replace g8 := g8.below hn (Nat.le_refl _)
  replace h8 := h8.below hn (Nat.le_refl _)
  replace g9 := g9.below hn (Nat.le_refl _)
  replace h10 := h10.below hn (Nat.le_refl _)
  replace g12 := g12.below hn (Nat.le_refl _)
  replace h12 := h12.below hn (Nat.le_refl _)
  replace k8 := k8.below hn (Nat.le_refl _)
  replace k9 := k9.below hn (Nat.le_refl _)
  replace hb := hb.trans (hn.mono hb.size)
  clear hn
  intro K hK
  have kb_39 := hb.size
  go_big_op
  go_fit (zsub_any (k8.zn LPV.out) (k9.zn L1.out) (by decide) (by decide))
  rintro e w_39 ⟨v17, rfl, k10, hb_39⟩
  replace ha := ha.below hb_39 (Nat.le_refl _)
  replace hb' := hb'.below hb_39 (Nat.le_refl _)
  replace hp := hp.below hb_39 (Nat.le_refl _)
  replace hq := hq.below hb_39 (Nat.le_refl _)
  replace g1 := g1.below hb_39 (Nat.le_refl _)
  replace g2 := g2.below hb_39 (Nat.le_refl _)
  replace g3 := g3.below hb_39 (Nat.le_refl _)
  replace h5 := h5.below hb_39 (Nat.le_refl _)
  replace h6 := h6.below hb_39 (Nat.le_refl _)
  replace h7 := h7.below hb_39 (Nat.le_refl _)
  replace g8 := g8.below hb_39 (Nat.le_refl _)
  replace h8 := h8.below hb_39 (Nat.le_refl _)
  replace g9 := g9.below hb_39 (Nat.le_refl _)
  replace h10 := h10.below hb_39 (Nat.le_refl _)
  replace g12 := g12.below hb_39 (Nat.le_refl _)
  replace h12 := h12.below hb_39 (Nat.le_refl _)
  replace k8 := k8.below hb_39 (Nat.le_refl _)
  replace k9 := k9.below hb_39 (Nat.le_refl _)
  replace hb := hb.trans (hb_39.mono hb.size)
  refine hK _ _ rfl hb_39 ⟨h8.facts.1, h8.facts.2.1, h10.facts.1, h10.facts.2.1, h12.facts.1, h12.facts.2.1⟩ ?_
  clear hK K hb_39
  replace k10 := k10.rd
  clear k8
  clear k9
  apply wpFl_call
  case hi => rfl
  case hw => kernel_rfl
  case h =>
  intro w_40 hn hC
  clear hC
  replace ha := ha.below hn (Nat.le_refl _)
  replace hb' := hb'.below hn (Nat.le_refl _)
  replace hp := hp.below hn (Nat.le_refl _)
  replace hq := hq.below hn (Nat.le_refl _)
  replace g1 := g1.below hn (Nat.le_refl _)
  replace g2 := g2.below hn (Nat.le_refl _)
  replace g3 := g3.below hn (Nat.le_refl _)
  replace h5 := h5.below hn (Nat.le_refl _)
  replace h6 := h6.below hn (Nat.le_refl _)
  replace h7 := h7.below hn (Nat.le_refl _)
  replace g8 := g8.below hn (Nat.le_refl _)
  replace h8 := h8.below hn (Nat.le_refl _)
  replace g9 := g9.below hn (Nat.le_refl _)
  replace h10 := h10.below hn (Nat.le_refl _)
  replace g12 := g12.below hn (Nat.le_refl _)
  replace h12 := h12.below hn (Nat.le_refl _)
  replace k10 := k10.below hn (Nat.le_refl _)
  replace hb := hb.trans (hn.mono hb.size)
  clear hn
  intro K hK
  have kb_41 := hb.size
  go_big_op
  go_fit (fdiv_any (k10.zn LPS.out) (g9.zn LQ.out) (by decide) (by decide) HQ0.out)
  rintro e w_41 ⟨v18, v19, rfl, k11, k12, hb_41⟩
  replace ha := ha.below hb_41 (Nat.le_refl _)
  replace hb' := hb'.below hb_41 (Nat.le_refl _)
  replace hp := hp.below hb_41 (Nat.le_refl _)
  replace hq := hq.below hb_41 (Nat.le_refl _)
  replace g1 := g1.below hb_41 (Nat.le_refl _)
  replace g2 := g2.below hb_41 (Nat.le_refl _)
  replace g3 := g3.below hb_41 (Nat.le_refl _)
  replace h5 := h5.below hb_41 (Nat.le_refl _)
  replace h6 := h6.below hb_41 (Nat.le_refl _)
  replace h7 := h7.below hb_41 (Nat.le_refl _)
  replace g8 := g8.below hb_41 (Nat.le_refl _)
  replace h8 := h8.below hb_41 (Nat.le_refl _)
  replace g9 := g9.below hb_41 (Nat.le_refl _)
  replace h10 := h10.below hb_41 (Nat.le_refl _)
  replace g12 := g12.below hb_41 (Nat.le_refl _)
  replace h12 := h12.below hb_41 (Nat.le_refl _)
  replace k10 := k10.below hb_41 (Nat.le_refl _)
  replace hb := hb.trans (hb_41.mono hb.size)
  refine hK _ _ rfl hb_41 ⟨h8.facts.1, h8.facts.2.1, h10.facts.1, h10.facts.2.1, h12.facts.1, h12.facts.2.1⟩ ?_
  clear hK K hb_41
  rw [E4.out] at k12
  replace k11 := k11.rd
  replace k12 := k12.rd
  clear k10
  apply wpFl_ld
  case hG => rfl
  case hi => rfl
  case h1 => intro w' hC K hK; clear hC; (first | go_big_move | go_big_op); exact hK
  case hw => kernel_rfl
  case hv => kernel_rfl
  case hb => kernel_rfl
  case hp => kernel_rfl
  apply wpFl_ld
  case hG => rfl
  case hi => rfl
  case h1 => intro w' hC K hK; clear hC; (first | go_big_move | go_big_op); exact hK
  case hw => kernel_rfl
  case hv => kernel_rfl
  case hb => kernel_rfl
  case hp => kernel_rfl
  apply wpFl_ld
  case hG => rfl
  case hi => rfl
  case h1 => intro w' hC K hK; clear hC; (first | go_big_move | go_big_op); exact hK
  case hw => kernel_rfl
  case hv => kernel_rfl
  case hb => kernel_rfl
  case hp => kernel_rfl
  apply wpFl_ld
  case hG => rfl
  case hi => rfl
  case h1 => intro w' hC K hK; clear hC; (first | go_big_move | go_big_op); exact hK
  case hw => kernel_rfl
  case hv => kernel_rfl
  case hb => kernel_rfl
  case hp => kernel_rfl
  apply wpFl_end
  case ha => intro pt; simp only [putF, nthO, Act.put, ptr, List.setIfInBounds_toArray, List.set_cons_succ, List.set_cons_zero]; rfl
  case h =>
  intro w_42 pt hn hC hF hD
  clear hC
  replace ha := ha.below hn (Nat.le_refl _)
  replace hb' := hb'.below hn (Nat.le_refl _)
  replace hp := hp.below hn (Nat.le_refl _)
  replace hq := hq.below hn (Nat.le_refl _)
  replace g1 := g1.below hn (Nat.le_refl _)
  replace g2 := g2.below hn (Nat.le_refl _)
  replace g3 := g3.below hn (Nat.le_refl _)
  replace h5 := h5.below hn (Nat.le_refl _)
  replace h6 := h6.below hn (Nat.le_refl _)
  replace h7 := h7.below hn (Nat.le_refl _)
  replace g8 := g8.below hn (Nat.le_refl _)
  replace h8 := h8.below hn (Nat.le_refl _)
  replace g9 := g9.below hn (Nat.le_refl _)
  replace h10 := h10.below hn (Nat.le_refl _)
  replace g12 := g12.below hn (Nat.le_refl _)
  replace h12 := h12.below hn (Nat.le_refl _)
  replace k11 := k11.below hn (Nat.le_refl _)
  replace k12 := k12.below hn (Nat.le_refl _)
  replace hb := hb.trans (hn.mono hb.size)
  clear hn
  obtain ⟨kB_h13, h13⟩ := hF 11 (by decide)
  replace h13 := obZ_bk h13
  obtain ⟨kB_h14, h14⟩ := hF 12 (by decide)
  replace h14 := obZ_bk h14
  have ne_h13_h14 := hD 11 (by decide) 12 (by decide) (by decide)
  clear hF hD
  generalize pt 11 = p_h13 at *
  generalize pt 12 = p_h14 at *
  clear pt
  have kb_h13 := Nat.le_trans kb0 kB_h13
  have ne_hp_h13 : w.heap.size ≠ p_h13 := Nat.ne_of_lt (Nat.lt_of_lt_of_le lt_hp kB_h13)
  have ne_hq_h13 : w.heap.size + 1 ≠ p_h13 := Nat.ne_of_lt (Nat.lt_of_lt_of_le lt_hq kB_h13)
  have ne_h5_h13 : w_2.heap.size ≠ p_h13 := Nat.ne_of_lt (Nat.lt_of_lt_of_le lt_h5 kB_h13)
  have ne_h6_h13 : w_3.heap.size ≠ p_h13 := Nat.ne_of_lt (Nat.lt_of_lt_of_le lt_h6 kB_h13)
  have ne_h7_h13 : w_4.heap.size ≠ p_h13 := Nat.ne_of_lt (Nat.lt_of_lt_of_le lt_h7 kB_h13)
  have ne_h8_h13 : w_15.heap.size ≠ p_h13 := Nat.ne_of_lt (Nat.lt_of_lt_of_le lt_h8 kB_h13)
  have ne_h10_h13 : w_18.heap.size ≠ p_h13 := Nat.ne_of_lt (Nat.lt_of_lt_of_le lt_h10 kB_h13)
  have ne_h12_h13 : w_28.heap.size ≠ p_h13 := Nat.ne_of_lt (Nat.lt_of_lt_of_le lt_h12 kB_h13)
  clear kB_h13
  have kb_h14 := Nat.le_trans kb0 kB_h14
  have ne_hp_h14 : w.heap.size ≠ p_h14 := Nat.ne_of_lt (Nat.lt_of_lt_of_le lt_hp kB_h14)
  have ne_hq_h14 : w.heap.size + 1 ≠ p_h14 := Nat.ne_of_lt (Nat.lt_of_lt_of_le lt_hq kB_h14)
  have ne_h5_h14 : w_2.heap.size ≠ p_h14 := Nat.ne_of_lt (Nat.lt_of_lt_of_le lt_h5 kB_h14)
  have ne_h6_h14 : w_3.heap.size ≠ p_h14 := Nat.ne_of_lt (Nat.lt_of_lt_of_le lt_h6 kB_h14)
  have ne_h7_h14 : w_4.heap.size ≠ p_h14 := Nat.ne_of_lt (Nat.lt_of_lt_of_le lt_h7 kB_h14)
  have ne_h8_h14 : w_15.heap.size ≠ p_h14 := Nat.ne_of_lt (Nat.lt_of_lt_of_le lt_h8 kB_h14)
  have ne_h10_h14 : w_18.heap.size ≠ p_h14 := Nat.ne_of_lt (Nat.lt_of_lt_of_le lt_h10 kB_h14)
  have ne_h12_h14 : w_28.heap.size ≠ p_h14 := Nat.ne_of_lt (Nat.lt_of_lt_of_le lt_h12 kB_h14)
  clear kB_h14
  clear lt_hp
  clear lt_hq
  clear lt_h5
  clear lt_h6
  clear lt_h7
  clear lt_h8
  clear lt_h10
  clear lt_h12
  clear kb0
  obtain ⟨sb_h13, o_h13, n_h13, c_h13, rfl⟩ := k11.open2
  apply wpTail_call
  case hi => rfl
  case hw => kernel_rfl
  case h =>
  intro K hK
  have c9_ := h13.facts
  go_big_op
  have ho := Bk.only w_42 (p_h13) sb_h13 (.slice o_h13 n_h13 c_h13)
  have hbx_ := h13.bx
  replace ha := ha.frame hbx_ ho
  replace hb' := hb'.frame hbx_ ho
  replace hp := hp.frame ho (by omega)
  replace hq := hq.frame ho (by omega)
  replace g1 := g1.frame hbx_ ho
  replace g2 := g2.frame hbx_ ho
  replace g3 := g3.frame hbx_ ho
  replace h5 := h5.frame ho (by omega)
  replace h6 := h6.frame ho (by omega)
  replace h7 := h7.frame ho (by omega)
  replace g8 := g8.frame hbx_ ho
  replace h8 := h8.frame ho (by omega)
  replace g9 := g9.frame hbx_ ho
  replace h10 := h10.frame ho (by omega)
  replace g12 := g12.frame hbx_ ho
  replace h12 := h12.frame ho (by omega)
  replace k11 := k11.frame hbx_ ho
  replace k12 := k12.frame hbx_ ho
  replace h14 := h14.frame ho (by omega)
  replace h13 := h13.store sb_h13 (.slice o_h13 n_h13 c_h13)
  replace hb := (hb.setCell (p := ⟨p_h13, 0, none⟩) (show w.heap.size ≤ p_h13 by omega) (.bool sb_h13)).setCell (p := ⟨p_h13, 1, none⟩) (show w.heap.size ≤ p_h13 by omega) (.slice o_h13 n_h13 c_h13)
  refine hK _ _ rfl (And.intro (And.intro h8.facts.1 h8.facts.2.1) (And.intro (And.intro h10.facts.1 h10.facts.2.1) (And.intro (And.intro h12.facts.1 h12.facts.2.1) True.intro))) ?_
  clear hK K hbx_ ho c9_
  obtain ⟨sb_h14, o_h14, n_h14, c_h14, rfl⟩ := k12.open2
  apply wpTail_call
  case hi => rfl
  case hw => kernel_rfl
  case h =>
  intro K hK
  have c9_ := h14.facts
  go_big_op
  have ho := Bk.only ((w_42.setCell ⟨p_h13, 0, none⟩ (.bool sb_h13)).setCell ⟨p_h13, 1, none⟩ (.slice o_h13 n_h13 c_h13)) (p_h14) sb_h14 (.slice o_h14 n_h14 c_h14)
  have hbx_ := h14.bx
  replace ha := ha.frame hbx_ ho
  replace hb' := hb'.frame hbx_ ho
  replace hp := hp.frame ho (by omega)
  replace hq := hq.frame ho (by omega)
  replace g1 := g1.frame hbx_ ho
  replace g2 := g2.frame hbx_ ho
  replace g3 := g3.frame hbx_ ho
  replace h5 := h5.frame ho (by omega)
  replace h6 := h6.frame ho (by omega)
  replace h7 := h7.frame ho (by omega)
  replace g8 := g8.frame hbx_ ho
  replace h8 := h8.frame ho (by omega)
  replace g9 := g9.frame hbx_ ho
  replace h10 := h10.frame ho (by omega)
  replace g12 := g12.frame hbx_ ho
  replace h12 := h12.frame ho (by omega)
  replace k11 := k11.frame hbx_ ho
  replace k12 := k12.frame hbx_ ho
  replace h13 := h13.frame ho (by omega)
  replace h14 := h14.store sb_h14 (.slice o_h14 n_h14 c_h14)
  replace hb := (hb.setCell (p := ⟨p_h14, 0, none⟩) (show w.heap.size ≤ p_h14 by omega) (.bool sb_h14)).setCell (p := ⟨p_h14, 1, none⟩) (show w.heap.size ≤ p_h14 by omega) (.slice o_h14 n_h14 c_h14)
  refine hK _ _ rfl (And.intro (And.intro h8.facts.1 h8.facts.2.1) (And.intro (And.intro h10.facts.1 h10.facts.2.1) (And.intro (And.intro h12.facts.1 h12.facts.2.1) True.intro))) ?_
  clear hK K hbx_ ho c9_
  apply wpTail_move
  case hi => rfl
  case hw => kernel_rfl
  case h =>
  intro K hK
  go_big_move
  refine hK _ _ rfl rfl ?_
  clear hK K
  apply wpTail_end
  have f_h14 := h14.facts
  go_wp2_with fail
  refine (zsign_any (k12.zn LZ.out) (by decide)).mono ?_
  rintro e w_43 ⟨rfl, hb_43⟩
  replace ha := ha.below hb_43 (Nat.le_refl _)
  replace hb' := hb'.below hb_43 (Nat.le_refl _)
  replace hp := hp.below hb_43 (Nat.le_refl _)
  replace hq := hq.below hb_43 (Nat.le_refl _)
  replace g1 := g1.below hb_43 (Nat.le_refl _)
  replace g2 := g2.below hb_43 (Nat.le_refl _)
  replace g3 := g3.below hb_43 (Nat.le_refl _)
  replace h5 := h5.below hb_43 (Nat.le_refl _)
  replace h6 := h6.below hb_43 (Nat.le_refl _)
  replace h7 := h7.below hb_43 (Nat.le_refl _)
  replace g8 := g8.below hb_43 (Nat.le_refl _)
  replace h8 := h8.below hb_43 (Nat.le_refl _)
  replace g9 := g9.below hb_43 (Nat.le_refl _)
  replace h10 := h10.below hb_43 (Nat.le_refl _)
  replace g12 := g12.below hb_43 (Nat.le_refl _)
  replace h12 := h12.below hb_43 (Nat.le_refl _)
  replace k11 := k11.below hb_43 (Nat.le_refl _)
  replace k12 := k12.below hb_43 (Nat.le_refl _)
  replace h13 := h13.below hb_43 (Nat.le_refl _)
  replace h14 := h14.below hb_43 (Nat.le_refl _)
  replace hb := hb.trans (hb_43.mono hb.size)
  clear hb_43
  clear f_h14
  go_wp2
  go_ret
  exact ⟨rfl, hb⟩

theorem walk_ZintBezout (w : World) (na : Bool) (sa : Value) (xs : List Nat) (hx : Rd w sa xs) (hxl : xs.length ≤ 1048576) (nb : Bool) (sb : Value) (ys : List Nat) (hy : Rd w sb ys) (hyl : ys.length ≤ 1048576) (htab : Lib.TabIs Tryd.prog w p10 .u64 Lib.pow10Tab) :
    Calls Tryd.prog 12 #[.agg #[.bool na, sa], .agg #[.bool nb, sb]] w fun e w' => e = .returned (.bool true) ∧ Below w.heap.size w w' := by
  have ha : ZN w (.agg #[.bool na, sa]) (zv na xs) 1048576 := ⟨na, sa, xs, rfl, hx, rfl, hxl⟩
  have hb : ZN w (.agg #[.bool nb, sb]) (zv nb ys) 1048576 := ⟨nb, sb, ys, rfl, hy, rfl, hyl⟩
  by_cases h0 : zv nb ys = 0
  · rw [h0] at hb
    by_cases h1 : zv na xs = 0
    · rw [h1] at ha; exact bezout_nought ha hb htab
    · exact bezout_first ha hb h1 htab
  · exact bezout_both ha hb h0 htab
end Go.Proofs.YtabmffenbkdgkaaDoor
