/- ZintInverses: the law's walk. -/
import Derived.Test.YtabmffenbkdgkaaDoorZ12
import Derived.Test.YtabmffenbkdgkaaDoorY10
namespace Go.Proofs.YtabmffenbkdgkaaDoor
open Go.RowKit Dig

set_option maxHeartbeats 8000000 in
set_option maxRecDepth 20000 in
theorem inv_zero {w : World} {va vb : Value} {x : Int} (ha : ZN w va x 1048576) (hb' : ZN w vb 0 1048576) (htab : Lib.TabIs Tryd.prog w p10 .u64 Lib.pow10Tab) :
    Calls Tryd.prog 8 #[va, vb] w fun e w' => e = .returned (.bool true) ∧ Below w.heap.size w w' := by
  have htabs := Lib.tabBelow_of_tabIs htab
  have Ly := hide hb'.len
  have e0 : ((0 : Int) == 0) = true := rfl
  obtain ⟨na, oa, ca, xs, rfl, hca, _, _, hxl⟩ := ha.open_
  obtain ⟨nb, ob, cb, ys, rfl, hcb, _, _, hyl⟩ := hb'.open_
  go_enter Tryd.func8, Tryd.ntmps8
  have hb := Below.refl w.heap.size w
  have hp := Bk.new w na (.slice oa xs.length ca)
  replace ha := ha.alloc (.cells #[.bool na, (.slice oa xs.length ca)] 24)
  replace hb' := hb'.alloc (.cells #[.bool na, (.slice oa xs.length ca)] 24)
  replace hb := hb.alloc hb.size (.cells #[.bool na, (.slice oa xs.length ca)] 24)
  have hq := Bk.new (w.alloc (.cells #[.bool na, (.slice oa xs.length ca)] 24)) nb (.slice ob ys.length cb)
  simp only [Bk.size_alloc] at hq
  replace ha := ha.alloc (.cells #[.bool nb, (.slice ob ys.length cb)] 24)
  replace hb' := hb'.alloc (.cells #[.bool nb, (.slice ob ys.length cb)] 24)
  replace hp := hp.alloc (.cells #[.bool nb, (.slice ob ys.length cb)] 24)
  replace hb := hb.alloc hb.size (.cells #[.bool nb, (.slice ob ys.length cb)] 24)
  have f_hp := hp.facts
  have f_hq := hq.facts
  go_wp2_with fail
  refine (zinv_zero ha hb' (by decide)).mono ?_
  rintro e w_1 ⟨rfl, hb_1⟩
  replace ha := ha.below hb_1 (Nat.le_refl _)
  replace hb' := hb'.below hb_1 (Nat.le_refl _)
  replace hp := hp.below hb_1 (Nat.le_refl _)
  replace hq := hq.below hb_1 (Nat.le_refl _)
  replace hb := hb.trans (hb_1.mono hb.size)
  clear hb_1
  clear f_hp f_hq
  have kb_h5 := hb.size
  have ne_hp_h5 : w.heap.size ≠ w_1.heap.size := by have := hp.lt; (try simp only [Bk.size_alloc] at this); omega
  have ne_hq_h5 : w.heap.size + 1 ≠ w_1.heap.size := by have := hq.lt; (try simp only [Bk.size_alloc] at this); omega
  have h5 := Bk.new w_1 false (.slice none 0 0)
  replace ha := ha.alloc (.cells #[.bool false, (.slice none 0 0)] 24)
  replace hb' := hb'.alloc (.cells #[.bool false, (.slice none 0 0)] 24)
  replace hp := hp.alloc (.cells #[.bool false, (.slice none 0 0)] 24)
  replace hq := hq.alloc (.cells #[.bool false, (.slice none 0 0)] 24)
  replace hb := hb.alloc hb.size (.cells #[.bool false, (.slice none 0 0)] 24)
  obtain ⟨w_2, hw_2⟩ : ∃ v, (w_1.alloc (.cells #[.bool false, (.slice none 0 0)] 24)) = v := ⟨_, rfl⟩
  rw [hw_2] at ha hb' hp hq h5 hb
  have f_h5 := h5.facts
  have ho := Bk.only w_2 (w_1.heap.size) false (.slice none 0 0)
  have hbx_ := h5.bx
  replace ha := ha.frame hbx_ ho
  replace hb' := hb'.frame hbx_ ho
  replace hp := hp.frame ho (by first | assumption | (apply Ne.symm; assumption) | (simp; done) | omega)
  replace hq := hq.frame ho (by first | assumption | (apply Ne.symm; assumption) | (simp; done) | omega)
  replace h5 := h5.store false (.slice none 0 0)
  replace hb := (hb.setCell (p := ⟨w_1.heap.size, 0, none⟩) (show w.heap.size ≤ w_1.heap.size by first | assumption | (simp; done) | omega) (.bool false)).setCell (p := ⟨w_1.heap.size, 1, none⟩) (show w.heap.size ≤ w_1.heap.size by first | assumption | (simp; done) | omega) (.slice none 0 0)
  clear ho hbx_
  obtain ⟨w_3, hw_3⟩ : ∃ v, ((w_2.setCell ⟨w_1.heap.size, 0, none⟩ (.bool false)).setCell ⟨w_1.heap.size, 1, none⟩ (.slice none 0 0)) = v := ⟨_, rfl⟩
  rw [hw_3] at ha hb' hp hq h5 hb
  go_wp2_with fail
  refine (zawake_any _ (htabs _ hb)).mono ?_
  rintro e w_4 ⟨rfl, hb_4⟩
  replace ha := ha.below hb_4 (Nat.le_refl _)
  replace hb' := hb'.below hb_4 (Nat.le_refl _)
  replace hp := hp.below hb_4 (Nat.le_refl _)
  replace hq := hq.below hb_4 (Nat.le_refl _)
  replace h5 := h5.below hb_4 (Nat.le_refl _)
  replace hb := hb.trans (hb_4.mono hb.size)
  clear hb_4
  clear f_h5
  have f_hq := hq.facts
  go_wp2_with fail
  refine (rzsign_any hb' (by decide)).mono ?_
  rintro e w_5 ⟨rfl, hb_5⟩
  replace ha := ha.below hb_5 (Nat.le_refl _)
  replace hb' := hb'.below hb_5 (Nat.le_refl _)
  replace hp := hp.below hb_5 (Nat.le_refl _)
  replace hq := hq.below hb_5 (Nat.le_refl _)
  replace h5 := h5.below hb_5 (Nat.le_refl _)
  replace hb := hb.trans (hb_5.mono hb.size)
  clear hb_5
  clear f_hq
  have f_h5 := h5.facts
  go_wp2_with fail
  refine (rzero_any _).mono ?_
  rintro e w_6 ⟨rfl, hb_6⟩
  replace ha := ha.below hb_6 (Nat.le_refl _)
  replace hb' := hb'.below hb_6 (Nat.le_refl _)
  replace hp := hp.below hb_6 (Nat.le_refl _)
  replace hq := hq.below hb_6 (Nat.le_refl _)
  replace h5 := h5.below hb_6 (Nat.le_refl _)
  replace hb := hb.trans (hb_6.mono hb.size)
  clear hb_6
  clear f_h5
  go_wp2
  go_ret
  exact ⟨rfl, hb⟩

set_option maxHeartbeats 8000000 in
set_option maxRecDepth 20000 in
theorem inv_none {w : World} {va vb : Value} {x y : Int} (ha : ZN w va x 1048576) (hb' : ZN w vb y 1048576) (h0 : y ≠ 0) (hg : Int.gcd x y ≠ 1) (htab : Lib.TabIs Tryd.prog w p10 .u64 Lib.pow10Tab) :
    Calls Tryd.prog 8 #[va, vb] w fun e w' => e = .returned (.bool true) ∧ Below w.heap.size w w' := by
  have htabs := Lib.tabBelow_of_tabIs htab
  have Ly := hide hb'.len
  obtain ⟨S, hS⟩ : ∃ S, y.sign = S := ⟨_, rfl⟩
  have hS0 : (S == 0) = false := by rw [beq_eq_false_iff_ne, ← hS]; exact fun h => h0 (Int.sign_eq_zero_iff_zero.1 h)
  have HS := hide hS
  have H0 := hide h0
  have LG := hide (show (dig ((Int.gcd x y : Int)).natAbs).length ≤ 1048576 from len_le (gcd_le h0) Ly.out)
  have L1 := hide (show (dig (1 : Int).natAbs).length ≤ 2 from zlen_i 1 (by decide) (by decide))
  obtain ⟨D, hD⟩ : ∃ D, zcmp (Int.gcd x y : Int) 1 = D := ⟨_, rfl⟩
  have HD := hide hD
  have hD0 : (D == 0) = false := by
    rw [beq_eq_false_iff_ne, ← hD]
    unfold zcmp
    split
    · omega
    · split <;> omega
  have hDn : (D != 0) = true := by rw [bne, hD0]; rfl
  have HG := hide hg
  clear hD hg h0 hS
  obtain ⟨na, oa, ca, xs, rfl, hca, _, _, hxl⟩ := ha.open_
  obtain ⟨nb, ob, cb, ys, rfl, hcb, _, _, hyl⟩ := hb'.open_
  go_enter Tryd.func8, Tryd.ntmps8
  have hb := Below.refl w.heap.size w
  have hp := Bk.new w na (.slice oa xs.length ca)
  replace ha := ha.alloc (.cells #[.bool na, (.slice oa xs.length ca)] 24)
  replace hb' := hb'.alloc (.cells #[.bool na, (.slice oa xs.length ca)] 24)
  replace hb := hb.alloc hb.size (.cells #[.bool na, (.slice oa xs.length ca)] 24)
  have hq := Bk.new (w.alloc (.cells #[.bool na, (.slice oa xs.length ca)] 24)) nb (.slice ob ys.length cb)
  simp only [Bk.size_alloc] at hq
  replace ha := ha.alloc (.cells #[.bool nb, (.slice ob ys.length cb)] 24)
  replace hb' := hb'.alloc (.cells #[.bool nb, (.slice ob ys.length cb)] 24)
  replace hp := hp.alloc (.cells #[.bool nb, (.slice ob ys.length cb)] 24)
  replace hb := hb.alloc hb.size (.cells #[.bool nb, (.slice ob ys.length cb)] 24)
  have f_hp := hp.facts
  have f_hq := hq.facts
  go_wp2_with fail
  refine (zinv_none ha hb' (by decide) (by decide) H0.out HG.out).mono ?_
  rintro e w_1 ⟨rfl, hb_1⟩
  replace ha := ha.below hb_1 (Nat.le_refl _)
  replace hb' := hb'.below hb_1 (Nat.le_refl _)
  replace hp := hp.below hb_1 (Nat.le_refl _)
  replace hq := hq.below hb_1 (Nat.le_refl _)
  replace hb := hb.trans (hb_1.mono hb.size)
  clear hb_1
  clear f_hp f_hq
  have kb_h5 := hb.size
  have ne_hp_h5 : w.heap.size ≠ w_1.heap.size := by have := hp.lt; (try simp only [Bk.size_alloc] at this); omega
  have ne_hq_h5 : w.heap.size + 1 ≠ w_1.heap.size := by have := hq.lt; (try simp only [Bk.size_alloc] at this); omega
  have h5 := Bk.new w_1 false (.slice none 0 0)
  replace ha := ha.alloc (.cells #[.bool false, (.slice none 0 0)] 24)
  replace hb' := hb'.alloc (.cells #[.bool false, (.slice none 0 0)] 24)
  replace hp := hp.alloc (.cells #[.bool false, (.slice none 0 0)] 24)
  replace hq := hq.alloc (.cells #[.bool false, (.slice none 0 0)] 24)
  replace hb := hb.alloc hb.size (.cells #[.bool false, (.slice none 0 0)] 24)
  obtain ⟨w_2, hw_2⟩ : ∃ v, (w_1.alloc (.cells #[.bool false, (.slice none 0 0)] 24)) = v := ⟨_, rfl⟩
  rw [hw_2] at ha hb' hp hq h5 hb
  have f_h5 := h5.facts
  have ho := Bk.only w_2 (w_1.heap.size) false (.slice none 0 0)
  have hbx_ := h5.bx
  replace ha := ha.frame hbx_ ho
  replace hb' := hb'.frame hbx_ ho
  replace hp := hp.frame ho (by first | assumption | (apply Ne.symm; assumption) | (simp; done) | omega)
  replace hq := hq.frame ho (by first | assumption | (apply Ne.symm; assumption) | (simp; done) | omega)
  replace h5 := h5.store false (.slice none 0 0)
  replace hb := (hb.setCell (p := ⟨w_1.heap.size, 0, none⟩) (show w.heap.size ≤ w_1.heap.size by first | assumption | (simp; done) | omega) (.bool false)).setCell (p := ⟨w_1.heap.size, 1, none⟩) (show w.heap.size ≤ w_1.heap.size by first | assumption | (simp; done) | omega) (.slice none 0 0)
  clear ho hbx_
  obtain ⟨w_3, hw_3⟩ : ∃ v, ((w_2.setCell ⟨w_1.heap.size, 0, none⟩ (.bool false)).setCell ⟨w_1.heap.size, 1, none⟩ (.slice none 0 0)) = v := ⟨_, rfl⟩
  rw [hw_3] at ha hb' hp hq h5 hb
  go_wp2_with fail
  refine (zawake_any _ (htabs _ hb)).mono ?_
  rintro e w_4 ⟨rfl, hb_4⟩
  replace ha := ha.below hb_4 (Nat.le_refl _)
  replace hb' := hb'.below hb_4 (Nat.le_refl _)
  replace hp := hp.below hb_4 (Nat.le_refl _)
  replace hq := hq.below hb_4 (Nat.le_refl _)
  replace h5 := h5.below hb_4 (Nat.le_refl _)
  replace hb := hb.trans (hb_4.mono hb.size)
  clear hb_4
  clear f_h5
  have f_hq := hq.facts
  go_wp2_with fail
  refine (rzsign_any hb' (by decide)).mono ?_
  rintro e w_5 ⟨rfl, hb_5⟩
  replace ha := ha.below hb_5 (Nat.le_refl _)
  replace hb' := hb'.below hb_5 (Nat.le_refl _)
  replace hp := hp.below hb_5 (Nat.le_refl _)
  replace hq := hq.below hb_5 (Nat.le_refl _)
  replace h5 := h5.below hb_5 (Nat.le_refl _)
  replace hb := hb.trans (hb_5.mono hb.size)
  clear hb_5
  rw [HS.out]
  clear f_hq
  have f_hp := hp.facts
  have f_hq := hq.facts
  go_wp2_with fail
  refine (rxgcd_any ha hb' (by decide) (by decide) H0.out).mono ?_
  rintro e w_6 ⟨v4, v5, v6, rfl, ⟨c2, hxg2, k1, k2, k3⟩, hb_6⟩
  replace ha := ha.below hb_6 (Nat.le_refl _)
  replace hb' := hb'.below hb_6 (Nat.le_refl _)
  replace hp := hp.below hb_6 (Nat.le_refl _)
  replace hq := hq.below hb_6 (Nat.le_refl _)
  replace h5 := h5.below hb_6 (Nat.le_refl _)
  replace hb := hb.trans (hb_6.mono hb.size)
  clear hb_6
  clear hxg2
  clear f_hp f_hq
  have kb_h7 := hb.size
  have ne_hp_h7 : w.heap.size ≠ w_6.heap.size := by have := hp.lt; (try simp only [Bk.size_alloc] at this); omega
  have ne_hq_h7 : w.heap.size + 1 ≠ w_6.heap.size := by have := hq.lt; (try simp only [Bk.size_alloc] at this); omega
  have ne_h5_h7 : w_1.heap.size ≠ w_6.heap.size := by have := h5.lt; (try simp only [Bk.size_alloc] at this); omega
  have h7 := Bk.new w_6 false (.slice none 0 0)
  replace ha := ha.alloc (.cells #[.bool false, (.slice none 0 0)] 24)
  replace hb' := hb'.alloc (.cells #[.bool false, (.slice none 0 0)] 24)
  replace hp := hp.alloc (.cells #[.bool false, (.slice none 0 0)] 24)
  replace hq := hq.alloc (.cells #[.bool false, (.slice none 0 0)] 24)
  replace h5 := h5.alloc (.cells #[.bool false, (.slice none 0 0)] 24)
  replace k1 := k1.alloc (.cells #[.bool false, (.slice none 0 0)] 24)
  replace k2 := k2.alloc (.cells #[.bool false, (.slice none 0 0)] 24)
  replace k3 := k3.alloc (.cells #[.bool false, (.slice none 0 0)] 24)
  replace hb := hb.alloc hb.size (.cells #[.bool false, (.slice none 0 0)] 24)
  obtain ⟨w_7, hw_7⟩ : ∃ v, (w_6.alloc (.cells #[.bool false, (.slice none 0 0)] 24)) = v := ⟨_, rfl⟩
  rw [hw_7] at ha hb' hp hq h5 k1 k2 k3 h7 hb
  have kb_h8 := hb.size
  have ne_hp_h8 : w.heap.size ≠ w_7.heap.size := by have := hp.lt; (try simp only [Bk.size_alloc] at this); omega
  have ne_hq_h8 : w.heap.size + 1 ≠ w_7.heap.size := by have := hq.lt; (try simp only [Bk.size_alloc] at this); omega
  have ne_h5_h8 : w_1.heap.size ≠ w_7.heap.size := by have := h5.lt; (try simp only [Bk.size_alloc] at this); omega
  have ne_h7_h8 : w_6.heap.size ≠ w_7.heap.size := by have := h7.lt; (try simp only [Bk.size_alloc] at this); omega
  have h8 := Bk.new w_7 false (.slice none 0 0)
  replace ha := ha.alloc (.cells #[.bool false, (.slice none 0 0)] 24)
  replace hb' := hb'.alloc (.cells #[.bool false, (.slice none 0 0)] 24)
  replace hp := hp.alloc (.cells #[.bool false, (.slice none 0 0)] 24)
  replace hq := hq.alloc (.cells #[.bool false, (.slice none 0 0)] 24)
  replace h5 := h5.alloc (.cells #[.bool false, (.slice none 0 0)] 24)
  replace k1 := k1.alloc (.cells #[.bool false, (.slice none 0 0)] 24)
  replace k2 := k2.alloc (.cells #[.bool false, (.slice none 0 0)] 24)
  replace k3 := k3.alloc (.cells #[.bool false, (.slice none 0 0)] 24)
  replace h7 := h7.alloc (.cells #[.bool false, (.slice none 0 0)] 24)
  replace hb := hb.alloc hb.size (.cells #[.bool false, (.slice none 0 0)] 24)
  obtain ⟨w_8, hw_8⟩ : ∃ v, (w_7.alloc (.cells #[.bool false, (.slice none 0 0)] 24)) = v := ⟨_, rfl⟩
  rw [hw_8] at ha hb' hp hq h5 k1 k2 k3 h7 h8 hb
  have kb_h9 := hb.size
  have ne_hp_h9 : w.heap.size ≠ w_8.heap.size := by have := hp.lt; (try simp only [Bk.size_alloc] at this); omega
  have ne_hq_h9 : w.heap.size + 1 ≠ w_8.heap.size := by have := hq.lt; (try simp only [Bk.size_alloc] at this); omega
  have ne_h5_h9 : w_1.heap.size ≠ w_8.heap.size := by have := h5.lt; (try simp only [Bk.size_alloc] at this); omega
  have ne_h7_h9 : w_6.heap.size ≠ w_8.heap.size := by have := h7.lt; (try simp only [Bk.size_alloc] at this); omega
  have ne_h8_h9 : w_7.heap.size ≠ w_8.heap.size := by have := h8.lt; (try simp only [Bk.size_alloc] at this); omega
  have h9 := Bk.new w_8 false (.slice none 0 0)
  replace ha := ha.alloc (.cells #[.bool false, (.slice none 0 0)] 24)
  replace hb' := hb'.alloc (.cells #[.bool false, (.slice none 0 0)] 24)
  replace hp := hp.alloc (.cells #[.bool false, (.slice none 0 0)] 24)
  replace hq := hq.alloc (.cells #[.bool false, (.slice none 0 0)] 24)
  replace h5 := h5.alloc (.cells #[.bool false, (.slice none 0 0)] 24)
  replace k1 := k1.alloc (.cells #[.bool false, (.slice none 0 0)] 24)
  replace k2 := k2.alloc (.cells #[.bool false, (.slice none 0 0)] 24)
  replace k3 := k3.alloc (.cells #[.bool false, (.slice none 0 0)] 24)
  replace h7 := h7.alloc (.cells #[.bool false, (.slice none 0 0)] 24)
  replace h8 := h8.alloc (.cells #[.bool false, (.slice none 0 0)] 24)
  replace hb := hb.alloc hb.size (.cells #[.bool false, (.slice none 0 0)] 24)
  obtain ⟨w_9, hw_9⟩ : ∃ v, (w_8.alloc (.cells #[.bool false, (.slice none 0 0)] 24)) = v := ⟨_, rfl⟩
  rw [hw_9] at ha hb' hp hq h5 k1 k2 k3 h7 h8 h9 hb
  obtain ⟨sb_h7, o_h7, n_h7, c_h7, rfl⟩ := k1.open2
  have f_h7 := h7.facts
  have ho := Bk.only w_9 (w_6.heap.size) sb_h7 (.slice o_h7 n_h7 c_h7)
  have hbx_ := h7.bx
  replace ha := ha.frame hbx_ ho
  replace hb' := hb'.frame hbx_ ho
  replace hp := hp.frame ho (by first | assumption | (apply Ne.symm; assumption) | (simp; done) | omega)
  replace hq := hq.frame ho (by first | assumption | (apply Ne.symm; assumption) | (simp; done) | omega)
  replace h5 := h5.frame ho (by first | assumption | (apply Ne.symm; assumption) | (simp; done) | omega)
  replace k1 := k1.frame hbx_ ho
  replace k2 := k2.frame hbx_ ho
  replace k3 := k3.frame hbx_ ho
  replace h8 := h8.frame ho (by first | assumption | (apply Ne.symm; assumption) | (simp; done) | omega)
  replace h9 := h9.frame ho (by first | assumption | (apply Ne.symm; assumption) | (simp; done) | omega)
  replace h7 := h7.store sb_h7 (.slice o_h7 n_h7 c_h7)
  replace hb := (hb.setCell (p := ⟨w_6.heap.size, 0, none⟩) (show w.heap.size ≤ w_6.heap.size by first | assumption | (simp; done) | omega) (.bool sb_h7)).setCell (p := ⟨w_6.heap.size, 1, none⟩) (show w.heap.size ≤ w_6.heap.size by first | assumption | (simp; done) | omega) (.slice o_h7 n_h7 c_h7)
  clear ho hbx_
  obtain ⟨w_10, hw_10⟩ : ∃ v, ((w_9.setCell ⟨w_6.heap.size, 0, none⟩ (.bool sb_h7)).setCell ⟨w_6.heap.size, 1, none⟩ (.slice o_h7 n_h7 c_h7)) = v := ⟨_, rfl⟩
  rw [hw_10] at ha hb' hp hq h5 k1 k2 k3 h7 h8 h9 hb
  obtain ⟨sb_h8, o_h8, n_h8, c_h8, rfl⟩ := k2.open2
  have f_h8 := h8.facts
  have ho := Bk.only w_10 (w_7.heap.size) sb_h8 (.slice o_h8 n_h8 c_h8)
  have hbx_ := h8.bx
  replace ha := ha.frame hbx_ ho
  replace hb' := hb'.frame hbx_ ho
  replace hp := hp.frame ho (by first | assumption | (apply Ne.symm; assumption) | (simp; done) | omega)
  replace hq := hq.frame ho (by first | assumption | (apply Ne.symm; assumption) | (simp; done) | omega)
  replace h5 := h5.frame ho (by first | assumption | (apply Ne.symm; assumption) | (simp; done) | omega)
  replace k1 := k1.frame hbx_ ho
  replace k2 := k2.frame hbx_ ho
  replace k3 := k3.frame hbx_ ho
  replace h7 := h7.frame ho (by first | assumption | (apply Ne.symm; assumption) | (simp; done) | omega)
  replace h9 := h9.frame ho (by first | assumption | (apply Ne.symm; assumption) | (simp; done) | omega)
  replace h8 := h8.store sb_h8 (.slice o_h8 n_h8 c_h8)
  replace hb := (hb.setCell (p := ⟨w_7.heap.size, 0, none⟩) (show w.heap.size ≤ w_7.heap.size by first | assumption | (simp; done) | omega) (.bool sb_h8)).setCell (p := ⟨w_7.heap.size, 1, none⟩) (show w.heap.size ≤ w_7.heap.size by first | assumption | (simp; done) | omega) (.slice o_h8 n_h8 c_h8)
  clear ho hbx_
  obtain ⟨w_11, hw_11⟩ : ∃ v, ((w_10.setCell ⟨w_7.heap.size, 0, none⟩ (.bool sb_h8)).setCell ⟨w_7.heap.size, 1, none⟩ (.slice o_h8 n_h8 c_h8)) = v := ⟨_, rfl⟩
  rw [hw_11] at ha hb' hp hq h5 k1 k2 k3 h7 h8 h9 hb
  obtain ⟨sb_h9, o_h9, n_h9, c_h9, rfl⟩ := k3.open2
  have f_h9 := h9.facts
  have ho := Bk.only w_11 (w_8.heap.size) sb_h9 (.slice o_h9 n_h9 c_h9)
  have hbx_ := h9.bx
  replace ha := ha.frame hbx_ ho
  replace hb' := hb'.frame hbx_ ho
  replace hp := hp.frame ho (by first | assumption | (apply Ne.symm; assumption) | (simp; done) | omega)
  replace hq := hq.frame ho (by first | assumption | (apply Ne.symm; assumption) | (simp; done) | omega)
  replace h5 := h5.frame ho (by first | assumption | (apply Ne.symm; assumption) | (simp; done) | omega)
  replace k1 := k1.frame hbx_ ho
  replace k2 := k2.frame hbx_ ho
  replace k3 := k3.frame hbx_ ho
  replace h7 := h7.frame ho (by first | assumption | (apply Ne.symm; assumption) | (simp; done) | omega)
  replace h8 := h8.frame ho (by first | assumption | (apply Ne.symm; assumption) | (simp; done) | omega)
  replace h9 := h9.store sb_h9 (.slice o_h9 n_h9 c_h9)
  replace hb := (hb.setCell (p := ⟨w_8.heap.size, 0, none⟩) (show w.heap.size ≤ w_8.heap.size by first | assumption | (simp; done) | omega) (.bool sb_h9)).setCell (p := ⟨w_8.heap.size, 1, none⟩) (show w.heap.size ≤ w_8.heap.size by first | assumption | (simp; done) | omega) (.slice o_h9 n_h9 c_h9)
  clear ho hbx_
  obtain ⟨w_12, hw_12⟩ : ∃ v, ((w_11.setCell ⟨w_8.heap.size, 0, none⟩ (.bool sb_h9)).setCell ⟨w_8.heap.size, 1, none⟩ (.slice o_h9 n_h9 c_h9)) = v := ⟨_, rfl⟩
  rw [hw_12] at ha hb' hp hq h5 k1 k2 k3 h7 h8 h9 hb
  replace ha := ha.drew
  replace hb' := hb'.drew
  replace hp := hp.drew
  replace hq := hq.drew
  replace h5 := h5.drew
  replace k1 := k1.drew
  replace k2 := k2.drew
  replace k3 := k3.drew
  replace h7 := h7.drew
  replace h8 := h8.drew
  replace h9 := h9.drew
  replace hb := hb.drew
  go_wp2_with fail
  refine wp_region_pl [(0, false), (1, true), (2, true), (3, false)] (fun w' => w'.cell? ⟨w.heap.size, 0, none⟩ = some (.bool na) ∧ w'.cell? ⟨w.heap.size, 1, none⟩ = some (.slice oa xs.length ca) ∧ w'.cell? ⟨w.heap.size + 1, 0, none⟩ = some (.bool nb) ∧ w'.cell? ⟨w.heap.size + 1, 1, none⟩ = some (.slice ob ys.length cb) ∧ w'.cell? ⟨w_1.heap.size, 0, none⟩ = some (.bool false) ∧ w'.cell? ⟨w_1.heap.size, 1, none⟩ = some (.slice none 0 0) ∧ w'.cell? ⟨w_6.heap.size, 0, none⟩ = some (.bool sb_h7) ∧ w'.cell? ⟨w_6.heap.size, 1, none⟩ = some (.slice o_h7 n_h7 c_h7) ∧ w'.cell? ⟨w_7.heap.size, 0, none⟩ = some (.bool sb_h8) ∧ w'.cell? ⟨w_7.heap.size, 1, none⟩ = some (.slice o_h8 n_h8 c_h8) ∧ w'.cell? ⟨w_8.heap.size, 0, none⟩ = some (.bool sb_h9) ∧ w'.cell? ⟨w_8.heap.size, 1, none⟩ = some (.slice o_h9 n_h9 c_h9)) (by kernel_rfl) (by kernel_rfl) (by kernel_rfl) (by kernel_rfl) ⟨hp.facts.1, hp.facts.2.1, hq.facts.1, hq.facts.2.1, h5.facts.1, h5.facts.2.1, h7.facts.1, h7.facts.2.1, h8.facts.1, h8.facts.2.1, h9.facts.1, h9.facts.2.1⟩ ?_
  clear f_h7 f_h8 f_h9
  apply wpPl_ld
  case hi => rfl
  case h1 => intro w' hC K hK; obtain ⟨c0, c1, c2, c3, c4, c5, c6, c7, c8, c9, c10, c11⟩ := hC; (first | go_big_move | go_big_op); exact hK
  case hw => kernel_rfl
  case hv => kernel_rfl
  case hb => kernel_rfl
  case hp => kernel_rfl
  apply wpPl_call
  case hi => rfl
  case hw => kernel_rfl
  case h =>
  intro K hK
  have kb_13 := hb.size
  go_big_op
  go_fit (ri_any 1 _ (by decide) (by decide))
  rintro e w_13 ⟨v7, rfl, k7, hb_13⟩
  replace ha := ha.below hb_13 (Nat.le_refl _)
  replace hb' := hb'.below hb_13 (Nat.le_refl _)
  replace hp := hp.below hb_13 (Nat.le_refl _)
  replace hq := hq.below hb_13 (Nat.le_refl _)
  replace h5 := h5.below hb_13 (Nat.le_refl _)
  replace k1 := k1.below hb_13 (Nat.le_refl _)
  replace k2 := k2.below hb_13 (Nat.le_refl _)
  replace k3 := k3.below hb_13 (Nat.le_refl _)
  replace h7 := h7.below hb_13 (Nat.le_refl _)
  replace h8 := h8.below hb_13 (Nat.le_refl _)
  replace h9 := h9.below hb_13 (Nat.le_refl _)
  replace hb := hb.trans (hb_13.mono hb.size)
  refine hK _ _ rfl ⟨hp.facts.1, hp.facts.2.1, hq.facts.1, hq.facts.2.1, h5.facts.1, h5.facts.2.1, h7.facts.1, h7.facts.2.1, h8.facts.1, h8.facts.2.1, h9.facts.1, h9.facts.2.1⟩ ?_
  clear hK K hb_13
  replace k7 := k7.rd
  apply wpPl_call
  case hi => rfl
  case hw => kernel_rfl
  case h =>
  intro K hK
  have kb_14 := hb.size
  go_big_op
  go_fit (rzcmp_any (k1.zn LG.out) (k7.zn L1.out) (by decide) (by decide))
  rintro e w_14 ⟨rfl, hb_14⟩
  replace ha := ha.below hb_14 (Nat.le_refl _)
  replace hb' := hb'.below hb_14 (Nat.le_refl _)
  replace hp := hp.below hb_14 (Nat.le_refl _)
  replace hq := hq.below hb_14 (Nat.le_refl _)
  replace h5 := h5.below hb_14 (Nat.le_refl _)
  replace k1 := k1.below hb_14 (Nat.le_refl _)
  replace k2 := k2.below hb_14 (Nat.le_refl _)
  replace k3 := k3.below hb_14 (Nat.le_refl _)
  replace h7 := h7.below hb_14 (Nat.le_refl _)
  replace h8 := h8.below hb_14 (Nat.le_refl _)
  replace h9 := h9.below hb_14 (Nat.le_refl _)
  replace k7 := k7.below hb_14 (Nat.le_refl _)
  replace hb := hb.trans (hb_14.mono hb.size)
  refine hK _ _ rfl ⟨hp.facts.1, hp.facts.2.1, hq.facts.1, hq.facts.2.1, h5.facts.1, h5.facts.2.1, h7.facts.1, h7.facts.2.1, h8.facts.1, h8.facts.2.1, h9.facts.1, h9.facts.2.1⟩ ?_
  clear hK K hb_14
  rw [HD.out]
  clear k7
  apply wpPl_ld
  case hi => rfl
  case h1 => intro w' hC K hK; obtain ⟨c0, c1, c2, c3, c4, c5, c6, c7, c8, c9, c10, c11⟩ := hC; (first | go_big_move | go_big_op); exact hK
  case hw => kernel_rfl
  case hv => kernel_rfl
  case hb => kernel_rfl
  case hp => kernel_rfl
  apply wpPl_end
  have f_h5 := h5.facts
  go_wp2_with fail
  refine (rzero_any _).mono ?_
  rintro e w_15 ⟨rfl, hb_15⟩
  replace ha := ha.below hb_15 (Nat.le_refl _)
  replace hb' := hb'.below hb_15 (Nat.le_refl _)
  replace hp := hp.below hb_15 (Nat.le_refl _)
  replace hq := hq.below hb_15 (Nat.le_refl _)
  replace h5 := h5.below hb_15 (Nat.le_refl _)
  replace k1 := k1.below hb_15 (Nat.le_refl _)
  replace k2 := k2.below hb_15 (Nat.le_refl _)
  replace k3 := k3.below hb_15 (Nat.le_refl _)
  replace h7 := h7.below hb_15 (Nat.le_refl _)
  replace h8 := h8.below hb_15 (Nat.le_refl _)
  replace h9 := h9.below hb_15 (Nat.le_refl _)
  replace hb := hb.trans (hb_15.mono hb.size)
  clear hb_15
  clear f_h5
  go_wp2
  go_ret
  exact ⟨rfl, hb⟩

set_option maxHeartbeats 8000000 in
set_option maxRecDepth 20000 in
theorem inv_some {w : World} {va vb : Value} {x y : Int} (ha : ZN w va x 1048576) (hb' : ZN w vb y 1048576) (h0 : y ≠ 0) (hg : Int.gcd x y = 1) (htab : Lib.TabIs Tryd.prog w p10 .u64 Lib.pow10Tab) :
    Calls Tryd.prog 8 #[va, vb] w fun e w' => e = .returned (.bool true) ∧ Below w.heap.size w w' := by
  have htabs := Lib.tabBelow_of_tabIs htab
  have Ly := hide hb'.len
  obtain ⟨S, hS⟩ : ∃ S, y.sign = S := ⟨_, rfl⟩
  have hS0 : (S == 0) = false := by rw [beq_eq_false_iff_ne, ← hS]; exact fun h => h0 (Int.sign_eq_zero_iff_zero.1 h)
  have HS := hide hS
  have H0 := hide h0
  have LG := hide (show (dig ((Int.gcd x y : Int)).natAbs).length ≤ 1048576 from len_le (gcd_le h0) Ly.out)
  have L1 := hide (show (dig (1 : Int).natAbs).length ≤ 2 from zlen_i 1 (by decide) (by decide))
  have HD := hide (show zcmp (Int.gcd x y : Int) 1 = 0 from zcmp_eq (by rw [hg]; rfl))
  have e0 : ((0 : Int) != 0) = false := rfl
  have e1 : ((0 : Int) == 0) = true := rfl
  have HG := hide hg
  clear hg h0 hS
  obtain ⟨na, oa, ca, xs, rfl, hca, _, _, hxl⟩ := ha.open_
  obtain ⟨nb, ob, cb, ys, rfl, hcb, _, _, hyl⟩ := hb'.open_
  go_enter Tryd.func8, Tryd.ntmps8
  have hb := Below.refl w.heap.size w
  have hp := Bk.new w na (.slice oa xs.length ca)
  replace ha := ha.alloc (.cells #[.bool na, (.slice oa xs.length ca)] 24)
  replace hb' := hb'.alloc (.cells #[.bool na, (.slice oa xs.length ca)] 24)
  replace hb := hb.alloc hb.size (.cells #[.bool na, (.slice oa xs.length ca)] 24)
  have hq := Bk.new (w.alloc (.cells #[.bool na, (.slice oa xs.length ca)] 24)) nb (.slice ob ys.length cb)
  simp only [Bk.size_alloc] at hq
  replace ha := ha.alloc (.cells #[.bool nb, (.slice ob ys.length cb)] 24)
  replace hb' := hb'.alloc (.cells #[.bool nb, (.slice ob ys.length cb)] 24)
  replace hp := hp.alloc (.cells #[.bool nb, (.slice ob ys.length cb)] 24)
  replace hb := hb.alloc hb.size (.cells #[.bool nb, (.slice ob ys.length cb)] 24)
  have f_hp := hp.facts
  have f_hq := hq.facts
  go_wp2_with fail
  refine (zinv_any ha hb' (by decide) (by decide) H0.out HG.out).mono ?_
  rintro e w_1 ⟨v1, rfl, ⟨c, hxg, g1⟩, hb_1⟩
  replace ha := ha.below hb_1 (Nat.le_refl _)
  replace hb' := hb'.below hb_1 (Nat.le_refl _)
  replace hp := hp.below hb_1 (Nat.le_refl _)
  replace hq := hq.below hb_1 (Nat.le_refl _)
  replace hb := hb.trans (hb_1.mono hb.size)
  clear hb_1
  replace hxg := hide hxg
  replace g1 := g1.rd
  clear f_hp f_hq
  have LC := hide (show (dig c.natAbs).length ≤ 1048576 from len_le (hxg.out.le H0.out) Ly.out)
  have kb_h5 := hb.size
  have ne_hp_h5 : w.heap.size ≠ w_1.heap.size := by have := hp.lt; (try simp only [Bk.size_alloc] at this); omega
  have ne_hq_h5 : w.heap.size + 1 ≠ w_1.heap.size := by have := hq.lt; (try simp only [Bk.size_alloc] at this); omega
  have h5 := Bk.new w_1 false (.slice none 0 0)
  replace ha := ha.alloc (.cells #[.bool false, (.slice none 0 0)] 24)
  replace hb' := hb'.alloc (.cells #[.bool false, (.slice none 0 0)] 24)
  replace hp := hp.alloc (.cells #[.bool false, (.slice none 0 0)] 24)
  replace hq := hq.alloc (.cells #[.bool false, (.slice none 0 0)] 24)
  replace g1 := g1.alloc (.cells #[.bool false, (.slice none 0 0)] 24)
  replace hb := hb.alloc hb.size (.cells #[.bool false, (.slice none 0 0)] 24)
  obtain ⟨w_2, hw_2⟩ : ∃ v, (w_1.alloc (.cells #[.bool false, (.slice none 0 0)] 24)) = v := ⟨_, rfl⟩
  rw [hw_2] at ha hb' hp hq g1 h5 hb
  obtain ⟨sb_h5, o_h5, n_h5, c_h5, rfl⟩ := g1.open2
  have f_h5 := h5.facts
  have ho := Bk.only w_2 (w_1.heap.size) sb_h5 (.slice o_h5 n_h5 c_h5)
  have hbx_ := h5.bx
  replace ha := ha.frame hbx_ ho
  replace hb' := hb'.frame hbx_ ho
  replace hp := hp.frame ho (by first | assumption | (apply Ne.symm; assumption) | (simp; done) | omega)
  replace hq := hq.frame ho (by first | assumption | (apply Ne.symm; assumption) | (simp; done) | omega)
  replace g1 := g1.frame hbx_ ho
  replace h5 := h5.store sb_h5 (.slice o_h5 n_h5 c_h5)
  replace hb := (hb.setCell (p := ⟨w_1.heap.size, 0, none⟩) (show w.heap.size ≤ w_1.heap.size by first | assumption | (simp; done) | omega) (.bool sb_h5)).setCell (p := ⟨w_1.heap.size, 1, none⟩) (show w.heap.size ≤ w_1.heap.size by first | assumption | (simp; done) | omega) (.slice o_h5 n_h5 c_h5)
  clear ho hbx_
  obtain ⟨w_3, hw_3⟩ : ∃ v, ((w_2.setCell ⟨w_1.heap.size, 0, none⟩ (.bool sb_h5)).setCell ⟨w_1.heap.size, 1, none⟩ (.slice o_h5 n_h5 c_h5)) = v := ⟨_, rfl⟩
  rw [hw_3] at ha hb' hp hq g1 h5 hb
  go_wp2_with fail
  refine (zawake_any _ (htabs _ hb)).mono ?_
  rintro e w_4 ⟨rfl, hb_4⟩
  replace ha := ha.below hb_4 (Nat.le_refl _)
  replace hb' := hb'.below hb_4 (Nat.le_refl _)
  replace hp := hp.below hb_4 (Nat.le_refl _)
  replace hq := hq.below hb_4 (Nat.le_refl _)
  replace g1 := g1.below hb_4 (Nat.le_refl _)
  replace h5 := h5.below hb_4 (Nat.le_refl _)
  replace hb := hb.trans (hb_4.mono hb.size)
  clear hb_4
  clear f_h5
  have f_hq := hq.facts
  go_wp2_with fail
  refine (rzsign_any hb' (by decide)).mono ?_
  rintro e w_5 ⟨rfl, hb_5⟩
  replace ha := ha.below hb_5 (Nat.le_refl _)
  replace hb' := hb'.below hb_5 (Nat.le_refl _)
  replace hp := hp.below hb_5 (Nat.le_refl _)
  replace hq := hq.below hb_5 (Nat.le_refl _)
  replace g1 := g1.below hb_5 (Nat.le_refl _)
  replace h5 := h5.below hb_5 (Nat.le_refl _)
  replace hb := hb.trans (hb_5.mono hb.size)
  clear hb_5
  rw [HS.out]
  clear f_hq
  have f_hp := hp.facts
  have f_hq := hq.facts
  go_wp2_with fail
  refine (rxgcd_any ha hb' (by decide) (by decide) H0.out).mono ?_
  rintro e w_6 ⟨v4, v5, v6, rfl, ⟨c2, hxg2, k1, k2, k3⟩, hb_6⟩
  replace ha := ha.below hb_6 (Nat.le_refl _)
  replace hb' := hb'.below hb_6 (Nat.le_refl _)
  replace hp := hp.below hb_6 (Nat.le_refl _)
  replace hq := hq.below hb_6 (Nat.le_refl _)
  replace g1 := g1.below hb_6 (Nat.le_refl _)
  replace h5 := h5.below hb_6 (Nat.le_refl _)
  replace hb := hb.trans (hb_6.mono hb.size)
  clear hb_6
  obtain rfl := hxg.out.unique H0.out hxg2
  clear hxg2
  clear f_hp f_hq
  have kb_h7 := hb.size
  have ne_hp_h7 : w.heap.size ≠ w_6.heap.size := by have := hp.lt; (try simp only [Bk.size_alloc] at this); omega
  have ne_hq_h7 : w.heap.size + 1 ≠ w_6.heap.size := by have := hq.lt; (try simp only [Bk.size_alloc] at this); omega
  have ne_h5_h7 : w_1.heap.size ≠ w_6.heap.size := by have := h5.lt; (try simp only [Bk.size_alloc] at this); omega
  have h7 := Bk.new w_6 false (.slice none 0 0)
  replace ha := ha.alloc (.cells #[.bool false, (.slice none 0 0)] 24)
  replace hb' := hb'.alloc (.cells #[.bool false, (.slice none 0 0)] 24)
  replace hp := hp.alloc (.cells #[.bool false, (.slice none 0 0)] 24)
  replace hq := hq.alloc (.cells #[.bool false, (.slice none 0 0)] 24)
  replace g1 := g1.alloc (.cells #[.bool false, (.slice none 0 0)] 24)
  replace h5 := h5.alloc (.cells #[.bool false, (.slice none 0 0)] 24)
  replace k1 := k1.alloc (.cells #[.bool false, (.slice none 0 0)] 24)
  replace k2 := k2.alloc (.cells #[.bool false, (.slice none 0 0)] 24)
  replace k3 := k3.alloc (.cells #[.bool false, (.slice none 0 0)] 24)
  replace hb := hb.alloc hb.size (.cells #[.bool false, (.slice none 0 0)] 24)
  obtain ⟨w_7, hw_7⟩ : ∃ v, (w_6.alloc (.cells #[.bool false, (.slice none 0 0)] 24)) = v := ⟨_, rfl⟩
  rw [hw_7] at ha hb' hp hq g1 h5 k1 k2 k3 h7 hb
  have kb_h8 := hb.size
  have ne_hp_h8 : w.heap.size ≠ w_7.heap.size := by have := hp.lt; (try simp only [Bk.size_alloc] at this); omega
  have ne_hq_h8 : w.heap.size + 1 ≠ w_7.heap.size := by have := hq.lt; (try simp only [Bk.size_alloc] at this); omega
  have ne_h5_h8 : w_1.heap.size ≠ w_7.heap.size := by have := h5.lt; (try simp only [Bk.size_alloc] at this); omega
  have ne_h7_h8 : w_6.heap.size ≠ w_7.heap.size := by have := h7.lt; (try simp only [Bk.size_alloc] at this); omega
  have h8 := Bk.new w_7 false (.slice none 0 0)
  replace ha := ha.alloc (.cells #[.bool false, (.slice none 0 0)] 24)
  replace hb' := hb'.alloc (.cells #[.bool false, (.slice none 0 0)] 24)
  replace hp := hp.alloc (.cells #[.bool false, (.slice none 0 0)] 24)
  replace hq := hq.alloc (.cells #[.bool false, (.slice none 0 0)] 24)
  replace g1 := g1.alloc (.cells #[.bool false, (.slice none 0 0)] 24)
  replace h5 := h5.alloc (.cells #[.bool false, (.slice none 0 0)] 24)
  replace k1 := k1.alloc (.cells #[.bool false, (.slice none 0 0)] 24)
  replace k2 := k2.alloc (.cells #[.bool false, (.slice none 0 0)] 24)
  replace k3 := k3.alloc (.cells #[.bool false, (.slice none 0 0)] 24)
  replace h7 := h7.alloc (.cells #[.bool false, (.slice none 0 0)] 24)
  replace hb := hb.alloc hb.size (.cells #[.bool false, (.slice none 0 0)] 24)
  obtain ⟨w_8, hw_8⟩ : ∃ v, (w_7.alloc (.cells #[.bool false, (.slice none 0 0)] 24)) = v := ⟨_, rfl⟩
  rw [hw_8] at ha hb' hp hq g1 h5 k1 k2 k3 h7 h8 hb
  have kb_h9 := hb.size
  have ne_hp_h9 : w.heap.size ≠ w_8.heap.size := by have := hp.lt; (try simp only [Bk.size_alloc] at this); omega
  have ne_hq_h9 : w.heap.size + 1 ≠ w_8.heap.size := by have := hq.lt; (try simp only [Bk.size_alloc] at this); omega
  have ne_h5_h9 : w_1.heap.size ≠ w_8.heap.size := by have := h5.lt; (try simp only [Bk.size_alloc] at this); omega
  have ne_h7_h9 : w_6.heap.size ≠ w_8.heap.size := by have := h7.lt; (try simp only [Bk.size_alloc] at this); omega
  have ne_h8_h9 : w_7.heap.size ≠ w_8.heap.size := by have := h8.lt; (try simp only [Bk.size_alloc] at this); omega
  have h9 := Bk.new w_8 false (.slice none 0 0)
  replace ha := ha.alloc (.cells #[.bool false, (.slice none 0 0)] 24)
  replace hb' := hb'.alloc (.cells #[.bool false, (.slice none 0 0)] 24)
  replace hp := hp.alloc (.cells #[.bool false, (.slice none 0 0)] 24)
  replace hq := hq.alloc (.cells #[.bool false, (.slice none 0 0)] 24)
  replace g1 := g1.alloc (.cells #[.bool false, (.slice none 0 0)] 24)
  replace h5 := h5.alloc (.cells #[.bool false, (.slice none 0 0)] 24)
  replace k1 := k1.alloc (.cells #[.bool false, (.slice none 0 0)] 24)
  replace k2 := k2.alloc (.cells #[.bool false, (.slice none 0 0)] 24)
  replace k3 := k3.alloc (.cells #[.bool false, (.slice none 0 0)] 24)
  replace h7 := h7.alloc (.cells #[.bool false, (.slice none 0 0)] 24)
  replace h8 := h8.alloc (.cells #[.bool false, (.slice none 0 0)] 24)
  replace hb := hb.alloc hb.size (.cells #[.bool false, (.slice none 0 0)] 24)
  obtain ⟨w_9, hw_9⟩ : ∃ v, (w_8.alloc (.cells #[.bool false, (.slice none 0 0)] 24)) = v := ⟨_, rfl⟩
  rw [hw_9] at ha hb' hp hq g1 h5 k1 k2 k3 h7 h8 h9 hb
  obtain ⟨sb_h7, o_h7, n_h7, c_h7, rfl⟩ := k1.open2
  have f_h7 := h7.facts
  have ho := Bk.only w_9 (w_6.heap.size) sb_h7 (.slice o_h7 n_h7 c_h7)
  have hbx_ := h7.bx
  replace ha := ha.frame hbx_ ho
  replace hb' := hb'.frame hbx_ ho
  replace hp := hp.frame ho (by first | assumption | (apply Ne.symm; assumption) | (simp; done) | omega)
  replace hq := hq.frame ho (by first | assumption | (apply Ne.symm; assumption) | (simp; done) | omega)
  replace g1 := g1.frame hbx_ ho
  replace h5 := h5.frame ho (by first | assumption | (apply Ne.symm; assumption) | (simp; done) | omega)
  replace k1 := k1.frame hbx_ ho
  replace k2 := k2.frame hbx_ ho
  replace k3 := k3.frame hbx_ ho
  replace h8 := h8.frame ho (by first | assumption | (apply Ne.symm; assumption) | (simp; done) | omega)
  replace h9 := h9.frame ho (by first | assumption | (apply Ne.symm; assumption) | (simp; done) | omega)
  replace h7 := h7.store sb_h7 (.slice o_h7 n_h7 c_h7)
  replace hb := (hb.setCell (p := ⟨w_6.heap.size, 0, none⟩) (show w.heap.size ≤ w_6.heap.size by first | assumption | (simp; done) | omega) (.bool sb_h7)).setCell (p := ⟨w_6.heap.size, 1, none⟩) (show w.heap.size ≤ w_6.heap.size by first | assumption | (simp; done) | omega) (.slice o_h7 n_h7 c_h7)
  clear ho hbx_
  obtain ⟨w_10, hw_10⟩ : ∃ v, ((w_9.setCell ⟨w_6.heap.size, 0, none⟩ (.bool sb_h7)).setCell ⟨w_6.heap.size, 1, none⟩ (.slice o_h7 n_h7 c_h7)) = v := ⟨_, rfl⟩
  rw [hw_10] at ha hb' hp hq g1 h5 k1 k2 k3 h7 h8 h9 hb
  obtain ⟨sb_h8, o_h8, n_h8, c_h8, rfl⟩ := k2.open2
  have f_h8 := h8.facts
  have ho := Bk.only w_10 (w_7.heap.size) sb_h8 (.slice o_h8 n_h8 c_h8)
  have hbx_ := h8.bx
  replace ha := ha.frame hbx_ ho
  replace hb' := hb'.frame hbx_ ho
  replace hp := hp.frame ho (by first | assumption | (apply Ne.symm; assumption) | (simp; done) | omega)
  replace hq := hq.frame ho (by first | assumption | (apply Ne.symm; assumption) | (simp; done) | omega)
  replace g1 := g1.frame hbx_ ho
  replace h5 := h5.frame ho (by first | assumption | (apply Ne.symm; assumption) | (simp; done) | omega)
  replace k1 := k1.frame hbx_ ho
  replace k2 := k2.frame hbx_ ho
  replace k3 := k3.frame hbx_ ho
  replace h7 := h7.frame ho (by first | assumption | (apply Ne.symm; assumption) | (simp; done) | omega)
  replace h9 := h9.frame ho (by first | assumption | (apply Ne.symm; assumption) | (simp; done) | omega)
  replace h8 := h8.store sb_h8 (.slice o_h8 n_h8 c_h8)
  replace hb := (hb.setCell (p := ⟨w_7.heap.size, 0, none⟩) (show w.heap.size ≤ w_7.heap.size by first | assumption | (simp; done) | omega) (.bool sb_h8)).setCell (p := ⟨w_7.heap.size, 1, none⟩) (show w.heap.size ≤ w_7.heap.size by first | assumption | (simp; done) | omega) (.slice o_h8 n_h8 c_h8)
  clear ho hbx_
  obtain ⟨w_11, hw_11⟩ : ∃ v, ((w_10.setCell ⟨w_7.heap.size, 0, none⟩ (.bool sb_h8)).setCell ⟨w_7.heap.size, 1, none⟩ (.slice o_h8 n_h8 c_h8)) = v := ⟨_, rfl⟩
  rw [hw_11] at ha hb' hp hq g1 h5 k1 k2 k3 h7 h8 h9 hb
  obtain ⟨sb_h9, o_h9, n_h9, c_h9, rfl⟩ := k3.open2
  have f_h9 := h9.facts
  have ho := Bk.only w_11 (w_8.heap.size) sb_h9 (.slice o_h9 n_h9 c_h9)
  have hbx_ := h9.bx
  replace ha := ha.frame hbx_ ho
  replace hb' := hb'.frame hbx_ ho
  replace hp := hp.frame ho (by first | assumption | (apply Ne.symm; assumption) | (simp; done) | omega)
  replace hq := hq.frame ho (by first | assumption | (apply Ne.symm; assumption) | (simp; done) | omega)
  replace g1 := g1.frame hbx_ ho
  replace h5 := h5.frame ho (by first | assumption | (apply Ne.symm; assumption) | (simp; done) | omega)
  replace k1 := k1.frame hbx_ ho
  replace k2 := k2.frame hbx_ ho
  replace k3 := k3.frame hbx_ ho
  replace h7 := h7.frame ho (by first | assumption | (apply Ne.symm; assumption) | (simp; done) | omega)
  replace h8 := h8.frame ho (by first | assumption | (apply Ne.symm; assumption) | (simp; done) | omega)
  replace h9 := h9.store sb_h9 (.slice o_h9 n_h9 c_h9)
  replace hb := (hb.setCell (p := ⟨w_8.heap.size, 0, none⟩) (show w.heap.size ≤ w_8.heap.size by first | assumption | (simp; done) | omega) (.bool sb_h9)).setCell (p := ⟨w_8.heap.size, 1, none⟩) (show w.heap.size ≤ w_8.heap.size by first | assumption | (simp; done) | omega) (.slice o_h9 n_h9 c_h9)
  clear ho hbx_
  obtain ⟨w_12, hw_12⟩ : ∃ v, ((w_11.setCell ⟨w_8.heap.size, 0, none⟩ (.bool sb_h9)).setCell ⟨w_8.heap.size, 1, none⟩ (.slice o_h9 n_h9 c_h9)) = v := ⟨_, rfl⟩
  rw [hw_12] at ha hb' hp hq g1 h5 k1 k2 k3 h7 h8 h9 hb
  replace ha := ha.drew
  replace hb' := hb'.drew
  replace hp := hp.drew
  replace hq := hq.drew
  replace g1 := g1.drew
  replace h5 := h5.drew
  replace k1 := k1.drew
  replace k2 := k2.drew
  replace k3 := k3.drew
  replace h7 := h7.drew
  replace h8 := h8.drew
  replace h9 := h9.drew
  replace hb := hb.drew
  go_wp2_with fail
  refine wp_region_pl [(0, false), (1, true), (2, true), (3, false)] (fun w' => w'.cell? ⟨w.heap.size, 0, none⟩ = some (.bool na) ∧ w'.cell? ⟨w.heap.size, 1, none⟩ = some (.slice oa xs.length ca) ∧ w'.cell? ⟨w.heap.size + 1, 0, none⟩ = some (.bool nb) ∧ w'.cell? ⟨w.heap.size + 1, 1, none⟩ = some (.slice ob ys.length cb) ∧ w'.cell? ⟨w_1.heap.size, 0, none⟩ = some (.bool sb_h5) ∧ w'.cell? ⟨w_1.heap.size, 1, none⟩ = some (.slice o_h5 n_h5 c_h5) ∧ w'.cell? ⟨w_6.heap.size, 0, none⟩ = some (.bool sb_h7) ∧ w'.cell? ⟨w_6.heap.size, 1, none⟩ = some (.slice o_h7 n_h7 c_h7) ∧ w'.cell? ⟨w_7.heap.size, 0, none⟩ = some (.bool sb_h8) ∧ w'.cell? ⟨w_7.heap.size, 1, none⟩ = some (.slice o_h8 n_h8 c_h8) ∧ w'.cell? ⟨w_8.heap.size, 0, none⟩ = some (.bool sb_h9) ∧ w'.cell? ⟨w_8.heap.size, 1, none⟩ = some (.slice o_h9 n_h9 c_h9)) (by kernel_rfl) (by kernel_rfl) (by kernel_rfl) (by kernel_rfl) ⟨hp.facts.1, hp.facts.2.1, hq.facts.1, hq.facts.2.1, h5.facts.1, h5.facts.2.1, h7.facts.1, h7.facts.2.1, h8.facts.1, h8.facts.2.1, h9.facts.1, h9.facts.2.1⟩ ?_
  clear f_h7 f_h8 f_h9
  apply wpPl_ld
  case hi => rfl
  case h1 => intro w' hC K hK; obtain ⟨c0, c1, c2, c3, c4, c5, c6, c7, c8, c9, c10, c11⟩ := hC; (first | go_big_move | go_big_op); exact hK
  case hw => kernel_rfl
  case hv => kernel_rfl
  case hb => kernel_rfl
  case hp => kernel_rfl
  apply wpPl_call
  case hi => rfl
  case hw => kernel_rfl
  case h =>
  intro K hK
  have kb_13 := hb.size
  go_big_op
  go_fit (ri_any 1 _ (by decide) (by decide))
  rintro e w_13 ⟨v7, rfl, k7, hb_13⟩
  replace ha := ha.below hb_13 (Nat.le_refl _)
  replace hb' := hb'.below hb_13 (Nat.le_refl _)
  replace hp := hp.below hb_13 (Nat.le_refl _)
  replace hq := hq.below hb_13 (Nat.le_refl _)
  replace g1 := g1.below hb_13 (Nat.le_refl _)
  replace h5 := h5.below hb_13 (Nat.le_refl _)
  replace k1 := k1.below hb_13 (Nat.le_refl _)
  replace k2 := k2.below hb_13 (Nat.le_refl _)
  replace k3 := k3.below hb_13 (Nat.le_refl _)
  replace h7 := h7.below hb_13 (Nat.le_refl _)
  replace h8 := h8.below hb_13 (Nat.le_refl _)
  replace h9 := h9.below hb_13 (Nat.le_refl _)
  replace hb := hb.trans (hb_13.mono hb.size)
  refine hK _ _ rfl ⟨hp.facts.1, hp.facts.2.1, hq.facts.1, hq.facts.2.1, h5.facts.1, h5.facts.2.1, h7.facts.1, h7.facts.2.1, h8.facts.1, h8.facts.2.1, h9.facts.1, h9.facts.2.1⟩ ?_
  clear hK K hb_13
  replace k7 := k7.rd
  apply wpPl_call
  case hi => rfl
  case hw => kernel_rfl
  case h =>
  intro K hK
  have kb_14 := hb.size
  go_big_op
  go_fit (rzcmp_any (k1.zn LG.out) (k7.zn L1.out) (by decide) (by decide))
  rintro e w_14 ⟨rfl, hb_14⟩
  replace ha := ha.below hb_14 (Nat.le_refl _)
  replace hb' := hb'.below hb_14 (Nat.le_refl _)
  replace hp := hp.below hb_14 (Nat.le_refl _)
  replace hq := hq.below hb_14 (Nat.le_refl _)
  replace g1 := g1.below hb_14 (Nat.le_refl _)
  replace h5 := h5.below hb_14 (Nat.le_refl _)
  replace k1 := k1.below hb_14 (Nat.le_refl _)
  replace k2 := k2.below hb_14 (Nat.le_refl _)
  replace k3 := k3.below hb_14 (Nat.le_refl _)
  replace h7 := h7.below hb_14 (Nat.le_refl _)
  replace h8 := h8.below hb_14 (Nat.le_refl _)
  replace h9 := h9.below hb_14 (Nat.le_refl _)
  replace k7 := k7.below hb_14 (Nat.le_refl _)
  replace hb := hb.trans (hb_14.mono hb.size)
  refine hK _ _ rfl ⟨hp.facts.1, hp.facts.2.1, hq.facts.1, hq.facts.2.1, h5.facts.1, h5.facts.2.1, h7.facts.1, h7.facts.2.1, h8.facts.1, h8.facts.2.1, h9.facts.1, h9.facts.2.1⟩ ?_
  clear hK K hb_14
  rw [HD.out]
  clear k7
  apply wpPl_ld
  case hi => rfl
  case h1 => intro w' hC K hK; obtain ⟨c0, c1, c2, c3, c4, c5, c6, c7, c8, c9, c10, c11⟩ := hC; (first | go_big_move | go_big_op); exact hK
  case hw => kernel_rfl
  case hv => kernel_rfl
  case hb => kernel_rfl
  case hp => kernel_rfl
  apply wpPl_end
  have f_h5 := h5.facts
  have f_h8 := h8.facts
  go_wp2_with fail
  refine (is_zz g1 (k2.zn LC.out) (by decide)).mono ?_
  rintro e w_15 ⟨rfl, hb_15⟩
  replace ha := ha.below hb_15 (Nat.le_refl _)
  replace hb' := hb'.below hb_15 (Nat.le_refl _)
  replace hp := hp.below hb_15 (Nat.le_refl _)
  replace hq := hq.below hb_15 (Nat.le_refl _)
  replace g1 := g1.below hb_15 (Nat.le_refl _)
  replace h5 := h5.below hb_15 (Nat.le_refl _)
  replace k1 := k1.below hb_15 (Nat.le_refl _)
  replace k2 := k2.below hb_15 (Nat.le_refl _)
  replace k3 := k3.below hb_15 (Nat.le_refl _)
  replace h7 := h7.below hb_15 (Nat.le_refl _)
  replace h8 := h8.below hb_15 (Nat.le_refl _)
  replace h9 := h9.below hb_15 (Nat.le_refl _)
  replace hb := hb.trans (hb_15.mono hb.size)
  clear hb_15
  clear f_h5 f_h8
  go_wp2
  go_ret
  exact ⟨rfl, hb⟩

theorem walk_ZintInverses (w : World) (na : Bool) (sa : Value) (xs : List Nat) (hx : Rd w sa xs) (hxl : xs.length ≤ 1048576) (nb : Bool) (sb : Value) (ys : List Nat) (hy : Rd w sb ys) (hyl : ys.length ≤ 1048576) (htab : Lib.TabIs Tryd.prog w p10 .u64 Lib.pow10Tab) :
    Calls Tryd.prog 8 #[.agg #[.bool na, sa], .agg #[.bool nb, sb]] w fun e w' => e = .returned (.bool true) ∧ Below w.heap.size w w' := by
  have ha : ZN w (.agg #[.bool na, sa]) (zv na xs) 1048576 := ⟨na, sa, xs, rfl, hx, rfl, hxl⟩
  have hb : ZN w (.agg #[.bool nb, sb]) (zv nb ys) 1048576 := ⟨nb, sb, ys, rfl, hy, rfl, hyl⟩
  by_cases h0 : zv nb ys = 0
  · rw [h0] at hb; exact inv_zero ha hb htab
  · by_cases hg : Int.gcd (zv na xs) (zv nb ys) = 1
    · exact inv_some ha hb h0 hg htab
    · exact inv_none ha hb h0 hg htab
end Go.Proofs.YtabmffenbkdgkaaDoor
