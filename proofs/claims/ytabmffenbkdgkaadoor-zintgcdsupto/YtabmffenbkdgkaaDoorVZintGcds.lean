/- ZintGcds: the law's walk. -/
import Derived.Test.YtabmffenbkdgkaaDoorZ12
import Derived.Test.YtabmffenbkdgkaaDoorY10
namespace Go.Proofs.YtabmffenbkdgkaaDoor
open Go.RowKit Dig

set_option maxHeartbeats 8000000 in
set_option maxRecDepth 20000 in
theorem gcds_zero {w : World} {va vb : Value} {x : Int} (ha : ZN w va x 1048576) (hb' : ZN w vb 0 1048576) (htab : Lib.TabIs Tryd.prog w p10 .u64 Lib.pow10Tab) :
    Calls Tryd.prog 7 #[va, vb] w fun e w' => e = .returned (.bool true) ∧ Below w.heap.size w w' := by
  have htabs := Lib.tabBelow_of_tabIs htab
  have Lx := hide ha.len
  have Ly := hide hb'.len
  have LC := hide (show (dig (x.sign).natAbs).length ≤ 2 from sign_len x)
  have LD := hide (show (dig (0 : Int).natAbs).length ≤ 2 from zlen_i 0 (by decide) (by decide))
  have LG := hide (show (dig ((x.natAbs : Int)).natAbs).length ≤ 1048576 from Lx.out)
  have EG := hide (show ((Int.gcd x 0 : Nat) : Int) = (x.natAbs : Int) by rw [Int.gcd_zero_right])
  obtain ⟨na, oa, ca, xs, rfl, hca, _, _, hxl⟩ := ha.open_
  obtain ⟨nb, ob, cb, ys, rfl, hcb, _, _, hyl⟩ := hb'.open_
  go_enter Tryd.func7, Tryd.ntmps7
  have hb := Below.refl w.heap.size w
  have hp := Bk.new w na (.slice oa xs.length ca)
  replace ha := ha.alloc (.cells #[.bool na, (.slice oa xs.length ca)] 24)
  replace hb' := hb'.alloc (.cells #[.bool na, (.slice oa xs.length ca)] 24)
  replace hb := hb.alloc hb.size (.cells #[.bool na, (.slice oa xs.length ca)] 24)
  have hq := Bk.new (w.alloc (.cells #[.bool na, (.slice oa xs.length ca)] 24)) nb (.slice ob ys.length cb)
  simp only [Bk.size_alloc] at hq
  replace ha := ha.alloc (.cells #[.bool nb, (.slice ob ys.length cb)] 24)
  replace hb' := hb'.alloc (.cells #[.bool nb, (.slice ob ys.length cb)] 24)
  replace hp := hp.alloc (.cells #[.bool nb, (.slice ob ys.length cb)] 24)
  replace hb := hb.alloc hb.size (.cells #[.bool nb, (.slice ob ys.length cb)] 24)
  have f_hp := hp.facts
  have f_hq := hq.facts
  go_wp2_with fail
  refine (xgcd_zero ha hb' (by decide) (by decide)).mono ?_
  rintro e w_1 ⟨v1, v2, v3, rfl, g1, g2, g3, hb_1⟩
  replace ha := ha.below hb_1 (Nat.le_refl _)
  replace hb' := hb'.below hb_1 (Nat.le_refl _)
  replace hp := hp.below hb_1 (Nat.le_refl _)
  replace hq := hq.below hb_1 (Nat.le_refl _)
  replace hb := hb.trans (hb_1.mono hb.size)
  clear hb_1
  replace g1 := g1.rd
  replace g2 := g2.rd
  replace g3 := g3.rd
  clear f_hp f_hq
  have kb_h5 := hb.size
  have ne_hp_h5 : w.heap.size ≠ w_1.heap.size := by have := hp.lt; (try simp only [Bk.size_alloc] at this); omega
  have ne_hq_h5 : w.heap.size + 1 ≠ w_1.heap.size := by have := hq.lt; (try simp only [Bk.size_alloc] at this); omega
  have h5 := Bk.new w_1 false (.slice none 0 0)
  replace ha := ha.alloc (.cells #[.bool false, (.slice none 0 0)] 24)
  replace hb' := hb'.alloc (.cells #[.bool false, (.slice none 0 0)] 24)
  replace hp := hp.alloc (.cells #[.bool false, (.slice none 0 0)] 24)
  replace hq := hq.alloc (.cells #[.bool false, (.slice none 0 0)] 24)
  replace g1 := g1.alloc (.cells #[.bool false, (.slice none 0 0)] 24)
  replace g2 := g2.alloc (.cells #[.bool false, (.slice none 0 0)] 24)
  replace g3 := g3.alloc (.cells #[.bool false, (.slice none 0 0)] 24)
  replace hb := hb.alloc hb.size (.cells #[.bool false, (.slice none 0 0)] 24)
  obtain ⟨w_2, hw_2⟩ : ∃ v, (w_1.alloc (.cells #[.bool false, (.slice none 0 0)] 24)) = v := ⟨_, rfl⟩
  rw [hw_2] at ha hb' hp hq g1 g2 g3 h5 hb
  have kb_h6 := hb.size
  have ne_hp_h6 : w.heap.size ≠ w_2.heap.size := by have := hp.lt; (try simp only [Bk.size_alloc] at this); omega
  have ne_hq_h6 : w.heap.size + 1 ≠ w_2.heap.size := by have := hq.lt; (try simp only [Bk.size_alloc] at this); omega
  have ne_h5_h6 : w_1.heap.size ≠ w_2.heap.size := by have := h5.lt; (try simp only [Bk.size_alloc] at this); omega
  have h6 := Bk.new w_2 false (.slice none 0 0)
  replace ha := ha.alloc (.cells #[.bool false, (.slice none 0 0)] 24)
  replace hb' := hb'.alloc (.cells #[.bool false, (.slice none 0 0)] 24)
  replace hp := hp.alloc (.cells #[.bool false, (.slice none 0 0)] 24)
  replace hq := hq.alloc (.cells #[.bool false, (.slice none 0 0)] 24)
  replace g1 := g1.alloc (.cells #[.bool false, (.slice none 0 0)] 24)
  replace g2 := g2.alloc (.cells #[.bool false, (.slice none 0 0)] 24)
  replace g3 := g3.alloc (.cells #[.bool false, (.slice none 0 0)] 24)
  replace h5 := h5.alloc (.cells #[.bool false, (.slice none 0 0)] 24)
  replace hb := hb.alloc hb.size (.cells #[.bool false, (.slice none 0 0)] 24)
  obtain ⟨w_3, hw_3⟩ : ∃ v, (w_2.alloc (.cells #[.bool false, (.slice none 0 0)] 24)) = v := ⟨_, rfl⟩
  rw [hw_3] at ha hb' hp hq g1 g2 g3 h5 h6 hb
  have kb_h7 := hb.size
  have ne_hp_h7 : w.heap.size ≠ w_3.heap.size := by have := hp.lt; (try simp only [Bk.size_alloc] at this); omega
  have ne_hq_h7 : w.heap.size + 1 ≠ w_3.heap.size := by have := hq.lt; (try simp only [Bk.size_alloc] at this); omega
  have ne_h5_h7 : w_1.heap.size ≠ w_3.heap.size := by have := h5.lt; (try simp only [Bk.size_alloc] at this); omega
  have ne_h6_h7 : w_2.heap.size ≠ w_3.heap.size := by have := h6.lt; (try simp only [Bk.size_alloc] at this); omega
  have h7 := Bk.new w_3 false (.slice none 0 0)
  replace ha := ha.alloc (.cells #[.bool false, (.slice none 0 0)] 24)
  replace hb' := hb'.alloc (.cells #[.bool false, (.slice none 0 0)] 24)
  replace hp := hp.alloc (.cells #[.bool false, (.slice none 0 0)] 24)
  replace hq := hq.alloc (.cells #[.bool false, (.slice none 0 0)] 24)
  replace g1 := g1.alloc (.cells #[.bool false, (.slice none 0 0)] 24)
  replace g2 := g2.alloc (.cells #[.bool false, (.slice none 0 0)] 24)
  replace g3 := g3.alloc (.cells #[.bool false, (.slice none 0 0)] 24)
  replace h5 := h5.alloc (.cells #[.bool false, (.slice none 0 0)] 24)
  replace h6 := h6.alloc (.cells #[.bool false, (.slice none 0 0)] 24)
  replace hb := hb.alloc hb.size (.cells #[.bool false, (.slice none 0 0)] 24)
  obtain ⟨w_4, hw_4⟩ : ∃ v, (w_3.alloc (.cells #[.bool false, (.slice none 0 0)] 24)) = v := ⟨_, rfl⟩
  rw [hw_4] at ha hb' hp hq g1 g2 g3 h5 h6 h7 hb
  obtain ⟨sb_h5, o_h5, n_h5, c_h5, rfl⟩ := g1.open2
  have f_h5 := h5.facts
  have ho := Bk.only w_4 (w_1.heap.size) sb_h5 (.slice o_h5 n_h5 c_h5)
  have hbx_ := h5.bx
  replace ha := ha.frame hbx_ ho
  replace hb' := hb'.frame hbx_ ho
  replace hp := hp.frame ho (by first | assumption | (apply Ne.symm; assumption) | (simp; done) | omega)
  replace hq := hq.frame ho (by first | assumption | (apply Ne.symm; assumption) | (simp; done) | omega)
  replace g1 := g1.frame hbx_ ho
  replace g2 := g2.frame hbx_ ho
  replace g3 := g3.frame hbx_ ho
  replace h6 := h6.frame ho (by first | assumption | (apply Ne.symm; assumption) | (simp; done) | omega)
  replace h7 := h7.frame ho (by first | assumption | (apply Ne.symm; assumption) | (simp; done) | omega)
  replace h5 := h5.store sb_h5 (.slice o_h5 n_h5 c_h5)
  replace hb := (hb.setCell (p := ⟨w_1.heap.size, 0, none⟩) (show w.heap.size ≤ w_1.heap.size by first | assumption | (simp; done) | omega) (.bool sb_h5)).setCell (p := ⟨w_1.heap.size, 1, none⟩) (show w.heap.size ≤ w_1.heap.size by first | assumption | (simp; done) | omega) (.slice o_h5 n_h5 c_h5)
  clear ho hbx_
  obtain ⟨w_5, hw_5⟩ : ∃ v, ((w_4.setCell ⟨w_1.heap.size, 0, none⟩ (.bool sb_h5)).setCell ⟨w_1.heap.size, 1, none⟩ (.slice o_h5 n_h5 c_h5)) = v := ⟨_, rfl⟩
  rw [hw_5] at ha hb' hp hq g1 g2 g3 h5 h6 h7 hb
  obtain ⟨sb_h6, o_h6, n_h6, c_h6, rfl⟩ := g2.open2
  have f_h6 := h6.facts
  have ho := Bk.only w_5 (w_2.heap.size) sb_h6 (.slice o_h6 n_h6 c_h6)
  have hbx_ := h6.bx
  replace ha := ha.frame hbx_ ho
  replace hb' := hb'.frame hbx_ ho
  replace hp := hp.frame ho (by first | assumption | (apply Ne.symm; assumption) | (simp; done) | omega)
  replace hq := hq.frame ho (by first | assumption | (apply Ne.symm; assumption) | (simp; done) | omega)
  replace g1 := g1.frame hbx_ ho
  replace g2 := g2.frame hbx_ ho
  replace g3 := g3.frame hbx_ ho
  replace h5 := h5.frame ho (by first | assumption | (apply Ne.symm; assumption) | (simp; done) | omega)
  replace h7 := h7.frame ho (by first | assumption | (apply Ne.symm; assumption) | (simp; done) | omega)
  replace h6 := h6.store sb_h6 (.slice o_h6 n_h6 c_h6)
  replace hb := (hb.setCell (p := ⟨w_2.heap.size, 0, none⟩) (show w.heap.size ≤ w_2.heap.size by first | assumption | (simp; done) | omega) (.bool sb_h6)).setCell (p := ⟨w_2.heap.size, 1, none⟩) (show w.heap.size ≤ w_2.heap.size by first | assumption | (simp; done) | omega) (.slice o_h6 n_h6 c_h6)
  clear ho hbx_
  obtain ⟨w_6, hw_6⟩ : ∃ v, ((w_5.setCell ⟨w_2.heap.size, 0, none⟩ (.bool sb_h6)).setCell ⟨w_2.heap.size, 1, none⟩ (.slice o_h6 n_h6 c_h6)) = v := ⟨_, rfl⟩
  rw [hw_6] at ha hb' hp hq g1 g2 g3 h5 h6 h7 hb
  obtain ⟨sb_h7, o_h7, n_h7, c_h7, rfl⟩ := g3.open2
  have f_h7 := h7.facts
  have ho := Bk.only w_6 (w_3.heap.size) sb_h7 (.slice o_h7 n_h7 c_h7)
  have hbx_ := h7.bx
  replace ha := ha.frame hbx_ ho
  replace hb' := hb'.frame hbx_ ho
  replace hp := hp.frame ho (by first | assumption | (apply Ne.symm; assumption) | (simp; done) | omega)
  replace hq := hq.frame ho (by first | assumption | (apply Ne.symm; assumption) | (simp; done) | omega)
  replace g1 := g1.frame hbx_ ho
  replace g2 := g2.frame hbx_ ho
  replace g3 := g3.frame hbx_ ho
  replace h5 := h5.frame ho (by first | assumption | (apply Ne.symm; assumption) | (simp; done) | omega)
  replace h6 := h6.frame ho (by first | assumption | (apply Ne.symm; assumption) | (simp; done) | omega)
  replace h7 := h7.store sb_h7 (.slice o_h7 n_h7 c_h7)
  replace hb := (hb.setCell (p := ⟨w_3.heap.size, 0, none⟩) (show w.heap.size ≤ w_3.heap.size by first | assumption | (simp; done) | omega) (.bool sb_h7)).setCell (p := ⟨w_3.heap.size, 1, none⟩) (show w.heap.size ≤ w_3.heap.size by first | assumption | (simp; done) | omega) (.slice o_h7 n_h7 c_h7)
  clear ho hbx_
  obtain ⟨w_7, hw_7⟩ : ∃ v, ((w_6.setCell ⟨w_3.heap.size, 0, none⟩ (.bool sb_h7)).setCell ⟨w_3.heap.size, 1, none⟩ (.slice o_h7 n_h7 c_h7)) = v := ⟨_, rfl⟩
  rw [hw_7] at ha hb' hp hq g1 g2 g3 h5 h6 h7 hb
  have f_hp := hp.facts
  have f_hq := hq.facts
  go_wp2_with fail
  refine (rxgcd_zero ha hb' (by decide) (by decide)).mono ?_
  rintro e w_8 ⟨v4, v5, v6, rfl, ⟨k1, k2, k3⟩, hb_8⟩
  replace ha := ha.below hb_8 (Nat.le_refl _)
  replace hb' := hb'.below hb_8 (Nat.le_refl _)
  replace hp := hp.below hb_8 (Nat.le_refl _)
  replace hq := hq.below hb_8 (Nat.le_refl _)
  replace g1 := g1.below hb_8 (Nat.le_refl _)
  replace g2 := g2.below hb_8 (Nat.le_refl _)
  replace g3 := g3.below hb_8 (Nat.le_refl _)
  replace h5 := h5.below hb_8 (Nat.le_refl _)
  replace h6 := h6.below hb_8 (Nat.le_refl _)
  replace h7 := h7.below hb_8 (Nat.le_refl _)
  replace hb := hb.trans (hb_8.mono hb.size)
  clear hb_8
  clear f_hp f_hq f_h5 f_h6 f_h7
  have kb_h8 := hb.size
  have ne_hp_h8 : w.heap.size ≠ w_8.heap.size := by have := hp.lt; (try simp only [Bk.size_alloc] at this); omega
  have ne_hq_h8 : w.heap.size + 1 ≠ w_8.heap.size := by have := hq.lt; (try simp only [Bk.size_alloc] at this); omega
  have ne_h5_h8 : w_1.heap.size ≠ w_8.heap.size := by have := h5.lt; (try simp only [Bk.size_alloc] at this); omega
  have ne_h6_h8 : w_2.heap.size ≠ w_8.heap.size := by have := h6.lt; (try simp only [Bk.size_alloc] at this); omega
  have ne_h7_h8 : w_3.heap.size ≠ w_8.heap.size := by have := h7.lt; (try simp only [Bk.size_alloc] at this); omega
  have h8 := Bk.new w_8 false (.slice none 0 0)
  replace ha := ha.alloc (.cells #[.bool false, (.slice none 0 0)] 24)
  replace hb' := hb'.alloc (.cells #[.bool false, (.slice none 0 0)] 24)
  replace hp := hp.alloc (.cells #[.bool false, (.slice none 0 0)] 24)
  replace hq := hq.alloc (.cells #[.bool false, (.slice none 0 0)] 24)
  replace g1 := g1.alloc (.cells #[.bool false, (.slice none 0 0)] 24)
  replace g2 := g2.alloc (.cells #[.bool false, (.slice none 0 0)] 24)
  replace g3 := g3.alloc (.cells #[.bool false, (.slice none 0 0)] 24)
  replace h5 := h5.alloc (.cells #[.bool false, (.slice none 0 0)] 24)
  replace h6 := h6.alloc (.cells #[.bool false, (.slice none 0 0)] 24)
  replace h7 := h7.alloc (.cells #[.bool false, (.slice none 0 0)] 24)
  replace k1 := k1.alloc (.cells #[.bool false, (.slice none 0 0)] 24)
  replace k2 := k2.alloc (.cells #[.bool false, (.slice none 0 0)] 24)
  replace k3 := k3.alloc (.cells #[.bool false, (.slice none 0 0)] 24)
  replace hb := hb.alloc hb.size (.cells #[.bool false, (.slice none 0 0)] 24)
  obtain ⟨w_9, hw_9⟩ : ∃ v, (w_8.alloc (.cells #[.bool false, (.slice none 0 0)] 24)) = v := ⟨_, rfl⟩
  rw [hw_9] at ha hb' hp hq g1 g2 g3 h5 h6 h7 k1 k2 k3 h8 hb
  have kb_h9 := hb.size
  have ne_hp_h9 : w.heap.size ≠ w_9.heap.size := by have := hp.lt; (try simp only [Bk.size_alloc] at this); omega
  have ne_hq_h9 : w.heap.size + 1 ≠ w_9.heap.size := by have := hq.lt; (try simp only [Bk.size_alloc] at this); omega
  have ne_h5_h9 : w_1.heap.size ≠ w_9.heap.size := by have := h5.lt; (try simp only [Bk.size_alloc] at this); omega
  have ne_h6_h9 : w_2.heap.size ≠ w_9.heap.size := by have := h6.lt; (try simp only [Bk.size_alloc] at this); omega
  have ne_h7_h9 : w_3.heap.size ≠ w_9.heap.size := by have := h7.lt; (try simp only [Bk.size_alloc] at this); omega
  have ne_h8_h9 : w_8.heap.size ≠ w_9.heap.size := by have := h8.lt; (try simp only [Bk.size_alloc] at this); omega
  have h9 := Bk.new w_9 false (.slice none 0 0)
  replace ha := ha.alloc (.cells #[.bool false, (.slice none 0 0)] 24)
  replace hb' := hb'.alloc (.cells #[.bool false, (.slice none 0 0)] 24)
  replace hp := hp.alloc (.cells #[.bool false, (.slice none 0 0)] 24)
  replace hq := hq.alloc (.cells #[.bool false, (.slice none 0 0)] 24)
  replace g1 := g1.alloc (.cells #[.bool false, (.slice none 0 0)] 24)
  replace g2 := g2.alloc (.cells #[.bool false, (.slice none 0 0)] 24)
  replace g3 := g3.alloc (.cells #[.bool false, (.slice none 0 0)] 24)
  replace h5 := h5.alloc (.cells #[.bool false, (.slice none 0 0)] 24)
  replace h6 := h6.alloc (.cells #[.bool false, (.slice none 0 0)] 24)
  replace h7 := h7.alloc (.cells #[.bool false, (.slice none 0 0)] 24)
  replace k1 := k1.alloc (.cells #[.bool false, (.slice none 0 0)] 24)
  replace k2 := k2.alloc (.cells #[.bool false, (.slice none 0 0)] 24)
  replace k3 := k3.alloc (.cells #[.bool false, (.slice none 0 0)] 24)
  replace h8 := h8.alloc (.cells #[.bool false, (.slice none 0 0)] 24)
  replace hb := hb.alloc hb.size (.cells #[.bool false, (.slice none 0 0)] 24)
  obtain ⟨w_10, hw_10⟩ : ∃ v, (w_9.alloc (.cells #[.bool false, (.slice none 0 0)] 24)) = v := ⟨_, rfl⟩
  rw [hw_10] at ha hb' hp hq g1 g2 g3 h5 h6 h7 k1 k2 k3 h8 h9 hb
  have kb_h10 := hb.size
  have ne_hp_h10 : w.heap.size ≠ w_10.heap.size := by have := hp.lt; (try simp only [Bk.size_alloc] at this); omega
  have ne_hq_h10 : w.heap.size + 1 ≠ w_10.heap.size := by have := hq.lt; (try simp only [Bk.size_alloc] at this); omega
  have ne_h5_h10 : w_1.heap.size ≠ w_10.heap.size := by have := h5.lt; (try simp only [Bk.size_alloc] at this); omega
  have ne_h6_h10 : w_2.heap.size ≠ w_10.heap.size := by have := h6.lt; (try simp only [Bk.size_alloc] at this); omega
  have ne_h7_h10 : w_3.heap.size ≠ w_10.heap.size := by have := h7.lt; (try simp only [Bk.size_alloc] at this); omega
  have ne_h8_h10 : w_8.heap.size ≠ w_10.heap.size := by have := h8.lt; (try simp only [Bk.size_alloc] at this); omega
  have ne_h9_h10 : w_9.heap.size ≠ w_10.heap.size := by have := h9.lt; (try simp only [Bk.size_alloc] at this); omega
  have h10 := Bk.new w_10 false (.slice none 0 0)
  replace ha := ha.alloc (.cells #[.bool false, (.slice none 0 0)] 24)
  replace hb' := hb'.alloc (.cells #[.bool false, (.slice none 0 0)] 24)
  replace hp := hp.alloc (.cells #[.bool false, (.slice none 0 0)] 24)
  replace hq := hq.alloc (.cells #[.bool false, (.slice none 0 0)] 24)
  replace g1 := g1.alloc (.cells #[.bool false, (.slice none 0 0)] 24)
  replace g2 := g2.alloc (.cells #[.bool false, (.slice none 0 0)] 24)
  replace g3 := g3.alloc (.cells #[.bool false, (.slice none 0 0)] 24)
  replace h5 := h5.alloc (.cells #[.bool false, (.slice none 0 0)] 24)
  replace h6 := h6.alloc (.cells #[.bool false, (.slice none 0 0)] 24)
  replace h7 := h7.alloc (.cells #[.bool false, (.slice none 0 0)] 24)
  replace k1 := k1.alloc (.cells #[.bool false, (.slice none 0 0)] 24)
  replace k2 := k2.alloc (.cells #[.bool false, (.slice none 0 0)] 24)
  replace k3 := k3.alloc (.cells #[.bool false, (.slice none 0 0)] 24)
  replace h8 := h8.alloc (.cells #[.bool false, (.slice none 0 0)] 24)
  replace h9 := h9.alloc (.cells #[.bool false, (.slice none 0 0)] 24)
  replace hb := hb.alloc hb.size (.cells #[.bool false, (.slice none 0 0)] 24)
  obtain ⟨w_11, hw_11⟩ : ∃ v, (w_10.alloc (.cells #[.bool false, (.slice none 0 0)] 24)) = v := ⟨_, rfl⟩
  rw [hw_11] at ha hb' hp hq g1 g2 g3 h5 h6 h7 k1 k2 k3 h8 h9 h10 hb
  obtain ⟨sb_h8, o_h8, n_h8, c_h8, rfl⟩ := k1.open2
  have f_h8 := h8.facts
  have ho := Bk.only w_11 (w_8.heap.size) sb_h8 (.slice o_h8 n_h8 c_h8)
  have hbx_ := h8.bx
  replace ha := ha.frame hbx_ ho
  replace hb' := hb'.frame hbx_ ho
  replace hp := hp.frame ho (by first | assumption | (apply Ne.symm; assumption) | (simp; done) | omega)
  replace hq := hq.frame ho (by first | assumption | (apply Ne.symm; assumption) | (simp; done) | omega)
  replace g1 := g1.frame hbx_ ho
  replace g2 := g2.frame hbx_ ho
  replace g3 := g3.frame hbx_ ho
  replace h5 := h5.frame ho (by first | assumption | (apply Ne.symm; assumption) | (simp; done) | omega)
  replace h6 := h6.frame ho (by first | assumption | (apply Ne.symm; assumption) | (simp; done) | omega)
  replace h7 := h7.frame ho (by first | assumption | (apply Ne.symm; assumption) | (simp; done) | omega)
  replace k1 := k1.frame hbx_ ho
  replace k2 := k2.frame hbx_ ho
  replace k3 := k3.frame hbx_ ho
  replace h9 := h9.frame ho (by first | assumption | (apply Ne.symm; assumption) | (simp; done) | omega)
  replace h10 := h10.frame ho (by first | assumption | (apply Ne.symm; assumption) | (simp; done) | omega)
  replace h8 := h8.store sb_h8 (.slice o_h8 n_h8 c_h8)
  replace hb := (hb.setCell (p := ⟨w_8.heap.size, 0, none⟩) (show w.heap.size ≤ w_8.heap.size by first | assumption | (simp; done) | omega) (.bool sb_h8)).setCell (p := ⟨w_8.heap.size, 1, none⟩) (show w.heap.size ≤ w_8.heap.size by first | assumption | (simp; done) | omega) (.slice o_h8 n_h8 c_h8)
  clear ho hbx_
  obtain ⟨w_12, hw_12⟩ : ∃ v, ((w_11.setCell ⟨w_8.heap.size, 0, none⟩ (.bool sb_h8)).setCell ⟨w_8.heap.size, 1, none⟩ (.slice o_h8 n_h8 c_h8)) = v := ⟨_, rfl⟩
  rw [hw_12] at ha hb' hp hq g1 g2 g3 h5 h6 h7 k1 k2 k3 h8 h9 h10 hb
  obtain ⟨sb_h9, o_h9, n_h9, c_h9, rfl⟩ := k2.open2
  have f_h9 := h9.facts
  have ho := Bk.only w_12 (w_9.heap.size) sb_h9 (.slice o_h9 n_h9 c_h9)
  have hbx_ := h9.bx
  replace ha := ha.frame hbx_ ho
  replace hb' := hb'.frame hbx_ ho
  replace hp := hp.frame ho (by first | assumption | (apply Ne.symm; assumption) | (simp; done) | omega)
  replace hq := hq.frame ho (by first | assumption | (apply Ne.symm; assumption) | (simp; done) | omega)
  replace g1 := g1.frame hbx_ ho
  replace g2 := g2.frame hbx_ ho
  replace g3 := g3.frame hbx_ ho
  replace h5 := h5.frame ho (by first | assumption | (apply Ne.symm; assumption) | (simp; done) | omega)
  replace h6 := h6.frame ho (by first | assumption | (apply Ne.symm; assumption) | (simp; done) | omega)
  replace h7 := h7.frame ho (by first | assumption | (apply Ne.symm; assumption) | (simp; done) | omega)
  replace k1 := k1.frame hbx_ ho
  replace k2 := k2.frame hbx_ ho
  replace k3 := k3.frame hbx_ ho
  replace h8 := h8.frame ho (by first | assumption | (apply Ne.symm; assumption) | (simp; done) | omega)
  replace h10 := h10.frame ho (by first | assumption | (apply Ne.symm; assumption) | (simp; done) | omega)
  replace h9 := h9.store sb_h9 (.slice o_h9 n_h9 c_h9)
  replace hb := (hb.setCell (p := ⟨w_9.heap.size, 0, none⟩) (show w.heap.size ≤ w_9.heap.size by first | assumption | (simp; done) | omega) (.bool sb_h9)).setCell (p := ⟨w_9.heap.size, 1, none⟩) (show w.heap.size ≤ w_9.heap.size by first | assumption | (simp; done) | omega) (.slice o_h9 n_h9 c_h9)
  clear ho hbx_
  obtain ⟨w_13, hw_13⟩ : ∃ v, ((w_12.setCell ⟨w_9.heap.size, 0, none⟩ (.bool sb_h9)).setCell ⟨w_9.heap.size, 1, none⟩ (.slice o_h9 n_h9 c_h9)) = v := ⟨_, rfl⟩
  rw [hw_13] at ha hb' hp hq g1 g2 g3 h5 h6 h7 k1 k2 k3 h8 h9 h10 hb
  obtain ⟨sb_h10, o_h10, n_h10, c_h10, rfl⟩ := k3.open2
  have f_h10 := h10.facts
  have ho := Bk.only w_13 (w_10.heap.size) sb_h10 (.slice o_h10 n_h10 c_h10)
  have hbx_ := h10.bx
  replace ha := ha.frame hbx_ ho
  replace hb' := hb'.frame hbx_ ho
  replace hp := hp.frame ho (by first | assumption | (apply Ne.symm; assumption) | (simp; done) | omega)
  replace hq := hq.frame ho (by first | assumption | (apply Ne.symm; assumption) | (simp; done) | omega)
  replace g1 := g1.frame hbx_ ho
  replace g2 := g2.frame hbx_ ho
  replace g3 := g3.frame hbx_ ho
  replace h5 := h5.frame ho (by first | assumption | (apply Ne.symm; assumption) | (simp; done) | omega)
  replace h6 := h6.frame ho (by first | assumption | (apply Ne.symm; assumption) | (simp; done) | omega)
  replace h7 := h7.frame ho (by first | assumption | (apply Ne.symm; assumption) | (simp; done) | omega)
  replace k1 := k1.frame hbx_ ho
  replace k2 := k2.frame hbx_ ho
  replace k3 := k3.frame hbx_ ho
  replace h8 := h8.frame ho (by first | assumption | (apply Ne.symm; assumption) | (simp; done) | omega)
  replace h9 := h9.frame ho (by first | assumption | (apply Ne.symm; assumption) | (simp; done) | omega)
  replace h10 := h10.store sb_h10 (.slice o_h10 n_h10 c_h10)
  replace hb := (hb.setCell (p := ⟨w_10.heap.size, 0, none⟩) (show w.heap.size ≤ w_10.heap.size by first | assumption | (simp; done) | omega) (.bool sb_h10)).setCell (p := ⟨w_10.heap.size, 1, none⟩) (show w.heap.size ≤ w_10.heap.size by first | assumption | (simp; done) | omega) (.slice o_h10 n_h10 c_h10)
  clear ho hbx_
  obtain ⟨w_14, hw_14⟩ : ∃ v, ((w_13.setCell ⟨w_10.heap.size, 0, none⟩ (.bool sb_h10)).setCell ⟨w_10.heap.size, 1, none⟩ (.slice o_h10 n_h10 c_h10)) = v := ⟨_, rfl⟩
  rw [hw_14] at ha hb' hp hq g1 g2 g3 h5 h6 h7 k1 k2 k3 h8 h9 h10 hb
  replace ha := ha.drew
  replace hb' := hb'.drew
  replace hp := hp.drew
  replace hq := hq.drew
  replace g1 := g1.drew
  replace g2 := g2.drew
  replace g3 := g3.drew
  replace h5 := h5.drew
  replace h6 := h6.drew
  replace h7 := h7.drew
  replace k1 := k1.drew
  replace k2 := k2.drew
  replace k3 := k3.drew
  replace h8 := h8.drew
  replace h9 := h9.drew
  replace h10 := h10.drew
  replace hb := hb.drew
  go_wp2_with fail
  refine wp_region_pl [(0, true), (1, false), (2, false), (3, false), (5, false), (4, true), (6, true), (7, false), (8, false), (9, false), (10, false), (11, true), (12, false), (13, false), (14, false), (15, false), (16, true), (17, false), (18, false), (19, false), (20, false), (21, true), (22, false), (23, false)] (fun w' => w'.cell? ⟨w.heap.size, 0, none⟩ = some (.bool na) ∧ w'.cell? ⟨w.heap.size, 1, none⟩ = some (.slice oa xs.length ca) ∧ w'.cell? ⟨w.heap.size + 1, 0, none⟩ = some (.bool nb) ∧ w'.cell? ⟨w.heap.size + 1, 1, none⟩ = some (.slice ob ys.length cb) ∧ w'.cell? ⟨w_1.heap.size, 0, none⟩ = some (.bool sb_h5) ∧ w'.cell? ⟨w_1.heap.size, 1, none⟩ = some (.slice o_h5 n_h5 c_h5) ∧ w'.cell? ⟨w_2.heap.size, 0, none⟩ = some (.bool sb_h6) ∧ w'.cell? ⟨w_2.heap.size, 1, none⟩ = some (.slice o_h6 n_h6 c_h6) ∧ w'.cell? ⟨w_3.heap.size, 0, none⟩ = some (.bool sb_h7) ∧ w'.cell? ⟨w_3.heap.size, 1, none⟩ = some (.slice o_h7 n_h7 c_h7) ∧ w'.cell? ⟨w_8.heap.size, 0, none⟩ = some (.bool sb_h8) ∧ w'.cell? ⟨w_8.heap.size, 1, none⟩ = some (.slice o_h8 n_h8 c_h8) ∧ w'.cell? ⟨w_9.heap.size, 0, none⟩ = some (.bool sb_h9) ∧ w'.cell? ⟨w_9.heap.size, 1, none⟩ = some (.slice o_h9 n_h9 c_h9) ∧ w'.cell? ⟨w_10.heap.size, 0, none⟩ = some (.bool sb_h10) ∧ w'.cell? ⟨w_10.heap.size, 1, none⟩ = some (.slice o_h10 n_h10 c_h10)) (by kernel_rfl) (by kernel_rfl) (by kernel_rfl) (by kernel_rfl) ⟨hp.facts.1, hp.facts.2.1, hq.facts.1, hq.facts.2.1, h5.facts.1, h5.facts.2.1, h6.facts.1, h6.facts.2.1, h7.facts.1, h7.facts.2.1, h8.facts.1, h8.facts.2.1, h9.facts.1, h9.facts.2.1, h10.facts.1, h10.facts.2.1⟩ ?_
  clear f_h8 f_h9 f_h10
  apply wpPl_call
  case hi => rfl
  case hw => kernel_rfl
  case h =>
  intro K hK
  have kb_15 := hb.size
  go_big_op
  go_fit (zawake_any _ (htabs _ hb))
  rintro e w_15 ⟨rfl, hb_15⟩
  replace ha := ha.below hb_15 (Nat.le_refl _)
  replace hb' := hb'.below hb_15 (Nat.le_refl _)
  replace hp := hp.below hb_15 (Nat.le_refl _)
  replace hq := hq.below hb_15 (Nat.le_refl _)
  replace g1 := g1.below hb_15 (Nat.le_refl _)
  replace g2 := g2.below hb_15 (Nat.le_refl _)
  replace g3 := g3.below hb_15 (Nat.le_refl _)
  replace h5 := h5.below hb_15 (Nat.le_refl _)
  replace h6 := h6.below hb_15 (Nat.le_refl _)
  replace h7 := h7.below hb_15 (Nat.le_refl _)
  replace k1 := k1.below hb_15 (Nat.le_refl _)
  replace k2 := k2.below hb_15 (Nat.le_refl _)
  replace k3 := k3.below hb_15 (Nat.le_refl _)
  replace h8 := h8.below hb_15 (Nat.le_refl _)
  replace h9 := h9.below hb_15 (Nat.le_refl _)
  replace h10 := h10.below hb_15 (Nat.le_refl _)
  replace hb := hb.trans (hb_15.mono hb.size)
  refine hK _ _ rfl ⟨hp.facts.1, hp.facts.2.1, hq.facts.1, hq.facts.2.1, h5.facts.1, h5.facts.2.1, h6.facts.1, h6.facts.2.1, h7.facts.1, h7.facts.2.1, h8.facts.1, h8.facts.2.1, h9.facts.1, h9.facts.2.1, h10.facts.1, h10.facts.2.1⟩ ?_
  clear hK K hb_15
  apply wpPl_ld
  case hi => rfl
  case h1 => intro w' hC K hK; obtain ⟨c0, c1, c2, c3, c4, c5, c6, c7, c8, c9, c10, c11, c12, c13, c14, c15⟩ := hC; (first | go_big_move | go_big_op); exact hK
  case hw => kernel_rfl
  case hv => kernel_rfl
  case hb => kernel_rfl
  case hp => kernel_rfl
  apply wpPl_ld
  case hi => rfl
  case h1 => intro w' hC K hK; obtain ⟨c0, c1, c2, c3, c4, c5, c6, c7, c8, c9, c10, c11, c12, c13, c14, c15⟩ := hC; (first | go_big_move | go_big_op); exact hK
  case hw => kernel_rfl
  case hv => kernel_rfl
  case hb => kernel_rfl
  case hp => kernel_rfl
  apply wpPl_ld
  case hi => rfl
  case h1 => intro w' hC K hK; obtain ⟨c0, c1, c2, c3, c4, c5, c6, c7, c8, c9, c10, c11, c12, c13, c14, c15⟩ := hC; (first | go_big_move | go_big_op); exact hK
  case hw => kernel_rfl
  case hv => kernel_rfl
  case hb => kernel_rfl
  case hp => kernel_rfl
  apply wpPl_ld
  case hi => rfl
  case h1 => intro w' hC K hK; obtain ⟨c0, c1, c2, c3, c4, c5, c6, c7, c8, c9, c10, c11, c12, c13, c14, c15⟩ := hC; (first | go_big_move | go_big_op); exact hK
  case hw => kernel_rfl
  case hv => kernel_rfl
  case hb => kernel_rfl
  case hp => kernel_rfl
  apply wpPl_call
  case hi => rfl
  case hw => kernel_rfl
  case h =>
  intro K hK
  have kb_16 := hb.size
  go_big_op
  go_fit (zgcd_any ha hb' (by decide) (by decide))
  rintro e w_16 ⟨v7, rfl, g7, hb_16⟩
  replace ha := ha.below hb_16 (Nat.le_refl _)
  replace hb' := hb'.below hb_16 (Nat.le_refl _)
  replace hp := hp.below hb_16 (Nat.le_refl _)
  replace hq := hq.below hb_16 (Nat.le_refl _)
  replace g1 := g1.below hb_16 (Nat.le_refl _)
  replace g2 := g2.below hb_16 (Nat.le_refl _)
  replace g3 := g3.below hb_16 (Nat.le_refl _)
  replace h5 := h5.below hb_16 (Nat.le_refl _)
  replace h6 := h6.below hb_16 (Nat.le_refl _)
  replace h7 := h7.below hb_16 (Nat.le_refl _)
  replace k1 := k1.below hb_16 (Nat.le_refl _)
  replace k2 := k2.below hb_16 (Nat.le_refl _)
  replace k3 := k3.below hb_16 (Nat.le_refl _)
  replace h8 := h8.below hb_16 (Nat.le_refl _)
  replace h9 := h9.below hb_16 (Nat.le_refl _)
  replace h10 := h10.below hb_16 (Nat.le_refl _)
  replace hb := hb.trans (hb_16.mono hb.size)
  refine hK _ _ rfl ⟨hp.facts.1, hp.facts.2.1, hq.facts.1, hq.facts.2.1, h5.facts.1, h5.facts.2.1, h6.facts.1, h6.facts.2.1, h7.facts.1, h7.facts.2.1, h8.facts.1, h8.facts.2.1, h9.facts.1, h9.facts.2.1, h10.facts.1, h10.facts.2.1⟩ ?_
  clear hK K hb_16
  rw [EG.out] at g7
  replace g7 := g7.rd
  apply wpPl_call
  case hi => rfl
  case hw => kernel_rfl
  case h =>
  intro K hK
  have kb_17 := hb.size
  go_big_op
  go_fit (is_zz g7 (k1.zn LG.out) (by decide))
  rintro e w_17 ⟨rfl, hb_17⟩
  replace ha := ha.below hb_17 (Nat.le_refl _)
  replace hb' := hb'.below hb_17 (Nat.le_refl _)
  replace hp := hp.below hb_17 (Nat.le_refl _)
  replace hq := hq.below hb_17 (Nat.le_refl _)
  replace g1 := g1.below hb_17 (Nat.le_refl _)
  replace g2 := g2.below hb_17 (Nat.le_refl _)
  replace g3 := g3.below hb_17 (Nat.le_refl _)
  replace h5 := h5.below hb_17 (Nat.le_refl _)
  replace h6 := h6.below hb_17 (Nat.le_refl _)
  replace h7 := h7.below hb_17 (Nat.le_refl _)
  replace k1 := k1.below hb_17 (Nat.le_refl _)
  replace k2 := k2.below hb_17 (Nat.le_refl _)
  replace k3 := k3.below hb_17 (Nat.le_refl _)
  replace h8 := h8.below hb_17 (Nat.le_refl _)
  replace h9 := h9.below hb_17 (Nat.le_refl _)
  replace h10 := h10.below hb_17 (Nat.le_refl _)
  replace g7 := g7.below hb_17 (Nat.le_refl _)
  replace hb := hb.trans (hb_17.mono hb.size)
  refine hK _ _ rfl ⟨hp.facts.1, hp.facts.2.1, hq.facts.1, hq.facts.2.1, h5.facts.1, h5.facts.2.1, h6.facts.1, h6.facts.2.1, h7.facts.1, h7.facts.2.1, h8.facts.1, h8.facts.2.1, h9.facts.1, h9.facts.2.1, h10.facts.1, h10.facts.2.1⟩ ?_
  clear hK K hb_17
  clear g7
  apply wpPl_ld
  case hi => rfl
  case h1 => intro w' hC K hK; obtain ⟨c0, c1, c2, c3, c4, c5, c6, c7, c8, c9, c10, c11, c12, c13, c14, c15⟩ := hC; (first | go_big_move | go_big_op); exact hK
  case hw => kernel_rfl
  case hv => kernel_rfl
  case hb => kernel_rfl
  case hp => kernel_rfl
  apply wpPl_ld
  case hi => rfl
  case h1 => intro w' hC K hK; obtain ⟨c0, c1, c2, c3, c4, c5, c6, c7, c8, c9, c10, c11, c12, c13, c14, c15⟩ := hC; (first | go_big_move | go_big_op); exact hK
  case hw => kernel_rfl
  case hv => kernel_rfl
  case hb => kernel_rfl
  case hp => kernel_rfl
  apply wpPl_ld
  case hi => rfl
  case h1 => intro w' hC K hK; obtain ⟨c0, c1, c2, c3, c4, c5, c6, c7, c8, c9, c10, c11, c12, c13, c14, c15⟩ := hC; (first | go_big_move | go_big_op); exact hK
  case hw => kernel_rfl
  case hv => kernel_rfl
  case hb => kernel_rfl
  case hp => kernel_rfl
  apply wpPl_ld
  case hi => rfl
  case h1 => intro w' hC K hK; obtain ⟨c0, c1, c2, c3, c4, c5, c6, c7, c8, c9, c10, c11, c12, c13, c14, c15⟩ := hC; (first | go_big_move | go_big_op); exact hK
  case hw => kernel_rfl
  case hv => kernel_rfl
  case hb => kernel_rfl
  case hp => kernel_rfl
  apply wpPl_call
  case hi => rfl
  case hw => kernel_rfl
  case h =>
  intro K hK
  have kb_18 := hb.size
  go_big_op
  go_fit (is_zz g1 (k1.zn LG.out) (by decide))
  rintro e w_18 ⟨rfl, hb_18⟩
  replace ha := ha.below hb_18 (Nat.le_refl _)
  replace hb' := hb'.below hb_18 (Nat.le_refl _)
  replace hp := hp.below hb_18 (Nat.le_refl _)
  replace hq := hq.below hb_18 (Nat.le_refl _)
  replace g1 := g1.below hb_18 (Nat.le_refl _)
  replace g2 := g2.below hb_18 (Nat.le_refl _)
  replace g3 := g3.below hb_18 (Nat.le_refl _)
  replace h5 := h5.below hb_18 (Nat.le_refl _)
  replace h6 := h6.below hb_18 (Nat.le_refl _)
  replace h7 := h7.below hb_18 (Nat.le_refl _)
  replace k1 := k1.below hb_18 (Nat.le_refl _)
  replace k2 := k2.below hb_18 (Nat.le_refl _)
  replace k3 := k3.below hb_18 (Nat.le_refl _)
  replace h8 := h8.below hb_18 (Nat.le_refl _)
  replace h9 := h9.below hb_18 (Nat.le_refl _)
  replace h10 := h10.below hb_18 (Nat.le_refl _)
  replace hb := hb.trans (hb_18.mono hb.size)
  refine hK _ _ rfl ⟨hp.facts.1, hp.facts.2.1, hq.facts.1, hq.facts.2.1, h5.facts.1, h5.facts.2.1, h6.facts.1, h6.facts.2.1, h7.facts.1, h7.facts.2.1, h8.facts.1, h8.facts.2.1, h9.facts.1, h9.facts.2.1, h10.facts.1, h10.facts.2.1⟩ ?_
  clear hK K hb_18
  apply wpPl_ld
  case hi => rfl
  case h1 => intro w' hC K hK; obtain ⟨c0, c1, c2, c3, c4, c5, c6, c7, c8, c9, c10, c11, c12, c13, c14, c15⟩ := hC; (first | go_big_move | go_big_op); exact hK
  case hw => kernel_rfl
  case hv => kernel_rfl
  case hb => kernel_rfl
  case hp => kernel_rfl
  apply wpPl_ld
  case hi => rfl
  case h1 => intro w' hC K hK; obtain ⟨c0, c1, c2, c3, c4, c5, c6, c7, c8, c9, c10, c11, c12, c13, c14, c15⟩ := hC; (first | go_big_move | go_big_op); exact hK
  case hw => kernel_rfl
  case hv => kernel_rfl
  case hb => kernel_rfl
  case hp => kernel_rfl
  apply wpPl_ld
  case hi => rfl
  case h1 => intro w' hC K hK; obtain ⟨c0, c1, c2, c3, c4, c5, c6, c7, c8, c9, c10, c11, c12, c13, c14, c15⟩ := hC; (first | go_big_move | go_big_op); exact hK
  case hw => kernel_rfl
  case hv => kernel_rfl
  case hb => kernel_rfl
  case hp => kernel_rfl
  apply wpPl_ld
  case hi => rfl
  case h1 => intro w' hC K hK; obtain ⟨c0, c1, c2, c3, c4, c5, c6, c7, c8, c9, c10, c11, c12, c13, c14, c15⟩ := hC; (first | go_big_move | go_big_op); exact hK
  case hw => kernel_rfl
  case hv => kernel_rfl
  case hb => kernel_rfl
  case hp => kernel_rfl
  apply wpPl_call
  case hi => rfl
  case hw => kernel_rfl
  case h =>
  intro K hK
  have kb_19 := hb.size
  go_big_op
  go_fit (is_zz g2 (k2.zn LC.out) (by decide))
  rintro e w_19 ⟨rfl, hb_19⟩
  replace ha := ha.below hb_19 (Nat.le_refl _)
  replace hb' := hb'.below hb_19 (Nat.le_refl _)
  replace hp := hp.below hb_19 (Nat.le_refl _)
  replace hq := hq.below hb_19 (Nat.le_refl _)
  replace g1 := g1.below hb_19 (Nat.le_refl _)
  replace g2 := g2.below hb_19 (Nat.le_refl _)
  replace g3 := g3.below hb_19 (Nat.le_refl _)
  replace h5 := h5.below hb_19 (Nat.le_refl _)
  replace h6 := h6.below hb_19 (Nat.le_refl _)
  replace h7 := h7.below hb_19 (Nat.le_refl _)
  replace k1 := k1.below hb_19 (Nat.le_refl _)
  replace k2 := k2.below hb_19 (Nat.le_refl _)
  replace k3 := k3.below hb_19 (Nat.le_refl _)
  replace h8 := h8.below hb_19 (Nat.le_refl _)
  replace h9 := h9.below hb_19 (Nat.le_refl _)
  replace h10 := h10.below hb_19 (Nat.le_refl _)
  replace hb := hb.trans (hb_19.mono hb.size)
  refine hK _ _ rfl ⟨hp.facts.1, hp.facts.2.1, hq.facts.1, hq.facts.2.1, h5.facts.1, h5.facts.2.1, h6.facts.1, h6.facts.2.1, h7.facts.1, h7.facts.2.1, h8.facts.1, h8.facts.2.1, h9.facts.1, h9.facts.2.1, h10.facts.1, h10.facts.2.1⟩ ?_
  clear hK K hb_19
  apply wpPl_ld
  case hi => rfl
  case h1 => intro w' hC K hK; obtain ⟨c0, c1, c2, c3, c4, c5, c6, c7, c8, c9, c10, c11, c12, c13, c14, c15⟩ := hC; (first | go_big_move | go_big_op); exact hK
  case hw => kernel_rfl
  case hv => kernel_rfl
  case hb => kernel_rfl
  case hp => kernel_rfl
  apply wpPl_ld
  case hi => rfl
  case h1 => intro w' hC K hK; obtain ⟨c0, c1, c2, c3, c4, c5, c6, c7, c8, c9, c10, c11, c12, c13, c14, c15⟩ := hC; (first | go_big_move | go_big_op); exact hK
  case hw => kernel_rfl
  case hv => kernel_rfl
  case hb => kernel_rfl
  case hp => kernel_rfl
  apply wpPl_ld
  case hi => rfl
  case h1 => intro w' hC K hK; obtain ⟨c0, c1, c2, c3, c4, c5, c6, c7, c8, c9, c10, c11, c12, c13, c14, c15⟩ := hC; (first | go_big_move | go_big_op); exact hK
  case hw => kernel_rfl
  case hv => kernel_rfl
  case hb => kernel_rfl
  case hp => kernel_rfl
  apply wpPl_ld
  case hi => rfl
  case h1 => intro w' hC K hK; obtain ⟨c0, c1, c2, c3, c4, c5, c6, c7, c8, c9, c10, c11, c12, c13, c14, c15⟩ := hC; (first | go_big_move | go_big_op); exact hK
  case hw => kernel_rfl
  case hv => kernel_rfl
  case hb => kernel_rfl
  case hp => kernel_rfl
  apply wpPl_call
  case hi => rfl
  case hw => kernel_rfl
  case h =>
  intro K hK
  have kb_20 := hb.size
  go_big_op
  go_fit (is_zz g3 (k3.zn LD.out) (by decide))
  rintro e w_20 ⟨rfl, hb_20⟩
  replace ha := ha.below hb_20 (Nat.le_refl _)
  replace hb' := hb'.below hb_20 (Nat.le_refl _)
  replace hp := hp.below hb_20 (Nat.le_refl _)
  replace hq := hq.below hb_20 (Nat.le_refl _)
  replace g1 := g1.below hb_20 (Nat.le_refl _)
  replace g2 := g2.below hb_20 (Nat.le_refl _)
  replace g3 := g3.below hb_20 (Nat.le_refl _)
  replace h5 := h5.below hb_20 (Nat.le_refl _)
  replace h6 := h6.below hb_20 (Nat.le_refl _)
  replace h7 := h7.below hb_20 (Nat.le_refl _)
  replace k1 := k1.below hb_20 (Nat.le_refl _)
  replace k2 := k2.below hb_20 (Nat.le_refl _)
  replace k3 := k3.below hb_20 (Nat.le_refl _)
  replace h8 := h8.below hb_20 (Nat.le_refl _)
  replace h9 := h9.below hb_20 (Nat.le_refl _)
  replace h10 := h10.below hb_20 (Nat.le_refl _)
  replace hb := hb.trans (hb_20.mono hb.size)
  refine hK _ _ rfl ⟨hp.facts.1, hp.facts.2.1, hq.facts.1, hq.facts.2.1, h5.facts.1, h5.facts.2.1, h6.facts.1, h6.facts.2.1, h7.facts.1, h7.facts.2.1, h8.facts.1, h8.facts.2.1, h9.facts.1, h9.facts.2.1, h10.facts.1, h10.facts.2.1⟩ ?_
  clear hK K hb_20
  apply wpPl_ld
  case hi => rfl
  case h1 => intro w' hC K hK; obtain ⟨c0, c1, c2, c3, c4, c5, c6, c7, c8, c9, c10, c11, c12, c13, c14, c15⟩ := hC; (first | go_big_move | go_big_op); exact hK
  case hw => kernel_rfl
  case hv => kernel_rfl
  case hb => kernel_rfl
  case hp => kernel_rfl
  apply wpPl_ld
  case hi => rfl
  case h1 => intro w' hC K hK; obtain ⟨c0, c1, c2, c3, c4, c5, c6, c7, c8, c9, c10, c11, c12, c13, c14, c15⟩ := hC; (first | go_big_move | go_big_op); exact hK
  case hw => kernel_rfl
  case hv => kernel_rfl
  case hb => kernel_rfl
  case hp => kernel_rfl
  apply wpPl_end
  go_wp2
  go_ret
  exact ⟨rfl, hb⟩

set_option maxHeartbeats 8000000 in
set_option maxRecDepth 20000 in
theorem gcds_both {w : World} {va vb : Value} {x y : Int} (ha : ZN w va x 1048576) (hb' : ZN w vb y 1048576) (h0 : y ≠ 0) (htab : Lib.TabIs Tryd.prog w p10 .u64 Lib.pow10Tab) :
    Calls Tryd.prog 7 #[va, vb] w fun e w' => e = .returned (.bool true) ∧ Below w.heap.size w w' := by
  have htabs := Lib.tabBelow_of_tabIs htab
  have Lx := hide ha.len
  have Ly := hide hb'.len
  have LG := hide (show (dig ((Int.gcd x y : Int)).natAbs).length ≤ 1048576 from len_le (gcd_le h0) Ly.out)
  have H0 := hide h0
  clear h0
  obtain ⟨na, oa, ca, xs, rfl, hca, _, _, hxl⟩ := ha.open_
  obtain ⟨nb, ob, cb, ys, rfl, hcb, _, _, hyl⟩ := hb'.open_
  go_enter Tryd.func7, Tryd.ntmps7
  have hb := Below.refl w.heap.size w
  have hp := Bk.new w na (.slice oa xs.length ca)
  replace ha := ha.alloc (.cells #[.bool na, (.slice oa xs.length ca)] 24)
  replace hb' := hb'.alloc (.cells #[.bool na, (.slice oa xs.length ca)] 24)
  replace hb := hb.alloc hb.size (.cells #[.bool na, (.slice oa xs.length ca)] 24)
  have hq := Bk.new (w.alloc (.cells #[.bool na, (.slice oa xs.length ca)] 24)) nb (.slice ob ys.length cb)
  simp only [Bk.size_alloc] at hq
  replace ha := ha.alloc (.cells #[.bool nb, (.slice ob ys.length cb)] 24)
  replace hb' := hb'.alloc (.cells #[.bool nb, (.slice ob ys.length cb)] 24)
  replace hp := hp.alloc (.cells #[.bool nb, (.slice ob ys.length cb)] 24)
  replace hb := hb.alloc hb.size (.cells #[.bool nb, (.slice ob ys.length cb)] 24)
  have f_hp := hp.facts
  have f_hq := hq.facts
  go_wp2_with fail
  refine (xgcd_any ha hb' (by decide) (by decide) H0.out).mono ?_
  rintro e w_1 ⟨v1, v2, v3, rfl, ⟨c, hxg, g1, g2, g3⟩, hb_1⟩
  replace ha := ha.below hb_1 (Nat.le_refl _)
  replace hb' := hb'.below hb_1 (Nat.le_refl _)
  replace hp := hp.below hb_1 (Nat.le_refl _)
  replace hq := hq.below hb_1 (Nat.le_refl _)
  replace hb := hb.trans (hb_1.mono hb.size)
  clear hb_1
  replace hxg := hide hxg
  replace g1 := g1.rd
  replace g2 := g2.rd
  replace g3 := g3.rd
  have LC := hide (show (dig c.natAbs).length ≤ 1048576 from len_le (hxg.out.le H0.out) Ly.out)
  have LM1 := hide (zlen_mul Lx.out LC.out)
  have LD := hide (show (dig (((Int.gcd x y : Int) - x * c).fdiv y).natAbs).length ≤ 4000000 from Nat.le_trans (fdiv_len H0.out (zlen_sub LG.out LM1.out)) (by omega))
  clear f_hp f_hq
  have kb_h5 := hb.size
  have ne_hp_h5 : w.heap.size ≠ w_1.heap.size := by have := hp.lt; (try simp only [Bk.size_alloc] at this); omega
  have ne_hq_h5 : w.heap.size + 1 ≠ w_1.heap.size := by have := hq.lt; (try simp only [Bk.size_alloc] at this); omega
  have h5 := Bk.new w_1 false (.slice none 0 0)
  replace ha := ha.alloc (.cells #[.bool false, (.slice none 0 0)] 24)
  replace hb' := hb'.alloc (.cells #[.bool false, (.slice none 0 0)] 24)
  replace hp := hp.alloc (.cells #[.bool false, (.slice none 0 0)] 24)
  replace hq := hq.alloc (.cells #[.bool false, (.slice none 0 0)] 24)
  replace g1 := g1.alloc (.cells #[.bool false, (.slice none 0 0)] 24)
  replace g2 := g2.alloc (.cells #[.bool false, (.slice none 0 0)] 24)
  replace g3 := g3.alloc (.cells #[.bool false, (.slice none 0 0)] 24)
  replace hb := hb.alloc hb.size (.cells #[.bool false, (.slice none 0 0)] 24)
  obtain ⟨w_2, hw_2⟩ : ∃ v, (w_1.alloc (.cells #[.bool false, (.slice none 0 0)] 24)) = v := ⟨_, rfl⟩
  rw [hw_2] at ha hb' hp hq g1 g2 g3 h5 hb
  have kb_h6 := hb.size
  have ne_hp_h6 : w.heap.size ≠ w_2.heap.size := by have := hp.lt; (try simp only [Bk.size_alloc] at this); omega
  have ne_hq_h6 : w.heap.size + 1 ≠ w_2.heap.size := by have := hq.lt; (try simp only [Bk.size_alloc] at this); omega
  have ne_h5_h6 : w_1.heap.size ≠ w_2.heap.size := by have := h5.lt; (try simp only [Bk.size_alloc] at this); omega
  have h6 := Bk.new w_2 false (.slice none 0 0)
  replace ha := ha.alloc (.cells #[.bool false, (.slice none 0 0)] 24)
  replace hb' := hb'.alloc (.cells #[.bool false, (.slice none 0 0)] 24)
  replace hp := hp.alloc (.cells #[.bool false, (.slice none 0 0)] 24)
  replace hq := hq.alloc (.cells #[.bool false, (.slice none 0 0)] 24)
  replace g1 := g1.alloc (.cells #[.bool false, (.slice none 0 0)] 24)
  replace g2 := g2.alloc (.cells #[.bool false, (.slice none 0 0)] 24)
  replace g3 := g3.alloc (.cells #[.bool false, (.slice none 0 0)] 24)
  replace h5 := h5.alloc (.cells #[.bool false, (.slice none 0 0)] 24)
  replace hb := hb.alloc hb.size (.cells #[.bool false, (.slice none 0 0)] 24)
  obtain ⟨w_3, hw_3⟩ : ∃ v, (w_2.alloc (.cells #[.bool false, (.slice none 0 0)] 24)) = v := ⟨_, rfl⟩
  rw [hw_3] at ha hb' hp hq g1 g2 g3 h5 h6 hb
  have kb_h7 := hb.size
  have ne_hp_h7 : w.heap.size ≠ w_3.heap.size := by have := hp.lt; (try simp only [Bk.size_alloc] at this); omega
  have ne_hq_h7 : w.heap.size + 1 ≠ w_3.heap.size := by have := hq.lt; (try simp only [Bk.size_alloc] at this); omega
  have ne_h5_h7 : w_1.heap.size ≠ w_3.heap.size := by have := h5.lt; (try simp only [Bk.size_alloc] at this); omega
  have ne_h6_h7 : w_2.heap.size ≠ w_3.heap.size := by have := h6.lt; (try simp only [Bk.size_alloc] at this); omega
  have h7 := Bk.new w_3 false (.slice none 0 0)
  replace ha := ha.alloc (.cells #[.bool false, (.slice none 0 0)] 24)
  replace hb' := hb'.alloc (.cells #[.bool false, (.slice none 0 0)] 24)
  replace hp := hp.alloc (.cells #[.bool false, (.slice none 0 0)] 24)
  replace hq := hq.alloc (.cells #[.bool false, (.slice none 0 0)] 24)
  replace g1 := g1.alloc (.cells #[.bool false, (.slice none 0 0)] 24)
  replace g2 := g2.alloc (.cells #[.bool false, (.slice none 0 0)] 24)
  replace g3 := g3.alloc (.cells #[.bool false, (.slice none 0 0)] 24)
  replace h5 := h5.alloc (.cells #[.bool false, (.slice none 0 0)] 24)
  replace h6 := h6.alloc (.cells #[.bool false, (.slice none 0 0)] 24)
  replace hb := hb.alloc hb.size (.cells #[.bool false, (.slice none 0 0)] 24)
  obtain ⟨w_4, hw_4⟩ : ∃ v, (w_3.alloc (.cells #[.bool false, (.slice none 0 0)] 24)) = v := ⟨_, rfl⟩
  rw [hw_4] at ha hb' hp hq g1 g2 g3 h5 h6 h7 hb
  obtain ⟨sb_h5, o_h5, n_h5, c_h5, rfl⟩ := g1.open2
  have f_h5 := h5.facts
  have ho := Bk.only w_4 (w_1.heap.size) sb_h5 (.slice o_h5 n_h5 c_h5)
  have hbx_ := h5.bx
  replace ha := ha.frame hbx_ ho
  replace hb' := hb'.frame hbx_ ho
  replace hp := hp.frame ho (by first | assumption | (apply Ne.symm; assumption) | (simp; done) | omega)
  replace hq := hq.frame ho (by first | assumption | (apply Ne.symm; assumption) | (simp; done) | omega)
  replace g1 := g1.frame hbx_ ho
  replace g2 := g2.frame hbx_ ho
  replace g3 := g3.frame hbx_ ho
  replace h6 := h6.frame ho (by first | assumption | (apply Ne.symm; assumption) | (simp; done) | omega)
  replace h7 := h7.frame ho (by first | assumption | (apply Ne.symm; assumption) | (simp; done) | omega)
  replace h5 := h5.store sb_h5 (.slice o_h5 n_h5 c_h5)
  replace hb := (hb.setCell (p := ⟨w_1.heap.size, 0, none⟩) (show w.heap.size ≤ w_1.heap.size by first | assumption | (simp; done) | omega) (.bool sb_h5)).setCell (p := ⟨w_1.heap.size, 1, none⟩) (show w.heap.size ≤ w_1.heap.size by first | assumption | (simp; done) | omega) (.slice o_h5 n_h5 c_h5)
  clear ho hbx_
  obtain ⟨w_5, hw_5⟩ : ∃ v, ((w_4.setCell ⟨w_1.heap.size, 0, none⟩ (.bool sb_h5)).setCell ⟨w_1.heap.size, 1, none⟩ (.slice o_h5 n_h5 c_h5)) = v := ⟨_, rfl⟩
  rw [hw_5] at ha hb' hp hq g1 g2 g3 h5 h6 h7 hb
  obtain ⟨sb_h6, o_h6, n_h6, c_h6, rfl⟩ := g2.open2
  have f_h6 := h6.facts
  have ho := Bk.only w_5 (w_2.heap.size) sb_h6 (.slice o_h6 n_h6 c_h6)
  have hbx_ := h6.bx
  replace ha := ha.frame hbx_ ho
  replace hb' := hb'.frame hbx_ ho
  replace hp := hp.frame ho (by first | assumption | (apply Ne.symm; assumption) | (simp; done) | omega)
  replace hq := hq.frame ho (by first | assumption | (apply Ne.symm; assumption) | (simp; done) | omega)
  replace g1 := g1.frame hbx_ ho
  replace g2 := g2.frame hbx_ ho
  replace g3 := g3.frame hbx_ ho
  replace h5 := h5.frame ho (by first | assumption | (apply Ne.symm; assumption) | (simp; done) | omega)
  replace h7 := h7.frame ho (by first | assumption | (apply Ne.symm; assumption) | (simp; done) | omega)
  replace h6 := h6.store sb_h6 (.slice o_h6 n_h6 c_h6)
  replace hb := (hb.setCell (p := ⟨w_2.heap.size, 0, none⟩) (show w.heap.size ≤ w_2.heap.size by first | assumption | (simp; done) | omega) (.bool sb_h6)).setCell (p := ⟨w_2.heap.size, 1, none⟩) (show w.heap.size ≤ w_2.heap.size by first | assumption | (simp; done) | omega) (.slice o_h6 n_h6 c_h6)
  clear ho hbx_
  obtain ⟨w_6, hw_6⟩ : ∃ v, ((w_5.setCell ⟨w_2.heap.size, 0, none⟩ (.bool sb_h6)).setCell ⟨w_2.heap.size, 1, none⟩ (.slice o_h6 n_h6 c_h6)) = v := ⟨_, rfl⟩
  rw [hw_6] at ha hb' hp hq g1 g2 g3 h5 h6 h7 hb
  obtain ⟨sb_h7, o_h7, n_h7, c_h7, rfl⟩ := g3.open2
  have f_h7 := h7.facts
  have ho := Bk.only w_6 (w_3.heap.size) sb_h7 (.slice o_h7 n_h7 c_h7)
  have hbx_ := h7.bx
  replace ha := ha.frame hbx_ ho
  replace hb' := hb'.frame hbx_ ho
  replace hp := hp.frame ho (by first | assumption | (apply Ne.symm; assumption) | (simp; done) | omega)
  replace hq := hq.frame ho (by first | assumption | (apply Ne.symm; assumption) | (simp; done) | omega)
  replace g1 := g1.frame hbx_ ho
  replace g2 := g2.frame hbx_ ho
  replace g3 := g3.frame hbx_ ho
  replace h5 := h5.frame ho (by first | assumption | (apply Ne.symm; assumption) | (simp; done) | omega)
  replace h6 := h6.frame ho (by first | assumption | (apply Ne.symm; assumption) | (simp; done) | omega)
  replace h7 := h7.store sb_h7 (.slice o_h7 n_h7 c_h7)
  replace hb := (hb.setCell (p := ⟨w_3.heap.size, 0, none⟩) (show w.heap.size ≤ w_3.heap.size by first | assumption | (simp; done) | omega) (.bool sb_h7)).setCell (p := ⟨w_3.heap.size, 1, none⟩) (show w.heap.size ≤ w_3.heap.size by first | assumption | (simp; done) | omega) (.slice o_h7 n_h7 c_h7)
  clear ho hbx_
  obtain ⟨w_7, hw_7⟩ : ∃ v, ((w_6.setCell ⟨w_3.heap.size, 0, none⟩ (.bool sb_h7)).setCell ⟨w_3.heap.size, 1, none⟩ (.slice o_h7 n_h7 c_h7)) = v := ⟨_, rfl⟩
  rw [hw_7] at ha hb' hp hq g1 g2 g3 h5 h6 h7 hb
  have f_hp := hp.facts
  have f_hq := hq.facts
  go_wp2_with fail
  refine (rxgcd_any ha hb' (by decide) (by decide) H0.out).mono ?_
  rintro e w_8 ⟨v4, v5, v6, rfl, ⟨c2, hxg2, k1, k2, k3⟩, hb_8⟩
  replace ha := ha.below hb_8 (Nat.le_refl _)
  replace hb' := hb'.below hb_8 (Nat.le_refl _)
  replace hp := hp.below hb_8 (Nat.le_refl _)
  replace hq := hq.below hb_8 (Nat.le_refl _)
  replace g1 := g1.below hb_8 (Nat.le_refl _)
  replace g2 := g2.below hb_8 (Nat.le_refl _)
  replace g3 := g3.below hb_8 (Nat.le_refl _)
  replace h5 := h5.below hb_8 (Nat.le_refl _)
  replace h6 := h6.below hb_8 (Nat.le_refl _)
  replace h7 := h7.below hb_8 (Nat.le_refl _)
  replace hb := hb.trans (hb_8.mono hb.size)
  clear hb_8
  obtain rfl := hxg.out.unique H0.out hxg2
  clear hxg2
  clear f_hp f_hq f_h5 f_h6 f_h7
  have kb_h8 := hb.size
  have ne_hp_h8 : w.heap.size ≠ w_8.heap.size := by have := hp.lt; (try simp only [Bk.size_alloc] at this); omega
  have ne_hq_h8 : w.heap.size + 1 ≠ w_8.heap.size := by have := hq.lt; (try simp only [Bk.size_alloc] at this); omega
  have ne_h5_h8 : w_1.heap.size ≠ w_8.heap.size := by have := h5.lt; (try simp only [Bk.size_alloc] at this); omega
  have ne_h6_h8 : w_2.heap.size ≠ w_8.heap.size := by have := h6.lt; (try simp only [Bk.size_alloc] at this); omega
  have ne_h7_h8 : w_3.heap.size ≠ w_8.heap.size := by have := h7.lt; (try simp only [Bk.size_alloc] at this); omega
  have h8 := Bk.new w_8 false (.slice none 0 0)
  replace ha := ha.alloc (.cells #[.bool false, (.slice none 0 0)] 24)
  replace hb' := hb'.alloc (.cells #[.bool false, (.slice none 0 0)] 24)
  replace hp := hp.alloc (.cells #[.bool false, (.slice none 0 0)] 24)
  replace hq := hq.alloc (.cells #[.bool false, (.slice none 0 0)] 24)
  replace g1 := g1.alloc (.cells #[.bool false, (.slice none 0 0)] 24)
  replace g2 := g2.alloc (.cells #[.bool false, (.slice none 0 0)] 24)
  replace g3 := g3.alloc (.cells #[.bool false, (.slice none 0 0)] 24)
  replace h5 := h5.alloc (.cells #[.bool false, (.slice none 0 0)] 24)
  replace h6 := h6.alloc (.cells #[.bool false, (.slice none 0 0)] 24)
  replace h7 := h7.alloc (.cells #[.bool false, (.slice none 0 0)] 24)
  replace k1 := k1.alloc (.cells #[.bool false, (.slice none 0 0)] 24)
  replace k2 := k2.alloc (.cells #[.bool false, (.slice none 0 0)] 24)
  replace k3 := k3.alloc (.cells #[.bool false, (.slice none 0 0)] 24)
  replace hb := hb.alloc hb.size (.cells #[.bool false, (.slice none 0 0)] 24)
  obtain ⟨w_9, hw_9⟩ : ∃ v, (w_8.alloc (.cells #[.bool false, (.slice none 0 0)] 24)) = v := ⟨_, rfl⟩
  rw [hw_9] at ha hb' hp hq g1 g2 g3 h5 h6 h7 k1 k2 k3 h8 hb
  have kb_h9 := hb.size
  have ne_hp_h9 : w.heap.size ≠ w_9.heap.size := by have := hp.lt; (try simp only [Bk.size_alloc] at this); omega
  have ne_hq_h9 : w.heap.size + 1 ≠ w_9.heap.size := by have := hq.lt; (try simp only [Bk.size_alloc] at this); omega
  have ne_h5_h9 : w_1.heap.size ≠ w_9.heap.size := by have := h5.lt; (try simp only [Bk.size_alloc] at this); omega
  have ne_h6_h9 : w_2.heap.size ≠ w_9.heap.size := by have := h6.lt; (try simp only [Bk.size_alloc] at this); omega
  have ne_h7_h9 : w_3.heap.size ≠ w_9.heap.size := by have := h7.lt; (try simp only [Bk.size_alloc] at this); omega
  have ne_h8_h9 : w_8.heap.size ≠ w_9.heap.size := by have := h8.lt; (try simp only [Bk.size_alloc] at this); omega
  have h9 := Bk.new w_9 false (.slice none 0 0)
  replace ha := ha.alloc (.cells #[.bool false, (.slice none 0 0)] 24)
  replace hb' := hb'.alloc (.cells #[.bool false, (.slice none 0 0)] 24)
  replace hp := hp.alloc (.cells #[.bool false, (.slice none 0 0)] 24)
  replace hq := hq.alloc (.cells #[.bool false, (.slice none 0 0)] 24)
  replace g1 := g1.alloc (.cells #[.bool false, (.slice none 0 0)] 24)
  replace g2 := g2.alloc (.cells #[.bool false, (.slice none 0 0)] 24)
  replace g3 := g3.alloc (.cells #[.bool false, (.slice none 0 0)] 24)
  replace h5 := h5.alloc (.cells #[.bool false, (.slice none 0 0)] 24)
  replace h6 := h6.alloc (.cells #[.bool false, (.slice none 0 0)] 24)
  replace h7 := h7.alloc (.cells #[.bool false, (.slice none 0 0)] 24)
  replace k1 := k1.alloc (.cells #[.bool false, (.slice none 0 0)] 24)
  replace k2 := k2.alloc (.cells #[.bool false, (.slice none 0 0)] 24)
  replace k3 := k3.alloc (.cells #[.bool false, (.slice none 0 0)] 24)
  replace h8 := h8.alloc (.cells #[.bool false, (.slice none 0 0)] 24)
  replace hb := hb.alloc hb.size (.cells #[.bool false, (.slice none 0 0)] 24)
  obtain ⟨w_10, hw_10⟩ : ∃ v, (w_9.alloc (.cells #[.bool false, (.slice none 0 0)] 24)) = v := ⟨_, rfl⟩
  rw [hw_10] at ha hb' hp hq g1 g2 g3 h5 h6 h7 k1 k2 k3 h8 h9 hb
  have kb_h10 := hb.size
  have ne_hp_h10 : w.heap.size ≠ w_10.heap.size := by have := hp.lt; (try simp only [Bk.size_alloc] at this); omega
  have ne_hq_h10 : w.heap.size + 1 ≠ w_10.heap.size := by have := hq.lt; (try simp only [Bk.size_alloc] at this); omega
  have ne_h5_h10 : w_1.heap.size ≠ w_10.heap.size := by have := h5.lt; (try simp only [Bk.size_alloc] at this); omega
  have ne_h6_h10 : w_2.heap.size ≠ w_10.heap.size := by have := h6.lt; (try simp only [Bk.size_alloc] at this); omega
  have ne_h7_h10 : w_3.heap.size ≠ w_10.heap.size := by have := h7.lt; (try simp only [Bk.size_alloc] at this); omega
  have ne_h8_h10 : w_8.heap.size ≠ w_10.heap.size := by have := h8.lt; (try simp only [Bk.size_alloc] at this); omega
  have ne_h9_h10 : w_9.heap.size ≠ w_10.heap.size := by have := h9.lt; (try simp only [Bk.size_alloc] at this); omega
  have h10 := Bk.new w_10 false (.slice none 0 0)
  replace ha := ha.alloc (.cells #[.bool false, (.slice none 0 0)] 24)
  replace hb' := hb'.alloc (.cells #[.bool false, (.slice none 0 0)] 24)
  replace hp := hp.alloc (.cells #[.bool false, (.slice none 0 0)] 24)
  replace hq := hq.alloc (.cells #[.bool false, (.slice none 0 0)] 24)
  replace g1 := g1.alloc (.cells #[.bool false, (.slice none 0 0)] 24)
  replace g2 := g2.alloc (.cells #[.bool false, (.slice none 0 0)] 24)
  replace g3 := g3.alloc (.cells #[.bool false, (.slice none 0 0)] 24)
  replace h5 := h5.alloc (.cells #[.bool false, (.slice none 0 0)] 24)
  replace h6 := h6.alloc (.cells #[.bool false, (.slice none 0 0)] 24)
  replace h7 := h7.alloc (.cells #[.bool false, (.slice none 0 0)] 24)
  replace k1 := k1.alloc (.cells #[.bool false, (.slice none 0 0)] 24)
  replace k2 := k2.alloc (.cells #[.bool false, (.slice none 0 0)] 24)
  replace k3 := k3.alloc (.cells #[.bool false, (.slice none 0 0)] 24)
  replace h8 := h8.alloc (.cells #[.bool false, (.slice none 0 0)] 24)
  replace h9 := h9.alloc (.cells #[.bool false, (.slice none 0 0)] 24)
  replace hb := hb.alloc hb.size (.cells #[.bool false, (.slice none 0 0)] 24)
  obtain ⟨w_11, hw_11⟩ : ∃ v, (w_10.alloc (.cells #[.bool false, (.slice none 0 0)] 24)) = v := ⟨_, rfl⟩
  rw [hw_11] at ha hb' hp hq g1 g2 g3 h5 h6 h7 k1 k2 k3 h8 h9 h10 hb
  obtain ⟨sb_h8, o_h8, n_h8, c_h8, rfl⟩ := k1.open2
  have f_h8 := h8.facts
  have ho := Bk.only w_11 (w_8.heap.size) sb_h8 (.slice o_h8 n_h8 c_h8)
  have hbx_ := h8.bx
  replace ha := ha.frame hbx_ ho
  replace hb' := hb'.frame hbx_ ho
  replace hp := hp.frame ho (by first | assumption | (apply Ne.symm; assumption) | (simp; done) | omega)
  replace hq := hq.frame ho (by first | assumption | (apply Ne.symm; assumption) | (simp; done) | omega)
  replace g1 := g1.frame hbx_ ho
  replace g2 := g2.frame hbx_ ho
  replace g3 := g3.frame hbx_ ho
  replace h5 := h5.frame ho (by first | assumption | (apply Ne.symm; assumption) | (simp; done) | omega)
  replace h6 := h6.frame ho (by first | assumption | (apply Ne.symm; assumption) | (simp; done) | omega)
  replace h7 := h7.frame ho (by first | assumption | (apply Ne.symm; assumption) | (simp; done) | omega)
  replace k1 := k1.frame hbx_ ho
  replace k2 := k2.frame hbx_ ho
  replace k3 := k3.frame hbx_ ho
  replace h9 := h9.frame ho (by first | assumption | (apply Ne.symm; assumption) | (simp; done) | omega)
  replace h10 := h10.frame ho (by first | assumption | (apply Ne.symm; assumption) | (simp; done) | omega)
  replace h8 := h8.store sb_h8 (.slice o_h8 n_h8 c_h8)
  replace hb := (hb.setCell (p := ⟨w_8.heap.size, 0, none⟩) (show w.heap.size ≤ w_8.heap.size by first | assumption | (simp; done) | omega) (.bool sb_h8)).setCell (p := ⟨w_8.heap.size, 1, none⟩) (show w.heap.size ≤ w_8.heap.size by first | assumption | (simp; done) | omega) (.slice o_h8 n_h8 c_h8)
  clear ho hbx_
  obtain ⟨w_12, hw_12⟩ : ∃ v, ((w_11.setCell ⟨w_8.heap.size, 0, none⟩ (.bool sb_h8)).setCell ⟨w_8.heap.size, 1, none⟩ (.slice o_h8 n_h8 c_h8)) = v := ⟨_, rfl⟩
  rw [hw_12] at ha hb' hp hq g1 g2 g3 h5 h6 h7 k1 k2 k3 h8 h9 h10 hb
  obtain ⟨sb_h9, o_h9, n_h9, c_h9, rfl⟩ := k2.open2
  have f_h9 := h9.facts
  have ho := Bk.only w_12 (w_9.heap.size) sb_h9 (.slice o_h9 n_h9 c_h9)
  have hbx_ := h9.bx
  replace ha := ha.frame hbx_ ho
  replace hb' := hb'.frame hbx_ ho
  replace hp := hp.frame ho (by first | assumption | (apply Ne.symm; assumption) | (simp; done) | omega)
  replace hq := hq.frame ho (by first | assumption | (apply Ne.symm; assumption) | (simp; done) | omega)
  replace g1 := g1.frame hbx_ ho
  replace g2 := g2.frame hbx_ ho
  replace g3 := g3.frame hbx_ ho
  replace h5 := h5.frame ho (by first | assumption | (apply Ne.symm; assumption) | (simp; done) | omega)
  replace h6 := h6.frame ho (by first | assumption | (apply Ne.symm; assumption) | (simp; done) | omega)
  replace h7 := h7.frame ho (by first | assumption | (apply Ne.symm; assumption) | (simp; done) | omega)
  replace k1 := k1.frame hbx_ ho
  replace k2 := k2.frame hbx_ ho
  replace k3 := k3.frame hbx_ ho
  replace h8 := h8.frame ho (by first | assumption | (apply Ne.symm; assumption) | (simp; done) | omega)
  replace h10 := h10.frame ho (by first | assumption | (apply Ne.symm; assumption) | (simp; done) | omega)
  replace h9 := h9.store sb_h9 (.slice o_h9 n_h9 c_h9)
  replace hb := (hb.setCell (p := ⟨w_9.heap.size, 0, none⟩) (show w.heap.size ≤ w_9.heap.size by first | assumption | (simp; done) | omega) (.bool sb_h9)).setCell (p := ⟨w_9.heap.size, 1, none⟩) (show w.heap.size ≤ w_9.heap.size by first | assumption | (simp; done) | omega) (.slice o_h9 n_h9 c_h9)
  clear ho hbx_
  obtain ⟨w_13, hw_13⟩ : ∃ v, ((w_12.setCell ⟨w_9.heap.size, 0, none⟩ (.bool sb_h9)).setCell ⟨w_9.heap.size, 1, none⟩ (.slice o_h9 n_h9 c_h9)) = v := ⟨_, rfl⟩
  rw [hw_13] at ha hb' hp hq g1 g2 g3 h5 h6 h7 k1 k2 k3 h8 h9 h10 hb
  obtain ⟨sb_h10, o_h10, n_h10, c_h10, rfl⟩ := k3.open2
  have f_h10 := h10.facts
  have ho := Bk.only w_13 (w_10.heap.size) sb_h10 (.slice o_h10 n_h10 c_h10)
  have hbx_ := h10.bx
  replace ha := ha.frame hbx_ ho
  replace hb' := hb'.frame hbx_ ho
  replace hp := hp.frame ho (by first | assumption | (apply Ne.symm; assumption) | (simp; done) | omega)
  replace hq := hq.frame ho (by first | assumption | (apply Ne.symm; assumption) | (simp; done) | omega)
  replace g1 := g1.frame hbx_ ho
  replace g2 := g2.frame hbx_ ho
  replace g3 := g3.frame hbx_ ho
  replace h5 := h5.frame ho (by first | assumption | (apply Ne.symm; assumption) | (simp; done) | omega)
  replace h6 := h6.frame ho (by first | assumption | (apply Ne.symm; assumption) | (simp; done) | omega)
  replace h7 := h7.frame ho (by first | assumption | (apply Ne.symm; assumption) | (simp; done) | omega)
  replace k1 := k1.frame hbx_ ho
  replace k2 := k2.frame hbx_ ho
  replace k3 := k3.frame hbx_ ho
  replace h8 := h8.frame ho (by first | assumption | (apply Ne.symm; assumption) | (simp; done) | omega)
  replace h9 := h9.frame ho (by first | assumption | (apply Ne.symm; assumption) | (simp; done) | omega)
  replace h10 := h10.store sb_h10 (.slice o_h10 n_h10 c_h10)
  replace hb := (hb.setCell (p := ⟨w_10.heap.size, 0, none⟩) (show w.heap.size ≤ w_10.heap.size by first | assumption | (simp; done) | omega) (.bool sb_h10)).setCell (p := ⟨w_10.heap.size, 1, none⟩) (show w.heap.size ≤ w_10.heap.size by first | assumption | (simp; done) | omega) (.slice o_h10 n_h10 c_h10)
  clear ho hbx_
  obtain ⟨w_14, hw_14⟩ : ∃ v, ((w_13.setCell ⟨w_10.heap.size, 0, none⟩ (.bool sb_h10)).setCell ⟨w_10.heap.size, 1, none⟩ (.slice o_h10 n_h10 c_h10)) = v := ⟨_, rfl⟩
  rw [hw_14] at ha hb' hp hq g1 g2 g3 h5 h6 h7 k1 k2 k3 h8 h9 h10 hb
  replace ha := ha.drew
  replace hb' := hb'.drew
  replace hp := hp.drew
  replace hq := hq.drew
  replace g1 := g1.drew
  replace g2 := g2.drew
  replace g3 := g3.drew
  replace h5 := h5.drew
  replace h6 := h6.drew
  replace h7 := h7.drew
  replace k1 := k1.drew
  replace k2 := k2.drew
  replace k3 := k3.drew
  replace h8 := h8.drew
  replace h9 := h9.drew
  replace h10 := h10.drew
  replace hb := hb.drew
  go_wp2_with fail
  refine wp_region_pl [(0, true), (1, false), (2, false), (3, false), (5, false), (4, true), (6, true), (7, false), (8, false), (9, false), (10, false), (11, true), (12, false), (13, false), (14, false), (15, false), (16, true), (17, false), (18, false), (19, false), (20, false), (21, true), (22, false), (23, false)] (fun w' => w'.cell? ⟨w.heap.size, 0, none⟩ = some (.bool na) ∧ w'.cell? ⟨w.heap.size, 1, none⟩ = some (.slice oa xs.length ca) ∧ w'.cell? ⟨w.heap.size + 1, 0, none⟩ = some (.bool nb) ∧ w'.cell? ⟨w.heap.size + 1, 1, none⟩ = some (.slice ob ys.length cb) ∧ w'.cell? ⟨w_1.heap.size, 0, none⟩ = some (.bool sb_h5) ∧ w'.cell? ⟨w_1.heap.size, 1, none⟩ = some (.slice o_h5 n_h5 c_h5) ∧ w'.cell? ⟨w_2.heap.size, 0, none⟩ = some (.bool sb_h6) ∧ w'.cell? ⟨w_2.heap.size, 1, none⟩ = some (.slice o_h6 n_h6 c_h6) ∧ w'.cell? ⟨w_3.heap.size, 0, none⟩ = some (.bool sb_h7) ∧ w'.cell? ⟨w_3.heap.size, 1, none⟩ = some (.slice o_h7 n_h7 c_h7) ∧ w'.cell? ⟨w_8.heap.size, 0, none⟩ = some (.bool sb_h8) ∧ w'.cell? ⟨w_8.heap.size, 1, none⟩ = some (.slice o_h8 n_h8 c_h8) ∧ w'.cell? ⟨w_9.heap.size, 0, none⟩ = some (.bool sb_h9) ∧ w'.cell? ⟨w_9.heap.size, 1, none⟩ = some (.slice o_h9 n_h9 c_h9) ∧ w'.cell? ⟨w_10.heap.size, 0, none⟩ = some (.bool sb_h10) ∧ w'.cell? ⟨w_10.heap.size, 1, none⟩ = some (.slice o_h10 n_h10 c_h10)) (by kernel_rfl) (by kernel_rfl) (by kernel_rfl) (by kernel_rfl) ⟨hp.facts.1, hp.facts.2.1, hq.facts.1, hq.facts.2.1, h5.facts.1, h5.facts.2.1, h6.facts.1, h6.facts.2.1, h7.facts.1, h7.facts.2.1, h8.facts.1, h8.facts.2.1, h9.facts.1, h9.facts.2.1, h10.facts.1, h10.facts.2.1⟩ ?_
  clear f_h8 f_h9 f_h10
  apply wpPl_call
  case hi => rfl
  case hw => kernel_rfl
  case h =>
  intro K hK
  have kb_15 := hb.size
  go_big_op
  go_fit (zawake_any _ (htabs _ hb))
  rintro e w_15 ⟨rfl, hb_15⟩
  replace ha := ha.below hb_15 (Nat.le_refl _)
  replace hb' := hb'.below hb_15 (Nat.le_refl _)
  replace hp := hp.below hb_15 (Nat.le_refl _)
  replace hq := hq.below hb_15 (Nat.le_refl _)
  replace g1 := g1.below hb_15 (Nat.le_refl _)
  replace g2 := g2.below hb_15 (Nat.le_refl _)
  replace g3 := g3.below hb_15 (Nat.le_refl _)
  replace h5 := h5.below hb_15 (Nat.le_refl _)
  replace h6 := h6.below hb_15 (Nat.le_refl _)
  replace h7 := h7.below hb_15 (Nat.le_refl _)
  replace k1 := k1.below hb_15 (Nat.le_refl _)
  replace k2 := k2.below hb_15 (Nat.le_refl _)
  replace k3 := k3.below hb_15 (Nat.le_refl _)
  replace h8 := h8.below hb_15 (Nat.le_refl _)
  replace h9 := h9.below hb_15 (Nat.le_refl _)
  replace h10 := h10.below hb_15 (Nat.le_refl _)
  replace hb := hb.trans (hb_15.mono hb.size)
  refine hK _ _ rfl ⟨hp.facts.1, hp.facts.2.1, hq.facts.1, hq.facts.2.1, h5.facts.1, h5.facts.2.1, h6.facts.1, h6.facts.2.1, h7.facts.1, h7.facts.2.1, h8.facts.1, h8.facts.2.1, h9.facts.1, h9.facts.2.1, h10.facts.1, h10.facts.2.1⟩ ?_
  clear hK K hb_15
  apply wpPl_ld
  case hi => rfl
  case h1 => intro w' hC K hK; obtain ⟨c0, c1, c2, c3, c4, c5, c6, c7, c8, c9, c10, c11, c12, c13, c14, c15⟩ := hC; (first | go_big_move | go_big_op); exact hK
  case hw => kernel_rfl
  case hv => kernel_rfl
  case hb => kernel_rfl
  case hp => kernel_rfl
  apply wpPl_ld
  case hi => rfl
  case h1 => intro w' hC K hK; obtain ⟨c0, c1, c2, c3, c4, c5, c6, c7, c8, c9, c10, c11, c12, c13, c14, c15⟩ := hC; (first | go_big_move | go_big_op); exact hK
  case hw => kernel_rfl
  case hv => kernel_rfl
  case hb => kernel_rfl
  case hp => kernel_rfl
  apply wpPl_ld
  case hi => rfl
  case h1 => intro w' hC K hK; obtain ⟨c0, c1, c2, c3, c4, c5, c6, c7, c8, c9, c10, c11, c12, c13, c14, c15⟩ := hC; (first | go_big_move | go_big_op); exact hK
  case hw => kernel_rfl
  case hv => kernel_rfl
  case hb => kernel_rfl
  case hp => kernel_rfl
  apply wpPl_ld
  case hi => rfl
  case h1 => intro w' hC K hK; obtain ⟨c0, c1, c2, c3, c4, c5, c6, c7, c8, c9, c10, c11, c12, c13, c14, c15⟩ := hC; (first | go_big_move | go_big_op); exact hK
  case hw => kernel_rfl
  case hv => kernel_rfl
  case hb => kernel_rfl
  case hp => kernel_rfl
  apply wpPl_call
  case hi => rfl
  case hw => kernel_rfl
  case h =>
  intro K hK
  have kb_16 := hb.size
  go_big_op
  go_fit (zgcd_any ha hb' (by decide) (by decide))
  rintro e w_16 ⟨v7, rfl, g7, hb_16⟩
  replace ha := ha.below hb_16 (Nat.le_refl _)
  replace hb' := hb'.below hb_16 (Nat.le_refl _)
  replace hp := hp.below hb_16 (Nat.le_refl _)
  replace hq := hq.below hb_16 (Nat.le_refl _)
  replace g1 := g1.below hb_16 (Nat.le_refl _)
  replace g2 := g2.below hb_16 (Nat.le_refl _)
  replace g3 := g3.below hb_16 (Nat.le_refl _)
  replace h5 := h5.below hb_16 (Nat.le_refl _)
  replace h6 := h6.below hb_16 (Nat.le_refl _)
  replace h7 := h7.below hb_16 (Nat.le_refl _)
  replace k1 := k1.below hb_16 (Nat.le_refl _)
  replace k2 := k2.below hb_16 (Nat.le_refl _)
  replace k3 := k3.below hb_16 (Nat.le_refl _)
  replace h8 := h8.below hb_16 (Nat.le_refl _)
  replace h9 := h9.below hb_16 (Nat.le_refl _)
  replace h10 := h10.below hb_16 (Nat.le_refl _)
  replace hb := hb.trans (hb_16.mono hb.size)
  refine hK _ _ rfl ⟨hp.facts.1, hp.facts.2.1, hq.facts.1, hq.facts.2.1, h5.facts.1, h5.facts.2.1, h6.facts.1, h6.facts.2.1, h7.facts.1, h7.facts.2.1, h8.facts.1, h8.facts.2.1, h9.facts.1, h9.facts.2.1, h10.facts.1, h10.facts.2.1⟩ ?_
  clear hK K hb_16
  replace g7 := g7.rd
  apply wpPl_call
  case hi => rfl
  case hw => kernel_rfl
  case h =>
  intro K hK
  have kb_17 := hb.size
  go_big_op
  go_fit (is_zz g7 (k1.zn LG.out) (by decide))
  rintro e w_17 ⟨rfl, hb_17⟩
  replace ha := ha.below hb_17 (Nat.le_refl _)
  replace hb' := hb'.below hb_17 (Nat.le_refl _)
  replace hp := hp.below hb_17 (Nat.le_refl _)
  replace hq := hq.below hb_17 (Nat.le_refl _)
  replace g1 := g1.below hb_17 (Nat.le_refl _)
  replace g2 := g2.below hb_17 (Nat.le_refl _)
  replace g3 := g3.below hb_17 (Nat.le_refl _)
  replace h5 := h5.below hb_17 (Nat.le_refl _)
  replace h6 := h6.below hb_17 (Nat.le_refl _)
  replace h7 := h7.below hb_17 (Nat.le_refl _)
  replace k1 := k1.below hb_17 (Nat.le_refl _)
  replace k2 := k2.below hb_17 (Nat.le_refl _)
  replace k3 := k3.below hb_17 (Nat.le_refl _)
  replace h8 := h8.below hb_17 (Nat.le_refl _)
  replace h9 := h9.below hb_17 (Nat.le_refl _)
  replace h10 := h10.below hb_17 (Nat.le_refl _)
  replace g7 := g7.below hb_17 (Nat.le_refl _)
  replace hb := hb.trans (hb_17.mono hb.size)
  refine hK _ _ rfl ⟨hp.facts.1, hp.facts.2.1, hq.facts.1, hq.facts.2.1, h5.facts.1, h5.facts.2.1, h6.facts.1, h6.facts.2.1, h7.facts.1, h7.facts.2.1, h8.facts.1, h8.facts.2.1, h9.facts.1, h9.facts.2.1, h10.facts.1, h10.facts.2.1⟩ ?_
  clear hK K hb_17
  clear g7
  apply wpPl_ld
  case hi => rfl
  case h1 => intro w' hC K hK; obtain ⟨c0, c1, c2, c3, c4, c5, c6, c7, c8, c9, c10, c11, c12, c13, c14, c15⟩ := hC; (first | go_big_move | go_big_op); exact hK
  case hw => kernel_rfl
  case hv => kernel_rfl
  case hb => kernel_rfl
  case hp => kernel_rfl
  apply wpPl_ld
  case hi => rfl
  case h1 => intro w' hC K hK; obtain ⟨c0, c1, c2, c3, c4, c5, c6, c7, c8, c9, c10, c11, c12, c13, c14, c15⟩ := hC; (first | go_big_move | go_big_op); exact hK
  case hw => kernel_rfl
  case hv => kernel_rfl
  case hb => kernel_rfl
  case hp => kernel_rfl
  apply wpPl_ld
  case hi => rfl
  case h1 => intro w' hC K hK; obtain ⟨c0, c1, c2, c3, c4, c5, c6, c7, c8, c9, c10, c11, c12, c13, c14, c15⟩ := hC; (first | go_big_move | go_big_op); exact hK
  case hw => kernel_rfl
  case hv => kernel_rfl
  case hb => kernel_rfl
  case hp => kernel_rfl
  apply wpPl_ld
  case hi => rfl
  case h1 => intro w' hC K hK; obtain ⟨c0, c1, c2, c3, c4, c5, c6, c7, c8, c9, c10, c11, c12, c13, c14, c15⟩ := hC; (first | go_big_move | go_big_op); exact hK
  case hw => kernel_rfl
  case hv => kernel_rfl
  case hb => kernel_rfl
  case hp => kernel_rfl
  apply wpPl_call
  case hi => rfl
  case hw => kernel_rfl
  case h =>
  intro K hK
  have kb_18 := hb.size
  go_big_op
  go_fit (is_zz g1 (k1.zn LG.out) (by decide))
  rintro e w_18 ⟨rfl, hb_18⟩
  replace ha := ha.below hb_18 (Nat.le_refl _)
  replace hb' := hb'.below hb_18 (Nat.le_refl _)
  replace hp := hp.below hb_18 (Nat.le_refl _)
  replace hq := hq.below hb_18 (Nat.le_refl _)
  replace g1 := g1.below hb_18 (Nat.le_refl _)
  replace g2 := g2.below hb_18 (Nat.le_refl _)
  replace g3 := g3.below hb_18 (Nat.le_refl _)
  replace h5 := h5.below hb_18 (Nat.le_refl _)
  replace h6 := h6.below hb_18 (Nat.le_refl _)
  replace h7 := h7.below hb_18 (Nat.le_refl _)
  replace k1 := k1.below hb_18 (Nat.le_refl _)
  replace k2 := k2.below hb_18 (Nat.le_refl _)
  replace k3 := k3.below hb_18 (Nat.le_refl _)
  replace h8 := h8.below hb_18 (Nat.le_refl _)
  replace h9 := h9.below hb_18 (Nat.le_refl _)
  replace h10 := h10.below hb_18 (Nat.le_refl _)
  replace hb := hb.trans (hb_18.mono hb.size)
  refine hK _ _ rfl ⟨hp.facts.1, hp.facts.2.1, hq.facts.1, hq.facts.2.1, h5.facts.1, h5.facts.2.1, h6.facts.1, h6.facts.2.1, h7.facts.1, h7.facts.2.1, h8.facts.1, h8.facts.2.1, h9.facts.1, h9.facts.2.1, h10.facts.1, h10.facts.2.1⟩ ?_
  clear hK K hb_18
  apply wpPl_ld
  case hi => rfl
  case h1 => intro w' hC K hK; obtain ⟨c0, c1, c2, c3, c4, c5, c6, c7, c8, c9, c10, c11, c12, c13, c14, c15⟩ := hC; (first | go_big_move | go_big_op); exact hK
  case hw => kernel_rfl
  case hv => kernel_rfl
  case hb => kernel_rfl
  case hp => kernel_rfl
  apply wpPl_ld
  case hi => rfl
  case h1 => intro w' hC K hK; obtain ⟨c0, c1, c2, c3, c4, c5, c6, c7, c8, c9, c10, c11, c12, c13, c14, c15⟩ := hC; (first | go_big_move | go_big_op); exact hK
  case hw => kernel_rfl
  case hv => kernel_rfl
  case hb => kernel_rfl
  case hp => kernel_rfl
  apply wpPl_ld
  case hi => rfl
  case h1 => intro w' hC K hK; obtain ⟨c0, c1, c2, c3, c4, c5, c6, c7, c8, c9, c10, c11, c12, c13, c14, c15⟩ := hC; (first | go_big_move | go_big_op); exact hK
  case hw => kernel_rfl
  case hv => kernel_rfl
  case hb => kernel_rfl
  case hp => kernel_rfl
  apply wpPl_ld
  case hi => rfl
  case h1 => intro w' hC K hK; obtain ⟨c0, c1, c2, c3, c4, c5, c6, c7, c8, c9, c10, c11, c12, c13, c14, c15⟩ := hC; (first | go_big_move | go_big_op); exact hK
  case hw => kernel_rfl
  case hv => kernel_rfl
  case hb => kernel_rfl
  case hp => kernel_rfl
  apply wpPl_call
  case hi => rfl
  case hw => kernel_rfl
  case h =>
  intro K hK
  have kb_19 := hb.size
  go_big_op
  go_fit (is_zz g2 (k2.zn LC.out) (by decide))
  rintro e w_19 ⟨rfl, hb_19⟩
  replace ha := ha.below hb_19 (Nat.le_refl _)
  replace hb' := hb'.below hb_19 (Nat.le_refl _)
  replace hp := hp.below hb_19 (Nat.le_refl _)
  replace hq := hq.below hb_19 (Nat.le_refl _)
  replace g1 := g1.below hb_19 (Nat.le_refl _)
  replace g2 := g2.below hb_19 (Nat.le_refl _)
  replace g3 := g3.below hb_19 (Nat.le_refl _)
  replace h5 := h5.below hb_19 (Nat.le_refl _)
  replace h6 := h6.below hb_19 (Nat.le_refl _)
  replace h7 := h7.below hb_19 (Nat.le_refl _)
  replace k1 := k1.below hb_19 (Nat.le_refl _)
  replace k2 := k2.below hb_19 (Nat.le_refl _)
  replace k3 := k3.below hb_19 (Nat.le_refl _)
  replace h8 := h8.below hb_19 (Nat.le_refl _)
  replace h9 := h9.below hb_19 (Nat.le_refl _)
  replace h10 := h10.below hb_19 (Nat.le_refl _)
  replace hb := hb.trans (hb_19.mono hb.size)
  refine hK _ _ rfl ⟨hp.facts.1, hp.facts.2.1, hq.facts.1, hq.facts.2.1, h5.facts.1, h5.facts.2.1, h6.facts.1, h6.facts.2.1, h7.facts.1, h7.facts.2.1, h8.facts.1, h8.facts.2.1, h9.facts.1, h9.facts.2.1, h10.facts.1, h10.facts.2.1⟩ ?_
  clear hK K hb_19
  apply wpPl_ld
  case hi => rfl
  case h1 => intro w' hC K hK; obtain ⟨c0, c1, c2, c3, c4, c5, c6, c7, c8, c9, c10, c11, c12, c13, c14, c15⟩ := hC; (first | go_big_move | go_big_op); exact hK
  case hw => kernel_rfl
  case hv => kernel_rfl
  case hb => kernel_rfl
  case hp => kernel_rfl
  apply wpPl_ld
  case hi => rfl
  case h1 => intro w' hC K hK; obtain ⟨c0, c1, c2, c3, c4, c5, c6, c7, c8, c9, c10, c11, c12, c13, c14, c15⟩ := hC; (first | go_big_move | go_big_op); exact hK
  case hw => kernel_rfl
  case hv => kernel_rfl
  case hb => kernel_rfl
  case hp => kernel_rfl
  apply wpPl_ld
  case hi => rfl
  case h1 => intro w' hC K hK; obtain ⟨c0, c1, c2, c3, c4, c5, c6, c7, c8, c9, c10, c11, c12, c13, c14, c15⟩ := hC; (first | go_big_move | go_big_op); exact hK
  case hw => kernel_rfl
  case hv => kernel_rfl
  case hb => kernel_rfl
  case hp => kernel_rfl
  apply wpPl_ld
  case hi => rfl
  case h1 => intro w' hC K hK; obtain ⟨c0, c1, c2, c3, c4, c5, c6, c7, c8, c9, c10, c11, c12, c13, c14, c15⟩ := hC; (first | go_big_move | go_big_op); exact hK
  case hw => kernel_rfl
  case hv => kernel_rfl
  case hb => kernel_rfl
  case hp => kernel_rfl
  apply wpPl_call
  case hi => rfl
  case hw => kernel_rfl
  case h =>
  intro K hK
  have kb_20 := hb.size
  go_big_op
  go_fit (is_zz g3 (k3.zn LD.out) (by decide))
  rintro e w_20 ⟨rfl, hb_20⟩
  replace ha := ha.below hb_20 (Nat.le_refl _)
  replace hb' := hb'.below hb_20 (Nat.le_refl _)
  replace hp := hp.below hb_20 (Nat.le_refl _)
  replace hq := hq.below hb_20 (Nat.le_refl _)
  replace g1 := g1.below hb_20 (Nat.le_refl _)
  replace g2 := g2.below hb_20 (Nat.le_refl _)
  replace g3 := g3.below hb_20 (Nat.le_refl _)
  replace h5 := h5.below hb_20 (Nat.le_refl _)
  replace h6 := h6.below hb_20 (Nat.le_refl _)
  replace h7 := h7.below hb_20 (Nat.le_refl _)
  replace k1 := k1.below hb_20 (Nat.le_refl _)
  replace k2 := k2.below hb_20 (Nat.le_refl _)
  replace k3 := k3.below hb_20 (Nat.le_refl _)
  replace h8 := h8.below hb_20 (Nat.le_refl _)
  replace h9 := h9.below hb_20 (Nat.le_refl _)
  replace h10 := h10.below hb_20 (Nat.le_refl _)
  replace hb := hb.trans (hb_20.mono hb.size)
  refine hK _ _ rfl ⟨hp.facts.1, hp.facts.2.1, hq.facts.1, hq.facts.2.1, h5.facts.1, h5.facts.2.1, h6.facts.1, h6.facts.2.1, h7.facts.1, h7.facts.2.1, h8.facts.1, h8.facts.2.1, h9.facts.1, h9.facts.2.1, h10.facts.1, h10.facts.2.1⟩ ?_
  clear hK K hb_20
  apply wpPl_ld
  case hi => rfl
  case h1 => intro w' hC K hK; obtain ⟨c0, c1, c2, c3, c4, c5, c6, c7, c8, c9, c10, c11, c12, c13, c14, c15⟩ := hC; (first | go_big_move | go_big_op); exact hK
  case hw => kernel_rfl
  case hv => kernel_rfl
  case hb => kernel_rfl
  case hp => kernel_rfl
  apply wpPl_ld
  case hi => rfl
  case h1 => intro w' hC K hK; obtain ⟨c0, c1, c2, c3, c4, c5, c6, c7, c8, c9, c10, c11, c12, c13, c14, c15⟩ := hC; (first | go_big_move | go_big_op); exact hK
  case hw => kernel_rfl
  case hv => kernel_rfl
  case hb => kernel_rfl
  case hp => kernel_rfl
  apply wpPl_end
  go_wp2
  go_ret
  exact ⟨rfl, hb⟩

theorem walk_ZintGcds (w : World) (na : Bool) (sa : Value) (xs : List Nat) (hx : Rd w sa xs) (hxl : xs.length ≤ 1048576) (nb : Bool) (sb : Value) (ys : List Nat) (hy : Rd w sb ys) (hyl : ys.length ≤ 1048576) (htab : Lib.TabIs Tryd.prog w p10 .u64 Lib.pow10Tab) :
    Calls Tryd.prog 7 #[.agg #[.bool na, sa], .agg #[.bool nb, sb]] w fun e w' => e = .returned (.bool true) ∧ Below w.heap.size w w' := by
  have ha : ZN w (.agg #[.bool na, sa]) (zv na xs) 1048576 := ⟨na, sa, xs, rfl, hx, rfl, hxl⟩
  have hb : ZN w (.agg #[.bool nb, sb]) (zv nb ys) 1048576 := ⟨nb, sb, ys, rfl, hy, rfl, hyl⟩
  by_cases h0 : zv nb ys = 0
  · rw [h0] at hb; exact gcds_zero ha hb htab
  · exact gcds_both ha hb h0 htab
end Go.Proofs.YtabmffenbkdgkaaDoor
