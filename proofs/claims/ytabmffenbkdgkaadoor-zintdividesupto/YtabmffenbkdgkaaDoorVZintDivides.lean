/- ZintDivides: the law's walk. -/
import Derived.Test.YtabmffenbkdgkaaDoorY8
namespace Go.Proofs.YtabmffenbkdgkaaDoor
open Go.RowKit Dig

set_option maxHeartbeats 4000000 in
set_option maxRecDepth 20000 in
theorem divides_zero {w : World} {va vb : Value} {x : Int} (ha : ZN w va x 1048576) (hb' : ZN w vb 0 1048576) (htab : Lib.TabIs Tryd.prog w p10 .u64 Lib.pow10Tab) :
    Calls Tryd.prog 6 #[va, vb] w fun e w' => e = .returned (.bool true) ∧ Below w.heap.size w w' := by
  have htabs := Lib.tabBelow_of_tabIs htab
  obtain ⟨na, oa, ca, xs, rfl, hca, _, _, hxl⟩ := ha.open_
  obtain ⟨nb, ob, cb, ys, rfl, hcb, _, _, hyl⟩ := hb'.open_
  go_enter Tryd.func6, Tryd.ntmps6
  have hb := Below.refl w.heap.size w
  have hp := Bk.new w na (.slice oa xs.length ca)
  replace ha := ha.alloc (.cells #[.bool na, (.slice oa xs.length ca)] 24)
  replace hb' := hb'.alloc (.cells #[.bool na, (.slice oa xs.length ca)] 24)
  replace hb := hb.alloc hb.size (.cells #[.bool na, (.slice oa xs.length ca)] 24)
  have hq := Bk.new (w.alloc (.cells #[.bool na, (.slice oa xs.length ca)] 24)) nb (.slice ob ys.length cb)
  simp only [Bk.size_alloc] at hq
  replace ha := ha.alloc (.cells #[.bool nb, (.slice ob ys.length cb)] 24)
  replace hb' := hb'.alloc (.cells #[.bool nb, (.slice ob ys.length cb)] 24)
  replace hp := hp.alloc (.cells #[.bool nb, (.slice ob ys.length cb)] 24)
  replace hb := hb.alloc hb.size (.cells #[.bool nb, (.slice ob ys.length cb)] 24)
  have f_hp := hp.facts
  have f_hq := hq.facts
  go_wp2_with fail
  refine (fdiv_zero ha hb' (by decide) (by decide)).mono ?_
  rintro e w_1 ⟨rfl, hb_1⟩
  replace ha := ha.below hb_1 (Nat.le_refl _)
  replace hb' := hb'.below hb_1 (Nat.le_refl _)
  replace hp := hp.below hb_1 (Nat.le_refl _)
  replace hq := hq.below hb_1 (Nat.le_refl _)
  replace hb := hb.trans (hb_1.mono hb.size)
  clear hb_1
  clear f_hp f_hq
  have kb_hz1 := hb.size
  have ne_hp_hz1 : w.heap.size ≠ w_1.heap.size := by have := hp.lt; (try simp only [Bk.size_alloc] at this); omega
  have ne_hq_hz1 : w.heap.size + 1 ≠ w_1.heap.size := by have := hq.lt; (try simp only [Bk.size_alloc] at this); omega
  have hz1 := Bk.new w_1 false (.slice none 0 0)
  replace ha := ha.alloc (.cells #[.bool false, (.slice none 0 0)] 24)
  replace hb' := hb'.alloc (.cells #[.bool false, (.slice none 0 0)] 24)
  replace hp := hp.alloc (.cells #[.bool false, (.slice none 0 0)] 24)
  replace hq := hq.alloc (.cells #[.bool false, (.slice none 0 0)] 24)
  replace hb := hb.alloc hb.size (.cells #[.bool false, (.slice none 0 0)] 24)
  obtain ⟨w_2, hw_2⟩ : ∃ v, (w_1.alloc (.cells #[.bool false, (.slice none 0 0)] 24)) = v := ⟨_, rfl⟩
  rw [hw_2] at ha hb' hp hq hz1 hb
  have kb_hz2 := hb.size
  have ne_hp_hz2 : w.heap.size ≠ w_2.heap.size := by have := hp.lt; (try simp only [Bk.size_alloc] at this); omega
  have ne_hq_hz2 : w.heap.size + 1 ≠ w_2.heap.size := by have := hq.lt; (try simp only [Bk.size_alloc] at this); omega
  have ne_hz1_hz2 : w_1.heap.size ≠ w_2.heap.size := by have := hz1.lt; (try simp only [Bk.size_alloc] at this); omega
  have hz2 := Bk.new w_2 false (.slice none 0 0)
  replace ha := ha.alloc (.cells #[.bool false, (.slice none 0 0)] 24)
  replace hb' := hb'.alloc (.cells #[.bool false, (.slice none 0 0)] 24)
  replace hp := hp.alloc (.cells #[.bool false, (.slice none 0 0)] 24)
  replace hq := hq.alloc (.cells #[.bool false, (.slice none 0 0)] 24)
  replace hz1 := hz1.alloc (.cells #[.bool false, (.slice none 0 0)] 24)
  replace hb := hb.alloc hb.size (.cells #[.bool false, (.slice none 0 0)] 24)
  obtain ⟨w_3, hw_3⟩ : ∃ v, (w_2.alloc (.cells #[.bool false, (.slice none 0 0)] 24)) = v := ⟨_, rfl⟩
  rw [hw_3] at ha hb' hp hq hz1 hz2 hb
  have f_hz1 := hz1.facts
  have ho := Bk.only w_3 (w_1.heap.size) false (.slice none 0 0)
  have hbx_ := hz1.bx
  replace ha := ha.frame hbx_ ho
  replace hb' := hb'.frame hbx_ ho
  replace hp := hp.frame ho (by omega)
  replace hq := hq.frame ho (by omega)
  replace hz2 := hz2.frame ho (by omega)
  replace hz1 := hz1.store false (.slice none 0 0)
  replace hb := (hb.setCell (p := ⟨w_1.heap.size, 0, none⟩) (show w.heap.size ≤ w_1.heap.size by omega) (.bool false)).setCell (p := ⟨w_1.heap.size, 1, none⟩) (show w.heap.size ≤ w_1.heap.size by omega) (.slice none 0 0)
  clear ho hbx_
  obtain ⟨w_4, hw_4⟩ : ∃ v, ((w_3.setCell ⟨w_1.heap.size, 0, none⟩ (.bool false)).setCell ⟨w_1.heap.size, 1, none⟩ (.slice none 0 0)) = v := ⟨_, rfl⟩
  rw [hw_4] at ha hb' hp hq hz1 hz2 hb
  have f_hz2 := hz2.facts
  have ho := Bk.only w_4 (w_2.heap.size) false (.slice none 0 0)
  have hbx_ := hz2.bx
  replace ha := ha.frame hbx_ ho
  replace hb' := hb'.frame hbx_ ho
  replace hp := hp.frame ho (by omega)
  replace hq := hq.frame ho (by omega)
  replace hz1 := hz1.frame ho (by omega)
  replace hz2 := hz2.store false (.slice none 0 0)
  replace hb := (hb.setCell (p := ⟨w_2.heap.size, 0, none⟩) (show w.heap.size ≤ w_2.heap.size by omega) (.bool false)).setCell (p := ⟨w_2.heap.size, 1, none⟩) (show w.heap.size ≤ w_2.heap.size by omega) (.slice none 0 0)
  clear ho hbx_
  obtain ⟨w_5, hw_5⟩ : ∃ v, ((w_4.setCell ⟨w_2.heap.size, 0, none⟩ (.bool false)).setCell ⟨w_2.heap.size, 1, none⟩ (.slice none 0 0)) = v := ⟨_, rfl⟩
  rw [hw_5] at ha hb' hp hq hz1 hz2 hb
  have f_hp := hp.facts
  have f_hq := hq.facts
  go_wp2_with fail
  refine (rdiv_zero ha hb' (by decide) (by decide)).mono ?_
  rintro e w_6 ⟨rfl, hb_6⟩
  replace ha := ha.below hb_6 (Nat.le_refl _)
  replace hb' := hb'.below hb_6 (Nat.le_refl _)
  replace hp := hp.below hb_6 (Nat.le_refl _)
  replace hq := hq.below hb_6 (Nat.le_refl _)
  replace hz1 := hz1.below hb_6 (Nat.le_refl _)
  replace hz2 := hz2.below hb_6 (Nat.le_refl _)
  replace hb := hb.trans (hb_6.mono hb.size)
  clear hb_6
  clear f_hp f_hq f_hz1 f_hz2
  have kb_hz3 := hb.size
  have ne_hp_hz3 : w.heap.size ≠ w_6.heap.size := by have := hp.lt; (try simp only [Bk.size_alloc] at this); omega
  have ne_hq_hz3 : w.heap.size + 1 ≠ w_6.heap.size := by have := hq.lt; (try simp only [Bk.size_alloc] at this); omega
  have ne_hz1_hz3 : w_1.heap.size ≠ w_6.heap.size := by have := hz1.lt; (try simp only [Bk.size_alloc] at this); omega
  have ne_hz2_hz3 : w_2.heap.size ≠ w_6.heap.size := by have := hz2.lt; (try simp only [Bk.size_alloc] at this); omega
  have hz3 := Bk.new w_6 false (.slice none 0 0)
  replace ha := ha.alloc (.cells #[.bool false, (.slice none 0 0)] 24)
  replace hb' := hb'.alloc (.cells #[.bool false, (.slice none 0 0)] 24)
  replace hp := hp.alloc (.cells #[.bool false, (.slice none 0 0)] 24)
  replace hq := hq.alloc (.cells #[.bool false, (.slice none 0 0)] 24)
  replace hz1 := hz1.alloc (.cells #[.bool false, (.slice none 0 0)] 24)
  replace hz2 := hz2.alloc (.cells #[.bool false, (.slice none 0 0)] 24)
  replace hb := hb.alloc hb.size (.cells #[.bool false, (.slice none 0 0)] 24)
  obtain ⟨w_7, hw_7⟩ : ∃ v, (w_6.alloc (.cells #[.bool false, (.slice none 0 0)] 24)) = v := ⟨_, rfl⟩
  rw [hw_7] at ha hb' hp hq hz1 hz2 hz3 hb
  have kb_hz4 := hb.size
  have ne_hp_hz4 : w.heap.size ≠ w_7.heap.size := by have := hp.lt; (try simp only [Bk.size_alloc] at this); omega
  have ne_hq_hz4 : w.heap.size + 1 ≠ w_7.heap.size := by have := hq.lt; (try simp only [Bk.size_alloc] at this); omega
  have ne_hz1_hz4 : w_1.heap.size ≠ w_7.heap.size := by have := hz1.lt; (try simp only [Bk.size_alloc] at this); omega
  have ne_hz2_hz4 : w_2.heap.size ≠ w_7.heap.size := by have := hz2.lt; (try simp only [Bk.size_alloc] at this); omega
  have ne_hz3_hz4 : w_6.heap.size ≠ w_7.heap.size := by have := hz3.lt; (try simp only [Bk.size_alloc] at this); omega
  have hz4 := Bk.new w_7 false (.slice none 0 0)
  replace ha := ha.alloc (.cells #[.bool false, (.slice none 0 0)] 24)
  replace hb' := hb'.alloc (.cells #[.bool false, (.slice none 0 0)] 24)
  replace hp := hp.alloc (.cells #[.bool false, (.slice none 0 0)] 24)
  replace hq := hq.alloc (.cells #[.bool false, (.slice none 0 0)] 24)
  replace hz1 := hz1.alloc (.cells #[.bool false, (.slice none 0 0)] 24)
  replace hz2 := hz2.alloc (.cells #[.bool false, (.slice none 0 0)] 24)
  replace hz3 := hz3.alloc (.cells #[.bool false, (.slice none 0 0)] 24)
  replace hb := hb.alloc hb.size (.cells #[.bool false, (.slice none 0 0)] 24)
  obtain ⟨w_8, hw_8⟩ : ∃ v, (w_7.alloc (.cells #[.bool false, (.slice none 0 0)] 24)) = v := ⟨_, rfl⟩
  rw [hw_8] at ha hb' hp hq hz1 hz2 hz3 hz4 hb
  have f_hz3 := hz3.facts
  have ho := Bk.only w_8 (w_6.heap.size) false (.slice none 0 0)
  have hbx_ := hz3.bx
  replace ha := ha.frame hbx_ ho
  replace hb' := hb'.frame hbx_ ho
  replace hp := hp.frame ho (by omega)
  replace hq := hq.frame ho (by omega)
  replace hz1 := hz1.frame ho (by omega)
  replace hz2 := hz2.frame ho (by omega)
  replace hz4 := hz4.frame ho (by omega)
  replace hz3 := hz3.store false (.slice none 0 0)
  replace hb := (hb.setCell (p := ⟨w_6.heap.size, 0, none⟩) (show w.heap.size ≤ w_6.heap.size by omega) (.bool false)).setCell (p := ⟨w_6.heap.size, 1, none⟩) (show w.heap.size ≤ w_6.heap.size by omega) (.slice none 0 0)
  clear ho hbx_
  obtain ⟨w_9, hw_9⟩ : ∃ v, ((w_8.setCell ⟨w_6.heap.size, 0, none⟩ (.bool false)).setCell ⟨w_6.heap.size, 1, none⟩ (.slice none 0 0)) = v := ⟨_, rfl⟩
  rw [hw_9] at ha hb' hp hq hz1 hz2 hz3 hz4 hb
  have f_hz4 := hz4.facts
  have ho := Bk.only w_9 (w_7.heap.size) false (.slice none 0 0)
  have hbx_ := hz4.bx
  replace ha := ha.frame hbx_ ho
  replace hb' := hb'.frame hbx_ ho
  replace hp := hp.frame ho (by omega)
  replace hq := hq.frame ho (by omega)
  replace hz1 := hz1.frame ho (by omega)
  replace hz2 := hz2.frame ho (by omega)
  replace hz3 := hz3.frame ho (by omega)
  replace hz4 := hz4.store false (.slice none 0 0)
  replace hb := (hb.setCell (p := ⟨w_7.heap.size, 0, none⟩) (show w.heap.size ≤ w_7.heap.size by omega) (.bool false)).setCell (p := ⟨w_7.heap.size, 1, none⟩) (show w.heap.size ≤ w_7.heap.size by omega) (.slice none 0 0)
  clear ho hbx_
  obtain ⟨w_10, hw_10⟩ : ∃ v, ((w_9.setCell ⟨w_7.heap.size, 0, none⟩ (.bool false)).setCell ⟨w_7.heap.size, 1, none⟩ (.slice none 0 0)) = v := ⟨_, rfl⟩
  rw [hw_10] at ha hb' hp hq hz1 hz2 hz3 hz4 hb
  have f_hp := hp.facts
  have f_hq := hq.facts
  go_wp2_with fail
  refine (exact_zero ha hb' (by decide) (by decide)).mono ?_
  rintro e w_11 ⟨rfl, hb_11⟩
  replace ha := ha.below hb_11 (Nat.le_refl _)
  replace hb' := hb'.below hb_11 (Nat.le_refl _)
  replace hp := hp.below hb_11 (Nat.le_refl _)
  replace hq := hq.below hb_11 (Nat.le_refl _)
  replace hz1 := hz1.below hb_11 (Nat.le_refl _)
  replace hz2 := hz2.below hb_11 (Nat.le_refl _)
  replace hz3 := hz3.below hb_11 (Nat.le_refl _)
  replace hz4 := hz4.below hb_11 (Nat.le_refl _)
  replace hb := hb.trans (hb_11.mono hb.size)
  clear hb_11
  clear f_hp f_hq f_hz3 f_hz4
  have kb_hz5 := hb.size
  have ne_hp_hz5 : w.heap.size ≠ w_11.heap.size := by have := hp.lt; (try simp only [Bk.size_alloc] at this); omega
  have ne_hq_hz5 : w.heap.size + 1 ≠ w_11.heap.size := by have := hq.lt; (try simp only [Bk.size_alloc] at this); omega
  have ne_hz1_hz5 : w_1.heap.size ≠ w_11.heap.size := by have := hz1.lt; (try simp only [Bk.size_alloc] at this); omega
  have ne_hz2_hz5 : w_2.heap.size ≠ w_11.heap.size := by have := hz2.lt; (try simp only [Bk.size_alloc] at this); omega
  have ne_hz3_hz5 : w_6.heap.size ≠ w_11.heap.size := by have := hz3.lt; (try simp only [Bk.size_alloc] at this); omega
  have ne_hz4_hz5 : w_7.heap.size ≠ w_11.heap.size := by have := hz4.lt; (try simp only [Bk.size_alloc] at this); omega
  have hz5 := Bk.new w_11 false (.slice none 0 0)
  replace ha := ha.alloc (.cells #[.bool false, (.slice none 0 0)] 24)
  replace hb' := hb'.alloc (.cells #[.bool false, (.slice none 0 0)] 24)
  replace hp := hp.alloc (.cells #[.bool false, (.slice none 0 0)] 24)
  replace hq := hq.alloc (.cells #[.bool false, (.slice none 0 0)] 24)
  replace hz1 := hz1.alloc (.cells #[.bool false, (.slice none 0 0)] 24)
  replace hz2 := hz2.alloc (.cells #[.bool false, (.slice none 0 0)] 24)
  replace hz3 := hz3.alloc (.cells #[.bool false, (.slice none 0 0)] 24)
  replace hz4 := hz4.alloc (.cells #[.bool false, (.slice none 0 0)] 24)
  replace hb := hb.alloc hb.size (.cells #[.bool false, (.slice none 0 0)] 24)
  obtain ⟨w_12, hw_12⟩ : ∃ v, (w_11.alloc (.cells #[.bool false, (.slice none 0 0)] 24)) = v := ⟨_, rfl⟩
  rw [hw_12] at ha hb' hp hq hz1 hz2 hz3 hz4 hz5 hb
  have f_hz5 := hz5.facts
  have ho := Bk.only w_12 (w_11.heap.size) false (.slice none 0 0)
  have hbx_ := hz5.bx
  replace ha := ha.frame hbx_ ho
  replace hb' := hb'.frame hbx_ ho
  replace hp := hp.frame ho (by omega)
  replace hq := hq.frame ho (by omega)
  replace hz1 := hz1.frame ho (by omega)
  replace hz2 := hz2.frame ho (by omega)
  replace hz3 := hz3.frame ho (by omega)
  replace hz4 := hz4.frame ho (by omega)
  replace hz5 := hz5.store false (.slice none 0 0)
  replace hb := (hb.setCell (p := ⟨w_11.heap.size, 0, none⟩) (show w.heap.size ≤ w_11.heap.size by omega) (.bool false)).setCell (p := ⟨w_11.heap.size, 1, none⟩) (show w.heap.size ≤ w_11.heap.size by omega) (.slice none 0 0)
  clear ho hbx_
  obtain ⟨w_13, hw_13⟩ : ∃ v, ((w_12.setCell ⟨w_11.heap.size, 0, none⟩ (.bool false)).setCell ⟨w_11.heap.size, 1, none⟩ (.slice none 0 0)) = v := ⟨_, rfl⟩
  rw [hw_13] at ha hb' hp hq hz1 hz2 hz3 hz4 hz5 hb
  go_wp2_with fail
  refine (zawake_any _ (htabs _ hb)).mono ?_
  rintro e w_14 ⟨rfl, hb_14⟩
  replace ha := ha.below hb_14 (Nat.le_refl _)
  replace hb' := hb'.below hb_14 (Nat.le_refl _)
  replace hp := hp.below hb_14 (Nat.le_refl _)
  replace hq := hq.below hb_14 (Nat.le_refl _)
  replace hz1 := hz1.below hb_14 (Nat.le_refl _)
  replace hz2 := hz2.below hb_14 (Nat.le_refl _)
  replace hz3 := hz3.below hb_14 (Nat.le_refl _)
  replace hz4 := hz4.below hb_14 (Nat.le_refl _)
  replace hz5 := hz5.below hb_14 (Nat.le_refl _)
  replace hb := hb.trans (hb_14.mono hb.size)
  clear hb_14
  clear f_hz5
  have f_hq := hq.facts
  go_wp2_with fail
  refine (rzsign_any hb' (by decide)).mono ?_
  rintro e w_15 ⟨rfl, hb_15⟩
  replace ha := ha.below hb_15 (Nat.le_refl _)
  replace hb' := hb'.below hb_15 (Nat.le_refl _)
  replace hp := hp.below hb_15 (Nat.le_refl _)
  replace hq := hq.below hb_15 (Nat.le_refl _)
  replace hz1 := hz1.below hb_15 (Nat.le_refl _)
  replace hz2 := hz2.below hb_15 (Nat.le_refl _)
  replace hz3 := hz3.below hb_15 (Nat.le_refl _)
  replace hz4 := hz4.below hb_15 (Nat.le_refl _)
  replace hz5 := hz5.below hb_15 (Nat.le_refl _)
  replace hb := hb.trans (hb_15.mono hb.size)
  clear hb_15
  clear f_hq
  have f_hz1 := hz1.facts
  go_wp2_with fail
  refine (rzero_any _).mono ?_
  rintro e w_16 ⟨rfl, hb_16⟩
  replace ha := ha.below hb_16 (Nat.le_refl _)
  replace hb' := hb'.below hb_16 (Nat.le_refl _)
  replace hp := hp.below hb_16 (Nat.le_refl _)
  replace hq := hq.below hb_16 (Nat.le_refl _)
  replace hz1 := hz1.below hb_16 (Nat.le_refl _)
  replace hz2 := hz2.below hb_16 (Nat.le_refl _)
  replace hz3 := hz3.below hb_16 (Nat.le_refl _)
  replace hz4 := hz4.below hb_16 (Nat.le_refl _)
  replace hz5 := hz5.below hb_16 (Nat.le_refl _)
  replace hb := hb.trans (hb_16.mono hb.size)
  clear hb_16
  clear f_hz1
  have f_hz2 := hz2.facts
  go_wp2_with fail
  refine (rzero_any _).mono ?_
  rintro e w_17 ⟨rfl, hb_17⟩
  replace ha := ha.below hb_17 (Nat.le_refl _)
  replace hb' := hb'.below hb_17 (Nat.le_refl _)
  replace hp := hp.below hb_17 (Nat.le_refl _)
  replace hq := hq.below hb_17 (Nat.le_refl _)
  replace hz1 := hz1.below hb_17 (Nat.le_refl _)
  replace hz2 := hz2.below hb_17 (Nat.le_refl _)
  replace hz3 := hz3.below hb_17 (Nat.le_refl _)
  replace hz4 := hz4.below hb_17 (Nat.le_refl _)
  replace hz5 := hz5.below hb_17 (Nat.le_refl _)
  replace hb := hb.trans (hb_17.mono hb.size)
  clear hb_17
  clear f_hz2
  have f_hz3 := hz3.facts
  go_wp2_with fail
  refine (rzero_any _).mono ?_
  rintro e w_18 ⟨rfl, hb_18⟩
  replace ha := ha.below hb_18 (Nat.le_refl _)
  replace hb' := hb'.below hb_18 (Nat.le_refl _)
  replace hp := hp.below hb_18 (Nat.le_refl _)
  replace hq := hq.below hb_18 (Nat.le_refl _)
  replace hz1 := hz1.below hb_18 (Nat.le_refl _)
  replace hz2 := hz2.below hb_18 (Nat.le_refl _)
  replace hz3 := hz3.below hb_18 (Nat.le_refl _)
  replace hz4 := hz4.below hb_18 (Nat.le_refl _)
  replace hz5 := hz5.below hb_18 (Nat.le_refl _)
  replace hb := hb.trans (hb_18.mono hb.size)
  clear hb_18
  clear f_hz3
  have f_hz4 := hz4.facts
  go_wp2_with fail
  refine (rzero_any _).mono ?_
  rintro e w_19 ⟨rfl, hb_19⟩
  replace ha := ha.below hb_19 (Nat.le_refl _)
  replace hb' := hb'.below hb_19 (Nat.le_refl _)
  replace hp := hp.below hb_19 (Nat.le_refl _)
  replace hq := hq.below hb_19 (Nat.le_refl _)
  replace hz1 := hz1.below hb_19 (Nat.le_refl _)
  replace hz2 := hz2.below hb_19 (Nat.le_refl _)
  replace hz3 := hz3.below hb_19 (Nat.le_refl _)
  replace hz4 := hz4.below hb_19 (Nat.le_refl _)
  replace hz5 := hz5.below hb_19 (Nat.le_refl _)
  replace hb := hb.trans (hb_19.mono hb.size)
  clear hb_19
  clear f_hz4
  have f_hz5 := hz5.facts
  go_wp2_with fail
  refine (rzero_any _).mono ?_
  rintro e w_20 ⟨rfl, hb_20⟩
  replace ha := ha.below hb_20 (Nat.le_refl _)
  replace hb' := hb'.below hb_20 (Nat.le_refl _)
  replace hp := hp.below hb_20 (Nat.le_refl _)
  replace hq := hq.below hb_20 (Nat.le_refl _)
  replace hz1 := hz1.below hb_20 (Nat.le_refl _)
  replace hz2 := hz2.below hb_20 (Nat.le_refl _)
  replace hz3 := hz3.below hb_20 (Nat.le_refl _)
  replace hz4 := hz4.below hb_20 (Nat.le_refl _)
  replace hz5 := hz5.below hb_20 (Nat.le_refl _)
  replace hb := hb.trans (hb_20.mono hb.size)
  clear hb_20
  clear f_hz5
  go_wp2
  go_ret
  exact ⟨rfl, hb⟩

set_option maxHeartbeats 4000000 in
set_option maxRecDepth 20000 in
theorem divides_even {w : World} {va vb : Value} {x y : Int} (ha : ZN w va x 1048576) (hb' : ZN w vb y 1048576) (h0 : y ≠ 0) (hr0 : x.fmod y = 0) (htab : Lib.TabIs Tryd.prog w p10 .u64 Lib.pow10Tab) :
    Calls Tryd.prog 6 #[va, vb] w fun e w' => e = .returned (.bool true) ∧ Below w.heap.size w w' := by
  have htabs := Lib.tabBelow_of_tabIs htab
  have Lx := ha.len
  have Ly := hb'.len
  have LQ := hide (fdiv_len h0 Lx)
  have LR := hide (fmod_len (x := x) h0 Ly)
  have LN := hide (rnd_len h0 Lx)
  have LT := hide (rrest_len (x := x) h0 Ly)
  obtain ⟨S, hS⟩ : ∃ S, y.sign = S := ⟨_, rfl⟩
  have hS0 : (S == 0) = false := by rw [beq_eq_false_iff_ne, ← hS]; exact fun h => h0 (Int.sign_eq_zero_iff_zero.1 h)
  have HS := hide hS
  have HRS := hide (show (x.fmod y).sign = 0 by rw [hr0]; rfl)
  have e0 : ((0 : Int) == 0) = true := rfl
  have H0 := hide h0
  have HR := hide hr0
  clear hr0 h0 hS Lx Ly
  obtain ⟨na, oa, ca, xs, rfl, hca, _, _, hxl⟩ := ha.open_
  obtain ⟨nb, ob, cb, ys, rfl, hcb, _, _, hyl⟩ := hb'.open_
  go_enter Tryd.func6, Tryd.ntmps6
  have hb := Below.refl w.heap.size w
  have hp := Bk.new w na (.slice oa xs.length ca)
  replace ha := ha.alloc (.cells #[.bool na, (.slice oa xs.length ca)] 24)
  replace hb' := hb'.alloc (.cells #[.bool na, (.slice oa xs.length ca)] 24)
  replace hb := hb.alloc hb.size (.cells #[.bool na, (.slice oa xs.length ca)] 24)
  have hq := Bk.new (w.alloc (.cells #[.bool na, (.slice oa xs.length ca)] 24)) nb (.slice ob ys.length cb)
  simp only [Bk.size_alloc] at hq
  replace ha := ha.alloc (.cells #[.bool nb, (.slice ob ys.length cb)] 24)
  replace hb' := hb'.alloc (.cells #[.bool nb, (.slice ob ys.length cb)] 24)
  replace hp := hp.alloc (.cells #[.bool nb, (.slice ob ys.length cb)] 24)
  replace hb := hb.alloc hb.size (.cells #[.bool nb, (.slice ob ys.length cb)] 24)
  have f_hp := hp.facts
  have f_hq := hq.facts
  go_wp2_with fail
  refine (fdiv_any ha hb' (by decide) (by decide) H0.out).mono ?_
  rintro e w_1 ⟨v1, v2, rfl, g1, g2, hb_1⟩
  replace ha := ha.below hb_1 (Nat.le_refl _)
  replace hb' := hb'.below hb_1 (Nat.le_refl _)
  replace hp := hp.below hb_1 (Nat.le_refl _)
  replace hq := hq.below hb_1 (Nat.le_refl _)
  replace hb := hb.trans (hb_1.mono hb.size)
  clear hb_1
  replace g1 := g1.rd
  replace g2 := g2.rd
  clear f_hp f_hq
  have kb_hz1 := hb.size
  have ne_hp_hz1 : w.heap.size ≠ w_1.heap.size := by have := hp.lt; (try simp only [Bk.size_alloc] at this); omega
  have ne_hq_hz1 : w.heap.size + 1 ≠ w_1.heap.size := by have := hq.lt; (try simp only [Bk.size_alloc] at this); omega
  have hz1 := Bk.new w_1 false (.slice none 0 0)
  replace ha := ha.alloc (.cells #[.bool false, (.slice none 0 0)] 24)
  replace hb' := hb'.alloc (.cells #[.bool false, (.slice none 0 0)] 24)
  replace hp := hp.alloc (.cells #[.bool false, (.slice none 0 0)] 24)
  replace hq := hq.alloc (.cells #[.bool false, (.slice none 0 0)] 24)
  replace g1 := g1.alloc (.cells #[.bool false, (.slice none 0 0)] 24)
  replace g2 := g2.alloc (.cells #[.bool false, (.slice none 0 0)] 24)
  replace hb := hb.alloc hb.size (.cells #[.bool false, (.slice none 0 0)] 24)
  obtain ⟨w_2, hw_2⟩ : ∃ v, (w_1.alloc (.cells #[.bool false, (.slice none 0 0)] 24)) = v := ⟨_, rfl⟩
  rw [hw_2] at ha hb' hp hq g1 g2 hz1 hb
  have kb_hz2 := hb.size
  have ne_hp_hz2 : w.heap.size ≠ w_2.heap.size := by have := hp.lt; (try simp only [Bk.size_alloc] at this); omega
  have ne_hq_hz2 : w.heap.size + 1 ≠ w_2.heap.size := by have := hq.lt; (try simp only [Bk.size_alloc] at this); omega
  have ne_hz1_hz2 : w_1.heap.size ≠ w_2.heap.size := by have := hz1.lt; (try simp only [Bk.size_alloc] at this); omega
  have hz2 := Bk.new w_2 false (.slice none 0 0)
  replace ha := ha.alloc (.cells #[.bool false, (.slice none 0 0)] 24)
  replace hb' := hb'.alloc (.cells #[.bool false, (.slice none 0 0)] 24)
  replace hp := hp.alloc (.cells #[.bool false, (.slice none 0 0)] 24)
  replace hq := hq.alloc (.cells #[.bool false, (.slice none 0 0)] 24)
  replace g1 := g1.alloc (.cells #[.bool false, (.slice none 0 0)] 24)
  replace g2 := g2.alloc (.cells #[.bool false, (.slice none 0 0)] 24)
  replace hz1 := hz1.alloc (.cells #[.bool false, (.slice none 0 0)] 24)
  replace hb := hb.alloc hb.size (.cells #[.bool false, (.slice none 0 0)] 24)
  obtain ⟨w_3, hw_3⟩ : ∃ v, (w_2.alloc (.cells #[.bool false, (.slice none 0 0)] 24)) = v := ⟨_, rfl⟩
  rw [hw_3] at ha hb' hp hq g1 g2 hz1 hz2 hb
  obtain ⟨sb_hz1, o_hz1, n_hz1, c_hz1, rfl⟩ := g1.open2
  have f_hz1 := hz1.facts
  have ho := Bk.only w_3 (w_1.heap.size) sb_hz1 (.slice o_hz1 n_hz1 c_hz1)
  have hbx_ := hz1.bx
  replace ha := ha.frame hbx_ ho
  replace hb' := hb'.frame hbx_ ho
  replace hp := hp.frame ho (by omega)
  replace hq := hq.frame ho (by omega)
  replace g1 := g1.frame hbx_ ho
  replace g2 := g2.frame hbx_ ho
  replace hz2 := hz2.frame ho (by omega)
  replace hz1 := hz1.store sb_hz1 (.slice o_hz1 n_hz1 c_hz1)
  replace hb := (hb.setCell (p := ⟨w_1.heap.size, 0, none⟩) (show w.heap.size ≤ w_1.heap.size by omega) (.bool sb_hz1)).setCell (p := ⟨w_1.heap.size, 1, none⟩) (show w.heap.size ≤ w_1.heap.size by omega) (.slice o_hz1 n_hz1 c_hz1)
  clear ho hbx_
  obtain ⟨w_4, hw_4⟩ : ∃ v, ((w_3.setCell ⟨w_1.heap.size, 0, none⟩ (.bool sb_hz1)).setCell ⟨w_1.heap.size, 1, none⟩ (.slice o_hz1 n_hz1 c_hz1)) = v := ⟨_, rfl⟩
  rw [hw_4] at ha hb' hp hq g1 g2 hz1 hz2 hb
  obtain ⟨sb_hz2, o_hz2, n_hz2, c_hz2, rfl⟩ := g2.open2
  have f_hz2 := hz2.facts
  have ho := Bk.only w_4 (w_2.heap.size) sb_hz2 (.slice o_hz2 n_hz2 c_hz2)
  have hbx_ := hz2.bx
  replace ha := ha.frame hbx_ ho
  replace hb' := hb'.frame hbx_ ho
  replace hp := hp.frame ho (by omega)
  replace hq := hq.frame ho (by omega)
  replace g1 := g1.frame hbx_ ho
  replace g2 := g2.frame hbx_ ho
  replace hz1 := hz1.frame ho (by omega)
  replace hz2 := hz2.store sb_hz2 (.slice o_hz2 n_hz2 c_hz2)
  replace hb := (hb.setCell (p := ⟨w_2.heap.size, 0, none⟩) (show w.heap.size ≤ w_2.heap.size by omega) (.bool sb_hz2)).setCell (p := ⟨w_2.heap.size, 1, none⟩) (show w.heap.size ≤ w_2.heap.size by omega) (.slice o_hz2 n_hz2 c_hz2)
  clear ho hbx_
  obtain ⟨w_5, hw_5⟩ : ∃ v, ((w_4.setCell ⟨w_2.heap.size, 0, none⟩ (.bool sb_hz2)).setCell ⟨w_2.heap.size, 1, none⟩ (.slice o_hz2 n_hz2 c_hz2)) = v := ⟨_, rfl⟩
  rw [hw_5] at ha hb' hp hq g1 g2 hz1 hz2 hb
  have f_hp := hp.facts
  have f_hq := hq.facts
  go_wp2_with fail
  refine (rdiv_any ha hb' (by decide) (by decide) H0.out).mono ?_
  rintro e w_6 ⟨v3, v4, rfl, g3, g4, hb_6⟩
  replace ha := ha.below hb_6 (Nat.le_refl _)
  replace hb' := hb'.below hb_6 (Nat.le_refl _)
  replace hp := hp.below hb_6 (Nat.le_refl _)
  replace hq := hq.below hb_6 (Nat.le_refl _)
  replace g1 := g1.below hb_6 (Nat.le_refl _)
  replace g2 := g2.below hb_6 (Nat.le_refl _)
  replace hz1 := hz1.below hb_6 (Nat.le_refl _)
  replace hz2 := hz2.below hb_6 (Nat.le_refl _)
  replace hb := hb.trans (hb_6.mono hb.size)
  clear hb_6
  replace g3 := g3.rd
  replace g4 := g4.rd
  clear f_hp f_hq f_hz1 f_hz2
  have kb_hz3 := hb.size
  have ne_hp_hz3 : w.heap.size ≠ w_6.heap.size := by have := hp.lt; (try simp only [Bk.size_alloc] at this); omega
  have ne_hq_hz3 : w.heap.size + 1 ≠ w_6.heap.size := by have := hq.lt; (try simp only [Bk.size_alloc] at this); omega
  have ne_hz1_hz3 : w_1.heap.size ≠ w_6.heap.size := by have := hz1.lt; (try simp only [Bk.size_alloc] at this); omega
  have ne_hz2_hz3 : w_2.heap.size ≠ w_6.heap.size := by have := hz2.lt; (try simp only [Bk.size_alloc] at this); omega
  have hz3 := Bk.new w_6 false (.slice none 0 0)
  replace ha := ha.alloc (.cells #[.bool false, (.slice none 0 0)] 24)
  replace hb' := hb'.alloc (.cells #[.bool false, (.slice none 0 0)] 24)
  replace hp := hp.alloc (.cells #[.bool false, (.slice none 0 0)] 24)
  replace hq := hq.alloc (.cells #[.bool false, (.slice none 0 0)] 24)
  replace g1 := g1.alloc (.cells #[.bool false, (.slice none 0 0)] 24)
  replace g2 := g2.alloc (.cells #[.bool false, (.slice none 0 0)] 24)
  replace hz1 := hz1.alloc (.cells #[.bool false, (.slice none 0 0)] 24)
  replace hz2 := hz2.alloc (.cells #[.bool false, (.slice none 0 0)] 24)
  replace g3 := g3.alloc (.cells #[.bool false, (.slice none 0 0)] 24)
  replace g4 := g4.alloc (.cells #[.bool false, (.slice none 0 0)] 24)
  replace hb := hb.alloc hb.size (.cells #[.bool false, (.slice none 0 0)] 24)
  obtain ⟨w_7, hw_7⟩ : ∃ v, (w_6.alloc (.cells #[.bool false, (.slice none 0 0)] 24)) = v := ⟨_, rfl⟩
  rw [hw_7] at ha hb' hp hq g1 g2 hz1 hz2 g3 g4 hz3 hb
  have kb_hz4 := hb.size
  have ne_hp_hz4 : w.heap.size ≠ w_7.heap.size := by have := hp.lt; (try simp only [Bk.size_alloc] at this); omega
  have ne_hq_hz4 : w.heap.size + 1 ≠ w_7.heap.size := by have := hq.lt; (try simp only [Bk.size_alloc] at this); omega
  have ne_hz1_hz4 : w_1.heap.size ≠ w_7.heap.size := by have := hz1.lt; (try simp only [Bk.size_alloc] at this); omega
  have ne_hz2_hz4 : w_2.heap.size ≠ w_7.heap.size := by have := hz2.lt; (try simp only [Bk.size_alloc] at this); omega
  have ne_hz3_hz4 : w_6.heap.size ≠ w_7.heap.size := by have := hz3.lt; (try simp only [Bk.size_alloc] at this); omega
  have hz4 := Bk.new w_7 false (.slice none 0 0)
  replace ha := ha.alloc (.cells #[.bool false, (.slice none 0 0)] 24)
  replace hb' := hb'.alloc (.cells #[.bool false, (.slice none 0 0)] 24)
  replace hp := hp.alloc (.cells #[.bool false, (.slice none 0 0)] 24)
  replace hq := hq.alloc (.cells #[.bool false, (.slice none 0 0)] 24)
  replace g1 := g1.alloc (.cells #[.bool false, (.slice none 0 0)] 24)
  replace g2 := g2.alloc (.cells #[.bool false, (.slice none 0 0)] 24)
  replace hz1 := hz1.alloc (.cells #[.bool false, (.slice none 0 0)] 24)
  replace hz2 := hz2.alloc (.cells #[.bool false, (.slice none 0 0)] 24)
  replace g3 := g3.alloc (.cells #[.bool false, (.slice none 0 0)] 24)
  replace g4 := g4.alloc (.cells #[.bool false, (.slice none 0 0)] 24)
  replace hz3 := hz3.alloc (.cells #[.bool false, (.slice none 0 0)] 24)
  replace hb := hb.alloc hb.size (.cells #[.bool false, (.slice none 0 0)] 24)
  obtain ⟨w_8, hw_8⟩ : ∃ v, (w_7.alloc (.cells #[.bool false, (.slice none 0 0)] 24)) = v := ⟨_, rfl⟩
  rw [hw_8] at ha hb' hp hq g1 g2 hz1 hz2 g3 g4 hz3 hz4 hb
  obtain ⟨sb_hz3, o_hz3, n_hz3, c_hz3, rfl⟩ := g3.open2
  have f_hz3 := hz3.facts
  have ho := Bk.only w_8 (w_6.heap.size) sb_hz3 (.slice o_hz3 n_hz3 c_hz3)
  have hbx_ := hz3.bx
  replace ha := ha.frame hbx_ ho
  replace hb' := hb'.frame hbx_ ho
  replace hp := hp.frame ho (by omega)
  replace hq := hq.frame ho (by omega)
  replace g1 := g1.frame hbx_ ho
  replace g2 := g2.frame hbx_ ho
  replace hz1 := hz1.frame ho (by omega)
  replace hz2 := hz2.frame ho (by omega)
  replace g3 := g3.frame hbx_ ho
  replace g4 := g4.frame hbx_ ho
  replace hz4 := hz4.frame ho (by omega)
  replace hz3 := hz3.store sb_hz3 (.slice o_hz3 n_hz3 c_hz3)
  replace hb := (hb.setCell (p := ⟨w_6.heap.size, 0, none⟩) (show w.heap.size ≤ w_6.heap.size by omega) (.bool sb_hz3)).setCell (p := ⟨w_6.heap.size, 1, none⟩) (show w.heap.size ≤ w_6.heap.size by omega) (.slice o_hz3 n_hz3 c_hz3)
  clear ho hbx_
  obtain ⟨w_9, hw_9⟩ : ∃ v, ((w_8.setCell ⟨w_6.heap.size, 0, none⟩ (.bool sb_hz3)).setCell ⟨w_6.heap.size, 1, none⟩ (.slice o_hz3 n_hz3 c_hz3)) = v := ⟨_, rfl⟩
  rw [hw_9] at ha hb' hp hq g1 g2 hz1 hz2 g3 g4 hz3 hz4 hb
  obtain ⟨sb_hz4, o_hz4, n_hz4, c_hz4, rfl⟩ := g4.open2
  have f_hz4 := hz4.facts
  have ho := Bk.only w_9 (w_7.heap.size) sb_hz4 (.slice o_hz4 n_hz4 c_hz4)
  have hbx_ := hz4.bx
  replace ha := ha.frame hbx_ ho
  replace hb' := hb'.frame hbx_ ho
  replace hp := hp.frame ho (by omega)
  replace hq := hq.frame ho (by omega)
  replace g1 := g1.frame hbx_ ho
  replace g2 := g2.frame hbx_ ho
  replace hz1 := hz1.frame ho (by omega)
  replace hz2 := hz2.frame ho (by omega)
  replace g3 := g3.frame hbx_ ho
  replace g4 := g4.frame hbx_ ho
  replace hz3 := hz3.frame ho (by omega)
  replace hz4 := hz4.store sb_hz4 (.slice o_hz4 n_hz4 c_hz4)
  replace hb := (hb.setCell (p := ⟨w_7.heap.size, 0, none⟩) (show w.heap.size ≤ w_7.heap.size by omega) (.bool sb_hz4)).setCell (p := ⟨w_7.heap.size, 1, none⟩) (show w.heap.size ≤ w_7.heap.size by omega) (.slice o_hz4 n_hz4 c_hz4)
  clear ho hbx_
  obtain ⟨w_10, hw_10⟩ : ∃ v, ((w_9.setCell ⟨w_7.heap.size, 0, none⟩ (.bool sb_hz4)).setCell ⟨w_7.heap.size, 1, none⟩ (.slice o_hz4 n_hz4 c_hz4)) = v := ⟨_, rfl⟩
  rw [hw_10] at ha hb' hp hq g1 g2 hz1 hz2 g3 g4 hz3 hz4 hb
  have f_hp := hp.facts
  have f_hq := hq.facts
  go_wp2_with fail
  refine (exact_any ha hb' (by decide) (by decide) H0.out HR.out).mono ?_
  rintro e w_11 ⟨v5, rfl, g5, hb_11⟩
  replace ha := ha.below hb_11 (Nat.le_refl _)
  replace hb' := hb'.below hb_11 (Nat.le_refl _)
  replace hp := hp.below hb_11 (Nat.le_refl _)
  replace hq := hq.below hb_11 (Nat.le_refl _)
  replace g1 := g1.below hb_11 (Nat.le_refl _)
  replace g2 := g2.below hb_11 (Nat.le_refl _)
  replace hz1 := hz1.below hb_11 (Nat.le_refl _)
  replace hz2 := hz2.below hb_11 (Nat.le_refl _)
  replace g3 := g3.below hb_11 (Nat.le_refl _)
  replace g4 := g4.below hb_11 (Nat.le_refl _)
  replace hz3 := hz3.below hb_11 (Nat.le_refl _)
  replace hz4 := hz4.below hb_11 (Nat.le_refl _)
  replace hb := hb.trans (hb_11.mono hb.size)
  clear hb_11
  replace g5 := g5.rd
  clear f_hp f_hq f_hz3 f_hz4
  have kb_hz5 := hb.size
  have ne_hp_hz5 : w.heap.size ≠ w_11.heap.size := by have := hp.lt; (try simp only [Bk.size_alloc] at this); omega
  have ne_hq_hz5 : w.heap.size + 1 ≠ w_11.heap.size := by have := hq.lt; (try simp only [Bk.size_alloc] at this); omega
  have ne_hz1_hz5 : w_1.heap.size ≠ w_11.heap.size := by have := hz1.lt; (try simp only [Bk.size_alloc] at this); omega
  have ne_hz2_hz5 : w_2.heap.size ≠ w_11.heap.size := by have := hz2.lt; (try simp only [Bk.size_alloc] at this); omega
  have ne_hz3_hz5 : w_6.heap.size ≠ w_11.heap.size := by have := hz3.lt; (try simp only [Bk.size_alloc] at this); omega
  have ne_hz4_hz5 : w_7.heap.size ≠ w_11.heap.size := by have := hz4.lt; (try simp only [Bk.size_alloc] at this); omega
  have hz5 := Bk.new w_11 false (.slice none 0 0)
  replace ha := ha.alloc (.cells #[.bool false, (.slice none 0 0)] 24)
  replace hb' := hb'.alloc (.cells #[.bool false, (.slice none 0 0)] 24)
  replace hp := hp.alloc (.cells #[.bool false, (.slice none 0 0)] 24)
  replace hq := hq.alloc (.cells #[.bool false, (.slice none 0 0)] 24)
  replace g1 := g1.alloc (.cells #[.bool false, (.slice none 0 0)] 24)
  replace g2 := g2.alloc (.cells #[.bool false, (.slice none 0 0)] 24)
  replace hz1 := hz1.alloc (.cells #[.bool false, (.slice none 0 0)] 24)
  replace hz2 := hz2.alloc (.cells #[.bool false, (.slice none 0 0)] 24)
  replace g3 := g3.alloc (.cells #[.bool false, (.slice none 0 0)] 24)
  replace g4 := g4.alloc (.cells #[.bool false, (.slice none 0 0)] 24)
  replace hz3 := hz3.alloc (.cells #[.bool false, (.slice none 0 0)] 24)
  replace hz4 := hz4.alloc (.cells #[.bool false, (.slice none 0 0)] 24)
  replace g5 := g5.alloc (.cells #[.bool false, (.slice none 0 0)] 24)
  replace hb := hb.alloc hb.size (.cells #[.bool false, (.slice none 0 0)] 24)
  obtain ⟨w_12, hw_12⟩ : ∃ v, (w_11.alloc (.cells #[.bool false, (.slice none 0 0)] 24)) = v := ⟨_, rfl⟩
  rw [hw_12] at ha hb' hp hq g1 g2 hz1 hz2 g3 g4 hz3 hz4 g5 hz5 hb
  obtain ⟨sb_hz5, o_hz5, n_hz5, c_hz5, rfl⟩ := g5.open2
  have f_hz5 := hz5.facts
  have ho := Bk.only w_12 (w_11.heap.size) sb_hz5 (.slice o_hz5 n_hz5 c_hz5)
  have hbx_ := hz5.bx
  replace ha := ha.frame hbx_ ho
  replace hb' := hb'.frame hbx_ ho
  replace hp := hp.frame ho (by omega)
  replace hq := hq.frame ho (by omega)
  replace g1 := g1.frame hbx_ ho
  replace g2 := g2.frame hbx_ ho
  replace hz1 := hz1.frame ho (by omega)
  replace hz2 := hz2.frame ho (by omega)
  replace g3 := g3.frame hbx_ ho
  replace g4 := g4.frame hbx_ ho
  replace hz3 := hz3.frame ho (by omega)
  replace hz4 := hz4.frame ho (by omega)
  replace g5 := g5.frame hbx_ ho
  replace hz5 := hz5.store sb_hz5 (.slice o_hz5 n_hz5 c_hz5)
  replace hb := (hb.setCell (p := ⟨w_11.heap.size, 0, none⟩) (show w.heap.size ≤ w_11.heap.size by omega) (.bool sb_hz5)).setCell (p := ⟨w_11.heap.size, 1, none⟩) (show w.heap.size ≤ w_11.heap.size by omega) (.slice o_hz5 n_hz5 c_hz5)
  clear ho hbx_
  obtain ⟨w_13, hw_13⟩ : ∃ v, ((w_12.setCell ⟨w_11.heap.size, 0, none⟩ (.bool sb_hz5)).setCell ⟨w_11.heap.size, 1, none⟩ (.slice o_hz5 n_hz5 c_hz5)) = v := ⟨_, rfl⟩
  rw [hw_13] at ha hb' hp hq g1 g2 hz1 hz2 g3 g4 hz3 hz4 g5 hz5 hb
  go_wp2_with fail
  refine (zawake_any _ (htabs _ hb)).mono ?_
  rintro e w_14 ⟨rfl, hb_14⟩
  replace ha := ha.below hb_14 (Nat.le_refl _)
  replace hb' := hb'.below hb_14 (Nat.le_refl _)
  replace hp := hp.below hb_14 (Nat.le_refl _)
  replace hq := hq.below hb_14 (Nat.le_refl _)
  replace g1 := g1.below hb_14 (Nat.le_refl _)
  replace g2 := g2.below hb_14 (Nat.le_refl _)
  replace hz1 := hz1.below hb_14 (Nat.le_refl _)
  replace hz2 := hz2.below hb_14 (Nat.le_refl _)
  replace g3 := g3.below hb_14 (Nat.le_refl _)
  replace g4 := g4.below hb_14 (Nat.le_refl _)
  replace hz3 := hz3.below hb_14 (Nat.le_refl _)
  replace hz4 := hz4.below hb_14 (Nat.le_refl _)
  replace g5 := g5.below hb_14 (Nat.le_refl _)
  replace hz5 := hz5.below hb_14 (Nat.le_refl _)
  replace hb := hb.trans (hb_14.mono hb.size)
  clear hb_14
  clear f_hz5
  have f_hq := hq.facts
  go_wp2_with fail
  refine (rzsign_any hb' (by decide)).mono ?_
  rintro e w_15 ⟨rfl, hb_15⟩
  replace ha := ha.below hb_15 (Nat.le_refl _)
  replace hb' := hb'.below hb_15 (Nat.le_refl _)
  replace hp := hp.below hb_15 (Nat.le_refl _)
  replace hq := hq.below hb_15 (Nat.le_refl _)
  replace g1 := g1.below hb_15 (Nat.le_refl _)
  replace g2 := g2.below hb_15 (Nat.le_refl _)
  replace hz1 := hz1.below hb_15 (Nat.le_refl _)
  replace hz2 := hz2.below hb_15 (Nat.le_refl _)
  replace g3 := g3.below hb_15 (Nat.le_refl _)
  replace g4 := g4.below hb_15 (Nat.le_refl _)
  replace hz3 := hz3.below hb_15 (Nat.le_refl _)
  replace hz4 := hz4.below hb_15 (Nat.le_refl _)
  replace g5 := g5.below hb_15 (Nat.le_refl _)
  replace hz5 := hz5.below hb_15 (Nat.le_refl _)
  replace hb := hb.trans (hb_15.mono hb.size)
  clear hb_15
  rw [HS.out]
  clear f_hq
  have f_hp := hp.facts
  have f_hq := hq.facts
  go_wp2_with fail
  refine (rfloor_any ha hb' (by decide) (by decide) H0.out).mono ?_
  rintro e w_16 ⟨v6, v7, rfl, g6, g7, hb_16⟩
  replace ha := ha.below hb_16 (Nat.le_refl _)
  replace hb' := hb'.below hb_16 (Nat.le_refl _)
  replace hp := hp.below hb_16 (Nat.le_refl _)
  replace hq := hq.below hb_16 (Nat.le_refl _)
  replace g1 := g1.below hb_16 (Nat.le_refl _)
  replace g2 := g2.below hb_16 (Nat.le_refl _)
  replace hz1 := hz1.below hb_16 (Nat.le_refl _)
  replace hz2 := hz2.below hb_16 (Nat.le_refl _)
  replace g3 := g3.below hb_16 (Nat.le_refl _)
  replace g4 := g4.below hb_16 (Nat.le_refl _)
  replace hz3 := hz3.below hb_16 (Nat.le_refl _)
  replace hz4 := hz4.below hb_16 (Nat.le_refl _)
  replace g5 := g5.below hb_16 (Nat.le_refl _)
  replace hz5 := hz5.below hb_16 (Nat.le_refl _)
  replace hb := hb.trans (hb_16.mono hb.size)
  clear hb_16
  clear f_hp f_hq
  have kb_hz6 := hb.size
  have ne_hp_hz6 : w.heap.size ≠ w_16.heap.size := by have := hp.lt; (try simp only [Bk.size_alloc] at this); omega
  have ne_hq_hz6 : w.heap.size + 1 ≠ w_16.heap.size := by have := hq.lt; (try simp only [Bk.size_alloc] at this); omega
  have ne_hz1_hz6 : w_1.heap.size ≠ w_16.heap.size := by have := hz1.lt; (try simp only [Bk.size_alloc] at this); omega
  have ne_hz2_hz6 : w_2.heap.size ≠ w_16.heap.size := by have := hz2.lt; (try simp only [Bk.size_alloc] at this); omega
  have ne_hz3_hz6 : w_6.heap.size ≠ w_16.heap.size := by have := hz3.lt; (try simp only [Bk.size_alloc] at this); omega
  have ne_hz4_hz6 : w_7.heap.size ≠ w_16.heap.size := by have := hz4.lt; (try simp only [Bk.size_alloc] at this); omega
  have ne_hz5_hz6 : w_11.heap.size ≠ w_16.heap.size := by have := hz5.lt; (try simp only [Bk.size_alloc] at this); omega
  have hz6 := Bk.new w_16 false (.slice none 0 0)
  replace ha := ha.alloc (.cells #[.bool false, (.slice none 0 0)] 24)
  replace hb' := hb'.alloc (.cells #[.bool false, (.slice none 0 0)] 24)
  replace hp := hp.alloc (.cells #[.bool false, (.slice none 0 0)] 24)
  replace hq := hq.alloc (.cells #[.bool false, (.slice none 0 0)] 24)
  replace g1 := g1.alloc (.cells #[.bool false, (.slice none 0 0)] 24)
  replace g2 := g2.alloc (.cells #[.bool false, (.slice none 0 0)] 24)
  replace hz1 := hz1.alloc (.cells #[.bool false, (.slice none 0 0)] 24)
  replace hz2 := hz2.alloc (.cells #[.bool false, (.slice none 0 0)] 24)
  replace g3 := g3.alloc (.cells #[.bool false, (.slice none 0 0)] 24)
  replace g4 := g4.alloc (.cells #[.bool false, (.slice none 0 0)] 24)
  replace hz3 := hz3.alloc (.cells #[.bool false, (.slice none 0 0)] 24)
  replace hz4 := hz4.alloc (.cells #[.bool false, (.slice none 0 0)] 24)
  replace g5 := g5.alloc (.cells #[.bool false, (.slice none 0 0)] 24)
  replace hz5 := hz5.alloc (.cells #[.bool false, (.slice none 0 0)] 24)
  replace g6 := g6.alloc (.cells #[.bool false, (.slice none 0 0)] 24)
  replace g7 := g7.alloc (.cells #[.bool false, (.slice none 0 0)] 24)
  replace hb := hb.alloc hb.size (.cells #[.bool false, (.slice none 0 0)] 24)
  obtain ⟨w_17, hw_17⟩ : ∃ v, (w_16.alloc (.cells #[.bool false, (.slice none 0 0)] 24)) = v := ⟨_, rfl⟩
  rw [hw_17] at ha hb' hp hq g1 g2 hz1 hz2 g3 g4 hz3 hz4 g5 hz5 g6 g7 hz6 hb
  have kb_hz7 := hb.size
  have ne_hp_hz7 : w.heap.size ≠ w_17.heap.size := by have := hp.lt; (try simp only [Bk.size_alloc] at this); omega
  have ne_hq_hz7 : w.heap.size + 1 ≠ w_17.heap.size := by have := hq.lt; (try simp only [Bk.size_alloc] at this); omega
  have ne_hz1_hz7 : w_1.heap.size ≠ w_17.heap.size := by have := hz1.lt; (try simp only [Bk.size_alloc] at this); omega
  have ne_hz2_hz7 : w_2.heap.size ≠ w_17.heap.size := by have := hz2.lt; (try simp only [Bk.size_alloc] at this); omega
  have ne_hz3_hz7 : w_6.heap.size ≠ w_17.heap.size := by have := hz3.lt; (try simp only [Bk.size_alloc] at this); omega
  have ne_hz4_hz7 : w_7.heap.size ≠ w_17.heap.size := by have := hz4.lt; (try simp only [Bk.size_alloc] at this); omega
  have ne_hz5_hz7 : w_11.heap.size ≠ w_17.heap.size := by have := hz5.lt; (try simp only [Bk.size_alloc] at this); omega
  have ne_hz6_hz7 : w_16.heap.size ≠ w_17.heap.size := by have := hz6.lt; (try simp only [Bk.size_alloc] at this); omega
  have hz7 := Bk.new w_17 false (.slice none 0 0)
  replace ha := ha.alloc (.cells #[.bool false, (.slice none 0 0)] 24)
  replace hb' := hb'.alloc (.cells #[.bool false, (.slice none 0 0)] 24)
  replace hp := hp.alloc (.cells #[.bool false, (.slice none 0 0)] 24)
  replace hq := hq.alloc (.cells #[.bool false, (.slice none 0 0)] 24)
  replace g1 := g1.alloc (.cells #[.bool false, (.slice none 0 0)] 24)
  replace g2 := g2.alloc (.cells #[.bool false, (.slice none 0 0)] 24)
  replace hz1 := hz1.alloc (.cells #[.bool false, (.slice none 0 0)] 24)
  replace hz2 := hz2.alloc (.cells #[.bool false, (.slice none 0 0)] 24)
  replace g3 := g3.alloc (.cells #[.bool false, (.slice none 0 0)] 24)
  replace g4 := g4.alloc (.cells #[.bool false, (.slice none 0 0)] 24)
  replace hz3 := hz3.alloc (.cells #[.bool false, (.slice none 0 0)] 24)
  replace hz4 := hz4.alloc (.cells #[.bool false, (.slice none 0 0)] 24)
  replace g5 := g5.alloc (.cells #[.bool false, (.slice none 0 0)] 24)
  replace hz5 := hz5.alloc (.cells #[.bool false, (.slice none 0 0)] 24)
  replace g6 := g6.alloc (.cells #[.bool false, (.slice none 0 0)] 24)
  replace g7 := g7.alloc (.cells #[.bool false, (.slice none 0 0)] 24)
  replace hz6 := hz6.alloc (.cells #[.bool false, (.slice none 0 0)] 24)
  replace hb := hb.alloc hb.size (.cells #[.bool false, (.slice none 0 0)] 24)
  obtain ⟨w_18, hw_18⟩ : ∃ v, (w_17.alloc (.cells #[.bool false, (.slice none 0 0)] 24)) = v := ⟨_, rfl⟩
  rw [hw_18] at ha hb' hp hq g1 g2 hz1 hz2 g3 g4 hz3 hz4 g5 hz5 g6 g7 hz6 hz7 hb
  obtain ⟨sb_hz6, o_hz6, n_hz6, c_hz6, rfl⟩ := g6.open2
  have f_hz6 := hz6.facts
  have ho := Bk.only w_18 (w_16.heap.size) sb_hz6 (.slice o_hz6 n_hz6 c_hz6)
  have hbx_ := hz6.bx
  replace ha := ha.frame hbx_ ho
  replace hb' := hb'.frame hbx_ ho
  replace hp := hp.frame ho (by omega)
  replace hq := hq.frame ho (by omega)
  replace g1 := g1.frame hbx_ ho
  replace g2 := g2.frame hbx_ ho
  replace hz1 := hz1.frame ho (by omega)
  replace hz2 := hz2.frame ho (by omega)
  replace g3 := g3.frame hbx_ ho
  replace g4 := g4.frame hbx_ ho
  replace hz3 := hz3.frame ho (by omega)
  replace hz4 := hz4.frame ho (by omega)
  replace g5 := g5.frame hbx_ ho
  replace hz5 := hz5.frame ho (by omega)
  replace g6 := g6.frame hbx_ ho
  replace g7 := g7.frame hbx_ ho
  replace hz7 := hz7.frame ho (by omega)
  replace hz6 := hz6.store sb_hz6 (.slice o_hz6 n_hz6 c_hz6)
  replace hb := (hb.setCell (p := ⟨w_16.heap.size, 0, none⟩) (show w.heap.size ≤ w_16.heap.size by omega) (.bool sb_hz6)).setCell (p := ⟨w_16.heap.size, 1, none⟩) (show w.heap.size ≤ w_16.heap.size by omega) (.slice o_hz6 n_hz6 c_hz6)
  clear ho hbx_
  obtain ⟨w_19, hw_19⟩ : ∃ v, ((w_18.setCell ⟨w_16.heap.size, 0, none⟩ (.bool sb_hz6)).setCell ⟨w_16.heap.size, 1, none⟩ (.slice o_hz6 n_hz6 c_hz6)) = v := ⟨_, rfl⟩
  rw [hw_19] at ha hb' hp hq g1 g2 hz1 hz2 g3 g4 hz3 hz4 g5 hz5 g6 g7 hz6 hz7 hb
  obtain ⟨sb_hz7, o_hz7, n_hz7, c_hz7, rfl⟩ := g7.open2
  have f_hz7 := hz7.facts
  have ho := Bk.only w_19 (w_17.heap.size) sb_hz7 (.slice o_hz7 n_hz7 c_hz7)
  have hbx_ := hz7.bx
  replace ha := ha.frame hbx_ ho
  replace hb' := hb'.frame hbx_ ho
  replace hp := hp.frame ho (by omega)
  replace hq := hq.frame ho (by omega)
  replace g1 := g1.frame hbx_ ho
  replace g2 := g2.frame hbx_ ho
  replace hz1 := hz1.frame ho (by omega)
  replace hz2 := hz2.frame ho (by omega)
  replace g3 := g3.frame hbx_ ho
  replace g4 := g4.frame hbx_ ho
  replace hz3 := hz3.frame ho (by omega)
  replace hz4 := hz4.frame ho (by omega)
  replace g5 := g5.frame hbx_ ho
  replace hz5 := hz5.frame ho (by omega)
  replace g6 := g6.frame hbx_ ho
  replace g7 := g7.frame hbx_ ho
  replace hz6 := hz6.frame ho (by omega)
  replace hz7 := hz7.store sb_hz7 (.slice o_hz7 n_hz7 c_hz7)
  replace hb := (hb.setCell (p := ⟨w_17.heap.size, 0, none⟩) (show w.heap.size ≤ w_17.heap.size by omega) (.bool sb_hz7)).setCell (p := ⟨w_17.heap.size, 1, none⟩) (show w.heap.size ≤ w_17.heap.size by omega) (.slice o_hz7 n_hz7 c_hz7)
  clear ho hbx_
  obtain ⟨w_20, hw_20⟩ : ∃ v, ((w_19.setCell ⟨w_17.heap.size, 0, none⟩ (.bool sb_hz7)).setCell ⟨w_17.heap.size, 1, none⟩ (.slice o_hz7 n_hz7 c_hz7)) = v := ⟨_, rfl⟩
  rw [hw_20] at ha hb' hp hq g1 g2 hz1 hz2 g3 g4 hz3 hz4 g5 hz5 g6 g7 hz6 hz7 hb
  have f_hp := hp.facts
  have f_hq := hq.facts
  go_wp2_with fail
  refine (rround_any ha hb' (by decide) (by decide) H0.out).mono ?_
  rintro e w_21 ⟨v8, v9, rfl, g8, g9, hb_21⟩
  replace ha := ha.below hb_21 (Nat.le_refl _)
  replace hb' := hb'.below hb_21 (Nat.le_refl _)
  replace hp := hp.below hb_21 (Nat.le_refl _)
  replace hq := hq.below hb_21 (Nat.le_refl _)
  replace g1 := g1.below hb_21 (Nat.le_refl _)
  replace g2 := g2.below hb_21 (Nat.le_refl _)
  replace hz1 := hz1.below hb_21 (Nat.le_refl _)
  replace hz2 := hz2.below hb_21 (Nat.le_refl _)
  replace g3 := g3.below hb_21 (Nat.le_refl _)
  replace g4 := g4.below hb_21 (Nat.le_refl _)
  replace hz3 := hz3.below hb_21 (Nat.le_refl _)
  replace hz4 := hz4.below hb_21 (Nat.le_refl _)
  replace g5 := g5.below hb_21 (Nat.le_refl _)
  replace hz5 := hz5.below hb_21 (Nat.le_refl _)
  replace g6 := g6.below hb_21 (Nat.le_refl _)
  replace g7 := g7.below hb_21 (Nat.le_refl _)
  replace hz6 := hz6.below hb_21 (Nat.le_refl _)
  replace hz7 := hz7.below hb_21 (Nat.le_refl _)
  replace hb := hb.trans (hb_21.mono hb.size)
  clear hb_21
  clear f_hp f_hq f_hz6 f_hz7
  have kb_hz8 := hb.size
  have ne_hp_hz8 : w.heap.size ≠ w_21.heap.size := by have := hp.lt; (try simp only [Bk.size_alloc] at this); omega
  have ne_hq_hz8 : w.heap.size + 1 ≠ w_21.heap.size := by have := hq.lt; (try simp only [Bk.size_alloc] at this); omega
  have ne_hz1_hz8 : w_1.heap.size ≠ w_21.heap.size := by have := hz1.lt; (try simp only [Bk.size_alloc] at this); omega
  have ne_hz2_hz8 : w_2.heap.size ≠ w_21.heap.size := by have := hz2.lt; (try simp only [Bk.size_alloc] at this); omega
  have ne_hz3_hz8 : w_6.heap.size ≠ w_21.heap.size := by have := hz3.lt; (try simp only [Bk.size_alloc] at this); omega
  have ne_hz4_hz8 : w_7.heap.size ≠ w_21.heap.size := by have := hz4.lt; (try simp only [Bk.size_alloc] at this); omega
  have ne_hz5_hz8 : w_11.heap.size ≠ w_21.heap.size := by have := hz5.lt; (try simp only [Bk.size_alloc] at this); omega
  have ne_hz6_hz8 : w_16.heap.size ≠ w_21.heap.size := by have := hz6.lt; (try simp only [Bk.size_alloc] at this); omega
  have ne_hz7_hz8 : w_17.heap.size ≠ w_21.heap.size := by have := hz7.lt; (try simp only [Bk.size_alloc] at this); omega
  have hz8 := Bk.new w_21 false (.slice none 0 0)
  replace ha := ha.alloc (.cells #[.bool false, (.slice none 0 0)] 24)
  replace hb' := hb'.alloc (.cells #[.bool false, (.slice none 0 0)] 24)
  replace hp := hp.alloc (.cells #[.bool false, (.slice none 0 0)] 24)
  replace hq := hq.alloc (.cells #[.bool false, (.slice none 0 0)] 24)
  replace g1 := g1.alloc (.cells #[.bool false, (.slice none 0 0)] 24)
  replace g2 := g2.alloc (.cells #[.bool false, (.slice none 0 0)] 24)
  replace hz1 := hz1.alloc (.cells #[.bool false, (.slice none 0 0)] 24)
  replace hz2 := hz2.alloc (.cells #[.bool false, (.slice none 0 0)] 24)
  replace g3 := g3.alloc (.cells #[.bool false, (.slice none 0 0)] 24)
  replace g4 := g4.alloc (.cells #[.bool false, (.slice none 0 0)] 24)
  replace hz3 := hz3.alloc (.cells #[.bool false, (.slice none 0 0)] 24)
  replace hz4 := hz4.alloc (.cells #[.bool false, (.slice none 0 0)] 24)
  replace g5 := g5.alloc (.cells #[.bool false, (.slice none 0 0)] 24)
  replace hz5 := hz5.alloc (.cells #[.bool false, (.slice none 0 0)] 24)
  replace g6 := g6.alloc (.cells #[.bool false, (.slice none 0 0)] 24)
  replace g7 := g7.alloc (.cells #[.bool false, (.slice none 0 0)] 24)
  replace hz6 := hz6.alloc (.cells #[.bool false, (.slice none 0 0)] 24)
  replace hz7 := hz7.alloc (.cells #[.bool false, (.slice none 0 0)] 24)
  replace g8 := g8.alloc (.cells #[.bool false, (.slice none 0 0)] 24)
  replace g9 := g9.alloc (.cells #[.bool false, (.slice none 0 0)] 24)
  replace hb := hb.alloc hb.size (.cells #[.bool false, (.slice none 0 0)] 24)
  obtain ⟨w_22, hw_22⟩ : ∃ v, (w_21.alloc (.cells #[.bool false, (.slice none 0 0)] 24)) = v := ⟨_, rfl⟩
  rw [hw_22] at ha hb' hp hq g1 g2 hz1 hz2 g3 g4 hz3 hz4 g5 hz5 g6 g7 hz6 hz7 g8 g9 hz8 hb
  have kb_hz9 := hb.size
  have ne_hp_hz9 : w.heap.size ≠ w_22.heap.size := by have := hp.lt; (try simp only [Bk.size_alloc] at this); omega
  have ne_hq_hz9 : w.heap.size + 1 ≠ w_22.heap.size := by have := hq.lt; (try simp only [Bk.size_alloc] at this); omega
  have ne_hz1_hz9 : w_1.heap.size ≠ w_22.heap.size := by have := hz1.lt; (try simp only [Bk.size_alloc] at this); omega
  have ne_hz2_hz9 : w_2.heap.size ≠ w_22.heap.size := by have := hz2.lt; (try simp only [Bk.size_alloc] at this); omega
  have ne_hz3_hz9 : w_6.heap.size ≠ w_22.heap.size := by have := hz3.lt; (try simp only [Bk.size_alloc] at this); omega
  have ne_hz4_hz9 : w_7.heap.size ≠ w_22.heap.size := by have := hz4.lt; (try simp only [Bk.size_alloc] at this); omega
  have ne_hz5_hz9 : w_11.heap.size ≠ w_22.heap.size := by have := hz5.lt; (try simp only [Bk.size_alloc] at this); omega
  have ne_hz6_hz9 : w_16.heap.size ≠ w_22.heap.size := by have := hz6.lt; (try simp only [Bk.size_alloc] at this); omega
  have ne_hz7_hz9 : w_17.heap.size ≠ w_22.heap.size := by have := hz7.lt; (try simp only [Bk.size_alloc] at this); omega
  have ne_hz8_hz9 : w_21.heap.size ≠ w_22.heap.size := by have := hz8.lt; (try simp only [Bk.size_alloc] at this); omega
  have hz9 := Bk.new w_22 false (.slice none 0 0)
  replace ha := ha.alloc (.cells #[.bool false, (.slice none 0 0)] 24)
  replace hb' := hb'.alloc (.cells #[.bool false, (.slice none 0 0)] 24)
  replace hp := hp.alloc (.cells #[.bool false, (.slice none 0 0)] 24)
  replace hq := hq.alloc (.cells #[.bool false, (.slice none 0 0)] 24)
  replace g1 := g1.alloc (.cells #[.bool false, (.slice none 0 0)] 24)
  replace g2 := g2.alloc (.cells #[.bool false, (.slice none 0 0)] 24)
  replace hz1 := hz1.alloc (.cells #[.bool false, (.slice none 0 0)] 24)
  replace hz2 := hz2.alloc (.cells #[.bool false, (.slice none 0 0)] 24)
  replace g3 := g3.alloc (.cells #[.bool false, (.slice none 0 0)] 24)
  replace g4 := g4.alloc (.cells #[.bool false, (.slice none 0 0)] 24)
  replace hz3 := hz3.alloc (.cells #[.bool false, (.slice none 0 0)] 24)
  replace hz4 := hz4.alloc (.cells #[.bool false, (.slice none 0 0)] 24)
  replace g5 := g5.alloc (.cells #[.bool false, (.slice none 0 0)] 24)
  replace hz5 := hz5.alloc (.cells #[.bool false, (.slice none 0 0)] 24)
  replace g6 := g6.alloc (.cells #[.bool false, (.slice none 0 0)] 24)
  replace g7 := g7.alloc (.cells #[.bool false, (.slice none 0 0)] 24)
  replace hz6 := hz6.alloc (.cells #[.bool false, (.slice none 0 0)] 24)
  replace hz7 := hz7.alloc (.cells #[.bool false, (.slice none 0 0)] 24)
  replace g8 := g8.alloc (.cells #[.bool false, (.slice none 0 0)] 24)
  replace g9 := g9.alloc (.cells #[.bool false, (.slice none 0 0)] 24)
  replace hz8 := hz8.alloc (.cells #[.bool false, (.slice none 0 0)] 24)
  replace hb := hb.alloc hb.size (.cells #[.bool false, (.slice none 0 0)] 24)
  obtain ⟨w_23, hw_23⟩ : ∃ v, (w_22.alloc (.cells #[.bool false, (.slice none 0 0)] 24)) = v := ⟨_, rfl⟩
  rw [hw_23] at ha hb' hp hq g1 g2 hz1 hz2 g3 g4 hz3 hz4 g5 hz5 g6 g7 hz6 hz7 g8 g9 hz8 hz9 hb
  obtain ⟨sb_hz8, o_hz8, n_hz8, c_hz8, rfl⟩ := g8.open2
  have f_hz8 := hz8.facts
  have ho := Bk.only w_23 (w_21.heap.size) sb_hz8 (.slice o_hz8 n_hz8 c_hz8)
  have hbx_ := hz8.bx
  replace ha := ha.frame hbx_ ho
  replace hb' := hb'.frame hbx_ ho
  replace hp := hp.frame ho (by omega)
  replace hq := hq.frame ho (by omega)
  replace g1 := g1.frame hbx_ ho
  replace g2 := g2.frame hbx_ ho
  replace hz1 := hz1.frame ho (by omega)
  replace hz2 := hz2.frame ho (by omega)
  replace g3 := g3.frame hbx_ ho
  replace g4 := g4.frame hbx_ ho
  replace hz3 := hz3.frame ho (by omega)
  replace hz4 := hz4.frame ho (by omega)
  replace g5 := g5.frame hbx_ ho
  replace hz5 := hz5.frame ho (by omega)
  replace g6 := g6.frame hbx_ ho
  replace g7 := g7.frame hbx_ ho
  replace hz6 := hz6.frame ho (by omega)
  replace hz7 := hz7.frame ho (by omega)
  replace g8 := g8.frame hbx_ ho
  replace g9 := g9.frame hbx_ ho
  replace hz9 := hz9.frame ho (by omega)
  replace hz8 := hz8.store sb_hz8 (.slice o_hz8 n_hz8 c_hz8)
  replace hb := (hb.setCell (p := ⟨w_21.heap.size, 0, none⟩) (show w.heap.size ≤ w_21.heap.size by omega) (.bool sb_hz8)).setCell (p := ⟨w_21.heap.size, 1, none⟩) (show w.heap.size ≤ w_21.heap.size by omega) (.slice o_hz8 n_hz8 c_hz8)
  clear ho hbx_
  obtain ⟨w_24, hw_24⟩ : ∃ v, ((w_23.setCell ⟨w_21.heap.size, 0, none⟩ (.bool sb_hz8)).setCell ⟨w_21.heap.size, 1, none⟩ (.slice o_hz8 n_hz8 c_hz8)) = v := ⟨_, rfl⟩
  rw [hw_24] at ha hb' hp hq g1 g2 hz1 hz2 g3 g4 hz3 hz4 g5 hz5 g6 g7 hz6 hz7 g8 g9 hz8 hz9 hb
  obtain ⟨sb_hz9, o_hz9, n_hz9, c_hz9, rfl⟩ := g9.open2
  have f_hz9 := hz9.facts
  have ho := Bk.only w_24 (w_22.heap.size) sb_hz9 (.slice o_hz9 n_hz9 c_hz9)
  have hbx_ := hz9.bx
  replace ha := ha.frame hbx_ ho
  replace hb' := hb'.frame hbx_ ho
  replace hp := hp.frame ho (by omega)
  replace hq := hq.frame ho (by omega)
  replace g1 := g1.frame hbx_ ho
  replace g2 := g2.frame hbx_ ho
  replace hz1 := hz1.frame ho (by omega)
  replace hz2 := hz2.frame ho (by omega)
  replace g3 := g3.frame hbx_ ho
  replace g4 := g4.frame hbx_ ho
  replace hz3 := hz3.frame ho (by omega)
  replace hz4 := hz4.frame ho (by omega)
  replace g5 := g5.frame hbx_ ho
  replace hz5 := hz5.frame ho (by omega)
  replace g6 := g6.frame hbx_ ho
  replace g7 := g7.frame hbx_ ho
  replace hz6 := hz6.frame ho (by omega)
  replace hz7 := hz7.frame ho (by omega)
  replace g8 := g8.frame hbx_ ho
  replace g9 := g9.frame hbx_ ho
  replace hz8 := hz8.frame ho (by omega)
  replace hz9 := hz9.store sb_hz9 (.slice o_hz9 n_hz9 c_hz9)
  replace hb := (hb.setCell (p := ⟨w_22.heap.size, 0, none⟩) (show w.heap.size ≤ w_22.heap.size by omega) (.bool sb_hz9)).setCell (p := ⟨w_22.heap.size, 1, none⟩) (show w.heap.size ≤ w_22.heap.size by omega) (.slice o_hz9 n_hz9 c_hz9)
  clear ho hbx_
  obtain ⟨w_25, hw_25⟩ : ∃ v, ((w_24.setCell ⟨w_22.heap.size, 0, none⟩ (.bool sb_hz9)).setCell ⟨w_22.heap.size, 1, none⟩ (.slice o_hz9 n_hz9 c_hz9)) = v := ⟨_, rfl⟩
  rw [hw_25] at ha hb' hp hq g1 g2 hz1 hz2 g3 g4 hz3 hz4 g5 hz5 g6 g7 hz6 hz7 g8 g9 hz8 hz9 hb
  have f_hz1 := hz1.facts
  have f_hz6 := hz6.facts
  go_wp2_with fail
  refine (is_zz g1 (g6.zn LQ.out) (by decide)).mono ?_
  rintro e w_26 ⟨rfl, hb_26⟩
  replace ha := ha.below hb_26 (Nat.le_refl _)
  replace hb' := hb'.below hb_26 (Nat.le_refl _)
  replace hp := hp.below hb_26 (Nat.le_refl _)
  replace hq := hq.below hb_26 (Nat.le_refl _)
  replace g1 := g1.below hb_26 (Nat.le_refl _)
  replace g2 := g2.below hb_26 (Nat.le_refl _)
  replace hz1 := hz1.below hb_26 (Nat.le_refl _)
  replace hz2 := hz2.below hb_26 (Nat.le_refl _)
  replace g3 := g3.below hb_26 (Nat.le_refl _)
  replace g4 := g4.below hb_26 (Nat.le_refl _)
  replace hz3 := hz3.below hb_26 (Nat.le_refl _)
  replace hz4 := hz4.below hb_26 (Nat.le_refl _)
  replace g5 := g5.below hb_26 (Nat.le_refl _)
  replace hz5 := hz5.below hb_26 (Nat.le_refl _)
  replace g6 := g6.below hb_26 (Nat.le_refl _)
  replace g7 := g7.below hb_26 (Nat.le_refl _)
  replace hz6 := hz6.below hb_26 (Nat.le_refl _)
  replace hz7 := hz7.below hb_26 (Nat.le_refl _)
  replace g8 := g8.below hb_26 (Nat.le_refl _)
  replace g9 := g9.below hb_26 (Nat.le_refl _)
  replace hz8 := hz8.below hb_26 (Nat.le_refl _)
  replace hz9 := hz9.below hb_26 (Nat.le_refl _)
  replace hb := hb.trans (hb_26.mono hb.size)
  clear hb_26
  clear f_hz1 f_hz6 f_hz8 f_hz9
  have f_hz2 := hz2.facts
  have f_hz7 := hz7.facts
  go_wp2_with fail
  refine (is_zz g2 (g7.zn LR.out) (by decide)).mono ?_
  rintro e w_27 ⟨rfl, hb_27⟩
  replace ha := ha.below hb_27 (Nat.le_refl _)
  replace hb' := hb'.below hb_27 (Nat.le_refl _)
  replace hp := hp.below hb_27 (Nat.le_refl _)
  replace hq := hq.below hb_27 (Nat.le_refl _)
  replace g1 := g1.below hb_27 (Nat.le_refl _)
  replace g2 := g2.below hb_27 (Nat.le_refl _)
  replace hz1 := hz1.below hb_27 (Nat.le_refl _)
  replace hz2 := hz2.below hb_27 (Nat.le_refl _)
  replace g3 := g3.below hb_27 (Nat.le_refl _)
  replace g4 := g4.below hb_27 (Nat.le_refl _)
  replace hz3 := hz3.below hb_27 (Nat.le_refl _)
  replace hz4 := hz4.below hb_27 (Nat.le_refl _)
  replace g5 := g5.below hb_27 (Nat.le_refl _)
  replace hz5 := hz5.below hb_27 (Nat.le_refl _)
  replace g6 := g6.below hb_27 (Nat.le_refl _)
  replace g7 := g7.below hb_27 (Nat.le_refl _)
  replace hz6 := hz6.below hb_27 (Nat.le_refl _)
  replace hz7 := hz7.below hb_27 (Nat.le_refl _)
  replace g8 := g8.below hb_27 (Nat.le_refl _)
  replace g9 := g9.below hb_27 (Nat.le_refl _)
  replace hz8 := hz8.below hb_27 (Nat.le_refl _)
  replace hz9 := hz9.below hb_27 (Nat.le_refl _)
  replace hb := hb.trans (hb_27.mono hb.size)
  clear hb_27
  clear f_hz2 f_hz7
  have f_hz3 := hz3.facts
  have f_hz8 := hz8.facts
  go_wp2_with fail
  refine (is_zz g3 (g8.zn LN.out) (by decide)).mono ?_
  rintro e w_28 ⟨rfl, hb_28⟩
  replace ha := ha.below hb_28 (Nat.le_refl _)
  replace hb' := hb'.below hb_28 (Nat.le_refl _)
  replace hp := hp.below hb_28 (Nat.le_refl _)
  replace hq := hq.below hb_28 (Nat.le_refl _)
  replace g1 := g1.below hb_28 (Nat.le_refl _)
  replace g2 := g2.below hb_28 (Nat.le_refl _)
  replace hz1 := hz1.below hb_28 (Nat.le_refl _)
  replace hz2 := hz2.below hb_28 (Nat.le_refl _)
  replace g3 := g3.below hb_28 (Nat.le_refl _)
  replace g4 := g4.below hb_28 (Nat.le_refl _)
  replace hz3 := hz3.below hb_28 (Nat.le_refl _)
  replace hz4 := hz4.below hb_28 (Nat.le_refl _)
  replace g5 := g5.below hb_28 (Nat.le_refl _)
  replace hz5 := hz5.below hb_28 (Nat.le_refl _)
  replace g6 := g6.below hb_28 (Nat.le_refl _)
  replace g7 := g7.below hb_28 (Nat.le_refl _)
  replace hz6 := hz6.below hb_28 (Nat.le_refl _)
  replace hz7 := hz7.below hb_28 (Nat.le_refl _)
  replace g8 := g8.below hb_28 (Nat.le_refl _)
  replace g9 := g9.below hb_28 (Nat.le_refl _)
  replace hz8 := hz8.below hb_28 (Nat.le_refl _)
  replace hz9 := hz9.below hb_28 (Nat.le_refl _)
  replace hb := hb.trans (hb_28.mono hb.size)
  clear hb_28
  clear f_hz3 f_hz8
  have f_hz4 := hz4.facts
  have f_hz9 := hz9.facts
  go_wp2_with fail
  refine (is_zz g4 (g9.zn LT.out) (by decide)).mono ?_
  rintro e w_29 ⟨rfl, hb_29⟩
  replace ha := ha.below hb_29 (Nat.le_refl _)
  replace hb' := hb'.below hb_29 (Nat.le_refl _)
  replace hp := hp.below hb_29 (Nat.le_refl _)
  replace hq := hq.below hb_29 (Nat.le_refl _)
  replace g1 := g1.below hb_29 (Nat.le_refl _)
  replace g2 := g2.below hb_29 (Nat.le_refl _)
  replace hz1 := hz1.below hb_29 (Nat.le_refl _)
  replace hz2 := hz2.below hb_29 (Nat.le_refl _)
  replace g3 := g3.below hb_29 (Nat.le_refl _)
  replace g4 := g4.below hb_29 (Nat.le_refl _)
  replace hz3 := hz3.below hb_29 (Nat.le_refl _)
  replace hz4 := hz4.below hb_29 (Nat.le_refl _)
  replace g5 := g5.below hb_29 (Nat.le_refl _)
  replace hz5 := hz5.below hb_29 (Nat.le_refl _)
  replace g6 := g6.below hb_29 (Nat.le_refl _)
  replace g7 := g7.below hb_29 (Nat.le_refl _)
  replace hz6 := hz6.below hb_29 (Nat.le_refl _)
  replace hz7 := hz7.below hb_29 (Nat.le_refl _)
  replace g8 := g8.below hb_29 (Nat.le_refl _)
  replace g9 := g9.below hb_29 (Nat.le_refl _)
  replace hz8 := hz8.below hb_29 (Nat.le_refl _)
  replace hz9 := hz9.below hb_29 (Nat.le_refl _)
  replace hb := hb.trans (hb_29.mono hb.size)
  clear hb_29
  clear f_hz4 f_hz9
  have f_hz7 := hz7.facts
  go_wp2_with fail
  refine (rzsign_any (g7.zn LR.out) (by decide)).mono ?_
  rintro e w_30 ⟨rfl, hb_30⟩
  replace ha := ha.below hb_30 (Nat.le_refl _)
  replace hb' := hb'.below hb_30 (Nat.le_refl _)
  replace hp := hp.below hb_30 (Nat.le_refl _)
  replace hq := hq.below hb_30 (Nat.le_refl _)
  replace g1 := g1.below hb_30 (Nat.le_refl _)
  replace g2 := g2.below hb_30 (Nat.le_refl _)
  replace hz1 := hz1.below hb_30 (Nat.le_refl _)
  replace hz2 := hz2.below hb_30 (Nat.le_refl _)
  replace g3 := g3.below hb_30 (Nat.le_refl _)
  replace g4 := g4.below hb_30 (Nat.le_refl _)
  replace hz3 := hz3.below hb_30 (Nat.le_refl _)
  replace hz4 := hz4.below hb_30 (Nat.le_refl _)
  replace g5 := g5.below hb_30 (Nat.le_refl _)
  replace hz5 := hz5.below hb_30 (Nat.le_refl _)
  replace g6 := g6.below hb_30 (Nat.le_refl _)
  replace g7 := g7.below hb_30 (Nat.le_refl _)
  replace hz6 := hz6.below hb_30 (Nat.le_refl _)
  replace hz7 := hz7.below hb_30 (Nat.le_refl _)
  replace g8 := g8.below hb_30 (Nat.le_refl _)
  replace g9 := g9.below hb_30 (Nat.le_refl _)
  replace hz8 := hz8.below hb_30 (Nat.le_refl _)
  replace hz9 := hz9.below hb_30 (Nat.le_refl _)
  replace hb := hb.trans (hb_30.mono hb.size)
  clear hb_30
  rw [HRS.out]
  clear f_hz7
  have f_hz5 := hz5.facts
  have f_hz6 := hz6.facts
  go_wp2_with fail
  refine (is_zz g5 (g6.zn LQ.out) (by decide)).mono ?_
  rintro e w_31 ⟨rfl, hb_31⟩
  replace ha := ha.below hb_31 (Nat.le_refl _)
  replace hb' := hb'.below hb_31 (Nat.le_refl _)
  replace hp := hp.below hb_31 (Nat.le_refl _)
  replace hq := hq.below hb_31 (Nat.le_refl _)
  replace g1 := g1.below hb_31 (Nat.le_refl _)
  replace g2 := g2.below hb_31 (Nat.le_refl _)
  replace hz1 := hz1.below hb_31 (Nat.le_refl _)
  replace hz2 := hz2.below hb_31 (Nat.le_refl _)
  replace g3 := g3.below hb_31 (Nat.le_refl _)
  replace g4 := g4.below hb_31 (Nat.le_refl _)
  replace hz3 := hz3.below hb_31 (Nat.le_refl _)
  replace hz4 := hz4.below hb_31 (Nat.le_refl _)
  replace g5 := g5.below hb_31 (Nat.le_refl _)
  replace hz5 := hz5.below hb_31 (Nat.le_refl _)
  replace g6 := g6.below hb_31 (Nat.le_refl _)
  replace g7 := g7.below hb_31 (Nat.le_refl _)
  replace hz6 := hz6.below hb_31 (Nat.le_refl _)
  replace hz7 := hz7.below hb_31 (Nat.le_refl _)
  replace g8 := g8.below hb_31 (Nat.le_refl _)
  replace g9 := g9.below hb_31 (Nat.le_refl _)
  replace hz8 := hz8.below hb_31 (Nat.le_refl _)
  replace hz9 := hz9.below hb_31 (Nat.le_refl _)
  replace hb := hb.trans (hb_31.mono hb.size)
  clear hb_31
  clear f_hz5 f_hz6
  go_wp2
  go_ret
  exact ⟨rfl, hb⟩

set_option maxHeartbeats 4000000 in
set_option maxRecDepth 20000 in
theorem divides_odd {w : World} {va vb : Value} {x y : Int} (ha : ZN w va x 1048576) (hb' : ZN w vb y 1048576) (h0 : y ≠ 0) (hr0 : x.fmod y ≠ 0) (htab : Lib.TabIs Tryd.prog w p10 .u64 Lib.pow10Tab) :
    Calls Tryd.prog 6 #[va, vb] w fun e w' => e = .returned (.bool true) ∧ Below w.heap.size w w' := by
  have htabs := Lib.tabBelow_of_tabIs htab
  have Lx := ha.len
  have Ly := hb'.len
  have LQ := hide (fdiv_len h0 Lx)
  have LR := hide (fmod_len (x := x) h0 Ly)
  have LN := hide (rnd_len h0 Lx)
  have LT := hide (rrest_len (x := x) h0 Ly)
  obtain ⟨S, hS⟩ : ∃ S, y.sign = S := ⟨_, rfl⟩
  have hS0 : (S == 0) = false := by rw [beq_eq_false_iff_ne, ← hS]; exact fun h => h0 (Int.sign_eq_zero_iff_zero.1 h)
  have HS := hide hS
  obtain ⟨R, hR⟩ : ∃ R, (x.fmod y).sign = R := ⟨_, rfl⟩
  have HRS := hide hR
  have hR0 : (R == 0) = false := by rw [beq_eq_false_iff_ne, ← hR]; exact fun h => hr0 (Int.sign_eq_zero_iff_zero.1 h)
  have hRn : (R != 0) = true := by rw [bne, hR0]; rfl
  have e0 : ((0 : Int) == 0) = true := rfl
  clear hR
  have H0 := hide h0
  have HR := hide hr0
  clear hr0 h0 hS Lx Ly
  obtain ⟨na, oa, ca, xs, rfl, hca, _, _, hxl⟩ := ha.open_
  obtain ⟨nb, ob, cb, ys, rfl, hcb, _, _, hyl⟩ := hb'.open_
  go_enter Tryd.func6, Tryd.ntmps6
  have hb := Below.refl w.heap.size w
  have hp := Bk.new w na (.slice oa xs.length ca)
  replace ha := ha.alloc (.cells #[.bool na, (.slice oa xs.length ca)] 24)
  replace hb' := hb'.alloc (.cells #[.bool na, (.slice oa xs.length ca)] 24)
  replace hb := hb.alloc hb.size (.cells #[.bool na, (.slice oa xs.length ca)] 24)
  have hq := Bk.new (w.alloc (.cells #[.bool na, (.slice oa xs.length ca)] 24)) nb (.slice ob ys.length cb)
  simp only [Bk.size_alloc] at hq
  replace ha := ha.alloc (.cells #[.bool nb, (.slice ob ys.length cb)] 24)
  replace hb' := hb'.alloc (.cells #[.bool nb, (.slice ob ys.length cb)] 24)
  replace hp := hp.alloc (.cells #[.bool nb, (.slice ob ys.length cb)] 24)
  replace hb := hb.alloc hb.size (.cells #[.bool nb, (.slice ob ys.length cb)] 24)
  have f_hp := hp.facts
  have f_hq := hq.facts
  go_wp2_with fail
  refine (fdiv_any ha hb' (by decide) (by decide) H0.out).mono ?_
  rintro e w_1 ⟨v1, v2, rfl, g1, g2, hb_1⟩
  replace ha := ha.below hb_1 (Nat.le_refl _)
  replace hb' := hb'.below hb_1 (Nat.le_refl _)
  replace hp := hp.below hb_1 (Nat.le_refl _)
  replace hq := hq.below hb_1 (Nat.le_refl _)
  replace hb := hb.trans (hb_1.mono hb.size)
  clear hb_1
  replace g1 := g1.rd
  replace g2 := g2.rd
  clear f_hp f_hq
  have kb_hz1 := hb.size
  have ne_hp_hz1 : w.heap.size ≠ w_1.heap.size := by have := hp.lt; (try simp only [Bk.size_alloc] at this); omega
  have ne_hq_hz1 : w.heap.size + 1 ≠ w_1.heap.size := by have := hq.lt; (try simp only [Bk.size_alloc] at this); omega
  have hz1 := Bk.new w_1 false (.slice none 0 0)
  replace ha := ha.alloc (.cells #[.bool false, (.slice none 0 0)] 24)
  replace hb' := hb'.alloc (.cells #[.bool false, (.slice none 0 0)] 24)
  replace hp := hp.alloc (.cells #[.bool false, (.slice none 0 0)] 24)
  replace hq := hq.alloc (.cells #[.bool false, (.slice none 0 0)] 24)
  replace g1 := g1.alloc (.cells #[.bool false, (.slice none 0 0)] 24)
  replace g2 := g2.alloc (.cells #[.bool false, (.slice none 0 0)] 24)
  replace hb := hb.alloc hb.size (.cells #[.bool false, (.slice none 0 0)] 24)
  obtain ⟨w_2, hw_2⟩ : ∃ v, (w_1.alloc (.cells #[.bool false, (.slice none 0 0)] 24)) = v := ⟨_, rfl⟩
  rw [hw_2] at ha hb' hp hq g1 g2 hz1 hb
  have kb_hz2 := hb.size
  have ne_hp_hz2 : w.heap.size ≠ w_2.heap.size := by have := hp.lt; (try simp only [Bk.size_alloc] at this); omega
  have ne_hq_hz2 : w.heap.size + 1 ≠ w_2.heap.size := by have := hq.lt; (try simp only [Bk.size_alloc] at this); omega
  have ne_hz1_hz2 : w_1.heap.size ≠ w_2.heap.size := by have := hz1.lt; (try simp only [Bk.size_alloc] at this); omega
  have hz2 := Bk.new w_2 false (.slice none 0 0)
  replace ha := ha.alloc (.cells #[.bool false, (.slice none 0 0)] 24)
  replace hb' := hb'.alloc (.cells #[.bool false, (.slice none 0 0)] 24)
  replace hp := hp.alloc (.cells #[.bool false, (.slice none 0 0)] 24)
  replace hq := hq.alloc (.cells #[.bool false, (.slice none 0 0)] 24)
  replace g1 := g1.alloc (.cells #[.bool false, (.slice none 0 0)] 24)
  replace g2 := g2.alloc (.cells #[.bool false, (.slice none 0 0)] 24)
  replace hz1 := hz1.alloc (.cells #[.bool false, (.slice none 0 0)] 24)
  replace hb := hb.alloc hb.size (.cells #[.bool false, (.slice none 0 0)] 24)
  obtain ⟨w_3, hw_3⟩ : ∃ v, (w_2.alloc (.cells #[.bool false, (.slice none 0 0)] 24)) = v := ⟨_, rfl⟩
  rw [hw_3] at ha hb' hp hq g1 g2 hz1 hz2 hb
  obtain ⟨sb_hz1, o_hz1, n_hz1, c_hz1, rfl⟩ := g1.open2
  have f_hz1 := hz1.facts
  have ho := Bk.only w_3 (w_1.heap.size) sb_hz1 (.slice o_hz1 n_hz1 c_hz1)
  have hbx_ := hz1.bx
  replace ha := ha.frame hbx_ ho
  replace hb' := hb'.frame hbx_ ho
  replace hp := hp.frame ho (by omega)
  replace hq := hq.frame ho (by omega)
  replace g1 := g1.frame hbx_ ho
  replace g2 := g2.frame hbx_ ho
  replace hz2 := hz2.frame ho (by omega)
  replace hz1 := hz1.store sb_hz1 (.slice o_hz1 n_hz1 c_hz1)
  replace hb := (hb.setCell (p := ⟨w_1.heap.size, 0, none⟩) (show w.heap.size ≤ w_1.heap.size by omega) (.bool sb_hz1)).setCell (p := ⟨w_1.heap.size, 1, none⟩) (show w.heap.size ≤ w_1.heap.size by omega) (.slice o_hz1 n_hz1 c_hz1)
  clear ho hbx_
  obtain ⟨w_4, hw_4⟩ : ∃ v, ((w_3.setCell ⟨w_1.heap.size, 0, none⟩ (.bool sb_hz1)).setCell ⟨w_1.heap.size, 1, none⟩ (.slice o_hz1 n_hz1 c_hz1)) = v := ⟨_, rfl⟩
  rw [hw_4] at ha hb' hp hq g1 g2 hz1 hz2 hb
  obtain ⟨sb_hz2, o_hz2, n_hz2, c_hz2, rfl⟩ := g2.open2
  have f_hz2 := hz2.facts
  have ho := Bk.only w_4 (w_2.heap.size) sb_hz2 (.slice o_hz2 n_hz2 c_hz2)
  have hbx_ := hz2.bx
  replace ha := ha.frame hbx_ ho
  replace hb' := hb'.frame hbx_ ho
  replace hp := hp.frame ho (by omega)
  replace hq := hq.frame ho (by omega)
  replace g1 := g1.frame hbx_ ho
  replace g2 := g2.frame hbx_ ho
  replace hz1 := hz1.frame ho (by omega)
  replace hz2 := hz2.store sb_hz2 (.slice o_hz2 n_hz2 c_hz2)
  replace hb := (hb.setCell (p := ⟨w_2.heap.size, 0, none⟩) (show w.heap.size ≤ w_2.heap.size by omega) (.bool sb_hz2)).setCell (p := ⟨w_2.heap.size, 1, none⟩) (show w.heap.size ≤ w_2.heap.size by omega) (.slice o_hz2 n_hz2 c_hz2)
  clear ho hbx_
  obtain ⟨w_5, hw_5⟩ : ∃ v, ((w_4.setCell ⟨w_2.heap.size, 0, none⟩ (.bool sb_hz2)).setCell ⟨w_2.heap.size, 1, none⟩ (.slice o_hz2 n_hz2 c_hz2)) = v := ⟨_, rfl⟩
  rw [hw_5] at ha hb' hp hq g1 g2 hz1 hz2 hb
  have f_hp := hp.facts
  have f_hq := hq.facts
  go_wp2_with fail
  refine (rdiv_any ha hb' (by decide) (by decide) H0.out).mono ?_
  rintro e w_6 ⟨v3, v4, rfl, g3, g4, hb_6⟩
  replace ha := ha.below hb_6 (Nat.le_refl _)
  replace hb' := hb'.below hb_6 (Nat.le_refl _)
  replace hp := hp.below hb_6 (Nat.le_refl _)
  replace hq := hq.below hb_6 (Nat.le_refl _)
  replace g1 := g1.below hb_6 (Nat.le_refl _)
  replace g2 := g2.below hb_6 (Nat.le_refl _)
  replace hz1 := hz1.below hb_6 (Nat.le_refl _)
  replace hz2 := hz2.below hb_6 (Nat.le_refl _)
  replace hb := hb.trans (hb_6.mono hb.size)
  clear hb_6
  replace g3 := g3.rd
  replace g4 := g4.rd
  clear f_hp f_hq f_hz1 f_hz2
  have kb_hz3 := hb.size
  have ne_hp_hz3 : w.heap.size ≠ w_6.heap.size := by have := hp.lt; (try simp only [Bk.size_alloc] at this); omega
  have ne_hq_hz3 : w.heap.size + 1 ≠ w_6.heap.size := by have := hq.lt; (try simp only [Bk.size_alloc] at this); omega
  have ne_hz1_hz3 : w_1.heap.size ≠ w_6.heap.size := by have := hz1.lt; (try simp only [Bk.size_alloc] at this); omega
  have ne_hz2_hz3 : w_2.heap.size ≠ w_6.heap.size := by have := hz2.lt; (try simp only [Bk.size_alloc] at this); omega
  have hz3 := Bk.new w_6 false (.slice none 0 0)
  replace ha := ha.alloc (.cells #[.bool false, (.slice none 0 0)] 24)
  replace hb' := hb'.alloc (.cells #[.bool false, (.slice none 0 0)] 24)
  replace hp := hp.alloc (.cells #[.bool false, (.slice none 0 0)] 24)
  replace hq := hq.alloc (.cells #[.bool false, (.slice none 0 0)] 24)
  replace g1 := g1.alloc (.cells #[.bool false, (.slice none 0 0)] 24)
  replace g2 := g2.alloc (.cells #[.bool false, (.slice none 0 0)] 24)
  replace hz1 := hz1.alloc (.cells #[.bool false, (.slice none 0 0)] 24)
  replace hz2 := hz2.alloc (.cells #[.bool false, (.slice none 0 0)] 24)
  replace g3 := g3.alloc (.cells #[.bool false, (.slice none 0 0)] 24)
  replace g4 := g4.alloc (.cells #[.bool false, (.slice none 0 0)] 24)
  replace hb := hb.alloc hb.size (.cells #[.bool false, (.slice none 0 0)] 24)
  obtain ⟨w_7, hw_7⟩ : ∃ v, (w_6.alloc (.cells #[.bool false, (.slice none 0 0)] 24)) = v := ⟨_, rfl⟩
  rw [hw_7] at ha hb' hp hq g1 g2 hz1 hz2 g3 g4 hz3 hb
  have kb_hz4 := hb.size
  have ne_hp_hz4 : w.heap.size ≠ w_7.heap.size := by have := hp.lt; (try simp only [Bk.size_alloc] at this); omega
  have ne_hq_hz4 : w.heap.size + 1 ≠ w_7.heap.size := by have := hq.lt; (try simp only [Bk.size_alloc] at this); omega
  have ne_hz1_hz4 : w_1.heap.size ≠ w_7.heap.size := by have := hz1.lt; (try simp only [Bk.size_alloc] at this); omega
  have ne_hz2_hz4 : w_2.heap.size ≠ w_7.heap.size := by have := hz2.lt; (try simp only [Bk.size_alloc] at this); omega
  have ne_hz3_hz4 : w_6.heap.size ≠ w_7.heap.size := by have := hz3.lt; (try simp only [Bk.size_alloc] at this); omega
  have hz4 := Bk.new w_7 false (.slice none 0 0)
  replace ha := ha.alloc (.cells #[.bool false, (.slice none 0 0)] 24)
  replace hb' := hb'.alloc (.cells #[.bool false, (.slice none 0 0)] 24)
  replace hp := hp.alloc (.cells #[.bool false, (.slice none 0 0)] 24)
  replace hq := hq.alloc (.cells #[.bool false, (.slice none 0 0)] 24)
  replace g1 := g1.alloc (.cells #[.bool false, (.slice none 0 0)] 24)
  replace g2 := g2.alloc (.cells #[.bool false, (.slice none 0 0)] 24)
  replace hz1 := hz1.alloc (.cells #[.bool false, (.slice none 0 0)] 24)
  replace hz2 := hz2.alloc (.cells #[.bool false, (.slice none 0 0)] 24)
  replace g3 := g3.alloc (.cells #[.bool false, (.slice none 0 0)] 24)
  replace g4 := g4.alloc (.cells #[.bool false, (.slice none 0 0)] 24)
  replace hz3 := hz3.alloc (.cells #[.bool false, (.slice none 0 0)] 24)
  replace hb := hb.alloc hb.size (.cells #[.bool false, (.slice none 0 0)] 24)
  obtain ⟨w_8, hw_8⟩ : ∃ v, (w_7.alloc (.cells #[.bool false, (.slice none 0 0)] 24)) = v := ⟨_, rfl⟩
  rw [hw_8] at ha hb' hp hq g1 g2 hz1 hz2 g3 g4 hz3 hz4 hb
  obtain ⟨sb_hz3, o_hz3, n_hz3, c_hz3, rfl⟩ := g3.open2
  have f_hz3 := hz3.facts
  have ho := Bk.only w_8 (w_6.heap.size) sb_hz3 (.slice o_hz3 n_hz3 c_hz3)
  have hbx_ := hz3.bx
  replace ha := ha.frame hbx_ ho
  replace hb' := hb'.frame hbx_ ho
  replace hp := hp.frame ho (by omega)
  replace hq := hq.frame ho (by omega)
  replace g1 := g1.frame hbx_ ho
  replace g2 := g2.frame hbx_ ho
  replace hz1 := hz1.frame ho (by omega)
  replace hz2 := hz2.frame ho (by omega)
  replace g3 := g3.frame hbx_ ho
  replace g4 := g4.frame hbx_ ho
  replace hz4 := hz4.frame ho (by omega)
  replace hz3 := hz3.store sb_hz3 (.slice o_hz3 n_hz3 c_hz3)
  replace hb := (hb.setCell (p := ⟨w_6.heap.size, 0, none⟩) (show w.heap.size ≤ w_6.heap.size by omega) (.bool sb_hz3)).setCell (p := ⟨w_6.heap.size, 1, none⟩) (show w.heap.size ≤ w_6.heap.size by omega) (.slice o_hz3 n_hz3 c_hz3)
  clear ho hbx_
  obtain ⟨w_9, hw_9⟩ : ∃ v, ((w_8.setCell ⟨w_6.heap.size, 0, none⟩ (.bool sb_hz3)).setCell ⟨w_6.heap.size, 1, none⟩ (.slice o_hz3 n_hz3 c_hz3)) = v := ⟨_, rfl⟩
  rw [hw_9] at ha hb' hp hq g1 g2 hz1 hz2 g3 g4 hz3 hz4 hb
  obtain ⟨sb_hz4, o_hz4, n_hz4, c_hz4, rfl⟩ := g4.open2
  have f_hz4 := hz4.facts
  have ho := Bk.only w_9 (w_7.heap.size) sb_hz4 (.slice o_hz4 n_hz4 c_hz4)
  have hbx_ := hz4.bx
  replace ha := ha.frame hbx_ ho
  replace hb' := hb'.frame hbx_ ho
  replace hp := hp.frame ho (by omega)
  replace hq := hq.frame ho (by omega)
  replace g1 := g1.frame hbx_ ho
  replace g2 := g2.frame hbx_ ho
  replace hz1 := hz1.frame ho (by omega)
  replace hz2 := hz2.frame ho (by omega)
  replace g3 := g3.frame hbx_ ho
  replace g4 := g4.frame hbx_ ho
  replace hz3 := hz3.frame ho (by omega)
  replace hz4 := hz4.store sb_hz4 (.slice o_hz4 n_hz4 c_hz4)
  replace hb := (hb.setCell (p := ⟨w_7.heap.size, 0, none⟩) (show w.heap.size ≤ w_7.heap.size by omega) (.bool sb_hz4)).setCell (p := ⟨w_7.heap.size, 1, none⟩) (show w.heap.size ≤ w_7.heap.size by omega) (.slice o_hz4 n_hz4 c_hz4)
  clear ho hbx_
  obtain ⟨w_10, hw_10⟩ : ∃ v, ((w_9.setCell ⟨w_7.heap.size, 0, none⟩ (.bool sb_hz4)).setCell ⟨w_7.heap.size, 1, none⟩ (.slice o_hz4 n_hz4 c_hz4)) = v := ⟨_, rfl⟩
  rw [hw_10] at ha hb' hp hq g1 g2 hz1 hz2 g3 g4 hz3 hz4 hb
  have f_hp := hp.facts
  have f_hq := hq.facts
  go_wp2_with fail
  refine (exact_rest ha hb' (by decide) (by decide) H0.out HR.out).mono ?_
  rintro e w_11 ⟨rfl, hb_11⟩
  replace ha := ha.below hb_11 (Nat.le_refl _)
  replace hb' := hb'.below hb_11 (Nat.le_refl _)
  replace hp := hp.below hb_11 (Nat.le_refl _)
  replace hq := hq.below hb_11 (Nat.le_refl _)
  replace g1 := g1.below hb_11 (Nat.le_refl _)
  replace g2 := g2.below hb_11 (Nat.le_refl _)
  replace hz1 := hz1.below hb_11 (Nat.le_refl _)
  replace hz2 := hz2.below hb_11 (Nat.le_refl _)
  replace g3 := g3.below hb_11 (Nat.le_refl _)
  replace g4 := g4.below hb_11 (Nat.le_refl _)
  replace hz3 := hz3.below hb_11 (Nat.le_refl _)
  replace hz4 := hz4.below hb_11 (Nat.le_refl _)
  replace hb := hb.trans (hb_11.mono hb.size)
  clear hb_11
  clear f_hp f_hq f_hz3 f_hz4
  have kb_hz5 := hb.size
  have ne_hp_hz5 : w.heap.size ≠ w_11.heap.size := by have := hp.lt; (try simp only [Bk.size_alloc] at this); omega
  have ne_hq_hz5 : w.heap.size + 1 ≠ w_11.heap.size := by have := hq.lt; (try simp only [Bk.size_alloc] at this); omega
  have ne_hz1_hz5 : w_1.heap.size ≠ w_11.heap.size := by have := hz1.lt; (try simp only [Bk.size_alloc] at this); omega
  have ne_hz2_hz5 : w_2.heap.size ≠ w_11.heap.size := by have := hz2.lt; (try simp only [Bk.size_alloc] at this); omega
  have ne_hz3_hz5 : w_6.heap.size ≠ w_11.heap.size := by have := hz3.lt; (try simp only [Bk.size_alloc] at this); omega
  have ne_hz4_hz5 : w_7.heap.size ≠ w_11.heap.size := by have := hz4.lt; (try simp only [Bk.size_alloc] at this); omega
  have hz5 := Bk.new w_11 false (.slice none 0 0)
  replace ha := ha.alloc (.cells #[.bool false, (.slice none 0 0)] 24)
  replace hb' := hb'.alloc (.cells #[.bool false, (.slice none 0 0)] 24)
  replace hp := hp.alloc (.cells #[.bool false, (.slice none 0 0)] 24)
  replace hq := hq.alloc (.cells #[.bool false, (.slice none 0 0)] 24)
  replace g1 := g1.alloc (.cells #[.bool false, (.slice none 0 0)] 24)
  replace g2 := g2.alloc (.cells #[.bool false, (.slice none 0 0)] 24)
  replace hz1 := hz1.alloc (.cells #[.bool false, (.slice none 0 0)] 24)
  replace hz2 := hz2.alloc (.cells #[.bool false, (.slice none 0 0)] 24)
  replace g3 := g3.alloc (.cells #[.bool false, (.slice none 0 0)] 24)
  replace g4 := g4.alloc (.cells #[.bool false, (.slice none 0 0)] 24)
  replace hz3 := hz3.alloc (.cells #[.bool false, (.slice none 0 0)] 24)
  replace hz4 := hz4.alloc (.cells #[.bool false, (.slice none 0 0)] 24)
  replace hb := hb.alloc hb.size (.cells #[.bool false, (.slice none 0 0)] 24)
  obtain ⟨w_12, hw_12⟩ : ∃ v, (w_11.alloc (.cells #[.bool false, (.slice none 0 0)] 24)) = v := ⟨_, rfl⟩
  rw [hw_12] at ha hb' hp hq g1 g2 hz1 hz2 g3 g4 hz3 hz4 hz5 hb
  have f_hz5 := hz5.facts
  have ho := Bk.only w_12 (w_11.heap.size) false (.slice none 0 0)
  have hbx_ := hz5.bx
  replace ha := ha.frame hbx_ ho
  replace hb' := hb'.frame hbx_ ho
  replace hp := hp.frame ho (by omega)
  replace hq := hq.frame ho (by omega)
  replace g1 := g1.frame hbx_ ho
  replace g2 := g2.frame hbx_ ho
  replace hz1 := hz1.frame ho (by omega)
  replace hz2 := hz2.frame ho (by omega)
  replace g3 := g3.frame hbx_ ho
  replace g4 := g4.frame hbx_ ho
  replace hz3 := hz3.frame ho (by omega)
  replace hz4 := hz4.frame ho (by omega)
  replace hz5 := hz5.store false (.slice none 0 0)
  replace hb := (hb.setCell (p := ⟨w_11.heap.size, 0, none⟩) (show w.heap.size ≤ w_11.heap.size by omega) (.bool false)).setCell (p := ⟨w_11.heap.size, 1, none⟩) (show w.heap.size ≤ w_11.heap.size by omega) (.slice none 0 0)
  clear ho hbx_
  obtain ⟨w_13, hw_13⟩ : ∃ v, ((w_12.setCell ⟨w_11.heap.size, 0, none⟩ (.bool false)).setCell ⟨w_11.heap.size, 1, none⟩ (.slice none 0 0)) = v := ⟨_, rfl⟩
  rw [hw_13] at ha hb' hp hq g1 g2 hz1 hz2 g3 g4 hz3 hz4 hz5 hb
  go_wp2_with fail
  refine (zawake_any _ (htabs _ hb)).mono ?_
  rintro e w_14 ⟨rfl, hb_14⟩
  replace ha := ha.below hb_14 (Nat.le_refl _)
  replace hb' := hb'.below hb_14 (Nat.le_refl _)
  replace hp := hp.below hb_14 (Nat.le_refl _)
  replace hq := hq.below hb_14 (Nat.le_refl _)
  replace g1 := g1.below hb_14 (Nat.le_refl _)
  replace g2 := g2.below hb_14 (Nat.le_refl _)
  replace hz1 := hz1.below hb_14 (Nat.le_refl _)
  replace hz2 := hz2.below hb_14 (Nat.le_refl _)
  replace g3 := g3.below hb_14 (Nat.le_refl _)
  replace g4 := g4.below hb_14 (Nat.le_refl _)
  replace hz3 := hz3.below hb_14 (Nat.le_refl _)
  replace hz4 := hz4.below hb_14 (Nat.le_refl _)
  replace hz5 := hz5.below hb_14 (Nat.le_refl _)
  replace hb := hb.trans (hb_14.mono hb.size)
  clear hb_14
  clear f_hz5
  have f_hq := hq.facts
  go_wp2_with fail
  refine (rzsign_any hb' (by decide)).mono ?_
  rintro e w_15 ⟨rfl, hb_15⟩
  replace ha := ha.below hb_15 (Nat.le_refl _)
  replace hb' := hb'.below hb_15 (Nat.le_refl _)
  replace hp := hp.below hb_15 (Nat.le_refl _)
  replace hq := hq.below hb_15 (Nat.le_refl _)
  replace g1 := g1.below hb_15 (Nat.le_refl _)
  replace g2 := g2.below hb_15 (Nat.le_refl _)
  replace hz1 := hz1.below hb_15 (Nat.le_refl _)
  replace hz2 := hz2.below hb_15 (Nat.le_refl _)
  replace g3 := g3.below hb_15 (Nat.le_refl _)
  replace g4 := g4.below hb_15 (Nat.le_refl _)
  replace hz3 := hz3.below hb_15 (Nat.le_refl _)
  replace hz4 := hz4.below hb_15 (Nat.le_refl _)
  replace hz5 := hz5.below hb_15 (Nat.le_refl _)
  replace hb := hb.trans (hb_15.mono hb.size)
  clear hb_15
  rw [HS.out]
  clear f_hq
  have f_hp := hp.facts
  have f_hq := hq.facts
  go_wp2_with fail
  refine (rfloor_any ha hb' (by decide) (by decide) H0.out).mono ?_
  rintro e w_16 ⟨v6, v7, rfl, g6, g7, hb_16⟩
  replace ha := ha.below hb_16 (Nat.le_refl _)
  replace hb' := hb'.below hb_16 (Nat.le_refl _)
  replace hp := hp.below hb_16 (Nat.le_refl _)
  replace hq := hq.below hb_16 (Nat.le_refl _)
  replace g1 := g1.below hb_16 (Nat.le_refl _)
  replace g2 := g2.below hb_16 (Nat.le_refl _)
  replace hz1 := hz1.below hb_16 (Nat.le_refl _)
  replace hz2 := hz2.below hb_16 (Nat.le_refl _)
  replace g3 := g3.below hb_16 (Nat.le_refl _)
  replace g4 := g4.below hb_16 (Nat.le_refl _)
  replace hz3 := hz3.below hb_16 (Nat.le_refl _)
  replace hz4 := hz4.below hb_16 (Nat.le_refl _)
  replace hz5 := hz5.below hb_16 (Nat.le_refl _)
  replace hb := hb.trans (hb_16.mono hb.size)
  clear hb_16
  clear f_hp f_hq
  have kb_hz6 := hb.size
  have ne_hp_hz6 : w.heap.size ≠ w_16.heap.size := by have := hp.lt; (try simp only [Bk.size_alloc] at this); omega
  have ne_hq_hz6 : w.heap.size + 1 ≠ w_16.heap.size := by have := hq.lt; (try simp only [Bk.size_alloc] at this); omega
  have ne_hz1_hz6 : w_1.heap.size ≠ w_16.heap.size := by have := hz1.lt; (try simp only [Bk.size_alloc] at this); omega
  have ne_hz2_hz6 : w_2.heap.size ≠ w_16.heap.size := by have := hz2.lt; (try simp only [Bk.size_alloc] at this); omega
  have ne_hz3_hz6 : w_6.heap.size ≠ w_16.heap.size := by have := hz3.lt; (try simp only [Bk.size_alloc] at this); omega
  have ne_hz4_hz6 : w_7.heap.size ≠ w_16.heap.size := by have := hz4.lt; (try simp only [Bk.size_alloc] at this); omega
  have ne_hz5_hz6 : w_11.heap.size ≠ w_16.heap.size := by have := hz5.lt; (try simp only [Bk.size_alloc] at this); omega
  have hz6 := Bk.new w_16 false (.slice none 0 0)
  replace ha := ha.alloc (.cells #[.bool false, (.slice none 0 0)] 24)
  replace hb' := hb'.alloc (.cells #[.bool false, (.slice none 0 0)] 24)
  replace hp := hp.alloc (.cells #[.bool false, (.slice none 0 0)] 24)
  replace hq := hq.alloc (.cells #[.bool false, (.slice none 0 0)] 24)
  replace g1 := g1.alloc (.cells #[.bool false, (.slice none 0 0)] 24)
  replace g2 := g2.alloc (.cells #[.bool false, (.slice none 0 0)] 24)
  replace hz1 := hz1.alloc (.cells #[.bool false, (.slice none 0 0)] 24)
  replace hz2 := hz2.alloc (.cells #[.bool false, (.slice none 0 0)] 24)
  replace g3 := g3.alloc (.cells #[.bool false, (.slice none 0 0)] 24)
  replace g4 := g4.alloc (.cells #[.bool false, (.slice none 0 0)] 24)
  replace hz3 := hz3.alloc (.cells #[.bool false, (.slice none 0 0)] 24)
  replace hz4 := hz4.alloc (.cells #[.bool false, (.slice none 0 0)] 24)
  replace hz5 := hz5.alloc (.cells #[.bool false, (.slice none 0 0)] 24)
  replace g6 := g6.alloc (.cells #[.bool false, (.slice none 0 0)] 24)
  replace g7 := g7.alloc (.cells #[.bool false, (.slice none 0 0)] 24)
  replace hb := hb.alloc hb.size (.cells #[.bool false, (.slice none 0 0)] 24)
  obtain ⟨w_17, hw_17⟩ : ∃ v, (w_16.alloc (.cells #[.bool false, (.slice none 0 0)] 24)) = v := ⟨_, rfl⟩
  rw [hw_17] at ha hb' hp hq g1 g2 hz1 hz2 g3 g4 hz3 hz4 hz5 g6 g7 hz6 hb
  have kb_hz7 := hb.size
  have ne_hp_hz7 : w.heap.size ≠ w_17.heap.size := by have := hp.lt; (try simp only [Bk.size_alloc] at this); omega
  have ne_hq_hz7 : w.heap.size + 1 ≠ w_17.heap.size := by have := hq.lt; (try simp only [Bk.size_alloc] at this); omega
  have ne_hz1_hz7 : w_1.heap.size ≠ w_17.heap.size := by have := hz1.lt; (try simp only [Bk.size_alloc] at this); omega
  have ne_hz2_hz7 : w_2.heap.size ≠ w_17.heap.size := by have := hz2.lt; (try simp only [Bk.size_alloc] at this); omega
  have ne_hz3_hz7 : w_6.heap.size ≠ w_17.heap.size := by have := hz3.lt; (try simp only [Bk.size_alloc] at this); omega
  have ne_hz4_hz7 : w_7.heap.size ≠ w_17.heap.size := by have := hz4.lt; (try simp only [Bk.size_alloc] at this); omega
  have ne_hz5_hz7 : w_11.heap.size ≠ w_17.heap.size := by have := hz5.lt; (try simp only [Bk.size_alloc] at this); omega
  have ne_hz6_hz7 : w_16.heap.size ≠ w_17.heap.size := by have := hz6.lt; (try simp only [Bk.size_alloc] at this); omega
  have hz7 := Bk.new w_17 false (.slice none 0 0)
  replace ha := ha.alloc (.cells #[.bool false, (.slice none 0 0)] 24)
  replace hb' := hb'.alloc (.cells #[.bool false, (.slice none 0 0)] 24)
  replace hp := hp.alloc (.cells #[.bool false, (.slice none 0 0)] 24)
  replace hq := hq.alloc (.cells #[.bool false, (.slice none 0 0)] 24)
  replace g1 := g1.alloc (.cells #[.bool false, (.slice none 0 0)] 24)
  replace g2 := g2.alloc (.cells #[.bool false, (.slice none 0 0)] 24)
  replace hz1 := hz1.alloc (.cells #[.bool false, (.slice none 0 0)] 24)
  replace hz2 := hz2.alloc (.cells #[.bool false, (.slice none 0 0)] 24)
  replace g3 := g3.alloc (.cells #[.bool false, (.slice none 0 0)] 24)
  replace g4 := g4.alloc (.cells #[.bool false, (.slice none 0 0)] 24)
  replace hz3 := hz3.alloc (.cells #[.bool false, (.slice none 0 0)] 24)
  replace hz4 := hz4.alloc (.cells #[.bool false, (.slice none 0 0)] 24)
  replace hz5 := hz5.alloc (.cells #[.bool false, (.slice none 0 0)] 24)
  replace g6 := g6.alloc (.cells #[.bool false, (.slice none 0 0)] 24)
  replace g7 := g7.alloc (.cells #[.bool false, (.slice none 0 0)] 24)
  replace hz6 := hz6.alloc (.cells #[.bool false, (.slice none 0 0)] 24)
  replace hb := hb.alloc hb.size (.cells #[.bool false, (.slice none 0 0)] 24)
  obtain ⟨w_18, hw_18⟩ : ∃ v, (w_17.alloc (.cells #[.bool false, (.slice none 0 0)] 24)) = v := ⟨_, rfl⟩
  rw [hw_18] at ha hb' hp hq g1 g2 hz1 hz2 g3 g4 hz3 hz4 hz5 g6 g7 hz6 hz7 hb
  obtain ⟨sb_hz6, o_hz6, n_hz6, c_hz6, rfl⟩ := g6.open2
  have f_hz6 := hz6.facts
  have ho := Bk.only w_18 (w_16.heap.size) sb_hz6 (.slice o_hz6 n_hz6 c_hz6)
  have hbx_ := hz6.bx
  replace ha := ha.frame hbx_ ho
  replace hb' := hb'.frame hbx_ ho
  replace hp := hp.frame ho (by omega)
  replace hq := hq.frame ho (by omega)
  replace g1 := g1.frame hbx_ ho
  replace g2 := g2.frame hbx_ ho
  replace hz1 := hz1.frame ho (by omega)
  replace hz2 := hz2.frame ho (by omega)
  replace g3 := g3.frame hbx_ ho
  replace g4 := g4.frame hbx_ ho
  replace hz3 := hz3.frame ho (by omega)
  replace hz4 := hz4.frame ho (by omega)
  replace hz5 := hz5.frame ho (by omega)
  replace g6 := g6.frame hbx_ ho
  replace g7 := g7.frame hbx_ ho
  replace hz7 := hz7.frame ho (by omega)
  replace hz6 := hz6.store sb_hz6 (.slice o_hz6 n_hz6 c_hz6)
  replace hb := (hb.setCell (p := ⟨w_16.heap.size, 0, none⟩) (show w.heap.size ≤ w_16.heap.size by omega) (.bool sb_hz6)).setCell (p := ⟨w_16.heap.size, 1, none⟩) (show w.heap.size ≤ w_16.heap.size by omega) (.slice o_hz6 n_hz6 c_hz6)
  clear ho hbx_
  obtain ⟨w_19, hw_19⟩ : ∃ v, ((w_18.setCell ⟨w_16.heap.size, 0, none⟩ (.bool sb_hz6)).setCell ⟨w_16.heap.size, 1, none⟩ (.slice o_hz6 n_hz6 c_hz6)) = v := ⟨_, rfl⟩
  rw [hw_19] at ha hb' hp hq g1 g2 hz1 hz2 g3 g4 hz3 hz4 hz5 g6 g7 hz6 hz7 hb
  obtain ⟨sb_hz7, o_hz7, n_hz7, c_hz7, rfl⟩ := g7.open2
  have f_hz7 := hz7.facts
  have ho := Bk.only w_19 (w_17.heap.size) sb_hz7 (.slice o_hz7 n_hz7 c_hz7)
  have hbx_ := hz7.bx
  replace ha := ha.frame hbx_ ho
  replace hb' := hb'.frame hbx_ ho
  replace hp := hp.frame ho (by omega)
  replace hq := hq.frame ho (by omega)
  replace g1 := g1.frame hbx_ ho
  replace g2 := g2.frame hbx_ ho
  replace hz1 := hz1.frame ho (by omega)
  replace hz2 := hz2.frame ho (by omega)
  replace g3 := g3.frame hbx_ ho
  replace g4 := g4.frame hbx_ ho
  replace hz3 := hz3.frame ho (by omega)
  replace hz4 := hz4.frame ho (by omega)
  replace hz5 := hz5.frame ho (by omega)
  replace g6 := g6.frame hbx_ ho
  replace g7 := g7.frame hbx_ ho
  replace hz6 := hz6.frame ho (by omega)
  replace hz7 := hz7.store sb_hz7 (.slice o_hz7 n_hz7 c_hz7)
  replace hb := (hb.setCell (p := ⟨w_17.heap.size, 0, none⟩) (show w.heap.size ≤ w_17.heap.size by omega) (.bool sb_hz7)).setCell (p := ⟨w_17.heap.size, 1, none⟩) (show w.heap.size ≤ w_17.heap.size by omega) (.slice o_hz7 n_hz7 c_hz7)
  clear ho hbx_
  obtain ⟨w_20, hw_20⟩ : ∃ v, ((w_19.setCell ⟨w_17.heap.size, 0, none⟩ (.bool sb_hz7)).setCell ⟨w_17.heap.size, 1, none⟩ (.slice o_hz7 n_hz7 c_hz7)) = v := ⟨_, rfl⟩
  rw [hw_20] at ha hb' hp hq g1 g2 hz1 hz2 g3 g4 hz3 hz4 hz5 g6 g7 hz6 hz7 hb
  have f_hp := hp.facts
  have f_hq := hq.facts
  go_wp2_with fail
  refine (rround_any ha hb' (by decide) (by decide) H0.out).mono ?_
  rintro e w_21 ⟨v8, v9, rfl, g8, g9, hb_21⟩
  replace ha := ha.below hb_21 (Nat.le_refl _)
  replace hb' := hb'.below hb_21 (Nat.le_refl _)
  replace hp := hp.below hb_21 (Nat.le_refl _)
  replace hq := hq.below hb_21 (Nat.le_refl _)
  replace g1 := g1.below hb_21 (Nat.le_refl _)
  replace g2 := g2.below hb_21 (Nat.le_refl _)
  replace hz1 := hz1.below hb_21 (Nat.le_refl _)
  replace hz2 := hz2.below hb_21 (Nat.le_refl _)
  replace g3 := g3.below hb_21 (Nat.le_refl _)
  replace g4 := g4.below hb_21 (Nat.le_refl _)
  replace hz3 := hz3.below hb_21 (Nat.le_refl _)
  replace hz4 := hz4.below hb_21 (Nat.le_refl _)
  replace hz5 := hz5.below hb_21 (Nat.le_refl _)
  replace g6 := g6.below hb_21 (Nat.le_refl _)
  replace g7 := g7.below hb_21 (Nat.le_refl _)
  replace hz6 := hz6.below hb_21 (Nat.le_refl _)
  replace hz7 := hz7.below hb_21 (Nat.le_refl _)
  replace hb := hb.trans (hb_21.mono hb.size)
  clear hb_21
  clear f_hp f_hq f_hz6 f_hz7
  have kb_hz8 := hb.size
  have ne_hp_hz8 : w.heap.size ≠ w_21.heap.size := by have := hp.lt; (try simp only [Bk.size_alloc] at this); omega
  have ne_hq_hz8 : w.heap.size + 1 ≠ w_21.heap.size := by have := hq.lt; (try simp only [Bk.size_alloc] at this); omega
  have ne_hz1_hz8 : w_1.heap.size ≠ w_21.heap.size := by have := hz1.lt; (try simp only [Bk.size_alloc] at this); omega
  have ne_hz2_hz8 : w_2.heap.size ≠ w_21.heap.size := by have := hz2.lt; (try simp only [Bk.size_alloc] at this); omega
  have ne_hz3_hz8 : w_6.heap.size ≠ w_21.heap.size := by have := hz3.lt; (try simp only [Bk.size_alloc] at this); omega
  have ne_hz4_hz8 : w_7.heap.size ≠ w_21.heap.size := by have := hz4.lt; (try simp only [Bk.size_alloc] at this); omega
  have ne_hz5_hz8 : w_11.heap.size ≠ w_21.heap.size := by have := hz5.lt; (try simp only [Bk.size_alloc] at this); omega
  have ne_hz6_hz8 : w_16.heap.size ≠ w_21.heap.size := by have := hz6.lt; (try simp only [Bk.size_alloc] at this); omega
  have ne_hz7_hz8 : w_17.heap.size ≠ w_21.heap.size := by have := hz7.lt; (try simp only [Bk.size_alloc] at this); omega
  have hz8 := Bk.new w_21 false (.slice none 0 0)
  replace ha := ha.alloc (.cells #[.bool false, (.slice none 0 0)] 24)
  replace hb' := hb'.alloc (.cells #[.bool false, (.slice none 0 0)] 24)
  replace hp := hp.alloc (.cells #[.bool false, (.slice none 0 0)] 24)
  replace hq := hq.alloc (.cells #[.bool false, (.slice none 0 0)] 24)
  replace g1 := g1.alloc (.cells #[.bool false, (.slice none 0 0)] 24)
  replace g2 := g2.alloc (.cells #[.bool false, (.slice none 0 0)] 24)
  replace hz1 := hz1.alloc (.cells #[.bool false, (.slice none 0 0)] 24)
  replace hz2 := hz2.alloc (.cells #[.bool false, (.slice none 0 0)] 24)
  replace g3 := g3.alloc (.cells #[.bool false, (.slice none 0 0)] 24)
  replace g4 := g4.alloc (.cells #[.bool false, (.slice none 0 0)] 24)
  replace hz3 := hz3.alloc (.cells #[.bool false, (.slice none 0 0)] 24)
  replace hz4 := hz4.alloc (.cells #[.bool false, (.slice none 0 0)] 24)
  replace hz5 := hz5.alloc (.cells #[.bool false, (.slice none 0 0)] 24)
  replace g6 := g6.alloc (.cells #[.bool false, (.slice none 0 0)] 24)
  replace g7 := g7.alloc (.cells #[.bool false, (.slice none 0 0)] 24)
  replace hz6 := hz6.alloc (.cells #[.bool false, (.slice none 0 0)] 24)
  replace hz7 := hz7.alloc (.cells #[.bool false, (.slice none 0 0)] 24)
  replace g8 := g8.alloc (.cells #[.bool false, (.slice none 0 0)] 24)
  replace g9 := g9.alloc (.cells #[.bool false, (.slice none 0 0)] 24)
  replace hb := hb.alloc hb.size (.cells #[.bool false, (.slice none 0 0)] 24)
  obtain ⟨w_22, hw_22⟩ : ∃ v, (w_21.alloc (.cells #[.bool false, (.slice none 0 0)] 24)) = v := ⟨_, rfl⟩
  rw [hw_22] at ha hb' hp hq g1 g2 hz1 hz2 g3 g4 hz3 hz4 hz5 g6 g7 hz6 hz7 g8 g9 hz8 hb
  have kb_hz9 := hb.size
  have ne_hp_hz9 : w.heap.size ≠ w_22.heap.size := by have := hp.lt; (try simp only [Bk.size_alloc] at this); omega
  have ne_hq_hz9 : w.heap.size + 1 ≠ w_22.heap.size := by have := hq.lt; (try simp only [Bk.size_alloc] at this); omega
  have ne_hz1_hz9 : w_1.heap.size ≠ w_22.heap.size := by have := hz1.lt; (try simp only [Bk.size_alloc] at this); omega
  have ne_hz2_hz9 : w_2.heap.size ≠ w_22.heap.size := by have := hz2.lt; (try simp only [Bk.size_alloc] at this); omega
  have ne_hz3_hz9 : w_6.heap.size ≠ w_22.heap.size := by have := hz3.lt; (try simp only [Bk.size_alloc] at this); omega
  have ne_hz4_hz9 : w_7.heap.size ≠ w_22.heap.size := by have := hz4.lt; (try simp only [Bk.size_alloc] at this); omega
  have ne_hz5_hz9 : w_11.heap.size ≠ w_22.heap.size := by have := hz5.lt; (try simp only [Bk.size_alloc] at this); omega
  have ne_hz6_hz9 : w_16.heap.size ≠ w_22.heap.size := by have := hz6.lt; (try simp only [Bk.size_alloc] at this); omega
  have ne_hz7_hz9 : w_17.heap.size ≠ w_22.heap.size := by have := hz7.lt; (try simp only [Bk.size_alloc] at this); omega
  have ne_hz8_hz9 : w_21.heap.size ≠ w_22.heap.size := by have := hz8.lt; (try simp only [Bk.size_alloc] at this); omega
  have hz9 := Bk.new w_22 false (.slice none 0 0)
  replace ha := ha.alloc (.cells #[.bool false, (.slice none 0 0)] 24)
  replace hb' := hb'.alloc (.cells #[.bool false, (.slice none 0 0)] 24)
  replace hp := hp.alloc (.cells #[.bool false, (.slice none 0 0)] 24)
  replace hq := hq.alloc (.cells #[.bool false, (.slice none 0 0)] 24)
  replace g1 := g1.alloc (.cells #[.bool false, (.slice none 0 0)] 24)
  replace g2 := g2.alloc (.cells #[.bool false, (.slice none 0 0)] 24)
  replace hz1 := hz1.alloc (.cells #[.bool false, (.slice none 0 0)] 24)
  replace hz2 := hz2.alloc (.cells #[.bool false, (.slice none 0 0)] 24)
  replace g3 := g3.alloc (.cells #[.bool false, (.slice none 0 0)] 24)
  replace g4 := g4.alloc (.cells #[.bool false, (.slice none 0 0)] 24)
  replace hz3 := hz3.alloc (.cells #[.bool false, (.slice none 0 0)] 24)
  replace hz4 := hz4.alloc (.cells #[.bool false, (.slice none 0 0)] 24)
  replace hz5 := hz5.alloc (.cells #[.bool false, (.slice none 0 0)] 24)
  replace g6 := g6.alloc (.cells #[.bool false, (.slice none 0 0)] 24)
  replace g7 := g7.alloc (.cells #[.bool false, (.slice none 0 0)] 24)
  replace hz6 := hz6.alloc (.cells #[.bool false, (.slice none 0 0)] 24)
  replace hz7 := hz7.alloc (.cells #[.bool false, (.slice none 0 0)] 24)
  replace g8 := g8.alloc (.cells #[.bool false, (.slice none 0 0)] 24)
  replace g9 := g9.alloc (.cells #[.bool false, (.slice none 0 0)] 24)
  replace hz8 := hz8.alloc (.cells #[.bool false, (.slice none 0 0)] 24)
  replace hb := hb.alloc hb.size (.cells #[.bool false, (.slice none 0 0)] 24)
  obtain ⟨w_23, hw_23⟩ : ∃ v, (w_22.alloc (.cells #[.bool false, (.slice none 0 0)] 24)) = v := ⟨_, rfl⟩
  rw [hw_23] at ha hb' hp hq g1 g2 hz1 hz2 g3 g4 hz3 hz4 hz5 g6 g7 hz6 hz7 g8 g9 hz8 hz9 hb
  obtain ⟨sb_hz8, o_hz8, n_hz8, c_hz8, rfl⟩ := g8.open2
  have f_hz8 := hz8.facts
  have ho := Bk.only w_23 (w_21.heap.size) sb_hz8 (.slice o_hz8 n_hz8 c_hz8)
  have hbx_ := hz8.bx
  replace ha := ha.frame hbx_ ho
  replace hb' := hb'.frame hbx_ ho
  replace hp := hp.frame ho (by omega)
  replace hq := hq.frame ho (by omega)
  replace g1 := g1.frame hbx_ ho
  replace g2 := g2.frame hbx_ ho
  replace hz1 := hz1.frame ho (by omega)
  replace hz2 := hz2.frame ho (by omega)
  replace g3 := g3.frame hbx_ ho
  replace g4 := g4.frame hbx_ ho
  replace hz3 := hz3.frame ho (by omega)
  replace hz4 := hz4.frame ho (by omega)
  replace hz5 := hz5.frame ho (by omega)
  replace g6 := g6.frame hbx_ ho
  replace g7 := g7.frame hbx_ ho
  replace hz6 := hz6.frame ho (by omega)
  replace hz7 := hz7.frame ho (by omega)
  replace g8 := g8.frame hbx_ ho
  replace g9 := g9.frame hbx_ ho
  replace hz9 := hz9.frame ho (by omega)
  replace hz8 := hz8.store sb_hz8 (.slice o_hz8 n_hz8 c_hz8)
  replace hb := (hb.setCell (p := ⟨w_21.heap.size, 0, none⟩) (show w.heap.size ≤ w_21.heap.size by omega) (.bool sb_hz8)).setCell (p := ⟨w_21.heap.size, 1, none⟩) (show w.heap.size ≤ w_21.heap.size by omega) (.slice o_hz8 n_hz8 c_hz8)
  clear ho hbx_
  obtain ⟨w_24, hw_24⟩ : ∃ v, ((w_23.setCell ⟨w_21.heap.size, 0, none⟩ (.bool sb_hz8)).setCell ⟨w_21.heap.size, 1, none⟩ (.slice o_hz8 n_hz8 c_hz8)) = v := ⟨_, rfl⟩
  rw [hw_24] at ha hb' hp hq g1 g2 hz1 hz2 g3 g4 hz3 hz4 hz5 g6 g7 hz6 hz7 g8 g9 hz8 hz9 hb
  obtain ⟨sb_hz9, o_hz9, n_hz9, c_hz9, rfl⟩ := g9.open2
  have f_hz9 := hz9.facts
  have ho := Bk.only w_24 (w_22.heap.size) sb_hz9 (.slice o_hz9 n_hz9 c_hz9)
  have hbx_ := hz9.bx
  replace ha := ha.frame hbx_ ho
  replace hb' := hb'.frame hbx_ ho
  replace hp := hp.frame ho (by omega)
  replace hq := hq.frame ho (by omega)
  replace g1 := g1.frame hbx_ ho
  replace g2 := g2.frame hbx_ ho
  replace hz1 := hz1.frame ho (by omega)
  replace hz2 := hz2.frame ho (by omega)
  replace g3 := g3.frame hbx_ ho
  replace g4 := g4.frame hbx_ ho
  replace hz3 := hz3.frame ho (by omega)
  replace hz4 := hz4.frame ho (by omega)
  replace hz5 := hz5.frame ho (by omega)
  replace g6 := g6.frame hbx_ ho
  replace g7 := g7.frame hbx_ ho
  replace hz6 := hz6.frame ho (by omega)
  replace hz7 := hz7.frame ho (by omega)
  replace g8 := g8.frame hbx_ ho
  replace g9 := g9.frame hbx_ ho
  replace hz8 := hz8.frame ho (by omega)
  replace hz9 := hz9.store sb_hz9 (.slice o_hz9 n_hz9 c_hz9)
  replace hb := (hb.setCell (p := ⟨w_22.heap.size, 0, none⟩) (show w.heap.size ≤ w_22.heap.size by omega) (.bool sb_hz9)).setCell (p := ⟨w_22.heap.size, 1, none⟩) (show w.heap.size ≤ w_22.heap.size by omega) (.slice o_hz9 n_hz9 c_hz9)
  clear ho hbx_
  obtain ⟨w_25, hw_25⟩ : ∃ v, ((w_24.setCell ⟨w_22.heap.size, 0, none⟩ (.bool sb_hz9)).setCell ⟨w_22.heap.size, 1, none⟩ (.slice o_hz9 n_hz9 c_hz9)) = v := ⟨_, rfl⟩
  rw [hw_25] at ha hb' hp hq g1 g2 hz1 hz2 g3 g4 hz3 hz4 hz5 g6 g7 hz6 hz7 g8 g9 hz8 hz9 hb
  have f_hz1 := hz1.facts
  have f_hz6 := hz6.facts
  go_wp2_with fail
  refine (is_zz g1 (g6.zn LQ.out) (by decide)).mono ?_
  rintro e w_26 ⟨rfl, hb_26⟩
  replace ha := ha.below hb_26 (Nat.le_refl _)
  replace hb' := hb'.below hb_26 (Nat.le_refl _)
  replace hp := hp.below hb_26 (Nat.le_refl _)
  replace hq := hq.below hb_26 (Nat.le_refl _)
  replace g1 := g1.below hb_26 (Nat.le_refl _)
  replace g2 := g2.below hb_26 (Nat.le_refl _)
  replace hz1 := hz1.below hb_26 (Nat.le_refl _)
  replace hz2 := hz2.below hb_26 (Nat.le_refl _)
  replace g3 := g3.below hb_26 (Nat.le_refl _)
  replace g4 := g4.below hb_26 (Nat.le_refl _)
  replace hz3 := hz3.below hb_26 (Nat.le_refl _)
  replace hz4 := hz4.below hb_26 (Nat.le_refl _)
  replace hz5 := hz5.below hb_26 (Nat.le_refl _)
  replace g6 := g6.below hb_26 (Nat.le_refl _)
  replace g7 := g7.below hb_26 (Nat.le_refl _)
  replace hz6 := hz6.below hb_26 (Nat.le_refl _)
  replace hz7 := hz7.below hb_26 (Nat.le_refl _)
  replace g8 := g8.below hb_26 (Nat.le_refl _)
  replace g9 := g9.below hb_26 (Nat.le_refl _)
  replace hz8 := hz8.below hb_26 (Nat.le_refl _)
  replace hz9 := hz9.below hb_26 (Nat.le_refl _)
  replace hb := hb.trans (hb_26.mono hb.size)
  clear hb_26
  clear f_hz1 f_hz6 f_hz8 f_hz9
  have f_hz2 := hz2.facts
  have f_hz7 := hz7.facts
  go_wp2_with fail
  refine (is_zz g2 (g7.zn LR.out) (by decide)).mono ?_
  rintro e w_27 ⟨rfl, hb_27⟩
  replace ha := ha.below hb_27 (Nat.le_refl _)
  replace hb' := hb'.below hb_27 (Nat.le_refl _)
  replace hp := hp.below hb_27 (Nat.le_refl _)
  replace hq := hq.below hb_27 (Nat.le_refl _)
  replace g1 := g1.below hb_27 (Nat.le_refl _)
  replace g2 := g2.below hb_27 (Nat.le_refl _)
  replace hz1 := hz1.below hb_27 (Nat.le_refl _)
  replace hz2 := hz2.below hb_27 (Nat.le_refl _)
  replace g3 := g3.below hb_27 (Nat.le_refl _)
  replace g4 := g4.below hb_27 (Nat.le_refl _)
  replace hz3 := hz3.below hb_27 (Nat.le_refl _)
  replace hz4 := hz4.below hb_27 (Nat.le_refl _)
  replace hz5 := hz5.below hb_27 (Nat.le_refl _)
  replace g6 := g6.below hb_27 (Nat.le_refl _)
  replace g7 := g7.below hb_27 (Nat.le_refl _)
  replace hz6 := hz6.below hb_27 (Nat.le_refl _)
  replace hz7 := hz7.below hb_27 (Nat.le_refl _)
  replace g8 := g8.below hb_27 (Nat.le_refl _)
  replace g9 := g9.below hb_27 (Nat.le_refl _)
  replace hz8 := hz8.below hb_27 (Nat.le_refl _)
  replace hz9 := hz9.below hb_27 (Nat.le_refl _)
  replace hb := hb.trans (hb_27.mono hb.size)
  clear hb_27
  clear f_hz2 f_hz7
  have f_hz3 := hz3.facts
  have f_hz8 := hz8.facts
  go_wp2_with fail
  refine (is_zz g3 (g8.zn LN.out) (by decide)).mono ?_
  rintro e w_28 ⟨rfl, hb_28⟩
  replace ha := ha.below hb_28 (Nat.le_refl _)
  replace hb' := hb'.below hb_28 (Nat.le_refl _)
  replace hp := hp.below hb_28 (Nat.le_refl _)
  replace hq := hq.below hb_28 (Nat.le_refl _)
  replace g1 := g1.below hb_28 (Nat.le_refl _)
  replace g2 := g2.below hb_28 (Nat.le_refl _)
  replace hz1 := hz1.below hb_28 (Nat.le_refl _)
  replace hz2 := hz2.below hb_28 (Nat.le_refl _)
  replace g3 := g3.below hb_28 (Nat.le_refl _)
  replace g4 := g4.below hb_28 (Nat.le_refl _)
  replace hz3 := hz3.below hb_28 (Nat.le_refl _)
  replace hz4 := hz4.below hb_28 (Nat.le_refl _)
  replace hz5 := hz5.below hb_28 (Nat.le_refl _)
  replace g6 := g6.below hb_28 (Nat.le_refl _)
  replace g7 := g7.below hb_28 (Nat.le_refl _)
  replace hz6 := hz6.below hb_28 (Nat.le_refl _)
  replace hz7 := hz7.below hb_28 (Nat.le_refl _)
  replace g8 := g8.below hb_28 (Nat.le_refl _)
  replace g9 := g9.below hb_28 (Nat.le_refl _)
  replace hz8 := hz8.below hb_28 (Nat.le_refl _)
  replace hz9 := hz9.below hb_28 (Nat.le_refl _)
  replace hb := hb.trans (hb_28.mono hb.size)
  clear hb_28
  clear f_hz3 f_hz8
  have f_hz4 := hz4.facts
  have f_hz9 := hz9.facts
  go_wp2_with fail
  refine (is_zz g4 (g9.zn LT.out) (by decide)).mono ?_
  rintro e w_29 ⟨rfl, hb_29⟩
  replace ha := ha.below hb_29 (Nat.le_refl _)
  replace hb' := hb'.below hb_29 (Nat.le_refl _)
  replace hp := hp.below hb_29 (Nat.le_refl _)
  replace hq := hq.below hb_29 (Nat.le_refl _)
  replace g1 := g1.below hb_29 (Nat.le_refl _)
  replace g2 := g2.below hb_29 (Nat.le_refl _)
  replace hz1 := hz1.below hb_29 (Nat.le_refl _)
  replace hz2 := hz2.below hb_29 (Nat.le_refl _)
  replace g3 := g3.below hb_29 (Nat.le_refl _)
  replace g4 := g4.below hb_29 (Nat.le_refl _)
  replace hz3 := hz3.below hb_29 (Nat.le_refl _)
  replace hz4 := hz4.below hb_29 (Nat.le_refl _)
  replace hz5 := hz5.below hb_29 (Nat.le_refl _)
  replace g6 := g6.below hb_29 (Nat.le_refl _)
  replace g7 := g7.below hb_29 (Nat.le_refl _)
  replace hz6 := hz6.below hb_29 (Nat.le_refl _)
  replace hz7 := hz7.below hb_29 (Nat.le_refl _)
  replace g8 := g8.below hb_29 (Nat.le_refl _)
  replace g9 := g9.below hb_29 (Nat.le_refl _)
  replace hz8 := hz8.below hb_29 (Nat.le_refl _)
  replace hz9 := hz9.below hb_29 (Nat.le_refl _)
  replace hb := hb.trans (hb_29.mono hb.size)
  clear hb_29
  clear f_hz4 f_hz9
  have f_hz7 := hz7.facts
  go_wp2_with fail
  refine (rzsign_any (g7.zn LR.out) (by decide)).mono ?_
  rintro e w_30 ⟨rfl, hb_30⟩
  replace ha := ha.below hb_30 (Nat.le_refl _)
  replace hb' := hb'.below hb_30 (Nat.le_refl _)
  replace hp := hp.below hb_30 (Nat.le_refl _)
  replace hq := hq.below hb_30 (Nat.le_refl _)
  replace g1 := g1.below hb_30 (Nat.le_refl _)
  replace g2 := g2.below hb_30 (Nat.le_refl _)
  replace hz1 := hz1.below hb_30 (Nat.le_refl _)
  replace hz2 := hz2.below hb_30 (Nat.le_refl _)
  replace g3 := g3.below hb_30 (Nat.le_refl _)
  replace g4 := g4.below hb_30 (Nat.le_refl _)
  replace hz3 := hz3.below hb_30 (Nat.le_refl _)
  replace hz4 := hz4.below hb_30 (Nat.le_refl _)
  replace hz5 := hz5.below hb_30 (Nat.le_refl _)
  replace g6 := g6.below hb_30 (Nat.le_refl _)
  replace g7 := g7.below hb_30 (Nat.le_refl _)
  replace hz6 := hz6.below hb_30 (Nat.le_refl _)
  replace hz7 := hz7.below hb_30 (Nat.le_refl _)
  replace g8 := g8.below hb_30 (Nat.le_refl _)
  replace g9 := g9.below hb_30 (Nat.le_refl _)
  replace hz8 := hz8.below hb_30 (Nat.le_refl _)
  replace hz9 := hz9.below hb_30 (Nat.le_refl _)
  replace hb := hb.trans (hb_30.mono hb.size)
  clear hb_30
  rw [HRS.out]
  clear f_hz7
  have f_hz5 := hz5.facts
  go_wp2_with fail
  refine (rzero_any _).mono ?_
  rintro e w_31 ⟨rfl, hb_31⟩
  replace ha := ha.below hb_31 (Nat.le_refl _)
  replace hb' := hb'.below hb_31 (Nat.le_refl _)
  replace hp := hp.below hb_31 (Nat.le_refl _)
  replace hq := hq.below hb_31 (Nat.le_refl _)
  replace g1 := g1.below hb_31 (Nat.le_refl _)
  replace g2 := g2.below hb_31 (Nat.le_refl _)
  replace hz1 := hz1.below hb_31 (Nat.le_refl _)
  replace hz2 := hz2.below hb_31 (Nat.le_refl _)
  replace g3 := g3.below hb_31 (Nat.le_refl _)
  replace g4 := g4.below hb_31 (Nat.le_refl _)
  replace hz3 := hz3.below hb_31 (Nat.le_refl _)
  replace hz4 := hz4.below hb_31 (Nat.le_refl _)
  replace hz5 := hz5.below hb_31 (Nat.le_refl _)
  replace g6 := g6.below hb_31 (Nat.le_refl _)
  replace g7 := g7.below hb_31 (Nat.le_refl _)
  replace hz6 := hz6.below hb_31 (Nat.le_refl _)
  replace hz7 := hz7.below hb_31 (Nat.le_refl _)
  replace g8 := g8.below hb_31 (Nat.le_refl _)
  replace g9 := g9.below hb_31 (Nat.le_refl _)
  replace hz8 := hz8.below hb_31 (Nat.le_refl _)
  replace hz9 := hz9.below hb_31 (Nat.le_refl _)
  replace hb := hb.trans (hb_31.mono hb.size)
  clear hb_31
  clear f_hz5
  go_wp2
  go_ret
  exact ⟨rfl, hb⟩

theorem walk_ZintDivides (w : World) (na : Bool) (sa : Value) (xs : List Nat) (hx : Rd w sa xs) (hxl : xs.length ≤ 1048576) (nb : Bool) (sb : Value) (ys : List Nat) (hy : Rd w sb ys) (hyl : ys.length ≤ 1048576) (htab : Lib.TabIs Tryd.prog w p10 .u64 Lib.pow10Tab) :
    Calls Tryd.prog 6 #[.agg #[.bool na, sa], .agg #[.bool nb, sb]] w fun e w' => e = .returned (.bool true) ∧ Below w.heap.size w w' := by
  have ha : ZN w (.agg #[.bool na, sa]) (zv na xs) 1048576 := ⟨na, sa, xs, rfl, hx, rfl, hxl⟩
  have hb : ZN w (.agg #[.bool nb, sb]) (zv nb ys) 1048576 := ⟨nb, sb, ys, rfl, hy, rfl, hyl⟩
  by_cases h0 : zv nb ys = 0
  · rw [h0] at hb; exact divides_zero ha hb htab
  · by_cases hr : (zv na xs).fmod (zv nb ys) = 0
    · exact divides_even ha hb h0 hr htab
    · exact divides_odd ha hb h0 hr htab
end Go.Proofs.YtabmffenbkdgkaaDoor
