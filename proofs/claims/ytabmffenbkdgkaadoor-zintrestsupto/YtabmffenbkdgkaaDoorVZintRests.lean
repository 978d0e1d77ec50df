/- ZintRests: the law's walk. -/
import Derived.Test.YtabmffenbkdgkaaDoorZ8
namespace Go.Proofs.YtabmffenbkdgkaaDoor
open Go.RowKit Dig

set_option maxHeartbeats 4000000 in
set_option maxRecDepth 20000 in
theorem rests_zero {w : World} {va vb : Value} {x : Int} (ha : ZN w va x 1048576) (hb' : ZN w vb 0 1048576) (htab : Lib.TabIs Tryd.prog w p10 .u64 Lib.pow10Tab) :
    Calls Tryd.prog 11 #[va, vb] w fun e w' => e = .returned (.bool true) ∧ Below w.heap.size w w' := by
  have htabs := Lib.tabBelow_of_tabIs htab
  obtain ⟨na, oa, ca, xs, rfl, hca, _, _, hxl⟩ := ha.open_
  obtain ⟨nb, ob, cb, ys, rfl, hcb, _, _, hyl⟩ := hb'.open_
  have e0 : ((0 : Int) == 0) = true := rfl
  go_enter Tryd.func11, Tryd.ntmps11
  have hb := Below.refl w.heap.size w
  have hp := Bk.new w na (.slice oa xs.length ca)
  replace ha := ha.alloc (.cells #[.bool na, (.slice oa xs.length ca)] 24)
  replace hb' := hb'.alloc (.cells #[.bool na, (.slice oa xs.length ca)] 24)
  replace hb := hb.alloc hb.size (.cells #[.bool na, (.slice oa xs.length ca)] 24)
  have hq := Bk.new (w.alloc (.cells #[.bool na, (.slice oa xs.length ca)] 24)) nb (.slice ob ys.length cb)
  simp only [Bk.size_alloc] at hq
  replace ha := ha.alloc (.cells #[.bool nb, (.slice ob ys.length cb)] 24)
  replace hb' := hb'.alloc (.cells #[.bool nb, (.slice ob ys.length cb)] 24)
  replace hp := hp.alloc (.cells #[.bool nb, (.slice ob ys.length cb)] 24)
  replace hb := hb.alloc hb.size (.cells #[.bool nb, (.slice ob ys.length cb)] 24)
  go_wp2_with fail
  refine (zawake_any _ (htabs _ hb)).mono ?_
  rintro e w_1 ⟨rfl, hb_1⟩
  replace ha := ha.below hb_1 (Nat.le_refl _)
  replace hb' := hb'.below hb_1 (Nat.le_refl _)
  replace hp := hp.below hb_1 (Nat.le_refl _)
  replace hq := hq.below hb_1 (Nat.le_refl _)
  replace hb := hb.trans (hb_1.mono hb.size)
  clear hb_1
  have f_hq := hq.facts
  go_wp2_with fail
  refine (zsign_any hb' (by decide)).mono ?_
  rintro e w_2 ⟨rfl, hb_2⟩
  replace ha := ha.below hb_2 (Nat.le_refl _)
  replace hb' := hb'.below hb_2 (Nat.le_refl _)
  replace hp := hp.below hb_2 (Nat.le_refl _)
  replace hq := hq.below hb_2 (Nat.le_refl _)
  replace hb := hb.trans (hb_2.mono hb.size)
  clear hb_2
  go_wp2
  go_ret
  exact ⟨rfl, hb⟩

set_option maxHeartbeats 4000000 in
set_option maxRecDepth 20000 in
theorem rests_walk0 {w : World} {va vb : Value} {x y : Int} (ha : ZN w va x 1048576) (hb' : ZN w vb y 1048576) (h0 : y ≠ 0) (hr0 : x.fmod y = 0) (htab : Lib.TabIs Tryd.prog w p10 .u64 Lib.pow10Tab) :
    Calls Tryd.prog 11 #[va, vb] w fun e w' => e = .returned (.bool true) ∧ Below w.heap.size w w' := by
  have htabs := Lib.tabBelow_of_tabIs htab
  have Lx := ha.len
  have Ly := hb'.len
  have LQ := hide (fdiv_len h0 Lx)
  have LR := hide (fmod_len (x := x) h0 Ly)
  have LN := hide (rnd_len h0 Lx)
  have LT := hide (rrest_len (x := x) h0 Ly)
  have L1 := hide (zlen_mul LQ.out Ly)
  have L2 := hide (show (dig (x.fdiv y * y + x.fmod y).natAbs).length ≤ 4000000 by rw [← fmod_eq x y]; omega)
  have L3 := hide (zlen_mul LN.out Ly)
  have L6 := hide (show (dig ((y.natAbs : Int)).natAbs).length ≤ 1048576 from Ly)
  have L7 := hide (show (dig (-(y.natAbs : Int)).natAbs).length ≤ 1048576 by rw [Int.natAbs_neg]; exact Ly)
  have L8 := hide (show (dig (((x.fmod y).natAbs : Int)).natAbs).length ≤ 1048576 from LR.out)
  obtain ⟨N, hN⟩ : ∃ N, rnd x y = N := ⟨_, rfl⟩
  obtain ⟨T, hT⟩ : ∃ T, x - rnd x y * y = T := ⟨_, rfl⟩
  obtain ⟨S, hS⟩ : ∃ S, y.sign = S := ⟨_, rfl⟩
  have hbd := nearest_bd (x := x) h0
  rw [hT, hS] at hbd
  have hT2 : N * y + T = x := by rw [← hT, hN]; omega
  have L4 := hide (show (dig (N * y + T).natAbs).length ≤ 4000000 by rw [hT2]; omega)
  have L5 := hide (zlen_add (x := T) (y := T) (by rw [← hT]; exact LT.out) (by rw [← hT]; exact LT.out))
  have L9 := hide (show (dig ((T + T) * S).natAbs).length ≤ 4000000 from Nat.le_trans (zlen_mul L5.out (by rw [← hS]; exact sign_len y)) (by omega))
  obtain ⟨D, hD⟩ : ∃ D, zcmp ((T + T) * S) (-(y.natAbs : Int)) = D := ⟨_, rfl⟩
  have hD0 : 0 ≤ D := by rw [← hD]; exact zcmp_ge hbd.1
  have hD1 : (D < 0) = False := eq_false (by omega)
  have E1 := hide (fmod_eq x y).symm
  have E2 := hide hT2
  have E3 := hide (zcmp_lt (fmod_lt (x := x) h0))
  have E4 := hide (zcmp_lt hbd.2)
  have E5 := hide (And.intro hD (And.intro hN (And.intro hT hS)))
  have hSb := sign_bd y
  rw [hS] at hSb
  have hS1 := hSb.1
  have hS2 := hSb.2
  have hSw : IntKind.i64.wrap S = S := by rw [IntKind.wrap_i64]; omega
  have hS0 : (S == 0) = false := by rw [beq_eq_false_iff_ne, ← hS]; exact fun h => h0 (Int.sign_eq_zero_iff_zero.1 h)
  have hSn : (S != 0) = true := by rw [bne, hS0]; rfl
  have hSS : (S != S) = false := by simp
  have HSR := hide (show (x.fmod y).sign = 0 by rw [hr0]; rfl)
  have H0 := hide h0
  have e0 : ((0 : Int) == 0) = true := rfl
  have e1 : ((0 : Int) != 0) = false := rfl
  rw [hN] at LN L3
  rw [hT] at LT
  have LS := hide (show (dig S.natAbs).length ≤ 2 from zlen_i S (by omega) (by omega))
  clear hr0 h0 hD hN hT hS hT2 hbd hSb Lx Ly
  obtain ⟨na, oa, ca, xs, rfl, hca, _, _, hxl⟩ := ha.open_
  obtain ⟨nb, ob, cb, ys, rfl, hcb, _, _, hyl⟩ := hb'.open_
  go_enter Tryd.func11, Tryd.ntmps11
  have hb := Below.refl w.heap.size w
  have hp := Bk.new w na (.slice oa xs.length ca)
  replace ha := ha.alloc (.cells #[.bool na, (.slice oa xs.length ca)] 24)
  replace hb' := hb'.alloc (.cells #[.bool na, (.slice oa xs.length ca)] 24)
  replace hb := hb.alloc hb.size (.cells #[.bool na, (.slice oa xs.length ca)] 24)
  have hq := Bk.new (w.alloc (.cells #[.bool na, (.slice oa xs.length ca)] 24)) nb (.slice ob ys.length cb)
  simp only [Bk.size_alloc] at hq
  replace ha := ha.alloc (.cells #[.bool nb, (.slice ob ys.length cb)] 24)
  replace hb' := hb'.alloc (.cells #[.bool nb, (.slice ob ys.length cb)] 24)
  replace hp := hp.alloc (.cells #[.bool nb, (.slice ob ys.length cb)] 24)
  replace hb := hb.alloc hb.size (.cells #[.bool nb, (.slice ob ys.length cb)] 24)
  go_wp2_with fail
  refine (zawake_any _ (htabs _ hb)).mono ?_
  rintro e w_1 ⟨rfl, hb_1⟩
  replace ha := ha.below hb_1 (Nat.le_refl _)
  replace hb' := hb'.below hb_1 (Nat.le_refl _)
  replace hp := hp.below hb_1 (Nat.le_refl _)
  replace hq := hq.below hb_1 (Nat.le_refl _)
  replace hb := hb.trans (hb_1.mono hb.size)
  clear hb_1
  have f_hq := hq.facts
  go_wp2_with fail
  refine (zsign_any hb' (by decide)).mono ?_
  rintro e w_2 ⟨rfl, hb_2⟩
  replace ha := ha.below hb_2 (Nat.le_refl _)
  replace hb' := hb'.below hb_2 (Nat.le_refl _)
  replace hp := hp.below hb_2 (Nat.le_refl _)
  replace hq := hq.below hb_2 (Nat.le_refl _)
  replace hb := hb.trans (hb_2.mono hb.size)
  clear hb_2
  rw [E5.out.2.2.2]
  clear f_hq
  have f_hp := hp.facts
  have f_hq := hq.facts
  go_wp2_with fail
  refine (fdiv_any ha hb' (by decide) (by decide) H0.out).mono ?_
  rintro e w_3 ⟨v1, v2, rfl, g1, g2, hb_3⟩
  replace ha := ha.below hb_3 (Nat.le_refl _)
  replace hb' := hb'.below hb_3 (Nat.le_refl _)
  replace hp := hp.below hb_3 (Nat.le_refl _)
  replace hq := hq.below hb_3 (Nat.le_refl _)
  replace hb := hb.trans (hb_3.mono hb.size)
  clear hb_3
  replace g1 := g1.rd
  replace g2 := g2.rd
  clear f_hp f_hq
  have kb_hz1 := hb.size
  have ne_hp_hz1 : w.heap.size ≠ w_3.heap.size := by have := hp.lt; (try simp only [Bk.size_alloc] at this); omega
  have ne_hq_hz1 : w.heap.size + 1 ≠ w_3.heap.size := by have := hq.lt; (try simp only [Bk.size_alloc] at this); omega
  have hz1 := Bk.new w_3 false (.slice none 0 0)
  replace ha := ha.alloc (.cells #[.bool false, (.slice none 0 0)] 24)
  replace hb' := hb'.alloc (.cells #[.bool false, (.slice none 0 0)] 24)
  replace hp := hp.alloc (.cells #[.bool false, (.slice none 0 0)] 24)
  replace hq := hq.alloc (.cells #[.bool false, (.slice none 0 0)] 24)
  replace g1 := g1.alloc (.cells #[.bool false, (.slice none 0 0)] 24)
  replace g2 := g2.alloc (.cells #[.bool false, (.slice none 0 0)] 24)
  replace hb := hb.alloc hb.size (.cells #[.bool false, (.slice none 0 0)] 24)
  obtain ⟨w_4, hw_4⟩ : ∃ v, (w_3.alloc (.cells #[.bool false, (.slice none 0 0)] 24)) = v := ⟨_, rfl⟩
  rw [hw_4] at ha hb' hp hq g1 g2 hz1 hb
  have kb_hz2 := hb.size
  have ne_hp_hz2 : w.heap.size ≠ w_4.heap.size := by have := hp.lt; (try simp only [Bk.size_alloc] at this); omega
  have ne_hq_hz2 : w.heap.size + 1 ≠ w_4.heap.size := by have := hq.lt; (try simp only [Bk.size_alloc] at this); omega
  have ne_hz1_hz2 : w_3.heap.size ≠ w_4.heap.size := by have := hz1.lt; (try simp only [Bk.size_alloc] at this); omega
  have hz2 := Bk.new w_4 false (.slice none 0 0)
  replace ha := ha.alloc (.cells #[.bool false, (.slice none 0 0)] 24)
  replace hb' := hb'.alloc (.cells #[.bool false, (.slice none 0 0)] 24)
  replace hp := hp.alloc (.cells #[.bool false, (.slice none 0 0)] 24)
  replace hq := hq.alloc (.cells #[.bool false, (.slice none 0 0)] 24)
  replace g1 := g1.alloc (.cells #[.bool false, (.slice none 0 0)] 24)
  replace g2 := g2.alloc (.cells #[.bool false, (.slice none 0 0)] 24)
  replace hz1 := hz1.alloc (.cells #[.bool false, (.slice none 0 0)] 24)
  replace hb := hb.alloc hb.size (.cells #[.bool false, (.slice none 0 0)] 24)
  obtain ⟨w_5, hw_5⟩ : ∃ v, (w_4.alloc (.cells #[.bool false, (.slice none 0 0)] 24)) = v := ⟨_, rfl⟩
  rw [hw_5] at ha hb' hp hq g1 g2 hz1 hz2 hb
  obtain ⟨sb_hz1, o_hz1, n_hz1, c_hz1, rfl⟩ := g1.open2
  have f_hz1 := hz1.facts
  have ho := Bk.only w_5 (w_3.heap.size) sb_hz1 (.slice o_hz1 n_hz1 c_hz1)
  have hbx_ := hz1.bx
  replace ha := ha.frame hbx_ ho
  replace hb' := hb'.frame hbx_ ho
  replace hp := hp.frame ho (by omega)
  replace hq := hq.frame ho (by omega)
  replace g1 := g1.frame hbx_ ho
  replace g2 := g2.frame hbx_ ho
  replace hz2 := hz2.frame ho (by omega)
  replace hz1 := hz1.store sb_hz1 (.slice o_hz1 n_hz1 c_hz1)
  replace hb := (hb.setCell (p := ⟨w_3.heap.size, 0, none⟩) (show w.heap.size ≤ w_3.heap.size by omega) (.bool sb_hz1)).setCell (p := ⟨w_3.heap.size, 1, none⟩) (show w.heap.size ≤ w_3.heap.size by omega) (.slice o_hz1 n_hz1 c_hz1)
  clear ho hbx_
  obtain ⟨w_6, hw_6⟩ : ∃ v, ((w_5.setCell ⟨w_3.heap.size, 0, none⟩ (.bool sb_hz1)).setCell ⟨w_3.heap.size, 1, none⟩ (.slice o_hz1 n_hz1 c_hz1)) = v := ⟨_, rfl⟩
  rw [hw_6] at ha hb' hp hq g1 g2 hz1 hz2 hb
  obtain ⟨sb_hz2, o_hz2, n_hz2, c_hz2, rfl⟩ := g2.open2
  have f_hz2 := hz2.facts
  have ho := Bk.only w_6 (w_4.heap.size) sb_hz2 (.slice o_hz2 n_hz2 c_hz2)
  have hbx_ := hz2.bx
  replace ha := ha.frame hbx_ ho
  replace hb' := hb'.frame hbx_ ho
  replace hp := hp.frame ho (by omega)
  replace hq := hq.frame ho (by omega)
  replace g1 := g1.frame hbx_ ho
  replace g2 := g2.frame hbx_ ho
  replace hz1 := hz1.frame ho (by omega)
  replace hz2 := hz2.store sb_hz2 (.slice o_hz2 n_hz2 c_hz2)
  replace hb := (hb.setCell (p := ⟨w_4.heap.size, 0, none⟩) (show w.heap.size ≤ w_4.heap.size by omega) (.bool sb_hz2)).setCell (p := ⟨w_4.heap.size, 1, none⟩) (show w.heap.size ≤ w_4.heap.size by omega) (.slice o_hz2 n_hz2 c_hz2)
  clear ho hbx_
  obtain ⟨w_7, hw_7⟩ : ∃ v, ((w_6.setCell ⟨w_4.heap.size, 0, none⟩ (.bool sb_hz2)).setCell ⟨w_4.heap.size, 1, none⟩ (.slice o_hz2 n_hz2 c_hz2)) = v := ⟨_, rfl⟩
  rw [hw_7] at ha hb' hp hq g1 g2 hz1 hz2 hb
  have f_hp := hp.facts
  have f_hq := hq.facts
  go_wp2_with fail
  refine (rdiv_any ha hb' (by decide) (by decide) H0.out).mono ?_
  rintro e w_8 ⟨v3, v4, rfl, g3, g4, hb_8⟩
  replace ha := ha.below hb_8 (Nat.le_refl _)
  replace hb' := hb'.below hb_8 (Nat.le_refl _)
  replace hp := hp.below hb_8 (Nat.le_refl _)
  replace hq := hq.below hb_8 (Nat.le_refl _)
  replace g1 := g1.below hb_8 (Nat.le_refl _)
  replace g2 := g2.below hb_8 (Nat.le_refl _)
  replace hz1 := hz1.below hb_8 (Nat.le_refl _)
  replace hz2 := hz2.below hb_8 (Nat.le_refl _)
  replace hb := hb.trans (hb_8.mono hb.size)
  clear hb_8
  rw [E5.out.2.1] at g3
  rw [E5.out.2.2.1] at g4
  replace g3 := g3.rd
  replace g4 := g4.rd
  clear f_hp f_hq
  have kb_hz3 := hb.size
  have ne_hp_hz3 : w.heap.size ≠ w_8.heap.size := by have := hp.lt; (try simp only [Bk.size_alloc] at this); omega
  have ne_hq_hz3 : w.heap.size + 1 ≠ w_8.heap.size := by have := hq.lt; (try simp only [Bk.size_alloc] at this); omega
  have ne_hz1_hz3 : w_3.heap.size ≠ w_8.heap.size := by have := hz1.lt; (try simp only [Bk.size_alloc] at this); omega
  have ne_hz2_hz3 : w_4.heap.size ≠ w_8.heap.size := by have := hz2.lt; (try simp only [Bk.size_alloc] at this); omega
  have hz3 := Bk.new w_8 false (.slice none 0 0)
  replace ha := ha.alloc (.cells #[.bool false, (.slice none 0 0)] 24)
  replace hb' := hb'.alloc (.cells #[.bool false, (.slice none 0 0)] 24)
  replace hp := hp.alloc (.cells #[.bool false, (.slice none 0 0)] 24)
  replace hq := hq.alloc (.cells #[.bool false, (.slice none 0 0)] 24)
  replace g1 := g1.alloc (.cells #[.bool false, (.slice none 0 0)] 24)
  replace g2 := g2.alloc (.cells #[.bool false, (.slice none 0 0)] 24)
  replace hz1 := hz1.alloc (.cells #[.bool false, (.slice none 0 0)] 24)
  replace hz2 := hz2.alloc (.cells #[.bool false, (.slice none 0 0)] 24)
  replace g3 := g3.alloc (.cells #[.bool false, (.slice none 0 0)] 24)
  replace g4 := g4.alloc (.cells #[.bool false, (.slice none 0 0)] 24)
  replace hb := hb.alloc hb.size (.cells #[.bool false, (.slice none 0 0)] 24)
  obtain ⟨w_9, hw_9⟩ : ∃ v, (w_8.alloc (.cells #[.bool false, (.slice none 0 0)] 24)) = v := ⟨_, rfl⟩
  rw [hw_9] at ha hb' hp hq g1 g2 hz1 hz2 g3 g4 hz3 hb
  have kb_hz4 := hb.size
  have ne_hp_hz4 : w.heap.size ≠ w_9.heap.size := by have := hp.lt; (try simp only [Bk.size_alloc] at this); omega
  have ne_hq_hz4 : w.heap.size + 1 ≠ w_9.heap.size := by have := hq.lt; (try simp only [Bk.size_alloc] at this); omega
  have ne_hz1_hz4 : w_3.heap.size ≠ w_9.heap.size := by have := hz1.lt; (try simp only [Bk.size_alloc] at this); omega
  have ne_hz2_hz4 : w_4.heap.size ≠ w_9.heap.size := by have := hz2.lt; (try simp only [Bk.size_alloc] at this); omega
  have ne_hz3_hz4 : w_8.heap.size ≠ w_9.heap.size := by have := hz3.lt; (try simp only [Bk.size_alloc] at this); omega
  have hz4 := Bk.new w_9 false (.slice none 0 0)
  replace ha := ha.alloc (.cells #[.bool false, (.slice none 0 0)] 24)
  replace hb' := hb'.alloc (.cells #[.bool false, (.slice none 0 0)] 24)
  replace hp := hp.alloc (.cells #[.bool false, (.slice none 0 0)] 24)
  replace hq := hq.alloc (.cells #[.bool false, (.slice none 0 0)] 24)
  replace g1 := g1.alloc (.cells #[.bool false, (.slice none 0 0)] 24)
  replace g2 := g2.alloc (.cells #[.bool false, (.slice none 0 0)] 24)
  replace hz1 := hz1.alloc (.cells #[.bool false, (.slice none 0 0)] 24)
  replace hz2 := hz2.alloc (.cells #[.bool false, (.slice none 0 0)] 24)
  replace g3 := g3.alloc (.cells #[.bool false, (.slice none 0 0)] 24)
  replace g4 := g4.alloc (.cells #[.bool false, (.slice none 0 0)] 24)
  replace hz3 := hz3.alloc (.cells #[.bool false, (.slice none 0 0)] 24)
  replace hb := hb.alloc hb.size (.cells #[.bool false, (.slice none 0 0)] 24)
  obtain ⟨w_10, hw_10⟩ : ∃ v, (w_9.alloc (.cells #[.bool false, (.slice none 0 0)] 24)) = v := ⟨_, rfl⟩
  rw [hw_10] at ha hb' hp hq g1 g2 hz1 hz2 g3 g4 hz3 hz4 hb
  obtain ⟨sb_hz3, o_hz3, n_hz3, c_hz3, rfl⟩ := g3.open2
  have f_hz3 := hz3.facts
  have ho := Bk.only w_10 (w_8.heap.size) sb_hz3 (.slice o_hz3 n_hz3 c_hz3)
  have hbx_ := hz3.bx
  replace ha := ha.frame hbx_ ho
  replace hb' := hb'.frame hbx_ ho
  replace hp := hp.frame ho (by omega)
  replace hq := hq.frame ho (by omega)
  replace g1 := g1.frame hbx_ ho
  replace g2 := g2.frame hbx_ ho
  replace hz1 := hz1.frame ho (by omega)
  replace hz2 := hz2.frame ho (by omega)
  replace g3 := g3.frame hbx_ ho
  replace g4 := g4.frame hbx_ ho
  replace hz4 := hz4.frame ho (by omega)
  replace hz3 := hz3.store sb_hz3 (.slice o_hz3 n_hz3 c_hz3)
  replace hb := (hb.setCell (p := ⟨w_8.heap.size, 0, none⟩) (show w.heap.size ≤ w_8.heap.size by omega) (.bool sb_hz3)).setCell (p := ⟨w_8.heap.size, 1, none⟩) (show w.heap.size ≤ w_8.heap.size by omega) (.slice o_hz3 n_hz3 c_hz3)
  clear ho hbx_
  obtain ⟨w_11, hw_11⟩ : ∃ v, ((w_10.setCell ⟨w_8.heap.size, 0, none⟩ (.bool sb_hz3)).setCell ⟨w_8.heap.size, 1, none⟩ (.slice o_hz3 n_hz3 c_hz3)) = v := ⟨_, rfl⟩
  rw [hw_11] at ha hb' hp hq g1 g2 hz1 hz2 g3 g4 hz3 hz4 hb
  obtain ⟨sb_hz4, o_hz4, n_hz4, c_hz4, rfl⟩ := g4.open2
  have f_hz4 := hz4.facts
  have ho := Bk.only w_11 (w_9.heap.size) sb_hz4 (.slice o_hz4 n_hz4 c_hz4)
  have hbx_ := hz4.bx
  replace ha := ha.frame hbx_ ho
  replace hb' := hb'.frame hbx_ ho
  replace hp := hp.frame ho (by omega)
  replace hq := hq.frame ho (by omega)
  replace g1 := g1.frame hbx_ ho
  replace g2 := g2.frame hbx_ ho
  replace hz1 := hz1.frame ho (by omega)
  replace hz2 := hz2.frame ho (by omega)
  replace g3 := g3.frame hbx_ ho
  replace g4 := g4.frame hbx_ ho
  replace hz3 := hz3.frame ho (by omega)
  replace hz4 := hz4.store sb_hz4 (.slice o_hz4 n_hz4 c_hz4)
  replace hb := (hb.setCell (p := ⟨w_9.heap.size, 0, none⟩) (show w.heap.size ≤ w_9.heap.size by omega) (.bool sb_hz4)).setCell (p := ⟨w_9.heap.size, 1, none⟩) (show w.heap.size ≤ w_9.heap.size by omega) (.slice o_hz4 n_hz4 c_hz4)
  clear ho hbx_
  obtain ⟨w_12, hw_12⟩ : ∃ v, ((w_11.setCell ⟨w_9.heap.size, 0, none⟩ (.bool sb_hz4)).setCell ⟨w_9.heap.size, 1, none⟩ (.slice o_hz4 n_hz4 c_hz4)) = v := ⟨_, rfl⟩
  rw [hw_12] at ha hb' hp hq g1 g2 hz1 hz2 g3 g4 hz3 hz4 hb
  replace ha := ha.drew
  replace hb' := hb'.drew
  replace hp := hp.drew
  replace hq := hq.drew
  replace g1 := g1.drew
  replace g2 := g2.drew
  replace hz1 := hz1.drew
  replace hz2 := hz2.drew
  replace g3 := g3.drew
  replace g4 := g4.drew
  replace hz3 := hz3.drew
  replace hz4 := hz4.drew
  replace hb := hb.drew
  go_wp2_with fail
  refine wp_region_pl [(0, false), (1, false), (2, false), (3, false), (4, false), (5, false), (6, false), (7, false), (8, false), (10, false), (12, false), (9, true), (11, true), (13, true), (14, false), (15, false), (16, false), (17, false), (18, false), (20, false), (22, false), (19, true), (21, true), (23, true), (24, false), (25, false)] (fun w' => w'.cell? ⟨w.heap.size, 0, none⟩ = some (.bool na) ∧ w'.cell? ⟨w.heap.size, 1, none⟩ = some (.slice oa xs.length ca) ∧ w'.cell? ⟨w.heap.size + 1, 0, none⟩ = some (.bool nb) ∧ w'.cell? ⟨w.heap.size + 1, 1, none⟩ = some (.slice ob ys.length cb) ∧ w'.cell? ⟨w_3.heap.size, 0, none⟩ = some (.bool sb_hz1) ∧ w'.cell? ⟨w_3.heap.size, 1, none⟩ = some (.slice o_hz1 n_hz1 c_hz1) ∧ w'.cell? ⟨w_4.heap.size, 0, none⟩ = some (.bool sb_hz2) ∧ w'.cell? ⟨w_4.heap.size, 1, none⟩ = some (.slice o_hz2 n_hz2 c_hz2) ∧ w'.cell? ⟨w_8.heap.size, 0, none⟩ = some (.bool sb_hz3) ∧ w'.cell? ⟨w_8.heap.size, 1, none⟩ = some (.slice o_hz3 n_hz3 c_hz3) ∧ w'.cell? ⟨w_9.heap.size, 0, none⟩ = some (.bool sb_hz4) ∧ w'.cell? ⟨w_9.heap.size, 1, none⟩ = some (.slice o_hz4 n_hz4 c_hz4)) (by kernel_rfl) (by kernel_rfl) (by kernel_rfl) (by kernel_rfl) ⟨hp.facts.1, hp.facts.2.1, hq.facts.1, hq.facts.2.1, hz1.facts.1, hz1.facts.2.1, hz2.facts.1, hz2.facts.2.1, hz3.facts.1, hz3.facts.2.1, hz4.facts.1, hz4.facts.2.1⟩ ?_
  apply wpPl_ld
  case hi => rfl
  case h1 => intro w' hC K hK; obtain ⟨c0, c1, c2, c3, c4, c5, c6, c7, c8, c9, c10, c11⟩ := hC; (first | go_big_move | go_big_op); exact hK
  case hw => kernel_rfl
  case hv => kernel_rfl
  case hb => kernel_rfl
  case hp => kernel_rfl
  apply wpPl_ld
  case hi => rfl
  case h1 => intro w' hC K hK; obtain ⟨c0, c1, c2, c3, c4, c5, c6, c7, c8, c9, c10, c11⟩ := hC; (first | go_big_move | go_big_op); exact hK
  case hw => kernel_rfl
  case hv => kernel_rfl
  case hb => kernel_rfl
  case hp => kernel_rfl
  apply wpPl_ld
  case hi => rfl
  case h1 => intro w' hC K hK; obtain ⟨c0, c1, c2, c3, c4, c5, c6, c7, c8, c9, c10, c11⟩ := hC; (first | go_big_move | go_big_op); exact hK
  case hw => kernel_rfl
  case hv => kernel_rfl
  case hb => kernel_rfl
  case hp => kernel_rfl
  apply wpPl_ld
  case hi => rfl
  case h1 => intro w' hC K hK; obtain ⟨c0, c1, c2, c3, c4, c5, c6, c7, c8, c9, c10, c11⟩ := hC; (first | go_big_move | go_big_op); exact hK
  case hw => kernel_rfl
  case hv => kernel_rfl
  case hb => kernel_rfl
  case hp => kernel_rfl
  apply wpPl_ld
  case hi => rfl
  case h1 => intro w' hC K hK; obtain ⟨c0, c1, c2, c3, c4, c5, c6, c7, c8, c9, c10, c11⟩ := hC; (first | go_big_move | go_big_op); exact hK
  case hw => kernel_rfl
  case hv => kernel_rfl
  case hb => kernel_rfl
  case hp => kernel_rfl
  apply wpPl_ld
  case hi => rfl
  case h1 => intro w' hC K hK; obtain ⟨c0, c1, c2, c3, c4, c5, c6, c7, c8, c9, c10, c11⟩ := hC; (first | go_big_move | go_big_op); exact hK
  case hw => kernel_rfl
  case hv => kernel_rfl
  case hb => kernel_rfl
  case hp => kernel_rfl
  apply wpPl_ld
  case hi => rfl
  case h1 => intro w' hC K hK; obtain ⟨c0, c1, c2, c3, c4, c5, c6, c7, c8, c9, c10, c11⟩ := hC; (first | go_big_move | go_big_op); exact hK
  case hw => kernel_rfl
  case hv => kernel_rfl
  case hb => kernel_rfl
  case hp => kernel_rfl
  apply wpPl_ld
  case hi => rfl
  case h1 => intro w' hC K hK; obtain ⟨c0, c1, c2, c3, c4, c5, c6, c7, c8, c9, c10, c11⟩ := hC; (first | go_big_move | go_big_op); exact hK
  case hw => kernel_rfl
  case hv => kernel_rfl
  case hb => kernel_rfl
  case hp => kernel_rfl
  apply wpPl_ld
  case hi => rfl
  case h1 => intro w' hC K hK; obtain ⟨c0, c1, c2, c3, c4, c5, c6, c7, c8, c9, c10, c11⟩ := hC; (first | go_big_move | go_big_op); exact hK
  case hw => kernel_rfl
  case hv => kernel_rfl
  case hb => kernel_rfl
  case hp => kernel_rfl
  apply wpPl_ld
  case hi => rfl
  case h1 => intro w' hC K hK; obtain ⟨c0, c1, c2, c3, c4, c5, c6, c7, c8, c9, c10, c11⟩ := hC; (first | go_big_move | go_big_op); exact hK
  case hw => kernel_rfl
  case hv => kernel_rfl
  case hb => kernel_rfl
  case hp => kernel_rfl
  apply wpPl_ld
  case hi => rfl
  case h1 => intro w' hC K hK; obtain ⟨c0, c1, c2, c3, c4, c5, c6, c7, c8, c9, c10, c11⟩ := hC; (first | go_big_move | go_big_op); exact hK
  case hw => kernel_rfl
  case hv => kernel_rfl
  case hb => kernel_rfl
  case hp => kernel_rfl
  apply wpPl_call
  case hi => rfl
  case hw => kernel_rfl
  case h =>
  intro K hK
  have kb_13 := hb.size
  go_big_op
  go_fit (zmul_any (g1.zn LQ.out) hb' (by decide) (by decide))
  rintro e w_13 ⟨v5, rfl, h5, hb_13⟩
  replace ha := ha.below hb_13 (Nat.le_refl _)
  replace hb' := hb'.below hb_13 (Nat.le_refl _)
  replace hp := hp.below hb_13 (Nat.le_refl _)
  replace hq := hq.below hb_13 (Nat.le_refl _)
  replace g1 := g1.below hb_13 (Nat.le_refl _)
  replace g2 := g2.below hb_13 (Nat.le_refl _)
  replace hz1 := hz1.below hb_13 (Nat.le_refl _)
  replace hz2 := hz2.below hb_13 (Nat.le_refl _)
  replace g3 := g3.below hb_13 (Nat.le_refl _)
  replace g4 := g4.below hb_13 (Nat.le_refl _)
  replace hz3 := hz3.below hb_13 (Nat.le_refl _)
  replace hz4 := hz4.below hb_13 (Nat.le_refl _)
  replace hb := hb.trans (hb_13.mono hb.size)
  refine hK _ _ rfl ⟨hp.facts.1, hp.facts.2.1, hq.facts.1, hq.facts.2.1, hz1.facts.1, hz1.facts.2.1, hz2.facts.1, hz2.facts.2.1, hz3.facts.1, hz3.facts.2.1, hz4.facts.1, hz4.facts.2.1⟩ ?_
  clear hK K hb_13
  replace h5 := h5.rd
  apply wpPl_call
  case hi => rfl
  case hw => kernel_rfl
  case h =>
  intro K hK
  have kb_14 := hb.size
  go_big_op
  go_fit (zadd_any (h5.zn L1.out) (g2.zn LR.out) (by decide) (by decide))
  rintro e w_14 ⟨v6, rfl, h6, hb_14⟩
  replace ha := ha.below hb_14 (Nat.le_refl _)
  replace hb' := hb'.below hb_14 (Nat.le_refl _)
  replace hp := hp.below hb_14 (Nat.le_refl _)
  replace hq := hq.below hb_14 (Nat.le_refl _)
  replace g1 := g1.below hb_14 (Nat.le_refl _)
  replace g2 := g2.below hb_14 (Nat.le_refl _)
  replace hz1 := hz1.below hb_14 (Nat.le_refl _)
  replace hz2 := hz2.below hb_14 (Nat.le_refl _)
  replace g3 := g3.below hb_14 (Nat.le_refl _)
  replace g4 := g4.below hb_14 (Nat.le_refl _)
  replace hz3 := hz3.below hb_14 (Nat.le_refl _)
  replace hz4 := hz4.below hb_14 (Nat.le_refl _)
  replace h5 := h5.below hb_14 (Nat.le_refl _)
  replace hb := hb.trans (hb_14.mono hb.size)
  refine hK _ _ rfl ⟨hp.facts.1, hp.facts.2.1, hq.facts.1, hq.facts.2.1, hz1.facts.1, hz1.facts.2.1, hz2.facts.1, hz2.facts.2.1, hz3.facts.1, hz3.facts.2.1, hz4.facts.1, hz4.facts.2.1⟩ ?_
  clear hK K hb_14
  rw [E1.out] at h6
  replace h6 := h6.rd
  clear h5
  apply wpPl_call
  case hi => rfl
  case hw => kernel_rfl
  case h =>
  intro K hK
  have kb_15 := hb.size
  go_big_op
  go_fit (is_zz h6 ha (by decide))
  rintro e w_15 ⟨rfl, hb_15⟩
  replace ha := ha.below hb_15 (Nat.le_refl _)
  replace hb' := hb'.below hb_15 (Nat.le_refl _)
  replace hp := hp.below hb_15 (Nat.le_refl _)
  replace hq := hq.below hb_15 (Nat.le_refl _)
  replace g1 := g1.below hb_15 (Nat.le_refl _)
  replace g2 := g2.below hb_15 (Nat.le_refl _)
  replace hz1 := hz1.below hb_15 (Nat.le_refl _)
  replace hz2 := hz2.below hb_15 (Nat.le_refl _)
  replace g3 := g3.below hb_15 (Nat.le_refl _)
  replace g4 := g4.below hb_15 (Nat.le_refl _)
  replace hz3 := hz3.below hb_15 (Nat.le_refl _)
  replace hz4 := hz4.below hb_15 (Nat.le_refl _)
  replace h6 := h6.below hb_15 (Nat.le_refl _)
  replace hb := hb.trans (hb_15.mono hb.size)
  refine hK _ _ rfl ⟨hp.facts.1, hp.facts.2.1, hq.facts.1, hq.facts.2.1, hz1.facts.1, hz1.facts.2.1, hz2.facts.1, hz2.facts.2.1, hz3.facts.1, hz3.facts.2.1, hz4.facts.1, hz4.facts.2.1⟩ ?_
  clear hK K hb_15
  clear h6
  apply wpPl_ld
  case hi => rfl
  case h1 => intro w' hC K hK; obtain ⟨c0, c1, c2, c3, c4, c5, c6, c7, c8, c9, c10, c11⟩ := hC; (first | go_big_move | go_big_op); exact hK
  case hw => kernel_rfl
  case hv => kernel_rfl
  case hb => kernel_rfl
  case hp => kernel_rfl
  apply wpPl_ld
  case hi => rfl
  case h1 => intro w' hC K hK; obtain ⟨c0, c1, c2, c3, c4, c5, c6, c7, c8, c9, c10, c11⟩ := hC; (first | go_big_move | go_big_op); exact hK
  case hw => kernel_rfl
  case hv => kernel_rfl
  case hb => kernel_rfl
  case hp => kernel_rfl
  apply wpPl_ld
  case hi => rfl
  case h1 => intro w' hC K hK; obtain ⟨c0, c1, c2, c3, c4, c5, c6, c7, c8, c9, c10, c11⟩ := hC; (first | go_big_move | go_big_op); exact hK
  case hw => kernel_rfl
  case hv => kernel_rfl
  case hb => kernel_rfl
  case hp => kernel_rfl
  apply wpPl_ld
  case hi => rfl
  case h1 => intro w' hC K hK; obtain ⟨c0, c1, c2, c3, c4, c5, c6, c7, c8, c9, c10, c11⟩ := hC; (first | go_big_move | go_big_op); exact hK
  case hw => kernel_rfl
  case hv => kernel_rfl
  case hb => kernel_rfl
  case hp => kernel_rfl
  apply wpPl_ld
  case hi => rfl
  case h1 => intro w' hC K hK; obtain ⟨c0, c1, c2, c3, c4, c5, c6, c7, c8, c9, c10, c11⟩ := hC; (first | go_big_move | go_big_op); exact hK
  case hw => kernel_rfl
  case hv => kernel_rfl
  case hb => kernel_rfl
  case hp => kernel_rfl
  apply wpPl_ld
  case hi => rfl
  case h1 => intro w' hC K hK; obtain ⟨c0, c1, c2, c3, c4, c5, c6, c7, c8, c9, c10, c11⟩ := hC; (first | go_big_move | go_big_op); exact hK
  case hw => kernel_rfl
  case hv => kernel_rfl
  case hb => kernel_rfl
  case hp => kernel_rfl
  apply wpPl_ld
  case hi => rfl
  case h1 => intro w' hC K hK; obtain ⟨c0, c1, c2, c3, c4, c5, c6, c7, c8, c9, c10, c11⟩ := hC; (first | go_big_move | go_big_op); exact hK
  case hw => kernel_rfl
  case hv => kernel_rfl
  case hb => kernel_rfl
  case hp => kernel_rfl
  apply wpPl_call
  case hi => rfl
  case hw => kernel_rfl
  case h =>
  intro K hK
  have kb_16 := hb.size
  go_big_op
  go_fit (zmul_any (g3.zn LN.out) hb' (by decide) (by decide))
  rintro e w_16 ⟨v7, rfl, h7, hb_16⟩
  replace ha := ha.below hb_16 (Nat.le_refl _)
  replace hb' := hb'.below hb_16 (Nat.le_refl _)
  replace hp := hp.below hb_16 (Nat.le_refl _)
  replace hq := hq.below hb_16 (Nat.le_refl _)
  replace g1 := g1.below hb_16 (Nat.le_refl _)
  replace g2 := g2.below hb_16 (Nat.le_refl _)
  replace hz1 := hz1.below hb_16 (Nat.le_refl _)
  replace hz2 := hz2.below hb_16 (Nat.le_refl _)
  replace g3 := g3.below hb_16 (Nat.le_refl _)
  replace g4 := g4.below hb_16 (Nat.le_refl _)
  replace hz3 := hz3.below hb_16 (Nat.le_refl _)
  replace hz4 := hz4.below hb_16 (Nat.le_refl _)
  replace hb := hb.trans (hb_16.mono hb.size)
  refine hK _ _ rfl ⟨hp.facts.1, hp.facts.2.1, hq.facts.1, hq.facts.2.1, hz1.facts.1, hz1.facts.2.1, hz2.facts.1, hz2.facts.2.1, hz3.facts.1, hz3.facts.2.1, hz4.facts.1, hz4.facts.2.1⟩ ?_
  clear hK K hb_16
  replace h7 := h7.rd
  apply wpPl_call
  case hi => rfl
  case hw => kernel_rfl
  case h =>
  intro K hK
  have kb_17 := hb.size
  go_big_op
  go_fit (zadd_any (h7.zn L3.out) (g4.zn LT.out) (by decide) (by decide))
  rintro e w_17 ⟨v8, rfl, h8, hb_17⟩
  replace ha := ha.below hb_17 (Nat.le_refl _)
  replace hb' := hb'.below hb_17 (Nat.le_refl _)
  replace hp := hp.below hb_17 (Nat.le_refl _)
  replace hq := hq.below hb_17 (Nat.le_refl _)
  replace g1 := g1.below hb_17 (Nat.le_refl _)
  replace g2 := g2.below hb_17 (Nat.le_refl _)
  replace hz1 := hz1.below hb_17 (Nat.le_refl _)
  replace hz2 := hz2.below hb_17 (Nat.le_refl _)
  replace g3 := g3.below hb_17 (Nat.le_refl _)
  replace g4 := g4.below hb_17 (Nat.le_refl _)
  replace hz3 := hz3.below hb_17 (Nat.le_refl _)
  replace hz4 := hz4.below hb_17 (Nat.le_refl _)
  replace h7 := h7.below hb_17 (Nat.le_refl _)
  replace hb := hb.trans (hb_17.mono hb.size)
  refine hK _ _ rfl ⟨hp.facts.1, hp.facts.2.1, hq.facts.1, hq.facts.2.1, hz1.facts.1, hz1.facts.2.1, hz2.facts.1, hz2.facts.2.1, hz3.facts.1, hz3.facts.2.1, hz4.facts.1, hz4.facts.2.1⟩ ?_
  clear hK K hb_17
  rw [E2.out] at h8
  replace h8 := h8.rd
  clear h7
  apply wpPl_call
  case hi => rfl
  case hw => kernel_rfl
  case h =>
  intro K hK
  have kb_18 := hb.size
  go_big_op
  go_fit (is_zz h8 ha (by decide))
  rintro e w_18 ⟨rfl, hb_18⟩
  replace ha := ha.below hb_18 (Nat.le_refl _)
  replace hb' := hb'.below hb_18 (Nat.le_refl _)
  replace hp := hp.below hb_18 (Nat.le_refl _)
  replace hq := hq.below hb_18 (Nat.le_refl _)
  replace g1 := g1.below hb_18 (Nat.le_refl _)
  replace g2 := g2.below hb_18 (Nat.le_refl _)
  replace hz1 := hz1.below hb_18 (Nat.le_refl _)
  replace hz2 := hz2.below hb_18 (Nat.le_refl _)
  replace g3 := g3.below hb_18 (Nat.le_refl _)
  replace g4 := g4.below hb_18 (Nat.le_refl _)
  replace hz3 := hz3.below hb_18 (Nat.le_refl _)
  replace hz4 := hz4.below hb_18 (Nat.le_refl _)
  replace h8 := h8.below hb_18 (Nat.le_refl _)
  replace hb := hb.trans (hb_18.mono hb.size)
  refine hK _ _ rfl ⟨hp.facts.1, hp.facts.2.1, hq.facts.1, hq.facts.2.1, hz1.facts.1, hz1.facts.2.1, hz2.facts.1, hz2.facts.2.1, hz3.facts.1, hz3.facts.2.1, hz4.facts.1, hz4.facts.2.1⟩ ?_
  clear hK K hb_18
  clear h8
  apply wpPl_ld
  case hi => rfl
  case h1 => intro w' hC K hK; obtain ⟨c0, c1, c2, c3, c4, c5, c6, c7, c8, c9, c10, c11⟩ := hC; (first | go_big_move | go_big_op); exact hK
  case hw => kernel_rfl
  case hv => kernel_rfl
  case hb => kernel_rfl
  case hp => kernel_rfl
  apply wpPl_ld
  case hi => rfl
  case h1 => intro w' hC K hK; obtain ⟨c0, c1, c2, c3, c4, c5, c6, c7, c8, c9, c10, c11⟩ := hC; (first | go_big_move | go_big_op); exact hK
  case hw => kernel_rfl
  case hv => kernel_rfl
  case hb => kernel_rfl
  case hp => kernel_rfl
  apply wpPl_end
  replace ha := ha.drew
  replace hb' := hb'.drew
  replace hp := hp.drew
  replace hq := hq.drew
  replace g1 := g1.drew
  replace g2 := g2.drew
  replace hz1 := hz1.drew
  replace hz2 := hz2.drew
  replace g3 := g3.drew
  replace g4 := g4.drew
  replace hz3 := hz3.drew
  replace hz4 := hz4.drew
  replace hb := hb.drew
  go_wp2_with fail
  refine wp_region_pl [(0, false), (1, true), (2, false), (3, false), (4, false), (6, false), (5, true), (7, true), (8, false), (9, false), (10, false), (11, false), (13, false), (12, true), (14, true), (15, true), (16, false), (17, false)] (fun w' => w'.cell? ⟨w.heap.size, 0, none⟩ = some (.bool na) ∧ w'.cell? ⟨w.heap.size, 1, none⟩ = some (.slice oa xs.length ca) ∧ w'.cell? ⟨w.heap.size + 1, 0, none⟩ = some (.bool nb) ∧ w'.cell? ⟨w.heap.size + 1, 1, none⟩ = some (.slice ob ys.length cb) ∧ w'.cell? ⟨w_3.heap.size, 0, none⟩ = some (.bool sb_hz1) ∧ w'.cell? ⟨w_3.heap.size, 1, none⟩ = some (.slice o_hz1 n_hz1 c_hz1) ∧ w'.cell? ⟨w_4.heap.size, 0, none⟩ = some (.bool sb_hz2) ∧ w'.cell? ⟨w_4.heap.size, 1, none⟩ = some (.slice o_hz2 n_hz2 c_hz2) ∧ w'.cell? ⟨w_8.heap.size, 0, none⟩ = some (.bool sb_hz3) ∧ w'.cell? ⟨w_8.heap.size, 1, none⟩ = some (.slice o_hz3 n_hz3 c_hz3) ∧ w'.cell? ⟨w_9.heap.size, 0, none⟩ = some (.bool sb_hz4) ∧ w'.cell? ⟨w_9.heap.size, 1, none⟩ = some (.slice o_hz4 n_hz4 c_hz4)) (by kernel_rfl) (by kernel_rfl) (by kernel_rfl) (by kernel_rfl) ⟨hp.facts.1, hp.facts.2.1, hq.facts.1, hq.facts.2.1, hz1.facts.1, hz1.facts.2.1, hz2.facts.1, hz2.facts.2.1, hz3.facts.1, hz3.facts.2.1, hz4.facts.1, hz4.facts.2.1⟩ ?_
  apply wpPl_ld
  case hi => rfl
  case h1 => intro w' hC K hK; obtain ⟨c0, c1, c2, c3, c4, c5, c6, c7, c8, c9, c10, c11⟩ := hC; (first | go_big_move | go_big_op); exact hK
  case hw => kernel_rfl
  case hv => kernel_rfl
  case hb => kernel_rfl
  case hp => kernel_rfl
  apply wpPl_call
  case hi => rfl
  case hw => kernel_rfl
  case h =>
  intro K hK
  have kb_19 := hb.size
  go_big_op
  go_fit (zsign_any (g2.zn LR.out) (by decide))
  rintro e w_19 ⟨rfl, hb_19⟩
  replace ha := ha.below hb_19 (Nat.le_refl _)
  replace hb' := hb'.below hb_19 (Nat.le_refl _)
  replace hp := hp.below hb_19 (Nat.le_refl _)
  replace hq := hq.below hb_19 (Nat.le_refl _)
  replace g1 := g1.below hb_19 (Nat.le_refl _)
  replace g2 := g2.below hb_19 (Nat.le_refl _)
  replace hz1 := hz1.below hb_19 (Nat.le_refl _)
  replace hz2 := hz2.below hb_19 (Nat.le_refl _)
  replace g3 := g3.below hb_19 (Nat.le_refl _)
  replace g4 := g4.below hb_19 (Nat.le_refl _)
  replace hz3 := hz3.below hb_19 (Nat.le_refl _)
  replace hz4 := hz4.below hb_19 (Nat.le_refl _)
  replace hb := hb.trans (hb_19.mono hb.size)
  refine hK _ _ rfl ⟨hp.facts.1, hp.facts.2.1, hq.facts.1, hq.facts.2.1, hz1.facts.1, hz1.facts.2.1, hz2.facts.1, hz2.facts.2.1, hz3.facts.1, hz3.facts.2.1, hz4.facts.1, hz4.facts.2.1⟩ ?_
  clear hK K hb_19
  rw [HSR.out]
  apply wpPl_ld
  case hi => rfl
  case h1 => intro w' hC K hK; obtain ⟨c0, c1, c2, c3, c4, c5, c6, c7, c8, c9, c10, c11⟩ := hC; (first | go_big_move | go_big_op); exact hK
  case hw => kernel_rfl
  case hv => kernel_rfl
  case hb => kernel_rfl
  case hp => kernel_rfl
  apply wpPl_ld
  case hi => rfl
  case h1 => intro w' hC K hK; obtain ⟨c0, c1, c2, c3, c4, c5, c6, c7, c8, c9, c10, c11⟩ := hC; (first | go_big_move | go_big_op); exact hK
  case hw => kernel_rfl
  case hv => kernel_rfl
  case hb => kernel_rfl
  case hp => kernel_rfl
  apply wpPl_skip
  case hi => rfl
  case hw => kernel_rfl
  case hp => unfold Act.put; simp only [List.setIfInBounds_toArray, List.set_cons_succ, List.set_cons_zero]; rfl
  apply wpPl_skip
  case hi => rfl
  case hw => kernel_rfl
  case hp => unfold Act.put; simp only [List.setIfInBounds_toArray, List.set_cons_succ, List.set_cons_zero]; rfl
  apply wpPl_skipc
  case hi => rfl
  case hw => kernel_rfl
  case hp => unfold Act.put; simp only [List.setIfInBounds_toArray, List.set_cons_succ, List.set_cons_zero]; rfl
  apply wpPl_skipc
  case hi => rfl
  case hw => kernel_rfl
  case hp => unfold Act.put; simp only [List.setIfInBounds_toArray, List.set_cons_succ, List.set_cons_zero]; rfl
  apply wpPl_skip
  case hi => rfl
  case hw => kernel_rfl
  case hp => unfold Act.put; simp only [List.setIfInBounds_toArray, List.set_cons_succ, List.set_cons_zero]; rfl
  apply wpPl_ld
  case hi => rfl
  case h1 => intro w' hC K hK; obtain ⟨c0, c1, c2, c3, c4, c5, c6, c7, c8, c9, c10, c11⟩ := hC; (first | go_big_move | go_big_op); exact hK
  case hw => kernel_rfl
  case hv => kernel_rfl
  case hb => kernel_rfl
  case hp => kernel_rfl
  apply wpPl_ld
  case hi => rfl
  case h1 => intro w' hC K hK; obtain ⟨c0, c1, c2, c3, c4, c5, c6, c7, c8, c9, c10, c11⟩ := hC; (first | go_big_move | go_big_op); exact hK
  case hw => kernel_rfl
  case hv => kernel_rfl
  case hb => kernel_rfl
  case hp => kernel_rfl
  apply wpPl_ld
  case hi => rfl
  case h1 => intro w' hC K hK; obtain ⟨c0, c1, c2, c3, c4, c5, c6, c7, c8, c9, c10, c11⟩ := hC; (first | go_big_move | go_big_op); exact hK
  case hw => kernel_rfl
  case hv => kernel_rfl
  case hb => kernel_rfl
  case hp => kernel_rfl
  apply wpPl_ld
  case hi => rfl
  case h1 => intro w' hC K hK; obtain ⟨c0, c1, c2, c3, c4, c5, c6, c7, c8, c9, c10, c11⟩ := hC; (first | go_big_move | go_big_op); exact hK
  case hw => kernel_rfl
  case hv => kernel_rfl
  case hb => kernel_rfl
  case hp => kernel_rfl
  apply wpPl_call
  case hi => rfl
  case hw => kernel_rfl
  case h =>
  intro K hK
  have kb_20 := hb.size
  go_big_op
  go_fit (zabs_any (g2.zn LR.out) (by decide))
  rintro e w_20 ⟨v9, rfl, h9, hb_20⟩
  replace ha := ha.below hb_20 (Nat.le_refl _)
  replace hb' := hb'.below hb_20 (Nat.le_refl _)
  replace hp := hp.below hb_20 (Nat.le_refl _)
  replace hq := hq.below hb_20 (Nat.le_refl _)
  replace g1 := g1.below hb_20 (Nat.le_refl _)
  replace g2 := g2.below hb_20 (Nat.le_refl _)
  replace hz1 := hz1.below hb_20 (Nat.le_refl _)
  replace hz2 := hz2.below hb_20 (Nat.le_refl _)
  replace g3 := g3.below hb_20 (Nat.le_refl _)
  replace g4 := g4.below hb_20 (Nat.le_refl _)
  replace hz3 := hz3.below hb_20 (Nat.le_refl _)
  replace hz4 := hz4.below hb_20 (Nat.le_refl _)
  replace hb := hb.trans (hb_20.mono hb.size)
  refine hK _ _ rfl ⟨hp.facts.1, hp.facts.2.1, hq.facts.1, hq.facts.2.1, hz1.facts.1, hz1.facts.2.1, hz2.facts.1, hz2.facts.2.1, hz3.facts.1, hz3.facts.2.1, hz4.facts.1, hz4.facts.2.1⟩ ?_
  clear hK K hb_20
  replace h9 := h9.rd
  apply wpPl_call
  case hi => rfl
  case hw => kernel_rfl
  case h =>
  intro K hK
  have kb_21 := hb.size
  go_big_op
  go_fit (zabs_any hb' (by decide))
  rintro e w_21 ⟨v10, rfl, h10, hb_21⟩
  replace ha := ha.below hb_21 (Nat.le_refl _)
  replace hb' := hb'.below hb_21 (Nat.le_refl _)
  replace hp := hp.below hb_21 (Nat.le_refl _)
  replace hq := hq.below hb_21 (Nat.le_refl _)
  replace g1 := g1.below hb_21 (Nat.le_refl _)
  replace g2 := g2.below hb_21 (Nat.le_refl _)
  replace hz1 := hz1.below hb_21 (Nat.le_refl _)
  replace hz2 := hz2.below hb_21 (Nat.le_refl _)
  replace g3 := g3.below hb_21 (Nat.le_refl _)
  replace g4 := g4.below hb_21 (Nat.le_refl _)
  replace hz3 := hz3.below hb_21 (Nat.le_refl _)
  replace hz4 := hz4.below hb_21 (Nat.le_refl _)
  replace h9 := h9.below hb_21 (Nat.le_refl _)
  replace hb := hb.trans (hb_21.mono hb.size)
  refine hK _ _ rfl ⟨hp.facts.1, hp.facts.2.1, hq.facts.1, hq.facts.2.1, hz1.facts.1, hz1.facts.2.1, hz2.facts.1, hz2.facts.2.1, hz3.facts.1, hz3.facts.2.1, hz4.facts.1, hz4.facts.2.1⟩ ?_
  clear hK K hb_21
  replace h10 := h10.rd
  apply wpPl_call
  case hi => rfl
  case hw => kernel_rfl
  case h =>
  intro K hK
  have kb_22 := hb.size
  go_big_op
  go_fit (zcmp_any (h9.zn L8.out) (h10.zn L6.out) (by decide) (by decide))
  rintro e w_22 ⟨rfl, hb_22⟩
  replace ha := ha.below hb_22 (Nat.le_refl _)
  replace hb' := hb'.below hb_22 (Nat.le_refl _)
  replace hp := hp.below hb_22 (Nat.le_refl _)
  replace hq := hq.below hb_22 (Nat.le_refl _)
  replace g1 := g1.below hb_22 (Nat.le_refl _)
  replace g2 := g2.below hb_22 (Nat.le_refl _)
  replace hz1 := hz1.below hb_22 (Nat.le_refl _)
  replace hz2 := hz2.below hb_22 (Nat.le_refl _)
  replace g3 := g3.below hb_22 (Nat.le_refl _)
  replace g4 := g4.below hb_22 (Nat.le_refl _)
  replace hz3 := hz3.below hb_22 (Nat.le_refl _)
  replace hz4 := hz4.below hb_22 (Nat.le_refl _)
  replace h9 := h9.below hb_22 (Nat.le_refl _)
  replace h10 := h10.below hb_22 (Nat.le_refl _)
  replace hb := hb.trans (hb_22.mono hb.size)
  refine hK _ _ rfl ⟨hp.facts.1, hp.facts.2.1, hq.facts.1, hq.facts.2.1, hz1.facts.1, hz1.facts.2.1, hz2.facts.1, hz2.facts.2.1, hz3.facts.1, hz3.facts.2.1, hz4.facts.1, hz4.facts.2.1⟩ ?_
  clear hK K hb_22
  rw [E3.out]
  clear h9
  clear h10
  apply wpPl_ld
  case hi => rfl
  case h1 => intro w' hC K hK; obtain ⟨c0, c1, c2, c3, c4, c5, c6, c7, c8, c9, c10, c11⟩ := hC; (first | go_big_move | go_big_op); exact hK
  case hw => kernel_rfl
  case hv => kernel_rfl
  case hb => kernel_rfl
  case hp => kernel_rfl
  apply wpPl_ld
  case hi => rfl
  case h1 => intro w' hC K hK; obtain ⟨c0, c1, c2, c3, c4, c5, c6, c7, c8, c9, c10, c11⟩ := hC; (first | go_big_move | go_big_op); exact hK
  case hw => kernel_rfl
  case hv => kernel_rfl
  case hb => kernel_rfl
  case hp => kernel_rfl
  apply wpPl_end
  replace ha := ha.drew
  replace hb' := hb'.drew
  replace hp := hp.drew
  replace hq := hq.drew
  replace g1 := g1.drew
  replace g2 := g2.drew
  replace hz1 := hz1.drew
  replace hz2 := hz2.drew
  replace g3 := g3.drew
  replace g4 := g4.drew
  replace hz3 := hz3.drew
  replace hz4 := hz4.drew
  replace hb := hb.drew
  have lt_hp := hp.lt
  have lt_hq := hq.lt
  have lt_hz1 := hz1.lt
  have lt_hz2 := hz2.lt
  have lt_hz3 := hz3.lt
  have lt_hz4 := hz4.lt
  have kb0 := hb.size
  go_wp2_with fail
  refine wp_region_fl [(0, false), (1, false), (3, false), (2, true), (4, true), (5, true), (6, true)] [8] [7] (fun _ => obZ) [1, 1, 99, 0, 99, 99, 99, 99, 99] [] (fun w' => w'.cell? ⟨w.heap.size + 1, 0, none⟩ = some (.bool nb) ∧ w'.cell? ⟨w.heap.size + 1, 1, none⟩ = some (.slice ob ys.length cb) ∧ w'.cell? ⟨w_9.heap.size, 0, none⟩ = some (.bool sb_hz4) ∧ w'.cell? ⟨w_9.heap.size, 1, none⟩ = some (.slice o_hz4 n_hz4 c_hz4)) [fun w' => w'.cell? ⟨w.heap.size + 1, 0, none⟩ = some (.bool nb) ∧ w'.cell? ⟨w.heap.size + 1, 1, none⟩ = some (.slice ob ys.length cb), fun w' => w'.cell? ⟨w_9.heap.size, 0, none⟩ = some (.bool sb_hz4) ∧ w'.cell? ⟨w_9.heap.size, 1, none⟩ = some (.slice o_hz4 n_hz4 c_hz4)] (by kernel_rfl) (by kernel_rfl) (by kernel_rfl) (by kernel_rfl) (by kernel_rfl) (by kernel_rfl) (by kernel_rfl) (by kernel_rfl) (by decide) (by intro j hj; simp only [List.mem_cons, List.not_mem_nil, or_false] at hj; rcases hj with rfl; all_goals exact ⟨_, rfl, rfl, fun ρ w => run_alloc_z w⟩) (by intro w' o hC; obtain ⟨c0, c1, c2, c3⟩ := hC; exact ⟨cell_alloc c0 o, cell_alloc c1 o, cell_alloc c2 o, cell_alloc c3 o⟩) (by intro w' hC G hG; obtain ⟨c0, c1, c2, c3⟩ := hC; simp only [List.mem_cons, List.not_mem_nil, or_false] at hG; rcases hG with rfl | rfl <;> first | exact ⟨c0, c1⟩ | exact ⟨c2, c3⟩) ⟨hq.facts.1, hq.facts.2.1, hz4.facts.1, hz4.facts.2.1⟩ ?_
  apply wpFl_ld
  case hG => rfl
  case hi => rfl
  case h1 => intro w' hC K hK; obtain ⟨c0, c1⟩ := hC; (first | go_big_move | go_big_op); exact hK
  case hw => kernel_rfl
  case hv => kernel_rfl
  case hb => kernel_rfl
  case hp => kernel_rfl
  apply wpFl_ld
  case hG => rfl
  case hi => rfl
  case h1 => intro w' hC K hK; obtain ⟨c0, c1⟩ := hC; (first | go_big_move | go_big_op); exact hK
  case hw => kernel_rfl
  case hv => kernel_rfl
  case hb => kernel_rfl
  case hp => kernel_rfl
  apply wpFl_ld
  case hG => rfl
  case hi => rfl
  case h1 => intro w' hC K hK; obtain ⟨c0, c1⟩ := hC; (first | go_big_move | go_big_op); exact hK
  case hw => kernel_rfl
  case hv => kernel_rfl
  case hb => kernel_rfl
  case hp => kernel_rfl
  apply wpFl_call
  case hi => rfl
  case hw => kernel_rfl
  case h =>
  intro w_23 hn hC
  clear hC
  replace ha := ha.below hn (Nat.le_refl _)
  replace hb' := hb'.below hn (Nat.le_refl _)
  replace hp := hp.below hn (Nat.le_refl _)
  replace hq := hq.below hn (Nat.le_refl _)
  replace g1 := g1.below hn (Nat.le_refl _)
  replace g2 := g2.below hn (Nat.le_refl _)
  replace hz1 := hz1.below hn (Nat.le_refl _)
  replace hz2 := hz2.below hn (Nat.le_refl _)
  replace g3 := g3.below hn (Nat.le_refl _)
  replace g4 := g4.below hn (Nat.le_refl _)
  replace hz3 := hz3.below hn (Nat.le_refl _)
  replace hz4 := hz4.below hn (Nat.le_refl _)
  replace hb := hb.trans (hn.mono hb.size)
  clear hn
  intro K hK
  have kb_24 := hb.size
  go_big_op
  go_fit (zadd_any (g4.zn LT.out) (g4.zn LT.out) (by decide) (by decide))
  rintro e w_24 ⟨v11, rfl, h11, hb_24⟩
  replace ha := ha.below hb_24 (Nat.le_refl _)
  replace hb' := hb'.below hb_24 (Nat.le_refl _)
  replace hp := hp.below hb_24 (Nat.le_refl _)
  replace hq := hq.below hb_24 (Nat.le_refl _)
  replace g1 := g1.below hb_24 (Nat.le_refl _)
  replace g2 := g2.below hb_24 (Nat.le_refl _)
  replace hz1 := hz1.below hb_24 (Nat.le_refl _)
  replace hz2 := hz2.below hb_24 (Nat.le_refl _)
  replace g3 := g3.below hb_24 (Nat.le_refl _)
  replace g4 := g4.below hb_24 (Nat.le_refl _)
  replace hz3 := hz3.below hb_24 (Nat.le_refl _)
  replace hz4 := hz4.below hb_24 (Nat.le_refl _)
  replace hb := hb.trans (hb_24.mono hb.size)
  refine hK _ _ rfl hb_24 ⟨hq.facts.1, hq.facts.2.1, hz4.facts.1, hz4.facts.2.1⟩ ?_
  clear hK K hb_24
  replace h11 := h11.rd
  apply wpFl_call
  case hi => rfl
  case hw => kernel_rfl
  case h =>
  intro w_25 hn hC
  clear hC
  replace ha := ha.below hn (Nat.le_refl _)
  replace hb' := hb'.below hn (Nat.le_refl _)
  replace hp := hp.below hn (Nat.le_refl _)
  replace hq := hq.below hn (Nat.le_refl _)
  replace g1 := g1.below hn (Nat.le_refl _)
  replace g2 := g2.below hn (Nat.le_refl _)
  replace hz1 := hz1.below hn (Nat.le_refl _)
  replace hz2 := hz2.below hn (Nat.le_refl _)
  replace g3 := g3.below hn (Nat.le_refl _)
  replace g4 := g4.below hn (Nat.le_refl _)
  replace hz3 := hz3.below hn (Nat.le_refl _)
  replace hz4 := hz4.below hn (Nat.le_refl _)
  replace h11 := h11.below hn (Nat.le_refl _)
  replace hb := hb.trans (hn.mono hb.size)
  clear hn
  intro K hK
  have kb_26 := hb.size
  go_big_op
  go_fit (zsign_any hb' (by decide))
  rintro e w_26 ⟨rfl, hb_26⟩
  replace ha := ha.below hb_26 (Nat.le_refl _)
  replace hb' := hb'.below hb_26 (Nat.le_refl _)
  replace hp := hp.below hb_26 (Nat.le_refl _)
  replace hq := hq.below hb_26 (Nat.le_refl _)
  replace g1 := g1.below hb_26 (Nat.le_refl _)
  replace g2 := g2.below hb_26 (Nat.le_refl _)
  replace hz1 := hz1.below hb_26 (Nat.le_refl _)
  replace hz2 := hz2.below hb_26 (Nat.le_refl _)
  replace g3 := g3.below hb_26 (Nat.le_refl _)
  replace g4 := g4.below hb_26 (Nat.le_refl _)
  replace hz3 := hz3.below hb_26 (Nat.le_refl _)
  replace hz4 := hz4.below hb_26 (Nat.le_refl _)
  replace h11 := h11.below hb_26 (Nat.le_refl _)
  replace hb := hb.trans (hb_26.mono hb.size)
  refine hK _ _ rfl hb_26 ⟨hq.facts.1, hq.facts.2.1, hz4.facts.1, hz4.facts.2.1⟩ ?_
  clear hK K hb_26
  rw [E5.out.2.2.2]
  apply wpFl_call
  case hi => rfl
  case hw => kernel_rfl
  case h =>
  intro w_27 hn hC
  clear hC
  replace ha := ha.below hn (Nat.le_refl _)
  replace hb' := hb'.below hn (Nat.le_refl _)
  replace hp := hp.below hn (Nat.le_refl _)
  replace hq := hq.below hn (Nat.le_refl _)
  replace g1 := g1.below hn (Nat.le_refl _)
  replace g2 := g2.below hn (Nat.le_refl _)
  replace hz1 := hz1.below hn (Nat.le_refl _)
  replace hz2 := hz2.below hn (Nat.le_refl _)
  replace g3 := g3.below hn (Nat.le_refl _)
  replace g4 := g4.below hn (Nat.le_refl _)
  replace hz3 := hz3.below hn (Nat.le_refl _)
  replace hz4 := hz4.below hn (Nat.le_refl _)
  replace h11 := h11.below hn (Nat.le_refl _)
  replace hb := hb.trans (hn.mono hb.size)
  clear hn
  intro K hK
  have kb_28 := hb.size
  go_big_op
  go_fit (from_any S _ (by omega) (by omega))
  rintro e w_28 ⟨v12, rfl, h12, hb_28⟩
  replace ha := ha.below hb_28 (Nat.le_refl _)
  replace hb' := hb'.below hb_28 (Nat.le_refl _)
  replace hp := hp.below hb_28 (Nat.le_refl _)
  replace hq := hq.below hb_28 (Nat.le_refl _)
  replace g1 := g1.below hb_28 (Nat.le_refl _)
  replace g2 := g2.below hb_28 (Nat.le_refl _)
  replace hz1 := hz1.below hb_28 (Nat.le_refl _)
  replace hz2 := hz2.below hb_28 (Nat.le_refl _)
  replace g3 := g3.below hb_28 (Nat.le_refl _)
  replace g4 := g4.below hb_28 (Nat.le_refl _)
  replace hz3 := hz3.below hb_28 (Nat.le_refl _)
  replace hz4 := hz4.below hb_28 (Nat.le_refl _)
  replace h11 := h11.below hb_28 (Nat.le_refl _)
  replace hb := hb.trans (hb_28.mono hb.size)
  refine hK _ _ rfl hb_28 ⟨hq.facts.1, hq.facts.2.1, hz4.facts.1, hz4.facts.2.1⟩ ?_
  clear hK K hb_28
  replace h12 := h12.rd
  apply wpFl_call
  case hi => rfl
  case hw => kernel_rfl
  case h =>
  intro w_29 hn hC
  clear hC
  replace ha := ha.below hn (Nat.le_refl _)
  replace hb' := hb'.below hn (Nat.le_refl _)
  replace hp := hp.below hn (Nat.le_refl _)
  replace hq := hq.below hn (Nat.le_refl _)
  replace g1 := g1.below hn (Nat.le_refl _)
  replace g2 := g2.below hn (Nat.le_refl _)
  replace hz1 := hz1.below hn (Nat.le_refl _)
  replace hz2 := hz2.below hn (Nat.le_refl _)
  replace g3 := g3.below hn (Nat.le_refl _)
  replace g4 := g4.below hn (Nat.le_refl _)
  replace hz3 := hz3.below hn (Nat.le_refl _)
  replace hz4 := hz4.below hn (Nat.le_refl _)
  replace h11 := h11.below hn (Nat.le_refl _)
  replace h12 := h12.below hn (Nat.le_refl _)
  replace hb := hb.trans (hn.mono hb.size)
  clear hn
  intro K hK
  have kb_30 := hb.size
  go_big_op
  go_fit (zmul_any (h11.zn L5.out) (h12.zn (LS.out)) (by decide) (by decide))
  rintro e w_30 ⟨v13, rfl, h13, hb_30⟩
  replace ha := ha.below hb_30 (Nat.le_refl _)
  replace hb' := hb'.below hb_30 (Nat.le_refl _)
  replace hp := hp.below hb_30 (Nat.le_refl _)
  replace hq := hq.below hb_30 (Nat.le_refl _)
  replace g1 := g1.below hb_30 (Nat.le_refl _)
  replace g2 := g2.below hb_30 (Nat.le_refl _)
  replace hz1 := hz1.below hb_30 (Nat.le_refl _)
  replace hz2 := hz2.below hb_30 (Nat.le_refl _)
  replace g3 := g3.below hb_30 (Nat.le_refl _)
  replace g4 := g4.below hb_30 (Nat.le_refl _)
  replace hz3 := hz3.below hb_30 (Nat.le_refl _)
  replace hz4 := hz4.below hb_30 (Nat.le_refl _)
  replace h11 := h11.below hb_30 (Nat.le_refl _)
  replace h12 := h12.below hb_30 (Nat.le_refl _)
  replace hb := hb.trans (hb_30.mono hb.size)
  refine hK _ _ rfl hb_30 ⟨hq.facts.1, hq.facts.2.1, hz4.facts.1, hz4.facts.2.1⟩ ?_
  clear hK K hb_30
  replace h13 := h13.rd
  clear h11
  clear h12
  apply wpFl_end
  case ha => intro pt; simp only [putF, nthO, Act.put, ptr, List.setIfInBounds_toArray, List.set_cons_succ, List.set_cons_zero]; rfl
  case h =>
  intro w_31 pt hn hC hF hD
  clear hC
  replace ha := ha.below hn (Nat.le_refl _)
  replace hb' := hb'.below hn (Nat.le_refl _)
  replace hp := hp.below hn (Nat.le_refl _)
  replace hq := hq.below hn (Nat.le_refl _)
  replace g1 := g1.below hn (Nat.le_refl _)
  replace g2 := g2.below hn (Nat.le_refl _)
  replace hz1 := hz1.below hn (Nat.le_refl _)
  replace hz2 := hz2.below hn (Nat.le_refl _)
  replace g3 := g3.below hn (Nat.le_refl _)
  replace g4 := g4.below hn (Nat.le_refl _)
  replace hz3 := hz3.below hn (Nat.le_refl _)
  replace hz4 := hz4.below hn (Nat.le_refl _)
  replace h13 := h13.below hn (Nat.le_refl _)
  replace hb := hb.trans (hn.mono hb.size)
  clear hn
  obtain ⟨kB_hz5, hz5⟩ := hF 7 (by decide)
  replace hz5 := obZ_bk hz5
  clear hF hD
  generalize pt 7 = p_hz5 at *
  clear pt
  have kb_hz5 := Nat.le_trans kb0 kB_hz5
  have ne_hp_hz5 : w.heap.size ≠ p_hz5 := Nat.ne_of_lt (Nat.lt_of_lt_of_le lt_hp kB_hz5)
  have ne_hq_hz5 : w.heap.size + 1 ≠ p_hz5 := Nat.ne_of_lt (Nat.lt_of_lt_of_le lt_hq kB_hz5)
  have ne_hz1_hz5 : w_3.heap.size ≠ p_hz5 := Nat.ne_of_lt (Nat.lt_of_lt_of_le lt_hz1 kB_hz5)
  have ne_hz2_hz5 : w_4.heap.size ≠ p_hz5 := Nat.ne_of_lt (Nat.lt_of_lt_of_le lt_hz2 kB_hz5)
  have ne_hz3_hz5 : w_8.heap.size ≠ p_hz5 := Nat.ne_of_lt (Nat.lt_of_lt_of_le lt_hz3 kB_hz5)
  have ne_hz4_hz5 : w_9.heap.size ≠ p_hz5 := Nat.ne_of_lt (Nat.lt_of_lt_of_le lt_hz4 kB_hz5)
  clear kB_hz5
  clear lt_hp
  clear lt_hq
  clear lt_hz1
  clear lt_hz2
  clear lt_hz3
  clear lt_hz4
  clear kb0
  obtain ⟨sb_hz5, o_hz5, n_hz5, c_hz5, rfl⟩ := h13.open2
  apply wpTail_call
  case hi => rfl
  case hw => kernel_rfl
  case h =>
  intro K hK
  have c9 := hz5.facts
  go_big_op
  have ho := Bk.only w_31 (p_hz5) sb_hz5 (.slice o_hz5 n_hz5 c_hz5)
  have hbx_ := hz5.bx
  replace ha := ha.frame hbx_ ho
  replace hb' := hb'.frame hbx_ ho
  replace hp := hp.frame ho (by omega)
  replace hq := hq.frame ho (by omega)
  replace g1 := g1.frame hbx_ ho
  replace g2 := g2.frame hbx_ ho
  replace hz1 := hz1.frame ho (by omega)
  replace hz2 := hz2.frame ho (by omega)
  replace g3 := g3.frame hbx_ ho
  replace g4 := g4.frame hbx_ ho
  replace hz3 := hz3.frame ho (by omega)
  replace hz4 := hz4.frame ho (by omega)
  replace h13 := h13.frame hbx_ ho
  replace hz5 := hz5.store sb_hz5 (.slice o_hz5 n_hz5 c_hz5)
  replace hb := (hb.setCell (p := ⟨p_hz5, 0, none⟩) (show w.heap.size ≤ p_hz5 by omega) (.bool sb_hz5)).setCell (p := ⟨p_hz5, 1, none⟩) (show w.heap.size ≤ p_hz5 by omega) (.slice o_hz5 n_hz5 c_hz5)
  refine hK _ _ rfl (And.intro (And.intro hq.facts.1 hq.facts.2.1) (And.intro (And.intro hz4.facts.1 hz4.facts.2.1) True.intro)) ?_
  clear hK K hbx_ ho c9
  apply wpTail_end
  replace ha := ha.drew
  replace hb' := hb'.drew
  replace hp := hp.drew
  replace hq := hq.drew
  replace g1 := g1.drew
  replace g2 := g2.drew
  replace hz1 := hz1.drew
  replace hz2 := hz2.drew
  replace g3 := g3.drew
  replace g4 := g4.drew
  replace hz3 := hz3.drew
  replace hz4 := hz4.drew
  replace h13 := h13.drew
  replace hz5 := hz5.drew
  replace hb := hb.drew
  go_wp2_with fail
  refine wp_region_pl [(0, false), (1, false), (2, true), (3, true), (4, true), (5, false), (6, false), (7, false), (8, false), (9, true), (10, true), (11, false), (12, false), (13, false)] (fun w' => w'.cell? ⟨w.heap.size, 0, none⟩ = some (.bool na) ∧ w'.cell? ⟨w.heap.size, 1, none⟩ = some (.slice oa xs.length ca) ∧ w'.cell? ⟨w.heap.size + 1, 0, none⟩ = some (.bool nb) ∧ w'.cell? ⟨w.heap.size + 1, 1, none⟩ = some (.slice ob ys.length cb) ∧ w'.cell? ⟨w_3.heap.size, 0, none⟩ = some (.bool sb_hz1) ∧ w'.cell? ⟨w_3.heap.size, 1, none⟩ = some (.slice o_hz1 n_hz1 c_hz1) ∧ w'.cell? ⟨w_4.heap.size, 0, none⟩ = some (.bool sb_hz2) ∧ w'.cell? ⟨w_4.heap.size, 1, none⟩ = some (.slice o_hz2 n_hz2 c_hz2) ∧ w'.cell? ⟨w_8.heap.size, 0, none⟩ = some (.bool sb_hz3) ∧ w'.cell? ⟨w_8.heap.size, 1, none⟩ = some (.slice o_hz3 n_hz3 c_hz3) ∧ w'.cell? ⟨w_9.heap.size, 0, none⟩ = some (.bool sb_hz4) ∧ w'.cell? ⟨w_9.heap.size, 1, none⟩ = some (.slice o_hz4 n_hz4 c_hz4) ∧ w'.cell? ⟨p_hz5, 0, none⟩ = some (.bool sb_hz5) ∧ w'.cell? ⟨p_hz5, 1, none⟩ = some (.slice o_hz5 n_hz5 c_hz5)) (by kernel_rfl) (by kernel_rfl) (by kernel_rfl) (by kernel_rfl) ⟨hp.facts.1, hp.facts.2.1, hq.facts.1, hq.facts.2.1, hz1.facts.1, hz1.facts.2.1, hz2.facts.1, hz2.facts.2.1, hz3.facts.1, hz3.facts.2.1, hz4.facts.1, hz4.facts.2.1, hz5.facts.1, hz5.facts.2.1⟩ ?_
  apply wpPl_ld
  case hi => rfl
  case h1 => intro w' hC K hK; obtain ⟨c0, c1, c2, c3, c4, c5, c6, c7, c8, c9, c10, c11, c12, c13⟩ := hC; (first | go_big_move | go_big_op); exact hK
  case hw => kernel_rfl
  case hv => kernel_rfl
  case hb => kernel_rfl
  case hp => kernel_rfl
  apply wpPl_ld
  case hi => rfl
  case h1 => intro w' hC K hK; obtain ⟨c0, c1, c2, c3, c4, c5, c6, c7, c8, c9, c10, c11, c12, c13⟩ := hC; (first | go_big_move | go_big_op); exact hK
  case hw => kernel_rfl
  case hv => kernel_rfl
  case hb => kernel_rfl
  case hp => kernel_rfl
  apply wpPl_call
  case hi => rfl
  case hw => kernel_rfl
  case h =>
  intro K hK
  have kb_32 := hb.size
  go_big_op
  go_fit (zabs_any hb' (by decide))
  rintro e w_32 ⟨v14, rfl, h14, hb_32⟩
  replace ha := ha.below hb_32 (Nat.le_refl _)
  replace hb' := hb'.below hb_32 (Nat.le_refl _)
  replace hp := hp.below hb_32 (Nat.le_refl _)
  replace hq := hq.below hb_32 (Nat.le_refl _)
  replace g1 := g1.below hb_32 (Nat.le_refl _)
  replace g2 := g2.below hb_32 (Nat.le_refl _)
  replace hz1 := hz1.below hb_32 (Nat.le_refl _)
  replace hz2 := hz2.below hb_32 (Nat.le_refl _)
  replace g3 := g3.below hb_32 (Nat.le_refl _)
  replace g4 := g4.below hb_32 (Nat.le_refl _)
  replace hz3 := hz3.below hb_32 (Nat.le_refl _)
  replace hz4 := hz4.below hb_32 (Nat.le_refl _)
  replace h13 := h13.below hb_32 (Nat.le_refl _)
  replace hz5 := hz5.below hb_32 (Nat.le_refl _)
  replace hb := hb.trans (hb_32.mono hb.size)
  refine hK _ _ rfl ⟨hp.facts.1, hp.facts.2.1, hq.facts.1, hq.facts.2.1, hz1.facts.1, hz1.facts.2.1, hz2.facts.1, hz2.facts.2.1, hz3.facts.1, hz3.facts.2.1, hz4.facts.1, hz4.facts.2.1, hz5.facts.1, hz5.facts.2.1⟩ ?_
  clear hK K hb_32
  replace h14 := h14.rd
  apply wpPl_call
  case hi => rfl
  case hw => kernel_rfl
  case h =>
  intro K hK
  have kb_33 := hb.size
  go_big_op
  go_fit (zneg_any (h14.zn L6.out) (by decide))
  rintro e w_33 ⟨v15, rfl, h15, hb_33⟩
  replace ha := ha.below hb_33 (Nat.le_refl _)
  replace hb' := hb'.below hb_33 (Nat.le_refl _)
  replace hp := hp.below hb_33 (Nat.le_refl _)
  replace hq := hq.below hb_33 (Nat.le_refl _)
  replace g1 := g1.below hb_33 (Nat.le_refl _)
  replace g2 := g2.below hb_33 (Nat.le_refl _)
  replace hz1 := hz1.below hb_33 (Nat.le_refl _)
  replace hz2 := hz2.below hb_33 (Nat.le_refl _)
  replace g3 := g3.below hb_33 (Nat.le_refl _)
  replace g4 := g4.below hb_33 (Nat.le_refl _)
  replace hz3 := hz3.below hb_33 (Nat.le_refl _)
  replace hz4 := hz4.below hb_33 (Nat.le_refl _)
  replace h13 := h13.below hb_33 (Nat.le_refl _)
  replace hz5 := hz5.below hb_33 (Nat.le_refl _)
  replace h14 := h14.below hb_33 (Nat.le_refl _)
  replace hb := hb.trans (hb_33.mono hb.size)
  refine hK _ _ rfl ⟨hp.facts.1, hp.facts.2.1, hq.facts.1, hq.facts.2.1, hz1.facts.1, hz1.facts.2.1, hz2.facts.1, hz2.facts.2.1, hz3.facts.1, hz3.facts.2.1, hz4.facts.1, hz4.facts.2.1, hz5.facts.1, hz5.facts.2.1⟩ ?_
  clear hK K hb_33
  replace h15 := h15.rd
  clear h14
  apply wpPl_call
  case hi => rfl
  case hw => kernel_rfl
  case h =>
  intro K hK
  have kb_34 := hb.size
  go_big_op
  go_fit (zcmp_any (h13.zn L9.out) (h15.zn L7.out) (by decide) (by decide))
  rintro e w_34 ⟨rfl, hb_34⟩
  replace ha := ha.below hb_34 (Nat.le_refl _)
  replace hb' := hb'.below hb_34 (Nat.le_refl _)
  replace hp := hp.below hb_34 (Nat.le_refl _)
  replace hq := hq.below hb_34 (Nat.le_refl _)
  replace g1 := g1.below hb_34 (Nat.le_refl _)
  replace g2 := g2.below hb_34 (Nat.le_refl _)
  replace hz1 := hz1.below hb_34 (Nat.le_refl _)
  replace hz2 := hz2.below hb_34 (Nat.le_refl _)
  replace g3 := g3.below hb_34 (Nat.le_refl _)
  replace g4 := g4.below hb_34 (Nat.le_refl _)
  replace hz3 := hz3.below hb_34 (Nat.le_refl _)
  replace hz4 := hz4.below hb_34 (Nat.le_refl _)
  replace h13 := h13.below hb_34 (Nat.le_refl _)
  replace hz5 := hz5.below hb_34 (Nat.le_refl _)
  replace h15 := h15.below hb_34 (Nat.le_refl _)
  replace hb := hb.trans (hb_34.mono hb.size)
  refine hK _ _ rfl ⟨hp.facts.1, hp.facts.2.1, hq.facts.1, hq.facts.2.1, hz1.facts.1, hz1.facts.2.1, hz2.facts.1, hz2.facts.2.1, hz3.facts.1, hz3.facts.2.1, hz4.facts.1, hz4.facts.2.1, hz5.facts.1, hz5.facts.2.1⟩ ?_
  clear hK K hb_34
  rw [E5.out.1]
  clear h15
  apply wpPl_ld
  case hi => rfl
  case h1 => intro w' hC K hK; obtain ⟨c0, c1, c2, c3, c4, c5, c6, c7, c8, c9, c10, c11, c12, c13⟩ := hC; (first | go_big_move | go_big_op); exact hK
  case hw => kernel_rfl
  case hv => kernel_rfl
  case hb => kernel_rfl
  case hp => kernel_rfl
  apply wpPl_ld
  case hi => rfl
  case h1 => intro w' hC K hK; obtain ⟨c0, c1, c2, c3, c4, c5, c6, c7, c8, c9, c10, c11, c12, c13⟩ := hC; (first | go_big_move | go_big_op); exact hK
  case hw => kernel_rfl
  case hv => kernel_rfl
  case hb => kernel_rfl
  case hp => kernel_rfl
  apply wpPl_ld
  case hi => rfl
  case h1 => intro w' hC K hK; obtain ⟨c0, c1, c2, c3, c4, c5, c6, c7, c8, c9, c10, c11, c12, c13⟩ := hC; (first | go_big_move | go_big_op); exact hK
  case hw => kernel_rfl
  case hv => kernel_rfl
  case hb => kernel_rfl
  case hp => kernel_rfl
  apply wpPl_ld
  case hi => rfl
  case h1 => intro w' hC K hK; obtain ⟨c0, c1, c2, c3, c4, c5, c6, c7, c8, c9, c10, c11, c12, c13⟩ := hC; (first | go_big_move | go_big_op); exact hK
  case hw => kernel_rfl
  case hv => kernel_rfl
  case hb => kernel_rfl
  case hp => kernel_rfl
  apply wpPl_call
  case hi => rfl
  case hw => kernel_rfl
  case h =>
  intro K hK
  have kb_35 := hb.size
  go_big_op
  go_fit (zabs_any hb' (by decide))
  rintro e w_35 ⟨v16, rfl, h16, hb_35⟩
  replace ha := ha.below hb_35 (Nat.le_refl _)
  replace hb' := hb'.below hb_35 (Nat.le_refl _)
  replace hp := hp.below hb_35 (Nat.le_refl _)
  replace hq := hq.below hb_35 (Nat.le_refl _)
  replace g1 := g1.below hb_35 (Nat.le_refl _)
  replace g2 := g2.below hb_35 (Nat.le_refl _)
  replace hz1 := hz1.below hb_35 (Nat.le_refl _)
  replace hz2 := hz2.below hb_35 (Nat.le_refl _)
  replace g3 := g3.below hb_35 (Nat.le_refl _)
  replace g4 := g4.below hb_35 (Nat.le_refl _)
  replace hz3 := hz3.below hb_35 (Nat.le_refl _)
  replace hz4 := hz4.below hb_35 (Nat.le_refl _)
  replace h13 := h13.below hb_35 (Nat.le_refl _)
  replace hz5 := hz5.below hb_35 (Nat.le_refl _)
  replace hb := hb.trans (hb_35.mono hb.size)
  refine hK _ _ rfl ⟨hp.facts.1, hp.facts.2.1, hq.facts.1, hq.facts.2.1, hz1.facts.1, hz1.facts.2.1, hz2.facts.1, hz2.facts.2.1, hz3.facts.1, hz3.facts.2.1, hz4.facts.1, hz4.facts.2.1, hz5.facts.1, hz5.facts.2.1⟩ ?_
  clear hK K hb_35
  replace h16 := h16.rd
  apply wpPl_call
  case hi => rfl
  case hw => kernel_rfl
  case h =>
  intro K hK
  have kb_36 := hb.size
  go_big_op
  go_fit (zcmp_any (h13.zn L9.out) (h16.zn L6.out) (by decide) (by decide))
  rintro e w_36 ⟨rfl, hb_36⟩
  replace ha := ha.below hb_36 (Nat.le_refl _)
  replace hb' := hb'.below hb_36 (Nat.le_refl _)
  replace hp := hp.below hb_36 (Nat.le_refl _)
  replace hq := hq.below hb_36 (Nat.le_refl _)
  replace g1 := g1.below hb_36 (Nat.le_refl _)
  replace g2 := g2.below hb_36 (Nat.le_refl _)
  replace hz1 := hz1.below hb_36 (Nat.le_refl _)
  replace hz2 := hz2.below hb_36 (Nat.le_refl _)
  replace g3 := g3.below hb_36 (Nat.le_refl _)
  replace g4 := g4.below hb_36 (Nat.le_refl _)
  replace hz3 := hz3.below hb_36 (Nat.le_refl _)
  replace hz4 := hz4.below hb_36 (Nat.le_refl _)
  replace h13 := h13.below hb_36 (Nat.le_refl _)
  replace hz5 := hz5.below hb_36 (Nat.le_refl _)
  replace h16 := h16.below hb_36 (Nat.le_refl _)
  replace hb := hb.trans (hb_36.mono hb.size)
  refine hK _ _ rfl ⟨hp.facts.1, hp.facts.2.1, hq.facts.1, hq.facts.2.1, hz1.facts.1, hz1.facts.2.1, hz2.facts.1, hz2.facts.2.1, hz3.facts.1, hz3.facts.2.1, hz4.facts.1, hz4.facts.2.1, hz5.facts.1, hz5.facts.2.1⟩ ?_
  clear hK K hb_36
  rw [E4.out]
  clear h16
  apply wpPl_ld
  case hi => rfl
  case h1 => intro w' hC K hK; obtain ⟨c0, c1, c2, c3, c4, c5, c6, c7, c8, c9, c10, c11, c12, c13⟩ := hC; (first | go_big_move | go_big_op); exact hK
  case hw => kernel_rfl
  case hv => kernel_rfl
  case hb => kernel_rfl
  case hp => kernel_rfl
  apply wpPl_ld
  case hi => rfl
  case h1 => intro w' hC K hK; obtain ⟨c0, c1, c2, c3, c4, c5, c6, c7, c8, c9, c10, c11, c12, c13⟩ := hC; (first | go_big_move | go_big_op); exact hK
  case hw => kernel_rfl
  case hv => kernel_rfl
  case hb => kernel_rfl
  case hp => kernel_rfl
  apply wpPl_ld
  case hi => rfl
  case h1 => intro w' hC K hK; obtain ⟨c0, c1, c2, c3, c4, c5, c6, c7, c8, c9, c10, c11, c12, c13⟩ := hC; (first | go_big_move | go_big_op); exact hK
  case hw => kernel_rfl
  case hv => kernel_rfl
  case hb => kernel_rfl
  case hp => kernel_rfl
  apply wpPl_end
  go_wp2
  go_ret
  exact ⟨rfl, hb⟩

set_option maxHeartbeats 4000000 in
set_option maxRecDepth 20000 in
theorem rests_walk1 {w : World} {va vb : Value} {x y : Int} (ha : ZN w va x 1048576) (hb' : ZN w vb y 1048576) (h0 : y ≠ 0) (hr0 : x.fmod y ≠ 0) (htab : Lib.TabIs Tryd.prog w p10 .u64 Lib.pow10Tab) :
    Calls Tryd.prog 11 #[va, vb] w fun e w' => e = .returned (.bool true) ∧ Below w.heap.size w w' := by
  have htabs := Lib.tabBelow_of_tabIs htab
  have Lx := ha.len
  have Ly := hb'.len
  have LQ := hide (fdiv_len h0 Lx)
  have LR := hide (fmod_len (x := x) h0 Ly)
  have LN := hide (rnd_len h0 Lx)
  have LT := hide (rrest_len (x := x) h0 Ly)
  have L1 := hide (zlen_mul LQ.out Ly)
  have L2 := hide (show (dig (x.fdiv y * y + x.fmod y).natAbs).length ≤ 4000000 by rw [← fmod_eq x y]; omega)
  have L3 := hide (zlen_mul LN.out Ly)
  have L6 := hide (show (dig ((y.natAbs : Int)).natAbs).length ≤ 1048576 from Ly)
  have L7 := hide (show (dig (-(y.natAbs : Int)).natAbs).length ≤ 1048576 by rw [Int.natAbs_neg]; exact Ly)
  have L8 := hide (show (dig (((x.fmod y).natAbs : Int)).natAbs).length ≤ 1048576 from LR.out)
  obtain ⟨N, hN⟩ : ∃ N, rnd x y = N := ⟨_, rfl⟩
  obtain ⟨T, hT⟩ : ∃ T, x - rnd x y * y = T := ⟨_, rfl⟩
  obtain ⟨S, hS⟩ : ∃ S, y.sign = S := ⟨_, rfl⟩
  have hbd := nearest_bd (x := x) h0
  rw [hT, hS] at hbd
  have hT2 : N * y + T = x := by rw [← hT, hN]; omega
  have L4 := hide (show (dig (N * y + T).natAbs).length ≤ 4000000 by rw [hT2]; omega)
  have L5 := hide (zlen_add (x := T) (y := T) (by rw [← hT]; exact LT.out) (by rw [← hT]; exact LT.out))
  have L9 := hide (show (dig ((T + T) * S).natAbs).length ≤ 4000000 from Nat.le_trans (zlen_mul L5.out (by rw [← hS]; exact sign_len y)) (by omega))
  obtain ⟨D, hD⟩ : ∃ D, zcmp ((T + T) * S) (-(y.natAbs : Int)) = D := ⟨_, rfl⟩
  have hD0 : 0 ≤ D := by rw [← hD]; exact zcmp_ge hbd.1
  have hD1 : (D < 0) = False := eq_false (by omega)
  have E1 := hide (fmod_eq x y).symm
  have E2 := hide hT2
  have E3 := hide (zcmp_lt (fmod_lt (x := x) h0))
  have E4 := hide (zcmp_lt hbd.2)
  have E5 := hide (And.intro hD (And.intro hN (And.intro hT hS)))
  have hSb := sign_bd y
  rw [hS] at hSb
  have hS1 := hSb.1
  have hS2 := hSb.2
  have hSw : IntKind.i64.wrap S = S := by rw [IntKind.wrap_i64]; omega
  have hS0 : (S == 0) = false := by rw [beq_eq_false_iff_ne, ← hS]; exact fun h => h0 (Int.sign_eq_zero_iff_zero.1 h)
  have hSn : (S != 0) = true := by rw [bne, hS0]; rfl
  have hSS : (S != S) = false := by simp
  have HSR := hide (show (x.fmod y).sign = S by rw [fmod_sign h0 hr0, hS])
  have H0 := hide h0
  have e0 : ((0 : Int) == 0) = true := rfl
  have e1 : ((0 : Int) != 0) = false := rfl
  rw [hN] at LN L3
  rw [hT] at LT
  have LS := hide (show (dig S.natAbs).length ≤ 2 from zlen_i S (by omega) (by omega))
  clear hr0 h0 hD hN hT hS hT2 hbd hSb Lx Ly
  obtain ⟨na, oa, ca, xs, rfl, hca, _, _, hxl⟩ := ha.open_
  obtain ⟨nb, ob, cb, ys, rfl, hcb, _, _, hyl⟩ := hb'.open_
  go_enter Tryd.func11, Tryd.ntmps11
  have hb := Below.refl w.heap.size w
  have hp := Bk.new w na (.slice oa xs.length ca)
  replace ha := ha.alloc (.cells #[.bool na, (.slice oa xs.length ca)] 24)
  replace hb' := hb'.alloc (.cells #[.bool na, (.slice oa xs.length ca)] 24)
  replace hb := hb.alloc hb.size (.cells #[.bool na, (.slice oa xs.length ca)] 24)
  have hq := Bk.new (w.alloc (.cells #[.bool na, (.slice oa xs.length ca)] 24)) nb (.slice ob ys.length cb)
  simp only [Bk.size_alloc] at hq
  replace ha := ha.alloc (.cells #[.bool nb, (.slice ob ys.length cb)] 24)
  replace hb' := hb'.alloc (.cells #[.bool nb, (.slice ob ys.length cb)] 24)
  replace hp := hp.alloc (.cells #[.bool nb, (.slice ob ys.length cb)] 24)
  replace hb := hb.alloc hb.size (.cells #[.bool nb, (.slice ob ys.length cb)] 24)
  go_wp2_with fail
  refine (zawake_any _ (htabs _ hb)).mono ?_
  rintro e w_1 ⟨rfl, hb_1⟩
  replace ha := ha.below hb_1 (Nat.le_refl _)
  replace hb' := hb'.below hb_1 (Nat.le_refl _)
  replace hp := hp.below hb_1 (Nat.le_refl _)
  replace hq := hq.below hb_1 (Nat.le_refl _)
  replace hb := hb.trans (hb_1.mono hb.size)
  clear hb_1
  have f_hq := hq.facts
  go_wp2_with fail
  refine (zsign_any hb' (by decide)).mono ?_
  rintro e w_2 ⟨rfl, hb_2⟩
  replace ha := ha.below hb_2 (Nat.le_refl _)
  replace hb' := hb'.below hb_2 (Nat.le_refl _)
  replace hp := hp.below hb_2 (Nat.le_refl _)
  replace hq := hq.below hb_2 (Nat.le_refl _)
  replace hb := hb.trans (hb_2.mono hb.size)
  clear hb_2
  rw [E5.out.2.2.2]
  clear f_hq
  have f_hp := hp.facts
  have f_hq := hq.facts
  go_wp2_with fail
  refine (fdiv_any ha hb' (by decide) (by decide) H0.out).mono ?_
  rintro e w_3 ⟨v1, v2, rfl, g1, g2, hb_3⟩
  replace ha := ha.below hb_3 (Nat.le_refl _)
  replace hb' := hb'.below hb_3 (Nat.le_refl _)
  replace hp := hp.below hb_3 (Nat.le_refl _)
  replace hq := hq.below hb_3 (Nat.le_refl _)
  replace hb := hb.trans (hb_3.mono hb.size)
  clear hb_3
  replace g1 := g1.rd
  replace g2 := g2.rd
  clear f_hp f_hq
  have kb_hz1 := hb.size
  have ne_hp_hz1 : w.heap.size ≠ w_3.heap.size := by have := hp.lt; (try simp only [Bk.size_alloc] at this); omega
  have ne_hq_hz1 : w.heap.size + 1 ≠ w_3.heap.size := by have := hq.lt; (try simp only [Bk.size_alloc] at this); omega
  have hz1 := Bk.new w_3 false (.slice none 0 0)
  replace ha := ha.alloc (.cells #[.bool false, (.slice none 0 0)] 24)
  replace hb' := hb'.alloc (.cells #[.bool false, (.slice none 0 0)] 24)
  replace hp := hp.alloc (.cells #[.bool false, (.slice none 0 0)] 24)
  replace hq := hq.alloc (.cells #[.bool false, (.slice none 0 0)] 24)
  replace g1 := g1.alloc (.cells #[.bool false, (.slice none 0 0)] 24)
  replace g2 := g2.alloc (.cells #[.bool false, (.slice none 0 0)] 24)
  replace hb := hb.alloc hb.size (.cells #[.bool false, (.slice none 0 0)] 24)
  obtain ⟨w_4, hw_4⟩ : ∃ v, (w_3.alloc (.cells #[.bool false, (.slice none 0 0)] 24)) = v := ⟨_, rfl⟩
  rw [hw_4] at ha hb' hp hq g1 g2 hz1 hb
  have kb_hz2 := hb.size
  have ne_hp_hz2 : w.heap.size ≠ w_4.heap.size := by have := hp.lt; (try simp only [Bk.size_alloc] at this); omega
  have ne_hq_hz2 : w.heap.size + 1 ≠ w_4.heap.size := by have := hq.lt; (try simp only [Bk.size_alloc] at this); omega
  have ne_hz1_hz2 : w_3.heap.size ≠ w_4.heap.size := by have := hz1.lt; (try simp only [Bk.size_alloc] at this); omega
  have hz2 := Bk.new w_4 false (.slice none 0 0)
  replace ha := ha.alloc (.cells #[.bool false, (.slice none 0 0)] 24)
  replace hb' := hb'.alloc (.cells #[.bool false, (.slice none 0 0)] 24)
  replace hp := hp.alloc (.cells #[.bool false, (.slice none 0 0)] 24)
  replace hq := hq.alloc (.cells #[.bool false, (.slice none 0 0)] 24)
  replace g1 := g1.alloc (.cells #[.bool false, (.slice none 0 0)] 24)
  replace g2 := g2.alloc (.cells #[.bool false, (.slice none 0 0)] 24)
  replace hz1 := hz1.alloc (.cells #[.bool false, (.slice none 0 0)] 24)
  replace hb := hb.alloc hb.size (.cells #[.bool false, (.slice none 0 0)] 24)
  obtain ⟨w_5, hw_5⟩ : ∃ v, (w_4.alloc (.cells #[.bool false, (.slice none 0 0)] 24)) = v := ⟨_, rfl⟩
  rw [hw_5] at ha hb' hp hq g1 g2 hz1 hz2 hb
  obtain ⟨sb_hz1, o_hz1, n_hz1, c_hz1, rfl⟩ := g1.open2
  have f_hz1 := hz1.facts
  have ho := Bk.only w_5 (w_3.heap.size) sb_hz1 (.slice o_hz1 n_hz1 c_hz1)
  have hbx_ := hz1.bx
  replace ha := ha.frame hbx_ ho
  replace hb' := hb'.frame hbx_ ho
  replace hp := hp.frame ho (by omega)
  replace hq := hq.frame ho (by omega)
  replace g1 := g1.frame hbx_ ho
  replace g2 := g2.frame hbx_ ho
  replace hz2 := hz2.frame ho (by omega)
  replace hz1 := hz1.store sb_hz1 (.slice o_hz1 n_hz1 c_hz1)
  replace hb := (hb.setCell (p := ⟨w_3.heap.size, 0, none⟩) (show w.heap.size ≤ w_3.heap.size by omega) (.bool sb_hz1)).setCell (p := ⟨w_3.heap.size, 1, none⟩) (show w.heap.size ≤ w_3.heap.size by omega) (.slice o_hz1 n_hz1 c_hz1)
  clear ho hbx_
  obtain ⟨w_6, hw_6⟩ : ∃ v, ((w_5.setCell ⟨w_3.heap.size, 0, none⟩ (.bool sb_hz1)).setCell ⟨w_3.heap.size, 1, none⟩ (.slice o_hz1 n_hz1 c_hz1)) = v := ⟨_, rfl⟩
  rw [hw_6] at ha hb' hp hq g1 g2 hz1 hz2 hb
  obtain ⟨sb_hz2, o_hz2, n_hz2, c_hz2, rfl⟩ := g2.open2
  have f_hz2 := hz2.facts
  have ho := Bk.only w_6 (w_4.heap.size) sb_hz2 (.slice o_hz2 n_hz2 c_hz2)
  have hbx_ := hz2.bx
  replace ha := ha.frame hbx_ ho
  replace hb' := hb'.frame hbx_ ho
  replace hp := hp.frame ho (by omega)
  replace hq := hq.frame ho (by omega)
  replace g1 := g1.frame hbx_ ho
  replace g2 := g2.frame hbx_ ho
  replace hz1 := hz1.frame ho (by omega)
  replace hz2 := hz2.store sb_hz2 (.slice o_hz2 n_hz2 c_hz2)
  replace hb := (hb.setCell (p := ⟨w_4.heap.size, 0, none⟩) (show w.heap.size ≤ w_4.heap.size by omega) (.bool sb_hz2)).setCell (p := ⟨w_4.heap.size, 1, none⟩) (show w.heap.size ≤ w_4.heap.size by omega) (.slice o_hz2 n_hz2 c_hz2)
  clear ho hbx_
  obtain ⟨w_7, hw_7⟩ : ∃ v, ((w_6.setCell ⟨w_4.heap.size, 0, none⟩ (.bool sb_hz2)).setCell ⟨w_4.heap.size, 1, none⟩ (.slice o_hz2 n_hz2 c_hz2)) = v := ⟨_, rfl⟩
  rw [hw_7] at ha hb' hp hq g1 g2 hz1 hz2 hb
  have f_hp := hp.facts
  have f_hq := hq.facts
  go_wp2_with fail
  refine (rdiv_any ha hb' (by decide) (by decide) H0.out).mono ?_
  rintro e w_8 ⟨v3, v4, rfl, g3, g4, hb_8⟩
  replace ha := ha.below hb_8 (Nat.le_refl _)
  replace hb' := hb'.below hb_8 (Nat.le_refl _)
  replace hp := hp.below hb_8 (Nat.le_refl _)
  replace hq := hq.below hb_8 (Nat.le_refl _)
  replace g1 := g1.below hb_8 (Nat.le_refl _)
  replace g2 := g2.below hb_8 (Nat.le_refl _)
  replace hz1 := hz1.below hb_8 (Nat.le_refl _)
  replace hz2 := hz2.below hb_8 (Nat.le_refl _)
  replace hb := hb.trans (hb_8.mono hb.size)
  clear hb_8
  rw [E5.out.2.1] at g3
  rw [E5.out.2.2.1] at g4
  replace g3 := g3.rd
  replace g4 := g4.rd
  clear f_hp f_hq
  have kb_hz3 := hb.size
  have ne_hp_hz3 : w.heap.size ≠ w_8.heap.size := by have := hp.lt; (try simp only [Bk.size_alloc] at this); omega
  have ne_hq_hz3 : w.heap.size + 1 ≠ w_8.heap.size := by have := hq.lt; (try simp only [Bk.size_alloc] at this); omega
  have ne_hz1_hz3 : w_3.heap.size ≠ w_8.heap.size := by have := hz1.lt; (try simp only [Bk.size_alloc] at this); omega
  have ne_hz2_hz3 : w_4.heap.size ≠ w_8.heap.size := by have := hz2.lt; (try simp only [Bk.size_alloc] at this); omega
  have hz3 := Bk.new w_8 false (.slice none 0 0)
  replace ha := ha.alloc (.cells #[.bool false, (.slice none 0 0)] 24)
  replace hb' := hb'.alloc (.cells #[.bool false, (.slice none 0 0)] 24)
  replace hp := hp.alloc (.cells #[.bool false, (.slice none 0 0)] 24)
  replace hq := hq.alloc (.cells #[.bool false, (.slice none 0 0)] 24)
  replace g1 := g1.alloc (.cells #[.bool false, (.slice none 0 0)] 24)
  replace g2 := g2.alloc (.cells #[.bool false, (.slice none 0 0)] 24)
  replace hz1 := hz1.alloc (.cells #[.bool false, (.slice none 0 0)] 24)
  replace hz2 := hz2.alloc (.cells #[.bool false, (.slice none 0 0)] 24)
  replace g3 := g3.alloc (.cells #[.bool false, (.slice none 0 0)] 24)
  replace g4 := g4.alloc (.cells #[.bool false, (.slice none 0 0)] 24)
  replace hb := hb.alloc hb.size (.cells #[.bool false, (.slice none 0 0)] 24)
  obtain ⟨w_9, hw_9⟩ : ∃ v, (w_8.alloc (.cells #[.bool false, (.slice none 0 0)] 24)) = v := ⟨_, rfl⟩
  rw [hw_9] at ha hb' hp hq g1 g2 hz1 hz2 g3 g4 hz3 hb
  have kb_hz4 := hb.size
  have ne_hp_hz4 : w.heap.size ≠ w_9.heap.size := by have := hp.lt; (try simp only [Bk.size_alloc] at this); omega
  have ne_hq_hz4 : w.heap.size + 1 ≠ w_9.heap.size := by have := hq.lt; (try simp only [Bk.size_alloc] at this); omega
  have ne_hz1_hz4 : w_3.heap.size ≠ w_9.heap.size := by have := hz1.lt; (try simp only [Bk.size_alloc] at this); omega
  have ne_hz2_hz4 : w_4.heap.size ≠ w_9.heap.size := by have := hz2.lt; (try simp only [Bk.size_alloc] at this); omega
  have ne_hz3_hz4 : w_8.heap.size ≠ w_9.heap.size := by have := hz3.lt; (try simp only [Bk.size_alloc] at this); omega
  have hz4 := Bk.new w_9 false (.slice none 0 0)
  replace ha := ha.alloc (.cells #[.bool false, (.slice none 0 0)] 24)
  replace hb' := hb'.alloc (.cells #[.bool false, (.slice none 0 0)] 24)
  replace hp := hp.alloc (.cells #[.bool false, (.slice none 0 0)] 24)
  replace hq := hq.alloc (.cells #[.bool false, (.slice none 0 0)] 24)
  replace g1 := g1.alloc (.cells #[.bool false, (.slice none 0 0)] 24)
  replace g2 := g2.alloc (.cells #[.bool false, (.slice none 0 0)] 24)
  replace hz1 := hz1.alloc (.cells #[.bool false, (.slice none 0 0)] 24)
  replace hz2 := hz2.alloc (.cells #[.bool false, (.slice none 0 0)] 24)
  replace g3 := g3.alloc (.cells #[.bool false, (.slice none 0 0)] 24)
  replace g4 := g4.alloc (.cells #[.bool false, (.slice none 0 0)] 24)
  replace hz3 := hz3.alloc (.cells #[.bool false, (.slice none 0 0)] 24)
  replace hb := hb.alloc hb.size (.cells #[.bool false, (.slice none 0 0)] 24)
  obtain ⟨w_10, hw_10⟩ : ∃ v, (w_9.alloc (.cells #[.bool false, (.slice none 0 0)] 24)) = v := ⟨_, rfl⟩
  rw [hw_10] at ha hb' hp hq g1 g2 hz1 hz2 g3 g4 hz3 hz4 hb
  obtain ⟨sb_hz3, o_hz3, n_hz3, c_hz3, rfl⟩ := g3.open2
  have f_hz3 := hz3.facts
  have ho := Bk.only w_10 (w_8.heap.size) sb_hz3 (.slice o_hz3 n_hz3 c_hz3)
  have hbx_ := hz3.bx
  replace ha := ha.frame hbx_ ho
  replace hb' := hb'.frame hbx_ ho
  replace hp := hp.frame ho (by omega)
  replace hq := hq.frame ho (by omega)
  replace g1 := g1.frame hbx_ ho
  replace g2 := g2.frame hbx_ ho
  replace hz1 := hz1.frame ho (by omega)
  replace hz2 := hz2.frame ho (by omega)
  replace g3 := g3.frame hbx_ ho
  replace g4 := g4.frame hbx_ ho
  replace hz4 := hz4.frame ho (by omega)
  replace hz3 := hz3.store sb_hz3 (.slice o_hz3 n_hz3 c_hz3)
  replace hb := (hb.setCell (p := ⟨w_8.heap.size, 0, none⟩) (show w.heap.size ≤ w_8.heap.size by omega) (.bool sb_hz3)).setCell (p := ⟨w_8.heap.size, 1, none⟩) (show w.heap.size ≤ w_8.heap.size by omega) (.slice o_hz3 n_hz3 c_hz3)
  clear ho hbx_
  obtain ⟨w_11, hw_11⟩ : ∃ v, ((w_10.setCell ⟨w_8.heap.size, 0, none⟩ (.bool sb_hz3)).setCell ⟨w_8.heap.size, 1, none⟩ (.slice o_hz3 n_hz3 c_hz3)) = v := ⟨_, rfl⟩
  rw [hw_11] at ha hb' hp hq g1 g2 hz1 hz2 g3 g4 hz3 hz4 hb
  obtain ⟨sb_hz4, o_hz4, n_hz4, c_hz4, rfl⟩ := g4.open2
  have f_hz4 := hz4.facts
  have ho := Bk.only w_11 (w_9.heap.size) sb_hz4 (.slice o_hz4 n_hz4 c_hz4)
  have hbx_ := hz4.bx
  replace ha := ha.frame hbx_ ho
  replace hb' := hb'.frame hbx_ ho
  replace hp := hp.frame ho (by omega)
  replace hq := hq.frame ho (by omega)
  replace g1 := g1.frame hbx_ ho
  replace g2 := g2.frame hbx_ ho
  replace hz1 := hz1.frame ho (by omega)
  replace hz2 := hz2.frame ho (by omega)
  replace g3 := g3.frame hbx_ ho
  replace g4 := g4.frame hbx_ ho
  replace hz3 := hz3.frame ho (by omega)
  replace hz4 := hz4.store sb_hz4 (.slice o_hz4 n_hz4 c_hz4)
  replace hb := (hb.setCell (p := ⟨w_9.heap.size, 0, none⟩) (show w.heap.size ≤ w_9.heap.size by omega) (.bool sb_hz4)).setCell (p := ⟨w_9.heap.size, 1, none⟩) (show w.heap.size ≤ w_9.heap.size by omega) (.slice o_hz4 n_hz4 c_hz4)
  clear ho hbx_
  obtain ⟨w_12, hw_12⟩ : ∃ v, ((w_11.setCell ⟨w_9.heap.size, 0, none⟩ (.bool sb_hz4)).setCell ⟨w_9.heap.size, 1, none⟩ (.slice o_hz4 n_hz4 c_hz4)) = v := ⟨_, rfl⟩
  rw [hw_12] at ha hb' hp hq g1 g2 hz1 hz2 g3 g4 hz3 hz4 hb
  replace ha := ha.drew
  replace hb' := hb'.drew
  replace hp := hp.drew
  replace hq := hq.drew
  replace g1 := g1.drew
  replace g2 := g2.drew
  replace hz1 := hz1.drew
  replace hz2 := hz2.drew
  replace g3 := g3.drew
  replace g4 := g4.drew
  replace hz3 := hz3.drew
  replace hz4 := hz4.drew
  replace hb := hb.drew
  go_wp2_with fail
  refine wp_region_pl [(0, false), (1, false), (2, false), (3, false), (4, false), (5, false), (6, false), (7, false), (8, false), (10, false), (12, false), (9, true), (11, true), (13, true), (14, false), (15, false), (16, false), (17, false), (18, false), (20, false), (22, false), (19, true), (21, true), (23, true), (24, false), (25, false)] (fun w' => w'.cell? ⟨w.heap.size, 0, none⟩ = some (.bool na) ∧ w'.cell? ⟨w.heap.size, 1, none⟩ = some (.slice oa xs.length ca) ∧ w'.cell? ⟨w.heap.size + 1, 0, none⟩ = some (.bool nb) ∧ w'.cell? ⟨w.heap.size + 1, 1, none⟩ = some (.slice ob ys.length cb) ∧ w'.cell? ⟨w_3.heap.size, 0, none⟩ = some (.bool sb_hz1) ∧ w'.cell? ⟨w_3.heap.size, 1, none⟩ = some (.slice o_hz1 n_hz1 c_hz1) ∧ w'.cell? ⟨w_4.heap.size, 0, none⟩ = some (.bool sb_hz2) ∧ w'.cell? ⟨w_4.heap.size, 1, none⟩ = some (.slice o_hz2 n_hz2 c_hz2) ∧ w'.cell? ⟨w_8.heap.size, 0, none⟩ = some (.bool sb_hz3) ∧ w'.cell? ⟨w_8.heap.size, 1, none⟩ = some (.slice o_hz3 n_hz3 c_hz3) ∧ w'.cell? ⟨w_9.heap.size, 0, none⟩ = some (.bool sb_hz4) ∧ w'.cell? ⟨w_9.heap.size, 1, none⟩ = some (.slice o_hz4 n_hz4 c_hz4)) (by kernel_rfl) (by kernel_rfl) (by kernel_rfl) (by kernel_rfl) ⟨hp.facts.1, hp.facts.2.1, hq.facts.1, hq.facts.2.1, hz1.facts.1, hz1.facts.2.1, hz2.facts.1, hz2.facts.2.1, hz3.facts.1, hz3.facts.2.1, hz4.facts.1, hz4.facts.2.1⟩ ?_
  apply wpPl_ld
  case hi => rfl
  case h1 => intro w' hC K hK; obtain ⟨c0, c1, c2, c3, c4, c5, c6, c7, c8, c9, c10, c11⟩ := hC; (first | go_big_move | go_big_op); exact hK
  case hw => kernel_rfl
  case hv => kernel_rfl
  case hb => kernel_rfl
  case hp => kernel_rfl
  apply wpPl_ld
  case hi => rfl
  case h1 => intro w' hC K hK; obtain ⟨c0, c1, c2, c3, c4, c5, c6, c7, c8, c9, c10, c11⟩ := hC; (first | go_big_move | go_big_op); exact hK
  case hw => kernel_rfl
  case hv => kernel_rfl
  case hb => kernel_rfl
  case hp => kernel_rfl
  apply wpPl_ld
  case hi => rfl
  case h1 => intro w' hC K hK; obtain ⟨c0, c1, c2, c3, c4, c5, c6, c7, c8, c9, c10, c11⟩ := hC; (first | go_big_move | go_big_op); exact hK
  case hw => kernel_rfl
  case hv => kernel_rfl
  case hb => kernel_rfl
  case hp => kernel_rfl
  apply wpPl_ld
  case hi => rfl
  case h1 => intro w' hC K hK; obtain ⟨c0, c1, c2, c3, c4, c5, c6, c7, c8, c9, c10, c11⟩ := hC; (first | go_big_move | go_big_op); exact hK
  case hw => kernel_rfl
  case hv => kernel_rfl
  case hb => kernel_rfl
  case hp => kernel_rfl
  apply wpPl_ld
  case hi => rfl
  case h1 => intro w' hC K hK; obtain ⟨c0, c1, c2, c3, c4, c5, c6, c7, c8, c9, c10, c11⟩ := hC; (first | go_big_move | go_big_op); exact hK
  case hw => kernel_rfl
  case hv => kernel_rfl
  case hb => kernel_rfl
  case hp => kernel_rfl
  apply wpPl_ld
  case hi => rfl
  case h1 => intro w' hC K hK; obtain ⟨c0, c1, c2, c3, c4, c5, c6, c7, c8, c9, c10, c11⟩ := hC; (first | go_big_move | go_big_op); exact hK
  case hw => kernel_rfl
  case hv => kernel_rfl
  case hb => kernel_rfl
  case hp => kernel_rfl
  apply wpPl_ld
  case hi => rfl
  case h1 => intro w' hC K hK; obtain ⟨c0, c1, c2, c3, c4, c5, c6, c7, c8, c9, c10, c11⟩ := hC; (first | go_big_move | go_big_op); exact hK
  case hw => kernel_rfl
  case hv => kernel_rfl
  case hb => kernel_rfl
  case hp => kernel_rfl
  apply wpPl_ld
  case hi => rfl
  case h1 => intro w' hC K hK; obtain ⟨c0, c1, c2, c3, c4, c5, c6, c7, c8, c9, c10, c11⟩ := hC; (first | go_big_move | go_big_op); exact hK
  case hw => kernel_rfl
  case hv => kernel_rfl
  case hb => kernel_rfl
  case hp => kernel_rfl
  apply wpPl_ld
  case hi => rfl
  case h1 => intro w' hC K hK; obtain ⟨c0, c1, c2, c3, c4, c5, c6, c7, c8, c9, c10, c11⟩ := hC; (first | go_big_move | go_big_op); exact hK
  case hw => kernel_rfl
  case hv => kernel_rfl
  case hb => kernel_rfl
  case hp => kernel_rfl
  apply wpPl_ld
  case hi => rfl
  case h1 => intro w' hC K hK; obtain ⟨c0, c1, c2, c3, c4, c5, c6, c7, c8, c9, c10, c11⟩ := hC; (first | go_big_move | go_big_op); exact hK
  case hw => kernel_rfl
  case hv => kernel_rfl
  case hb => kernel_rfl
  case hp => kernel_rfl
  apply wpPl_ld
  case hi => rfl
  case h1 => intro w' hC K hK; obtain ⟨c0, c1, c2, c3, c4, c5, c6, c7, c8, c9, c10, c11⟩ := hC; (first | go_big_move | go_big_op); exact hK
  case hw => kernel_rfl
  case hv => kernel_rfl
  case hb => kernel_rfl
  case hp => kernel_rfl
  apply wpPl_call
  case hi => rfl
  case hw => kernel_rfl
  case h =>
  intro K hK
  have kb_13 := hb.size
  go_big_op
  go_fit (zmul_any (g1.zn LQ.out) hb' (by decide) (by decide))
  rintro e w_13 ⟨v5, rfl, h5, hb_13⟩
  replace ha := ha.below hb_13 (Nat.le_refl _)
  replace hb' := hb'.below hb_13 (Nat.le_refl _)
  replace hp := hp.below hb_13 (Nat.le_refl _)
  replace hq := hq.below hb_13 (Nat.le_refl _)
  replace g1 := g1.below hb_13 (Nat.le_refl _)
  replace g2 := g2.below hb_13 (Nat.le_refl _)
  replace hz1 := hz1.below hb_13 (Nat.le_refl _)
  replace hz2 := hz2.below hb_13 (Nat.le_refl _)
  replace g3 := g3.below hb_13 (Nat.le_refl _)
  replace g4 := g4.below hb_13 (Nat.le_refl _)
  replace hz3 := hz3.below hb_13 (Nat.le_refl _)
  replace hz4 := hz4.below hb_13 (Nat.le_refl _)
  replace hb := hb.trans (hb_13.mono hb.size)
  refine hK _ _ rfl ⟨hp.facts.1, hp.facts.2.1, hq.facts.1, hq.facts.2.1, hz1.facts.1, hz1.facts.2.1, hz2.facts.1, hz2.facts.2.1, hz3.facts.1, hz3.facts.2.1, hz4.facts.1, hz4.facts.2.1⟩ ?_
  clear hK K hb_13
  replace h5 := h5.rd
  apply wpPl_call
  case hi => rfl
  case hw => kernel_rfl
  case h =>
  intro K hK
  have kb_14 := hb.size
  go_big_op
  go_fit (zadd_any (h5.zn L1.out) (g2.zn LR.out) (by decide) (by decide))
  rintro e w_14 ⟨v6, rfl, h6, hb_14⟩
  replace ha := ha.below hb_14 (Nat.le_refl _)
  replace hb' := hb'.below hb_14 (Nat.le_refl _)
  replace hp := hp.below hb_14 (Nat.le_refl _)
  replace hq := hq.below hb_14 (Nat.le_refl _)
  replace g1 := g1.below hb_14 (Nat.le_refl _)
  replace g2 := g2.below hb_14 (Nat.le_refl _)
  replace hz1 := hz1.below hb_14 (Nat.le_refl _)
  replace hz2 := hz2.below hb_14 (Nat.le_refl _)
  replace g3 := g3.below hb_14 (Nat.le_refl _)
  replace g4 := g4.below hb_14 (Nat.le_refl _)
  replace hz3 := hz3.below hb_14 (Nat.le_refl _)
  replace hz4 := hz4.below hb_14 (Nat.le_refl _)
  replace h5 := h5.below hb_14 (Nat.le_refl _)
  replace hb := hb.trans (hb_14.mono hb.size)
  refine hK _ _ rfl ⟨hp.facts.1, hp.facts.2.1, hq.facts.1, hq.facts.2.1, hz1.facts.1, hz1.facts.2.1, hz2.facts.1, hz2.facts.2.1, hz3.facts.1, hz3.facts.2.1, hz4.facts.1, hz4.facts.2.1⟩ ?_
  clear hK K hb_14
  rw [E1.out] at h6
  replace h6 := h6.rd
  clear h5
  apply wpPl_call
  case hi => rfl
  case hw => kernel_rfl
  case h =>
  intro K hK
  have kb_15 := hb.size
  go_big_op
  go_fit (is_zz h6 ha (by decide))
  rintro e w_15 ⟨rfl, hb_15⟩
  replace ha := ha.below hb_15 (Nat.le_refl _)
  replace hb' := hb'.below hb_15 (Nat.le_refl _)
  replace hp := hp.below hb_15 (Nat.le_refl _)
  replace hq := hq.below hb_15 (Nat.le_refl _)
  replace g1 := g1.below hb_15 (Nat.le_refl _)
  replace g2 := g2.below hb_15 (Nat.le_refl _)
  replace hz1 := hz1.below hb_15 (Nat.le_refl _)
  replace hz2 := hz2.below hb_15 (Nat.le_refl _)
  replace g3 := g3.below hb_15 (Nat.le_refl _)
  replace g4 := g4.below hb_15 (Nat.le_refl _)
  replace hz3 := hz3.below hb_15 (Nat.le_refl _)
  replace hz4 := hz4.below hb_15 (Nat.le_refl _)
  replace h6 := h6.below hb_15 (Nat.le_refl _)
  replace hb := hb.trans (hb_15.mono hb.size)
  refine hK _ _ rfl ⟨hp.facts.1, hp.facts.2.1, hq.facts.1, hq.facts.2.1, hz1.facts.1, hz1.facts.2.1, hz2.facts.1, hz2.facts.2.1, hz3.facts.1, hz3.facts.2.1, hz4.facts.1, hz4.facts.2.1⟩ ?_
  clear hK K hb_15
  clear h6
  apply wpPl_ld
  case hi => rfl
  case h1 => intro w' hC K hK; obtain ⟨c0, c1, c2, c3, c4, c5, c6, c7, c8, c9, c10, c11⟩ := hC; (first | go_big_move | go_big_op); exact hK
  case hw => kernel_rfl
  case hv => kernel_rfl
  case hb => kernel_rfl
  case hp => kernel_rfl
  apply wpPl_ld
  case hi => rfl
  case h1 => intro w' hC K hK; obtain ⟨c0, c1, c2, c3, c4, c5, c6, c7, c8, c9, c10, c11⟩ := hC; (first | go_big_move | go_big_op); exact hK
  case hw => kernel_rfl
  case hv => kernel_rfl
  case hb => kernel_rfl
  case hp => kernel_rfl
  apply wpPl_ld
  case hi => rfl
  case h1 => intro w' hC K hK; obtain ⟨c0, c1, c2, c3, c4, c5, c6, c7, c8, c9, c10, c11⟩ := hC; (first | go_big_move | go_big_op); exact hK
  case hw => kernel_rfl
  case hv => kernel_rfl
  case hb => kernel_rfl
  case hp => kernel_rfl
  apply wpPl_ld
  case hi => rfl
  case h1 => intro w' hC K hK; obtain ⟨c0, c1, c2, c3, c4, c5, c6, c7, c8, c9, c10, c11⟩ := hC; (first | go_big_move | go_big_op); exact hK
  case hw => kernel_rfl
  case hv => kernel_rfl
  case hb => kernel_rfl
  case hp => kernel_rfl
  apply wpPl_ld
  case hi => rfl
  case h1 => intro w' hC K hK; obtain ⟨c0, c1, c2, c3, c4, c5, c6, c7, c8, c9, c10, c11⟩ := hC; (first | go_big_move | go_big_op); exact hK
  case hw => kernel_rfl
  case hv => kernel_rfl
  case hb => kernel_rfl
  case hp => kernel_rfl
  apply wpPl_ld
  case hi => rfl
  case h1 => intro w' hC K hK; obtain ⟨c0, c1, c2, c3, c4, c5, c6, c7, c8, c9, c10, c11⟩ := hC; (first | go_big_move | go_big_op); exact hK
  case hw => kernel_rfl
  case hv => kernel_rfl
  case hb => kernel_rfl
  case hp => kernel_rfl
  apply wpPl_ld
  case hi => rfl
  case h1 => intro w' hC K hK; obtain ⟨c0, c1, c2, c3, c4, c5, c6, c7, c8, c9, c10, c11⟩ := hC; (first | go_big_move | go_big_op); exact hK
  case hw => kernel_rfl
  case hv => kernel_rfl
  case hb => kernel_rfl
  case hp => kernel_rfl
  apply wpPl_call
  case hi => rfl
  case hw => kernel_rfl
  case h =>
  intro K hK
  have kb_16 := hb.size
  go_big_op
  go_fit (zmul_any (g3.zn LN.out) hb' (by decide) (by decide))
  rintro e w_16 ⟨v7, rfl, h7, hb_16⟩
  replace ha := ha.below hb_16 (Nat.le_refl _)
  replace hb' := hb'.below hb_16 (Nat.le_refl _)
  replace hp := hp.below hb_16 (Nat.le_refl _)
  replace hq := hq.below hb_16 (Nat.le_refl _)
  replace g1 := g1.below hb_16 (Nat.le_refl _)
  replace g2 := g2.below hb_16 (Nat.le_refl _)
  replace hz1 := hz1.below hb_16 (Nat.le_refl _)
  replace hz2 := hz2.below hb_16 (Nat.le_refl _)
  replace g3 := g3.below hb_16 (Nat.le_refl _)
  replace g4 := g4.below hb_16 (Nat.le_refl _)
  replace hz3 := hz3.below hb_16 (Nat.le_refl _)
  replace hz4 := hz4.below hb_16 (Nat.le_refl _)
  replace hb := hb.trans (hb_16.mono hb.size)
  refine hK _ _ rfl ⟨hp.facts.1, hp.facts.2.1, hq.facts.1, hq.facts.2.1, hz1.facts.1, hz1.facts.2.1, hz2.facts.1, hz2.facts.2.1, hz3.facts.1, hz3.facts.2.1, hz4.facts.1, hz4.facts.2.1⟩ ?_
  clear hK K hb_16
  replace h7 := h7.rd
  apply wpPl_call
  case hi => rfl
  case hw => kernel_rfl
  case h =>
  intro K hK
  have kb_17 := hb.size
  go_big_op
  go_fit (zadd_any (h7.zn L3.out) (g4.zn LT.out) (by decide) (by decide))
  rintro e w_17 ⟨v8, rfl, h8, hb_17⟩
  replace ha := ha.below hb_17 (Nat.le_refl _)
  replace hb' := hb'.below hb_17 (Nat.le_refl _)
  replace hp := hp.below hb_17 (Nat.le_refl _)
  replace hq := hq.below hb_17 (Nat.le_refl _)
  replace g1 := g1.below hb_17 (Nat.le_refl _)
  replace g2 := g2.below hb_17 (Nat.le_refl _)
  replace hz1 := hz1.below hb_17 (Nat.le_refl _)
  replace hz2 := hz2.below hb_17 (Nat.le_refl _)
  replace g3 := g3.below hb_17 (Nat.le_refl _)
  replace g4 := g4.below hb_17 (Nat.le_refl _)
  replace hz3 := hz3.below hb_17 (Nat.le_refl _)
  replace hz4 := hz4.below hb_17 (Nat.le_refl _)
  replace h7 := h7.below hb_17 (Nat.le_refl _)
  replace hb := hb.trans (hb_17.mono hb.size)
  refine hK _ _ rfl ⟨hp.facts.1, hp.facts.2.1, hq.facts.1, hq.facts.2.1, hz1.facts.1, hz1.facts.2.1, hz2.facts.1, hz2.facts.2.1, hz3.facts.1, hz3.facts.2.1, hz4.facts.1, hz4.facts.2.1⟩ ?_
  clear hK K hb_17
  rw [E2.out] at h8
  replace h8 := h8.rd
  clear h7
  apply wpPl_call
  case hi => rfl
  case hw => kernel_rfl
  case h =>
  intro K hK
  have kb_18 := hb.size
  go_big_op
  go_fit (is_zz h8 ha (by decide))
  rintro e w_18 ⟨rfl, hb_18⟩
  replace ha := ha.below hb_18 (Nat.le_refl _)
  replace hb' := hb'.below hb_18 (Nat.le_refl _)
  replace hp := hp.below hb_18 (Nat.le_refl _)
  replace hq := hq.below hb_18 (Nat.le_refl _)
  replace g1 := g1.below hb_18 (Nat.le_refl _)
  replace g2 := g2.below hb_18 (Nat.le_refl _)
  replace hz1 := hz1.below hb_18 (Nat.le_refl _)
  replace hz2 := hz2.below hb_18 (Nat.le_refl _)
  replace g3 := g3.below hb_18 (Nat.le_refl _)
  replace g4 := g4.below hb_18 (Nat.le_refl _)
  replace hz3 := hz3.below hb_18 (Nat.le_refl _)
  replace hz4 := hz4.below hb_18 (Nat.le_refl _)
  replace h8 := h8.below hb_18 (Nat.le_refl _)
  replace hb := hb.trans (hb_18.mono hb.size)
  refine hK _ _ rfl ⟨hp.facts.1, hp.facts.2.1, hq.facts.1, hq.facts.2.1, hz1.facts.1, hz1.facts.2.1, hz2.facts.1, hz2.facts.2.1, hz3.facts.1, hz3.facts.2.1, hz4.facts.1, hz4.facts.2.1⟩ ?_
  clear hK K hb_18
  clear h8
  apply wpPl_ld
  case hi => rfl
  case h1 => intro w' hC K hK; obtain ⟨c0, c1, c2, c3, c4, c5, c6, c7, c8, c9, c10, c11⟩ := hC; (first | go_big_move | go_big_op); exact hK
  case hw => kernel_rfl
  case hv => kernel_rfl
  case hb => kernel_rfl
  case hp => kernel_rfl
  apply wpPl_ld
  case hi => rfl
  case h1 => intro w' hC K hK; obtain ⟨c0, c1, c2, c3, c4, c5, c6, c7, c8, c9, c10, c11⟩ := hC; (first | go_big_move | go_big_op); exact hK
  case hw => kernel_rfl
  case hv => kernel_rfl
  case hb => kernel_rfl
  case hp => kernel_rfl
  apply wpPl_end
  replace ha := ha.drew
  replace hb' := hb'.drew
  replace hp := hp.drew
  replace hq := hq.drew
  replace g1 := g1.drew
  replace g2 := g2.drew
  replace hz1 := hz1.drew
  replace hz2 := hz2.drew
  replace g3 := g3.drew
  replace g4 := g4.drew
  replace hz3 := hz3.drew
  replace hz4 := hz4.drew
  replace hb := hb.drew
  go_wp2_with fail
  refine wp_region_pl [(0, false), (1, true), (2, false), (3, false), (4, false), (6, false), (5, true), (7, true), (8, false), (9, false), (10, false), (11, false), (13, false), (12, true), (14, true), (15, true), (16, false), (17, false)] (fun w' => w'.cell? ⟨w.heap.size, 0, none⟩ = some (.bool na) ∧ w'.cell? ⟨w.heap.size, 1, none⟩ = some (.slice oa xs.length ca) ∧ w'.cell? ⟨w.heap.size + 1, 0, none⟩ = some (.bool nb) ∧ w'.cell? ⟨w.heap.size + 1, 1, none⟩ = some (.slice ob ys.length cb) ∧ w'.cell? ⟨w_3.heap.size, 0, none⟩ = some (.bool sb_hz1) ∧ w'.cell? ⟨w_3.heap.size, 1, none⟩ = some (.slice o_hz1 n_hz1 c_hz1) ∧ w'.cell? ⟨w_4.heap.size, 0, none⟩ = some (.bool sb_hz2) ∧ w'.cell? ⟨w_4.heap.size, 1, none⟩ = some (.slice o_hz2 n_hz2 c_hz2) ∧ w'.cell? ⟨w_8.heap.size, 0, none⟩ = some (.bool sb_hz3) ∧ w'.cell? ⟨w_8.heap.size, 1, none⟩ = some (.slice o_hz3 n_hz3 c_hz3) ∧ w'.cell? ⟨w_9.heap.size, 0, none⟩ = some (.bool sb_hz4) ∧ w'.cell? ⟨w_9.heap.size, 1, none⟩ = some (.slice o_hz4 n_hz4 c_hz4)) (by kernel_rfl) (by kernel_rfl) (by kernel_rfl) (by kernel_rfl) ⟨hp.facts.1, hp.facts.2.1, hq.facts.1, hq.facts.2.1, hz1.facts.1, hz1.facts.2.1, hz2.facts.1, hz2.facts.2.1, hz3.facts.1, hz3.facts.2.1, hz4.facts.1, hz4.facts.2.1⟩ ?_
  apply wpPl_ld
  case hi => rfl
  case h1 => intro w' hC K hK; obtain ⟨c0, c1, c2, c3, c4, c5, c6, c7, c8, c9, c10, c11⟩ := hC; (first | go_big_move | go_big_op); exact hK
  case hw => kernel_rfl
  case hv => kernel_rfl
  case hb => kernel_rfl
  case hp => kernel_rfl
  apply wpPl_call
  case hi => rfl
  case hw => kernel_rfl
  case h =>
  intro K hK
  have kb_19 := hb.size
  go_big_op
  go_fit (zsign_any (g2.zn LR.out) (by decide))
  rintro e w_19 ⟨rfl, hb_19⟩
  replace ha := ha.below hb_19 (Nat.le_refl _)
  replace hb' := hb'.below hb_19 (Nat.le_refl _)
  replace hp := hp.below hb_19 (Nat.le_refl _)
  replace hq := hq.below hb_19 (Nat.le_refl _)
  replace g1 := g1.below hb_19 (Nat.le_refl _)
  replace g2 := g2.below hb_19 (Nat.le_refl _)
  replace hz1 := hz1.below hb_19 (Nat.le_refl _)
  replace hz2 := hz2.below hb_19 (Nat.le_refl _)
  replace g3 := g3.below hb_19 (Nat.le_refl _)
  replace g4 := g4.below hb_19 (Nat.le_refl _)
  replace hz3 := hz3.below hb_19 (Nat.le_refl _)
  replace hz4 := hz4.below hb_19 (Nat.le_refl _)
  replace hb := hb.trans (hb_19.mono hb.size)
  refine hK _ _ rfl ⟨hp.facts.1, hp.facts.2.1, hq.facts.1, hq.facts.2.1, hz1.facts.1, hz1.facts.2.1, hz2.facts.1, hz2.facts.2.1, hz3.facts.1, hz3.facts.2.1, hz4.facts.1, hz4.facts.2.1⟩ ?_
  clear hK K hb_19
  rw [HSR.out]
  apply wpPl_ld
  case hi => rfl
  case h1 => intro w' hC K hK; obtain ⟨c0, c1, c2, c3, c4, c5, c6, c7, c8, c9, c10, c11⟩ := hC; (first | go_big_move | go_big_op); exact hK
  case hw => kernel_rfl
  case hv => kernel_rfl
  case hb => kernel_rfl
  case hp => kernel_rfl
  apply wpPl_ld
  case hi => rfl
  case h1 => intro w' hC K hK; obtain ⟨c0, c1, c2, c3, c4, c5, c6, c7, c8, c9, c10, c11⟩ := hC; (first | go_big_move | go_big_op); exact hK
  case hw => kernel_rfl
  case hv => kernel_rfl
  case hb => kernel_rfl
  case hp => kernel_rfl
  apply wpPl_ld
  case hi => rfl
  case h1 => intro w' hC K hK; obtain ⟨c0, c1, c2, c3, c4, c5, c6, c7, c8, c9, c10, c11⟩ := hC; (first | go_big_move | go_big_op); exact hK
  case hw => kernel_rfl
  case hv => kernel_rfl
  case hb => kernel_rfl
  case hp => kernel_rfl
  apply wpPl_ld
  case hi => rfl
  case h1 => intro w' hC K hK; obtain ⟨c0, c1, c2, c3, c4, c5, c6, c7, c8, c9, c10, c11⟩ := hC; (first | go_big_move | go_big_op); exact hK
  case hw => kernel_rfl
  case hv => kernel_rfl
  case hb => kernel_rfl
  case hp => kernel_rfl
  apply wpPl_call
  case hi => rfl
  case hw => kernel_rfl
  case h =>
  intro K hK
  have kb_20 := hb.size
  go_big_op
  go_fit (zsign_any (g2.zn LR.out) (by decide))
  rintro e w_20 ⟨rfl, hb_20⟩
  replace ha := ha.below hb_20 (Nat.le_refl _)
  replace hb' := hb'.below hb_20 (Nat.le_refl _)
  replace hp := hp.below hb_20 (Nat.le_refl _)
  replace hq := hq.below hb_20 (Nat.le_refl _)
  replace g1 := g1.below hb_20 (Nat.le_refl _)
  replace g2 := g2.below hb_20 (Nat.le_refl _)
  replace hz1 := hz1.below hb_20 (Nat.le_refl _)
  replace hz2 := hz2.below hb_20 (Nat.le_refl _)
  replace g3 := g3.below hb_20 (Nat.le_refl _)
  replace g4 := g4.below hb_20 (Nat.le_refl _)
  replace hz3 := hz3.below hb_20 (Nat.le_refl _)
  replace hz4 := hz4.below hb_20 (Nat.le_refl _)
  replace hb := hb.trans (hb_20.mono hb.size)
  refine hK _ _ rfl ⟨hp.facts.1, hp.facts.2.1, hq.facts.1, hq.facts.2.1, hz1.facts.1, hz1.facts.2.1, hz2.facts.1, hz2.facts.2.1, hz3.facts.1, hz3.facts.2.1, hz4.facts.1, hz4.facts.2.1⟩ ?_
  clear hK K hb_20
  rw [HSR.out]
  apply wpPl_call
  case hi => rfl
  case hw => kernel_rfl
  case h =>
  intro K hK
  have kb_21 := hb.size
  go_big_op
  go_fit (zsign_any hb' (by decide))
  rintro e w_21 ⟨rfl, hb_21⟩
  replace ha := ha.below hb_21 (Nat.le_refl _)
  replace hb' := hb'.below hb_21 (Nat.le_refl _)
  replace hp := hp.below hb_21 (Nat.le_refl _)
  replace hq := hq.below hb_21 (Nat.le_refl _)
  replace g1 := g1.below hb_21 (Nat.le_refl _)
  replace g2 := g2.below hb_21 (Nat.le_refl _)
  replace hz1 := hz1.below hb_21 (Nat.le_refl _)
  replace hz2 := hz2.below hb_21 (Nat.le_refl _)
  replace g3 := g3.below hb_21 (Nat.le_refl _)
  replace g4 := g4.below hb_21 (Nat.le_refl _)
  replace hz3 := hz3.below hb_21 (Nat.le_refl _)
  replace hz4 := hz4.below hb_21 (Nat.le_refl _)
  replace hb := hb.trans (hb_21.mono hb.size)
  refine hK _ _ rfl ⟨hp.facts.1, hp.facts.2.1, hq.facts.1, hq.facts.2.1, hz1.facts.1, hz1.facts.2.1, hz2.facts.1, hz2.facts.2.1, hz3.facts.1, hz3.facts.2.1, hz4.facts.1, hz4.facts.2.1⟩ ?_
  clear hK K hb_21
  rw [E5.out.2.2.2]
  apply wpPl_ld
  case hi => rfl
  case h1 => intro w' hC K hK; obtain ⟨c0, c1, c2, c3, c4, c5, c6, c7, c8, c9, c10, c11⟩ := hC; (first | go_big_move | go_big_op); exact hK
  case hw => kernel_rfl
  case hv => kernel_rfl
  case hb => kernel_rfl
  case hp => kernel_rfl
  apply wpPl_ld
  case hi => rfl
  case h1 => intro w' hC K hK; obtain ⟨c0, c1, c2, c3, c4, c5, c6, c7, c8, c9, c10, c11⟩ := hC; (first | go_big_move | go_big_op); exact hK
  case hw => kernel_rfl
  case hv => kernel_rfl
  case hb => kernel_rfl
  case hp => kernel_rfl
  apply wpPl_ld
  case hi => rfl
  case h1 => intro w' hC K hK; obtain ⟨c0, c1, c2, c3, c4, c5, c6, c7, c8, c9, c10, c11⟩ := hC; (first | go_big_move | go_big_op); exact hK
  case hw => kernel_rfl
  case hv => kernel_rfl
  case hb => kernel_rfl
  case hp => kernel_rfl
  apply wpPl_ld
  case hi => rfl
  case h1 => intro w' hC K hK; obtain ⟨c0, c1, c2, c3, c4, c5, c6, c7, c8, c9, c10, c11⟩ := hC; (first | go_big_move | go_big_op); exact hK
  case hw => kernel_rfl
  case hv => kernel_rfl
  case hb => kernel_rfl
  case hp => kernel_rfl
  apply wpPl_ld
  case hi => rfl
  case h1 => intro w' hC K hK; obtain ⟨c0, c1, c2, c3, c4, c5, c6, c7, c8, c9, c10, c11⟩ := hC; (first | go_big_move | go_big_op); exact hK
  case hw => kernel_rfl
  case hv => kernel_rfl
  case hb => kernel_rfl
  case hp => kernel_rfl
  apply wpPl_call
  case hi => rfl
  case hw => kernel_rfl
  case h =>
  intro K hK
  have kb_22 := hb.size
  go_big_op
  go_fit (zabs_any (g2.zn LR.out) (by decide))
  rintro e w_22 ⟨v9, rfl, h9, hb_22⟩
  replace ha := ha.below hb_22 (Nat.le_refl _)
  replace hb' := hb'.below hb_22 (Nat.le_refl _)
  replace hp := hp.below hb_22 (Nat.le_refl _)
  replace hq := hq.below hb_22 (Nat.le_refl _)
  replace g1 := g1.below hb_22 (Nat.le_refl _)
  replace g2 := g2.below hb_22 (Nat.le_refl _)
  replace hz1 := hz1.below hb_22 (Nat.le_refl _)
  replace hz2 := hz2.below hb_22 (Nat.le_refl _)
  replace g3 := g3.below hb_22 (Nat.le_refl _)
  replace g4 := g4.below hb_22 (Nat.le_refl _)
  replace hz3 := hz3.below hb_22 (Nat.le_refl _)
  replace hz4 := hz4.below hb_22 (Nat.le_refl _)
  replace hb := hb.trans (hb_22.mono hb.size)
  refine hK _ _ rfl ⟨hp.facts.1, hp.facts.2.1, hq.facts.1, hq.facts.2.1, hz1.facts.1, hz1.facts.2.1, hz2.facts.1, hz2.facts.2.1, hz3.facts.1, hz3.facts.2.1, hz4.facts.1, hz4.facts.2.1⟩ ?_
  clear hK K hb_22
  replace h9 := h9.rd
  apply wpPl_call
  case hi => rfl
  case hw => kernel_rfl
  case h =>
  intro K hK
  have kb_23 := hb.size
  go_big_op
  go_fit (zabs_any hb' (by decide))
  rintro e w_23 ⟨v10, rfl, h10, hb_23⟩
  replace ha := ha.below hb_23 (Nat.le_refl _)
  replace hb' := hb'.below hb_23 (Nat.le_refl _)
  replace hp := hp.below hb_23 (Nat.le_refl _)
  replace hq := hq.below hb_23 (Nat.le_refl _)
  replace g1 := g1.below hb_23 (Nat.le_refl _)
  replace g2 := g2.below hb_23 (Nat.le_refl _)
  replace hz1 := hz1.below hb_23 (Nat.le_refl _)
  replace hz2 := hz2.below hb_23 (Nat.le_refl _)
  replace g3 := g3.below hb_23 (Nat.le_refl _)
  replace g4 := g4.below hb_23 (Nat.le_refl _)
  replace hz3 := hz3.below hb_23 (Nat.le_refl _)
  replace hz4 := hz4.below hb_23 (Nat.le_refl _)
  replace h9 := h9.below hb_23 (Nat.le_refl _)
  replace hb := hb.trans (hb_23.mono hb.size)
  refine hK _ _ rfl ⟨hp.facts.1, hp.facts.2.1, hq.facts.1, hq.facts.2.1, hz1.facts.1, hz1.facts.2.1, hz2.facts.1, hz2.facts.2.1, hz3.facts.1, hz3.facts.2.1, hz4.facts.1, hz4.facts.2.1⟩ ?_
  clear hK K hb_23
  replace h10 := h10.rd
  apply wpPl_call
  case hi => rfl
  case hw => kernel_rfl
  case h =>
  intro K hK
  have kb_24 := hb.size
  go_big_op
  go_fit (zcmp_any (h9.zn L8.out) (h10.zn L6.out) (by decide) (by decide))
  rintro e w_24 ⟨rfl, hb_24⟩
  replace ha := ha.below hb_24 (Nat.le_refl _)
  replace hb' := hb'.below hb_24 (Nat.le_refl _)
  replace hp := hp.below hb_24 (Nat.le_refl _)
  replace hq := hq.below hb_24 (Nat.le_refl _)
  replace g1 := g1.below hb_24 (Nat.le_refl _)
  replace g2 := g2.below hb_24 (Nat.le_refl _)
  replace hz1 := hz1.below hb_24 (Nat.le_refl _)
  replace hz2 := hz2.below hb_24 (Nat.le_refl _)
  replace g3 := g3.below hb_24 (Nat.le_refl _)
  replace g4 := g4.below hb_24 (Nat.le_refl _)
  replace hz3 := hz3.below hb_24 (Nat.le_refl _)
  replace hz4 := hz4.below hb_24 (Nat.le_refl _)
  replace h9 := h9.below hb_24 (Nat.le_refl _)
  replace h10 := h10.below hb_24 (Nat.le_refl _)
  replace hb := hb.trans (hb_24.mono hb.size)
  refine hK _ _ rfl ⟨hp.facts.1, hp.facts.2.1, hq.facts.1, hq.facts.2.1, hz1.facts.1, hz1.facts.2.1, hz2.facts.1, hz2.facts.2.1, hz3.facts.1, hz3.facts.2.1, hz4.facts.1, hz4.facts.2.1⟩ ?_
  clear hK K hb_24
  rw [E3.out]
  clear h9
  clear h10
  apply wpPl_ld
  case hi => rfl
  case h1 => intro w' hC K hK; obtain ⟨c0, c1, c2, c3, c4, c5, c6, c7, c8, c9, c10, c11⟩ := hC; (first | go_big_move | go_big_op); exact hK
  case hw => kernel_rfl
  case hv => kernel_rfl
  case hb => kernel_rfl
  case hp => kernel_rfl
  apply wpPl_ld
  case hi => rfl
  case h1 => intro w' hC K hK; obtain ⟨c0, c1, c2, c3, c4, c5, c6, c7, c8, c9, c10, c11⟩ := hC; (first | go_big_move | go_big_op); exact hK
  case hw => kernel_rfl
  case hv => kernel_rfl
  case hb => kernel_rfl
  case hp => kernel_rfl
  apply wpPl_end
  replace ha := ha.drew
  replace hb' := hb'.drew
  replace hp := hp.drew
  replace hq := hq.drew
  replace g1 := g1.drew
  replace g2 := g2.drew
  replace hz1 := hz1.drew
  replace hz2 := hz2.drew
  replace g3 := g3.drew
  replace g4 := g4.drew
  replace hz3 := hz3.drew
  replace hz4 := hz4.drew
  replace hb := hb.drew
  have lt_hp := hp.lt
  have lt_hq := hq.lt
  have lt_hz1 := hz1.lt
  have lt_hz2 := hz2.lt
  have lt_hz3 := hz3.lt
  have lt_hz4 := hz4.lt
  have kb0 := hb.size
  go_wp2_with fail
  refine wp_region_fl [(0, false), (1, false), (3, false), (2, true), (4, true), (5, true), (6, true)] [8] [7] (fun _ => obZ) [1, 1, 99, 0, 99, 99, 99, 99, 99] [] (fun w' => w'.cell? ⟨w.heap.size + 1, 0, none⟩ = some (.bool nb) ∧ w'.cell? ⟨w.heap.size + 1, 1, none⟩ = some (.slice ob ys.length cb) ∧ w'.cell? ⟨w_9.heap.size, 0, none⟩ = some (.bool sb_hz4) ∧ w'.cell? ⟨w_9.heap.size, 1, none⟩ = some (.slice o_hz4 n_hz4 c_hz4)) [fun w' => w'.cell? ⟨w.heap.size + 1, 0, none⟩ = some (.bool nb) ∧ w'.cell? ⟨w.heap.size + 1, 1, none⟩ = some (.slice ob ys.length cb), fun w' => w'.cell? ⟨w_9.heap.size, 0, none⟩ = some (.bool sb_hz4) ∧ w'.cell? ⟨w_9.heap.size, 1, none⟩ = some (.slice o_hz4 n_hz4 c_hz4)] (by kernel_rfl) (by kernel_rfl) (by kernel_rfl) (by kernel_rfl) (by kernel_rfl) (by kernel_rfl) (by kernel_rfl) (by kernel_rfl) (by decide) (by intro j hj; simp only [List.mem_cons, List.not_mem_nil, or_false] at hj; rcases hj with rfl; all_goals exact ⟨_, rfl, rfl, fun ρ w => run_alloc_z w⟩) (by intro w' o hC; obtain ⟨c0, c1, c2, c3⟩ := hC; exact ⟨cell_alloc c0 o, cell_alloc c1 o, cell_alloc c2 o, cell_alloc c3 o⟩) (by intro w' hC G hG; obtain ⟨c0, c1, c2, c3⟩ := hC; simp only [List.mem_cons, List.not_mem_nil, or_false] at hG; rcases hG with rfl | rfl <;> first | exact ⟨c0, c1⟩ | exact ⟨c2, c3⟩) ⟨hq.facts.1, hq.facts.2.1, hz4.facts.1, hz4.facts.2.1⟩ ?_
  apply wpFl_ld
  case hG => rfl
  case hi => rfl
  case h1 => intro w' hC K hK; obtain ⟨c0, c1⟩ := hC; (first | go_big_move | go_big_op); exact hK
  case hw => kernel_rfl
  case hv => kernel_rfl
  case hb => kernel_rfl
  case hp => kernel_rfl
  apply wpFl_ld
  case hG => rfl
  case hi => rfl
  case h1 => intro w' hC K hK; obtain ⟨c0, c1⟩ := hC; (first | go_big_move | go_big_op); exact hK
  case hw => kernel_rfl
  case hv => kernel_rfl
  case hb => kernel_rfl
  case hp => kernel_rfl
  apply wpFl_ld
  case hG => rfl
  case hi => rfl
  case h1 => intro w' hC K hK; obtain ⟨c0, c1⟩ := hC; (first | go_big_move | go_big_op); exact hK
  case hw => kernel_rfl
  case hv => kernel_rfl
  case hb => kernel_rfl
  case hp => kernel_rfl
  apply wpFl_call
  case hi => rfl
  case hw => kernel_rfl
  case h =>
  intro w_25 hn hC
  clear hC
  replace ha := ha.below hn (Nat.le_refl _)
  replace hb' := hb'.below hn (Nat.le_refl _)
  replace hp := hp.below hn (Nat.le_refl _)
  replace hq := hq.below hn (Nat.le_refl _)
  replace g1 := g1.below hn (Nat.le_refl _)
  replace g2 := g2.below hn (Nat.le_refl _)
  replace hz1 := hz1.below hn (Nat.le_refl _)
  replace hz2 := hz2.below hn (Nat.le_refl _)
  replace g3 := g3.below hn (Nat.le_refl _)
  replace g4 := g4.below hn (Nat.le_refl _)
  replace hz3 := hz3.below hn (Nat.le_refl _)
  replace hz4 := hz4.below hn (Nat.le_refl _)
  replace hb := hb.trans (hn.mono hb.size)
  clear hn
  intro K hK
  have kb_26 := hb.size
  go_big_op
  go_fit (zadd_any (g4.zn LT.out) (g4.zn LT.out) (by decide) (by decide))
  rintro e w_26 ⟨v11, rfl, h11, hb_26⟩
  replace ha := ha.below hb_26 (Nat.le_refl _)
  replace hb' := hb'.below hb_26 (Nat.le_refl _)
  replace hp := hp.below hb_26 (Nat.le_refl _)
  replace hq := hq.below hb_26 (Nat.le_refl _)
  replace g1 := g1.below hb_26 (Nat.le_refl _)
  replace g2 := g2.below hb_26 (Nat.le_refl _)
  replace hz1 := hz1.below hb_26 (Nat.le_refl _)
  replace hz2 := hz2.below hb_26 (Nat.le_refl _)
  replace g3 := g3.below hb_26 (Nat.le_refl _)
  replace g4 := g4.below hb_26 (Nat.le_refl _)
  replace hz3 := hz3.below hb_26 (Nat.le_refl _)
  replace hz4 := hz4.below hb_26 (Nat.le_refl _)
  replace hb := hb.trans (hb_26.mono hb.size)
  refine hK _ _ rfl hb_26 ⟨hq.facts.1, hq.facts.2.1, hz4.facts.1, hz4.facts.2.1⟩ ?_
  clear hK K hb_26
  replace h11 := h11.rd
  apply wpFl_call
  case hi => rfl
  case hw => kernel_rfl
  case h =>
  intro w_27 hn hC
  clear hC
  replace ha := ha.below hn (Nat.le_refl _)
  replace hb' := hb'.below hn (Nat.le_refl _)
  replace hp := hp.below hn (Nat.le_refl _)
  replace hq := hq.below hn (Nat.le_refl _)
  replace g1 := g1.below hn (Nat.le_refl _)
  replace g2 := g2.below hn (Nat.le_refl _)
  replace hz1 := hz1.below hn (Nat.le_refl _)
  replace hz2 := hz2.below hn (Nat.le_refl _)
  replace g3 := g3.below hn (Nat.le_refl _)
  replace g4 := g4.below hn (Nat.le_refl _)
  replace hz3 := hz3.below hn (Nat.le_refl _)
  replace hz4 := hz4.below hn (Nat.le_refl _)
  replace h11 := h11.below hn (Nat.le_refl _)
  replace hb := hb.trans (hn.mono hb.size)
  clear hn
  intro K hK
  have kb_28 := hb.size
  go_big_op
  go_fit (zsign_any hb' (by decide))
  rintro e w_28 ⟨rfl, hb_28⟩
  replace ha := ha.below hb_28 (Nat.le_refl _)
  replace hb' := hb'.below hb_28 (Nat.le_refl _)
  replace hp := hp.below hb_28 (Nat.le_refl _)
  replace hq := hq.below hb_28 (Nat.le_refl _)
  replace g1 := g1.below hb_28 (Nat.le_refl _)
  replace g2 := g2.below hb_28 (Nat.le_refl _)
  replace hz1 := hz1.below hb_28 (Nat.le_refl _)
  replace hz2 := hz2.below hb_28 (Nat.le_refl _)
  replace g3 := g3.below hb_28 (Nat.le_refl _)
  replace g4 := g4.below hb_28 (Nat.le_refl _)
  replace hz3 := hz3.below hb_28 (Nat.le_refl _)
  replace hz4 := hz4.below hb_28 (Nat.le_refl _)
  replace h11 := h11.below hb_28 (Nat.le_refl _)
  replace hb := hb.trans (hb_28.mono hb.size)
  refine hK _ _ rfl hb_28 ⟨hq.facts.1, hq.facts.2.1, hz4.facts.1, hz4.facts.2.1⟩ ?_
  clear hK K hb_28
  rw [E5.out.2.2.2]
  apply wpFl_call
  case hi => rfl
  case hw => kernel_rfl
  case h =>
  intro w_29 hn hC
  clear hC
  replace ha := ha.below hn (Nat.le_refl _)
  replace hb' := hb'.below hn (Nat.le_refl _)
  replace hp := hp.below hn (Nat.le_refl _)
  replace hq := hq.below hn (Nat.le_refl _)
  replace g1 := g1.below hn (Nat.le_refl _)
  replace g2 := g2.below hn (Nat.le_refl _)
  replace hz1 := hz1.below hn (Nat.le_refl _)
  replace hz2 := hz2.below hn (Nat.le_refl _)
  replace g3 := g3.below hn (Nat.le_refl _)
  replace g4 := g4.below hn (Nat.le_refl _)
  replace hz3 := hz3.below hn (Nat.le_refl _)
  replace hz4 := hz4.below hn (Nat.le_refl _)
  replace h11 := h11.below hn (Nat.le_refl _)
  replace hb := hb.trans (hn.mono hb.size)
  clear hn
  intro K hK
  have kb_30 := hb.size
  go_big_op
  go_fit (from_any S _ (by omega) (by omega))
  rintro e w_30 ⟨v12, rfl, h12, hb_30⟩
  replace ha := ha.below hb_30 (Nat.le_refl _)
  replace hb' := hb'.below hb_30 (Nat.le_refl _)
  replace hp := hp.below hb_30 (Nat.le_refl _)
  replace hq := hq.below hb_30 (Nat.le_refl _)
  replace g1 := g1.below hb_30 (Nat.le_refl _)
  replace g2 := g2.below hb_30 (Nat.le_refl _)
  replace hz1 := hz1.below hb_30 (Nat.le_refl _)
  replace hz2 := hz2.below hb_30 (Nat.le_refl _)
  replace g3 := g3.below hb_30 (Nat.le_refl _)
  replace g4 := g4.below hb_30 (Nat.le_refl _)
  replace hz3 := hz3.below hb_30 (Nat.le_refl _)
  replace hz4 := hz4.below hb_30 (Nat.le_refl _)
  replace h11 := h11.below hb_30 (Nat.le_refl _)
  replace hb := hb.trans (hb_30.mono hb.size)
  refine hK _ _ rfl hb_30 ⟨hq.facts.1, hq.facts.2.1, hz4.facts.1, hz4.facts.2.1⟩ ?_
  clear hK K hb_30
  replace h12 := h12.rd
  apply wpFl_call
  case hi => rfl
  case hw => kernel_rfl
  case h =>
  intro w_31 hn hC
  clear hC
  replace ha := ha.below hn (Nat.le_refl _)
  replace hb' := hb'.below hn (Nat.le_refl _)
  replace hp := hp.below hn (Nat.le_refl _)
  replace hq := hq.below hn (Nat.le_refl _)
  replace g1 := g1.below hn (Nat.le_refl _)
  replace g2 := g2.below hn (Nat.le_refl _)
  replace hz1 := hz1.below hn (Nat.le_refl _)
  replace hz2 := hz2.below hn (Nat.le_refl _)
  replace g3 := g3.below hn (Nat.le_refl _)
  replace g4 := g4.below hn (Nat.le_refl _)
  replace hz3 := hz3.below hn (Nat.le_refl _)
  replace hz4 := hz4.below hn (Nat.le_refl _)
  replace h11 := h11.below hn (Nat.le_refl _)
  replace h12 := h12.below hn (Nat.le_refl _)
  replace hb := hb.trans (hn.mono hb.size)
  clear hn
  intro K hK
  have kb_32 := hb.size
  go_big_op
  go_fit (zmul_any (h11.zn L5.out) (h12.zn (LS.out)) (by decide) (by decide))
  rintro e w_32 ⟨v13, rfl, h13, hb_32⟩
  replace ha := ha.below hb_32 (Nat.le_refl _)
  replace hb' := hb'.below hb_32 (Nat.le_refl _)
  replace hp := hp.below hb_32 (Nat.le_refl _)
  replace hq := hq.below hb_32 (Nat.le_refl _)
  replace g1 := g1.below hb_32 (Nat.le_refl _)
  replace g2 := g2.below hb_32 (Nat.le_refl _)
  replace hz1 := hz1.below hb_32 (Nat.le_refl _)
  replace hz2 := hz2.below hb_32 (Nat.le_refl _)
  replace g3 := g3.below hb_32 (Nat.le_refl _)
  replace g4 := g4.below hb_32 (Nat.le_refl _)
  replace hz3 := hz3.below hb_32 (Nat.le_refl _)
  replace hz4 := hz4.below hb_32 (Nat.le_refl _)
  replace h11 := h11.below hb_32 (Nat.le_refl _)
  replace h12 := h12.below hb_32 (Nat.le_refl _)
  replace hb := hb.trans (hb_32.mono hb.size)
  refine hK _ _ rfl hb_32 ⟨hq.facts.1, hq.facts.2.1, hz4.facts.1, hz4.facts.2.1⟩ ?_
  clear hK K hb_32
  replace h13 := h13.rd
  clear h11
  clear h12
  apply wpFl_end
  case ha => intro pt; simp only [putF, nthO, Act.put, ptr, List.setIfInBounds_toArray, List.set_cons_succ, List.set_cons_zero]; rfl
  case h =>
  intro w_33 pt hn hC hF hD
  clear hC
  replace ha := ha.below hn (Nat.le_refl _)
  replace hb' := hb'.below hn (Nat.le_refl _)
  replace hp := hp.below hn (Nat.le_refl _)
  replace hq := hq.below hn (Nat.le_refl _)
  replace g1 := g1.below hn (Nat.le_refl _)
  replace g2 := g2.below hn (Nat.le_refl _)
  replace hz1 := hz1.below hn (Nat.le_refl _)
  replace hz2 := hz2.below hn (Nat.le_refl _)
  replace g3 := g3.below hn (Nat.le_refl _)
  replace g4 := g4.below hn (Nat.le_refl _)
  replace hz3 := hz3.below hn (Nat.le_refl _)
  replace hz4 := hz4.below hn (Nat.le_refl _)
  replace h13 := h13.below hn (Nat.le_refl _)
  replace hb := hb.trans (hn.mono hb.size)
  clear hn
  obtain ⟨kB_hz5, hz5⟩ := hF 7 (by decide)
  replace hz5 := obZ_bk hz5
  clear hF hD
  generalize pt 7 = p_hz5 at *
  clear pt
  have kb_hz5 := Nat.le_trans kb0 kB_hz5
  have ne_hp_hz5 : w.heap.size ≠ p_hz5 := Nat.ne_of_lt (Nat.lt_of_lt_of_le lt_hp kB_hz5)
  have ne_hq_hz5 : w.heap.size + 1 ≠ p_hz5 := Nat.ne_of_lt (Nat.lt_of_lt_of_le lt_hq kB_hz5)
  have ne_hz1_hz5 : w_3.heap.size ≠ p_hz5 := Nat.ne_of_lt (Nat.lt_of_lt_of_le lt_hz1 kB_hz5)
  have ne_hz2_hz5 : w_4.heap.size ≠ p_hz5 := Nat.ne_of_lt (Nat.lt_of_lt_of_le lt_hz2 kB_hz5)
  have ne_hz3_hz5 : w_8.heap.size ≠ p_hz5 := Nat.ne_of_lt (Nat.lt_of_lt_of_le lt_hz3 kB_hz5)
  have ne_hz4_hz5 : w_9.heap.size ≠ p_hz5 := Nat.ne_of_lt (Nat.lt_of_lt_of_le lt_hz4 kB_hz5)
  clear kB_hz5
  clear lt_hp
  clear lt_hq
  clear lt_hz1
  clear lt_hz2
  clear lt_hz3
  clear lt_hz4
  clear kb0
  obtain ⟨sb_hz5, o_hz5, n_hz5, c_hz5, rfl⟩ := h13.open2
  apply wpTail_call
  case hi => rfl
  case hw => kernel_rfl
  case h =>
  intro K hK
  have c9 := hz5.facts
  go_big_op
  have ho := Bk.only w_33 (p_hz5) sb_hz5 (.slice o_hz5 n_hz5 c_hz5)
  have hbx_ := hz5.bx
  replace ha := ha.frame hbx_ ho
  replace hb' := hb'.frame hbx_ ho
  replace hp := hp.frame ho (by omega)
  replace hq := hq.frame ho (by omega)
  replace g1 := g1.frame hbx_ ho
  replace g2 := g2.frame hbx_ ho
  replace hz1 := hz1.frame ho (by omega)
  replace hz2 := hz2.frame ho (by omega)
  replace g3 := g3.frame hbx_ ho
  replace g4 := g4.frame hbx_ ho
  replace hz3 := hz3.frame ho (by omega)
  replace hz4 := hz4.frame ho (by omega)
  replace h13 := h13.frame hbx_ ho
  replace hz5 := hz5.store sb_hz5 (.slice o_hz5 n_hz5 c_hz5)
  replace hb := (hb.setCell (p := ⟨p_hz5, 0, none⟩) (show w.heap.size ≤ p_hz5 by omega) (.bool sb_hz5)).setCell (p := ⟨p_hz5, 1, none⟩) (show w.heap.size ≤ p_hz5 by omega) (.slice o_hz5 n_hz5 c_hz5)
  refine hK _ _ rfl (And.intro (And.intro hq.facts.1 hq.facts.2.1) (And.intro (And.intro hz4.facts.1 hz4.facts.2.1) True.intro)) ?_
  clear hK K hbx_ ho c9
  apply wpTail_end
  replace ha := ha.drew
  replace hb' := hb'.drew
  replace hp := hp.drew
  replace hq := hq.drew
  replace g1 := g1.drew
  replace g2 := g2.drew
  replace hz1 := hz1.drew
  replace hz2 := hz2.drew
  replace g3 := g3.drew
  replace g4 := g4.drew
  replace hz3 := hz3.drew
  replace hz4 := hz4.drew
  replace h13 := h13.drew
  replace hz5 := hz5.drew
  replace hb := hb.drew
  go_wp2_with fail
  refine wp_region_pl [(0, false), (1, false), (2, true), (3, true), (4, true), (5, false), (6, false), (7, false), (8, false), (9, true), (10, true), (11, false), (12, false), (13, false)] (fun w' => w'.cell? ⟨w.heap.size, 0, none⟩ = some (.bool na) ∧ w'.cell? ⟨w.heap.size, 1, none⟩ = some (.slice oa xs.length ca) ∧ w'.cell? ⟨w.heap.size + 1, 0, none⟩ = some (.bool nb) ∧ w'.cell? ⟨w.heap.size + 1, 1, none⟩ = some (.slice ob ys.length cb) ∧ w'.cell? ⟨w_3.heap.size, 0, none⟩ = some (.bool sb_hz1) ∧ w'.cell? ⟨w_3.heap.size, 1, none⟩ = some (.slice o_hz1 n_hz1 c_hz1) ∧ w'.cell? ⟨w_4.heap.size, 0, none⟩ = some (.bool sb_hz2) ∧ w'.cell? ⟨w_4.heap.size, 1, none⟩ = some (.slice o_hz2 n_hz2 c_hz2) ∧ w'.cell? ⟨w_8.heap.size, 0, none⟩ = some (.bool sb_hz3) ∧ w'.cell? ⟨w_8.heap.size, 1, none⟩ = some (.slice o_hz3 n_hz3 c_hz3) ∧ w'.cell? ⟨w_9.heap.size, 0, none⟩ = some (.bool sb_hz4) ∧ w'.cell? ⟨w_9.heap.size, 1, none⟩ = some (.slice o_hz4 n_hz4 c_hz4) ∧ w'.cell? ⟨p_hz5, 0, none⟩ = some (.bool sb_hz5) ∧ w'.cell? ⟨p_hz5, 1, none⟩ = some (.slice o_hz5 n_hz5 c_hz5)) (by kernel_rfl) (by kernel_rfl) (by kernel_rfl) (by kernel_rfl) ⟨hp.facts.1, hp.facts.2.1, hq.facts.1, hq.facts.2.1, hz1.facts.1, hz1.facts.2.1, hz2.facts.1, hz2.facts.2.1, hz3.facts.1, hz3.facts.2.1, hz4.facts.1, hz4.facts.2.1, hz5.facts.1, hz5.facts.2.1⟩ ?_
  apply wpPl_ld
  case hi => rfl
  case h1 => intro w' hC K hK; obtain ⟨c0, c1, c2, c3, c4, c5, c6, c7, c8, c9, c10, c11, c12, c13⟩ := hC; (first | go_big_move | go_big_op); exact hK
  case hw => kernel_rfl
  case hv => kernel_rfl
  case hb => kernel_rfl
  case hp => kernel_rfl
  apply wpPl_ld
  case hi => rfl
  case h1 => intro w' hC K hK; obtain ⟨c0, c1, c2, c3, c4, c5, c6, c7, c8, c9, c10, c11, c12, c13⟩ := hC; (first | go_big_move | go_big_op); exact hK
  case hw => kernel_rfl
  case hv => kernel_rfl
  case hb => kernel_rfl
  case hp => kernel_rfl
  apply wpPl_call
  case hi => rfl
  case hw => kernel_rfl
  case h =>
  intro K hK
  have kb_34 := hb.size
  go_big_op
  go_fit (zabs_any hb' (by decide))
  rintro e w_34 ⟨v14, rfl, h14, hb_34⟩
  replace ha := ha.below hb_34 (Nat.le_refl _)
  replace hb' := hb'.below hb_34 (Nat.le_refl _)
  replace hp := hp.below hb_34 (Nat.le_refl _)
  replace hq := hq.below hb_34 (Nat.le_refl _)
  replace g1 := g1.below hb_34 (Nat.le_refl _)
  replace g2 := g2.below hb_34 (Nat.le_refl _)
  replace hz1 := hz1.below hb_34 (Nat.le_refl _)
  replace hz2 := hz2.below hb_34 (Nat.le_refl _)
  replace g3 := g3.below hb_34 (Nat.le_refl _)
  replace g4 := g4.below hb_34 (Nat.le_refl _)
  replace hz3 := hz3.below hb_34 (Nat.le_refl _)
  replace hz4 := hz4.below hb_34 (Nat.le_refl _)
  replace h13 := h13.below hb_34 (Nat.le_refl _)
  replace hz5 := hz5.below hb_34 (Nat.le_refl _)
  replace hb := hb.trans (hb_34.mono hb.size)
  refine hK _ _ rfl ⟨hp.facts.1, hp.facts.2.1, hq.facts.1, hq.facts.2.1, hz1.facts.1, hz1.facts.2.1, hz2.facts.1, hz2.facts.2.1, hz3.facts.1, hz3.facts.2.1, hz4.facts.1, hz4.facts.2.1, hz5.facts.1, hz5.facts.2.1⟩ ?_
  clear hK K hb_34
  replace h14 := h14.rd
  apply wpPl_call
  case hi => rfl
  case hw => kernel_rfl
  case h =>
  intro K hK
  have kb_35 := hb.size
  go_big_op
  go_fit (zneg_any (h14.zn L6.out) (by decide))
  rintro e w_35 ⟨v15, rfl, h15, hb_35⟩
  replace ha := ha.below hb_35 (Nat.le_refl _)
  replace hb' := hb'.below hb_35 (Nat.le_refl _)
  replace hp := hp.below hb_35 (Nat.le_refl _)
  replace hq := hq.below hb_35 (Nat.le_refl _)
  replace g1 := g1.below hb_35 (Nat.le_refl _)
  replace g2 := g2.below hb_35 (Nat.le_refl _)
  replace hz1 := hz1.below hb_35 (Nat.le_refl _)
  replace hz2 := hz2.below hb_35 (Nat.le_refl _)
  replace g3 := g3.below hb_35 (Nat.le_refl _)
  replace g4 := g4.below hb_35 (Nat.le_refl _)
  replace hz3 := hz3.below hb_35 (Nat.le_refl _)
  replace hz4 := hz4.below hb_35 (Nat.le_refl _)
  replace h13 := h13.below hb_35 (Nat.le_refl _)
  replace hz5 := hz5.below hb_35 (Nat.le_refl _)
  replace h14 := h14.below hb_35 (Nat.le_refl _)
  replace hb := hb.trans (hb_35.mono hb.size)
  refine hK _ _ rfl ⟨hp.facts.1, hp.facts.2.1, hq.facts.1, hq.facts.2.1, hz1.facts.1, hz1.facts.2.1, hz2.facts.1, hz2.facts.2.1, hz3.facts.1, hz3.facts.2.1, hz4.facts.1, hz4.facts.2.1, hz5.facts.1, hz5.facts.2.1⟩ ?_
  clear hK K hb_35
  replace h15 := h15.rd
  clear h14
  apply wpPl_call
  case hi => rfl
  case hw => kernel_rfl
  case h =>
  intro K hK
  have kb_36 := hb.size
  go_big_op
  go_fit (zcmp_any (h13.zn L9.out) (h15.zn L7.out) (by decide) (by decide))
  rintro e w_36 ⟨rfl, hb_36⟩
  replace ha := ha.below hb_36 (Nat.le_refl _)
  replace hb' := hb'.below hb_36 (Nat.le_refl _)
  replace hp := hp.below hb_36 (Nat.le_refl _)
  replace hq := hq.below hb_36 (Nat.le_refl _)
  replace g1 := g1.below hb_36 (Nat.le_refl _)
  replace g2 := g2.below hb_36 (Nat.le_refl _)
  replace hz1 := hz1.below hb_36 (Nat.le_refl _)
  replace hz2 := hz2.below hb_36 (Nat.le_refl _)
  replace g3 := g3.below hb_36 (Nat.le_refl _)
  replace g4 := g4.below hb_36 (Nat.le_refl _)
  replace hz3 := hz3.below hb_36 (Nat.le_refl _)
  replace hz4 := hz4.below hb_36 (Nat.le_refl _)
  replace h13 := h13.below hb_36 (Nat.le_refl _)
  replace hz5 := hz5.below hb_36 (Nat.le_refl _)
  replace h15 := h15.below hb_36 (Nat.le_refl _)
  replace hb := hb.trans (hb_36.mono hb.size)
  refine hK _ _ rfl ⟨hp.facts.1, hp.facts.2.1, hq.facts.1, hq.facts.2.1, hz1.facts.1, hz1.facts.2.1, hz2.facts.1, hz2.facts.2.1, hz3.facts.1, hz3.facts.2.1, hz4.facts.1, hz4.facts.2.1, hz5.facts.1, hz5.facts.2.1⟩ ?_
  clear hK K hb_36
  rw [E5.out.1]
  clear h15
  apply wpPl_ld
  case hi => rfl
  case h1 => intro w' hC K hK; obtain ⟨c0, c1, c2, c3, c4, c5, c6, c7, c8, c9, c10, c11, c12, c13⟩ := hC; (first | go_big_move | go_big_op); exact hK
  case hw => kernel_rfl
  case hv => kernel_rfl
  case hb => kernel_rfl
  case hp => kernel_rfl
  apply wpPl_ld
  case hi => rfl
  case h1 => intro w' hC K hK; obtain ⟨c0, c1, c2, c3, c4, c5, c6, c7, c8, c9, c10, c11, c12, c13⟩ := hC; (first | go_big_move | go_big_op); exact hK
  case hw => kernel_rfl
  case hv => kernel_rfl
  case hb => kernel_rfl
  case hp => kernel_rfl
  apply wpPl_ld
  case hi => rfl
  case h1 => intro w' hC K hK; obtain ⟨c0, c1, c2, c3, c4, c5, c6, c7, c8, c9, c10, c11, c12, c13⟩ := hC; (first | go_big_move | go_big_op); exact hK
  case hw => kernel_rfl
  case hv => kernel_rfl
  case hb => kernel_rfl
  case hp => kernel_rfl
  apply wpPl_ld
  case hi => rfl
  case h1 => intro w' hC K hK; obtain ⟨c0, c1, c2, c3, c4, c5, c6, c7, c8, c9, c10, c11, c12, c13⟩ := hC; (first | go_big_move | go_big_op); exact hK
  case hw => kernel_rfl
  case hv => kernel_rfl
  case hb => kernel_rfl
  case hp => kernel_rfl
  apply wpPl_call
  case hi => rfl
  case hw => kernel_rfl
  case h =>
  intro K hK
  have kb_37 := hb.size
  go_big_op
  go_fit (zabs_any hb' (by decide))
  rintro e w_37 ⟨v16, rfl, h16, hb_37⟩
  replace ha := ha.below hb_37 (Nat.le_refl _)
  replace hb' := hb'.below hb_37 (Nat.le_refl _)
  replace hp := hp.below hb_37 (Nat.le_refl _)
  replace hq := hq.below hb_37 (Nat.le_refl _)
  replace g1 := g1.below hb_37 (Nat.le_refl _)
  replace g2 := g2.below hb_37 (Nat.le_refl _)
  replace hz1 := hz1.below hb_37 (Nat.le_refl _)
  replace hz2 := hz2.below hb_37 (Nat.le_refl _)
  replace g3 := g3.below hb_37 (Nat.le_refl _)
  replace g4 := g4.below hb_37 (Nat.le_refl _)
  replace hz3 := hz3.below hb_37 (Nat.le_refl _)
  replace hz4 := hz4.below hb_37 (Nat.le_refl _)
  replace h13 := h13.below hb_37 (Nat.le_refl _)
  replace hz5 := hz5.below hb_37 (Nat.le_refl _)
  replace hb := hb.trans (hb_37.mono hb.size)
  refine hK _ _ rfl ⟨hp.facts.1, hp.facts.2.1, hq.facts.1, hq.facts.2.1, hz1.facts.1, hz1.facts.2.1, hz2.facts.1, hz2.facts.2.1, hz3.facts.1, hz3.facts.2.1, hz4.facts.1, hz4.facts.2.1, hz5.facts.1, hz5.facts.2.1⟩ ?_
  clear hK K hb_37
  replace h16 := h16.rd
  apply wpPl_call
  case hi => rfl
  case hw => kernel_rfl
  case h =>
  intro K hK
  have kb_38 := hb.size
  go_big_op
  go_fit (zcmp_any (h13.zn L9.out) (h16.zn L6.out) (by decide) (by decide))
  rintro e w_38 ⟨rfl, hb_38⟩
  replace ha := ha.below hb_38 (Nat.le_refl _)
  replace hb' := hb'.below hb_38 (Nat.le_refl _)
  replace hp := hp.below hb_38 (Nat.le_refl _)
  replace hq := hq.below hb_38 (Nat.le_refl _)
  replace g1 := g1.below hb_38 (Nat.le_refl _)
  replace g2 := g2.below hb_38 (Nat.le_refl _)
  replace hz1 := hz1.below hb_38 (Nat.le_refl _)
  replace hz2 := hz2.below hb_38 (Nat.le_refl _)
  replace g3 := g3.below hb_38 (Nat.le_refl _)
  replace g4 := g4.below hb_38 (Nat.le_refl _)
  replace hz3 := hz3.below hb_38 (Nat.le_refl _)
  replace hz4 := hz4.below hb_38 (Nat.le_refl _)
  replace h13 := h13.below hb_38 (Nat.le_refl _)
  replace hz5 := hz5.below hb_38 (Nat.le_refl _)
  replace h16 := h16.below hb_38 (Nat.le_refl _)
  replace hb := hb.trans (hb_38.mono hb.size)
  refine hK _ _ rfl ⟨hp.facts.1, hp.facts.2.1, hq.facts.1, hq.facts.2.1, hz1.facts.1, hz1.facts.2.1, hz2.facts.1, hz2.facts.2.1, hz3.facts.1, hz3.facts.2.1, hz4.facts.1, hz4.facts.2.1, hz5.facts.1, hz5.facts.2.1⟩ ?_
  clear hK K hb_38
  rw [E4.out]
  clear h16
  apply wpPl_ld
  case hi => rfl
  case h1 => intro w' hC K hK; obtain ⟨c0, c1, c2, c3, c4, c5, c6, c7, c8, c9, c10, c11, c12, c13⟩ := hC; (first | go_big_move | go_big_op); exact hK
  case hw => kernel_rfl
  case hv => kernel_rfl
  case hb => kernel_rfl
  case hp => kernel_rfl
  apply wpPl_ld
  case hi => rfl
  case h1 => intro w' hC K hK; obtain ⟨c0, c1, c2, c3, c4, c5, c6, c7, c8, c9, c10, c11, c12, c13⟩ := hC; (first | go_big_move | go_big_op); exact hK
  case hw => kernel_rfl
  case hv => kernel_rfl
  case hb => kernel_rfl
  case hp => kernel_rfl
  apply wpPl_ld
  case hi => rfl
  case h1 => intro w' hC K hK; obtain ⟨c0, c1, c2, c3, c4, c5, c6, c7, c8, c9, c10, c11, c12, c13⟩ := hC; (first | go_big_move | go_big_op); exact hK
  case hw => kernel_rfl
  case hv => kernel_rfl
  case hb => kernel_rfl
  case hp => kernel_rfl
  apply wpPl_end
  go_wp2
  go_ret
  exact ⟨rfl, hb⟩

theorem walk_ZintRests (w : World) (na : Bool) (sa : Value) (xs : List Nat) (hx : Rd w sa xs) (hxl : xs.length ≤ 1048576) (nb : Bool) (sb : Value) (ys : List Nat) (hy : Rd w sb ys) (hyl : ys.length ≤ 1048576) (htab : Lib.TabIs Tryd.prog w p10 .u64 Lib.pow10Tab) :
    Calls Tryd.prog 11 #[.agg #[.bool na, sa], .agg #[.bool nb, sb]] w fun e w' => e = .returned (.bool true) ∧ Below w.heap.size w w' := by
  have ha : ZN w (.agg #[.bool na, sa]) (zv na xs) 1048576 := ⟨na, sa, xs, rfl, hx, rfl, hxl⟩
  have hb : ZN w (.agg #[.bool nb, sb]) (zv nb ys) 1048576 := ⟨nb, sb, ys, rfl, hy, rfl, hyl⟩
  by_cases h0 : zv nb ys = 0
  · rw [h0] at hb; exact rests_zero ha hb htab
  · by_cases hr : (zv na xs).fmod (zv nb ys) = 0
    · exact rests_walk0 ha hb h0 hr htab
    · exact rests_walk1 ha hb h0 hr htab
end Go.Proofs.YtabmffenbkdgkaaDoor
