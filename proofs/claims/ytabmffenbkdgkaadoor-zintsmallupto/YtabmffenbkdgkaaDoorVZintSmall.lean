/- ZintSmall: the law's walk. -/
import Derived.Test.YtabmffenbkdgkaaDoorZ13
namespace Go.Proofs.YtabmffenbkdgkaaDoor
open Go.RowKit Dig

set_option maxHeartbeats 2000000 in
set_option maxRecDepth 20000 in
/-- The law's own a2. -/
theorem a2_any {w : World} {va : Value} {x : Int} {l : Nat} (ha : ZN w va x l) (hl : l ≤ 100000000) :
    Calls Tryd.prog 31 #[va] w fun e w' => ∃ v', e = .returned v' ∧ ZC w' v' x ∧ Below w.heap.size w w' := by
  obtain ⟨na, oa, ca, xs, rfl, hca, _, _, hxl⟩ := ha.open_
  go_enter Tryd.func31, Tryd.ntmps31
  have hb := Below.refl w.heap.size w
  have hp := Bk.new w na (.slice oa xs.length ca)
  replace ha := ha.alloc (.cells #[.bool na, (.slice oa xs.length ca)] 24)
  replace hb := hb.alloc hb.size (.cells #[.bool na, (.slice oa xs.length ca)] 24)
  have hz := Bk.new (w.alloc (.cells #[.bool na, (.slice oa xs.length ca)] 24)) false (.slice none 0 0)
  simp only [Bk.size_alloc] at hz
  replace ha := ha.alloc (.cells #[.bool false, (.slice none 0 0)] 24)
  replace hp := hp.alloc (.cells #[.bool false, (.slice none 0 0)] 24)
  replace hb := hb.alloc hb.size (.cells #[.bool false, (.slice none 0 0)] 24)
  have f_hp := hp.facts
  go_wp2_with fail
  refine (rnorm_any ha (by omega)).mono ?_
  rintro e w_1 ⟨v1, rfl, g1, hb_1⟩
  replace ha := ha.below hb_1 (Nat.le_refl _)
  replace hp := hp.below hb_1 (Nat.le_refl _)
  replace hz := hz.below hb_1 (Nat.le_refl _)
  replace hb := hb.trans (hb_1.mono hb.size)
  clear hb_1
  replace g1 := g1.rd
  clear f_hp
  obtain ⟨sb_hz, o_hz, n_hz, c_hz, rfl⟩ := g1.open2
  have f_hz := hz.facts
  have ho := Bk.only w_1 (w.heap.size + 1) sb_hz (.slice o_hz n_hz c_hz)
  have hbx_ := hz.bx
  replace ha := ha.frame hbx_ ho
  replace hp := hp.frame ho (by first | assumption | (apply Ne.symm; assumption) | omega)
  replace g1 := g1.frame hbx_ ho
  replace hz := hz.store sb_hz (.slice o_hz n_hz c_hz)
  replace hb := (hb.setCell (p := ⟨w.heap.size + 1, 0, none⟩) (show w.heap.size ≤ w.heap.size + 1 by first | assumption | omega) (.bool sb_hz)).setCell (p := ⟨w.heap.size + 1, 1, none⟩) (show w.heap.size ≤ w.heap.size + 1 by first | assumption | omega) (.slice o_hz n_hz c_hz)
  clear ho hbx_
  obtain ⟨w_2, hw_2⟩ : ∃ v, ((w_1.setCell ⟨w.heap.size + 1, 0, none⟩ (.bool sb_hz)).setCell ⟨w.heap.size + 1, 1, none⟩ (.slice o_hz n_hz c_hz)) = v := ⟨_, rfl⟩
  rw [hw_2] at ha hp hz g1 hb
  have f1 := hz.facts
  go_wp2
  refine bodyPost_ret (v := .agg #[.bool sb_hz, .slice o_hz n_hz c_hz]) (by simp [results, Tryd.results31, go_sem, f1.1, f1.2.1]) rfl ?_
  exact ⟨_, rfl, g1, hb⟩

set_option maxHeartbeats 4000000 in
set_option maxRecDepth 20000 in
theorem small_low {w : World} {va : Value} {x n : Int} (hn1 : -9223372036854775808 ≤ n) (hn2 : n ≤ 9223372036854775807) (ha : ZN w va x 1048576) (hx : x < -9223372036854775808) (htab : Lib.TabIs Tryd.prog w p10 .u64 Lib.pow10Tab) :
    Calls Tryd.prog 4 #[.int .i64 n, va] w fun e w' => e = .returned (.bool true) ∧ Below w.heap.size w w' := by
  have htabs := Lib.tabBelow_of_tabIs htab
  have hnw : IntKind.i64.wrap n = n := by rw [IntKind.wrap_i64]; omega
  have hnn : (n == n) = true := by simp
  have LNN := hide (zlen_i n hn1 hn2)
  have LM := hide (zlen_i (-9223372036854775808) (by decide) (by decide))
  have LX := hide (zlen_i (9223372036854775807) (by decide) (by decide))
  obtain ⟨D, hD⟩ : ∃ D, zcmp x (-9223372036854775808) = D := ⟨_, rfl⟩
  obtain ⟨F, hF⟩ : ∃ F, zcmp x 9223372036854775807 = F := ⟨_, rfl⟩
  have HD := hide hD
  have HF := hide hF
  have hD1 : D = -1 := by rw [← hD]; exact zcmp_lt hx
  subst hD1
  obtain ⟨hF1, _⟩ := And.intro (show F = -1 by rw [← hF]; exact zcmp_lt (by omega)) trivial
  subst hF1
  clear hD hF
  obtain ⟨na, oa, ca, xs, rfl, hca, _, _, hxl⟩ := ha.open_
  go_enter Tryd.func4, Tryd.ntmps4
  have hb := Below.refl w.heap.size w
  have hp := Bk.new w na (.slice oa xs.length ca)
  replace ha := ha.alloc (.cells #[.bool na, (.slice oa xs.length ca)] 24)
  replace hb := hb.alloc hb.size (.cells #[.bool na, (.slice oa xs.length ca)] 24)
  go_wp2_with fail
  refine (zawake_any _ (htabs _ hb)).mono ?_
  rintro e w_1 ⟨rfl, hb_1⟩
  replace ha := ha.below hb_1 (Nat.le_refl _)
  replace hp := hp.below hb_1 (Nat.le_refl _)
  replace hb := hb.trans (hb_1.mono hb.size)
  clear hb_1
  go_wp2_with fail
  refine (from_any n _ hn1 hn2).mono ?_
  rintro e w_2 ⟨v1, rfl, g1, hb_2⟩
  replace ha := ha.below hb_2 (Nat.le_refl _)
  replace hp := hp.below hb_2 (Nat.le_refl _)
  replace hb := hb.trans (hb_2.mono hb.size)
  clear hb_2
  replace g1 := g1.rd
  have kb_h5 := hb.size
  have ne_hp_h5 : w.heap.size ≠ w_2.heap.size := by have := hp.lt; (try simp only [Bk.size_alloc] at this); omega
  have h5 := Bk.new w_2 false (.slice none 0 0)
  replace ha := ha.alloc (.cells #[.bool false, (.slice none 0 0)] 24)
  replace hp := hp.alloc (.cells #[.bool false, (.slice none 0 0)] 24)
  replace g1 := g1.alloc (.cells #[.bool false, (.slice none 0 0)] 24)
  replace hb := hb.alloc hb.size (.cells #[.bool false, (.slice none 0 0)] 24)
  obtain ⟨w_3, hw_3⟩ : ∃ v, (w_2.alloc (.cells #[.bool false, (.slice none 0 0)] 24)) = v := ⟨_, rfl⟩
  rw [hw_3] at ha hp g1 h5 hb
  obtain ⟨sb_h5, o_h5, n_h5, c_h5, rfl⟩ := g1.open2
  have f_h5 := h5.facts
  have ho := Bk.only w_3 (w_2.heap.size) sb_h5 (.slice o_h5 n_h5 c_h5)
  have hbx_ := h5.bx
  replace ha := ha.frame hbx_ ho
  replace hp := hp.frame ho (by first | assumption | (apply Ne.symm; assumption) | omega)
  replace g1 := g1.frame hbx_ ho
  replace h5 := h5.store sb_h5 (.slice o_h5 n_h5 c_h5)
  replace hb := (hb.setCell (p := ⟨w_2.heap.size, 0, none⟩) (show w.heap.size ≤ w_2.heap.size by first | assumption | omega) (.bool sb_h5)).setCell (p := ⟨w_2.heap.size, 1, none⟩) (show w.heap.size ≤ w_2.heap.size by first | assumption | omega) (.slice o_h5 n_h5 c_h5)
  clear ho hbx_
  obtain ⟨w_4, hw_4⟩ : ∃ v, ((w_3.setCell ⟨w_2.heap.size, 0, none⟩ (.bool sb_h5)).setCell ⟨w_2.heap.size, 1, none⟩ (.slice o_h5 n_h5 c_h5)) = v := ⟨_, rfl⟩
  rw [hw_4] at ha hp g1 h5 hb
  have f_h5 := h5.facts
  go_wp2_with fail
  refine (int_any (g1.zn LNN.out) (by decide) hn1 hn2).mono ?_
  rintro e w_5 ⟨rfl, hb_5⟩
  replace ha := ha.below hb_5 (Nat.le_refl _)
  replace hp := hp.below hb_5 (Nat.le_refl _)
  replace g1 := g1.below hb_5 (Nat.le_refl _)
  replace h5 := h5.below hb_5 (Nat.le_refl _)
  replace hb := hb.trans (hb_5.mono hb.size)
  clear hb_5
  clear f_h5
  clear f_h5
  have f_hp := hp.facts
  go_wp2_with fail
  refine (int_low ha (by decide) hx).mono ?_
  rintro e w_6 ⟨rfl, hb_6⟩
  replace ha := ha.below hb_6 (Nat.le_refl _)
  replace hp := hp.below hb_6 (Nat.le_refl _)
  replace g1 := g1.below hb_6 (Nat.le_refl _)
  replace h5 := h5.below hb_6 (Nat.le_refl _)
  replace hb := hb.trans (hb_6.mono hb.size)
  clear hb_6
  clear f_hp
  replace ha := ha.drew
  replace hp := hp.drew
  replace g1 := g1.drew
  replace h5 := h5.drew
  replace hb := hb.drew
  go_wp2_with fail
  refine wp_region_pl [(0, false), (1, true), (2, true), (3, false), (4, false)] (fun w' => w'.cell? ⟨w.heap.size, 0, none⟩ = some (.bool na) ∧ w'.cell? ⟨w.heap.size, 1, none⟩ = some (.slice oa xs.length ca) ∧ w'.cell? ⟨w_2.heap.size, 0, none⟩ = some (.bool sb_h5) ∧ w'.cell? ⟨w_2.heap.size, 1, none⟩ = some (.slice o_h5 n_h5 c_h5)) (by kernel_rfl) (by kernel_rfl) (by kernel_rfl) (by kernel_rfl) ⟨hp.facts.1, hp.facts.2.1, h5.facts.1, h5.facts.2.1⟩ ?_
  apply wpPl_ld
  case hi => rfl
  case h1 => intro w' hC K hK; obtain ⟨c0, c1, c2, c3⟩ := hC; (first | go_big_move | go_big_op); exact hK
  case hw => kernel_rfl
  case hv => kernel_rfl
  case hb => kernel_rfl
  case hp => kernel_rfl
  apply wpPl_call
  case hi => rfl
  case hw => kernel_rfl
  case h =>
  intro K hK
  have kb_7 := hb.size
  go_big_op
  go_fit (ri_any (-9223372036854775808) _ (by decide) (by decide))
  rintro e w_7 ⟨v3, rfl, g3, hb_7⟩
  replace ha := ha.below hb_7 (Nat.le_refl _)
  replace hp := hp.below hb_7 (Nat.le_refl _)
  replace g1 := g1.below hb_7 (Nat.le_refl _)
  replace h5 := h5.below hb_7 (Nat.le_refl _)
  replace hb := hb.trans (hb_7.mono hb.size)
  refine hK _ _ rfl ⟨hp.facts.1, hp.facts.2.1, h5.facts.1, h5.facts.2.1⟩ ?_
  clear hK K hb_7
  replace g3 := g3.rd
  apply wpPl_call
  case hi => rfl
  case hw => kernel_rfl
  case h =>
  intro K hK
  have kb_8 := hb.size
  go_big_op
  go_fit (rzcmp_any ha (g3.zn LM.out) (by decide) (by decide))
  rintro e w_8 ⟨rfl, hb_8⟩
  replace ha := ha.below hb_8 (Nat.le_refl _)
  replace hp := hp.below hb_8 (Nat.le_refl _)
  replace g1 := g1.below hb_8 (Nat.le_refl _)
  replace h5 := h5.below hb_8 (Nat.le_refl _)
  replace g3 := g3.below hb_8 (Nat.le_refl _)
  replace hb := hb.trans (hb_8.mono hb.size)
  refine hK _ _ rfl ⟨hp.facts.1, hp.facts.2.1, h5.facts.1, h5.facts.2.1⟩ ?_
  clear hK K hb_8
  rw [HD.out]
  clear g3
  apply wpPl_ld
  case hi => rfl
  case h1 => intro w' hC K hK; obtain ⟨c0, c1, c2, c3⟩ := hC; (first | go_big_move | go_big_op); exact hK
  case hw => kernel_rfl
  case hv => kernel_rfl
  case hb => kernel_rfl
  case hp => kernel_rfl
  apply wpPl_ld
  case hi => rfl
  case h1 => intro w' hC K hK; obtain ⟨c0, c1, c2, c3⟩ := hC; (first | go_big_move | go_big_op); exact hK
  case hw => kernel_rfl
  case hv => kernel_rfl
  case hb => kernel_rfl
  case hp => kernel_rfl
  apply wpPl_end
  replace ha := ha.drew
  replace hp := hp.drew
  replace g1 := g1.drew
  replace h5 := h5.drew
  replace hb := hb.drew
  go_wp2_with fail
  refine wp_region_pl [(0, false), (1, true), (2, true), (3, false), (4, false)] (fun w' => w'.cell? ⟨w.heap.size, 0, none⟩ = some (.bool na) ∧ w'.cell? ⟨w.heap.size, 1, none⟩ = some (.slice oa xs.length ca) ∧ w'.cell? ⟨w_2.heap.size, 0, none⟩ = some (.bool sb_h5) ∧ w'.cell? ⟨w_2.heap.size, 1, none⟩ = some (.slice o_h5 n_h5 c_h5)) (by kernel_rfl) (by kernel_rfl) (by kernel_rfl) (by kernel_rfl) ⟨hp.facts.1, hp.facts.2.1, h5.facts.1, h5.facts.2.1⟩ ?_
  apply wpPl_ld
  case hi => rfl
  case h1 => intro w' hC K hK; obtain ⟨c0, c1, c2, c3⟩ := hC; (first | go_big_move | go_big_op); exact hK
  case hw => kernel_rfl
  case hv => kernel_rfl
  case hb => kernel_rfl
  case hp => kernel_rfl
  apply wpPl_call
  case hi => rfl
  case hw => kernel_rfl
  case h =>
  intro K hK
  have kb_9 := hb.size
  go_big_op
  go_fit (ri_any 9223372036854775807 _ (by decide) (by decide))
  rintro e w_9 ⟨v4, rfl, g4, hb_9⟩
  replace ha := ha.below hb_9 (Nat.le_refl _)
  replace hp := hp.below hb_9 (Nat.le_refl _)
  replace g1 := g1.below hb_9 (Nat.le_refl _)
  replace h5 := h5.below hb_9 (Nat.le_refl _)
  replace hb := hb.trans (hb_9.mono hb.size)
  refine hK _ _ rfl ⟨hp.facts.1, hp.facts.2.1, h5.facts.1, h5.facts.2.1⟩ ?_
  clear hK K hb_9
  replace g4 := g4.rd
  apply wpPl_call
  case hi => rfl
  case hw => kernel_rfl
  case h =>
  intro K hK
  have kb_10 := hb.size
  go_big_op
  go_fit (rzcmp_any ha (g4.zn LX.out) (by decide) (by decide))
  rintro e w_10 ⟨rfl, hb_10⟩
  replace ha := ha.below hb_10 (Nat.le_refl _)
  replace hp := hp.below hb_10 (Nat.le_refl _)
  replace g1 := g1.below hb_10 (Nat.le_refl _)
  replace h5 := h5.below hb_10 (Nat.le_refl _)
  replace g4 := g4.below hb_10 (Nat.le_refl _)
  replace hb := hb.trans (hb_10.mono hb.size)
  refine hK _ _ rfl ⟨hp.facts.1, hp.facts.2.1, h5.facts.1, h5.facts.2.1⟩ ?_
  clear hK K hb_10
  rw [HF.out]
  clear g4
  apply wpPl_ld
  case hi => rfl
  case h1 => intro w' hC K hK; obtain ⟨c0, c1, c2, c3⟩ := hC; (first | go_big_move | go_big_op); exact hK
  case hw => kernel_rfl
  case hv => kernel_rfl
  case hb => kernel_rfl
  case hp => kernel_rfl
  apply wpPl_ld
  case hi => rfl
  case h1 => intro w' hC K hK; obtain ⟨c0, c1, c2, c3⟩ := hC; (first | go_big_move | go_big_op); exact hK
  case hw => kernel_rfl
  case hv => kernel_rfl
  case hb => kernel_rfl
  case hp => kernel_rfl
  apply wpPl_end
  have f_h5 := h5.facts
  go_wp2_with fail
  refine (small_zz n g1 hn1 hn2).mono ?_
  rintro e w_11 ⟨rfl, hb_11⟩
  replace ha := ha.below hb_11 (Nat.le_refl _)
  replace hp := hp.below hb_11 (Nat.le_refl _)
  replace g1 := g1.below hb_11 (Nat.le_refl _)
  replace h5 := h5.below hb_11 (Nat.le_refl _)
  replace hb := hb.trans (hb_11.mono hb.size)
  clear hb_11
  clear f_h5
  go_wp2
  go_ret
  exact ⟨rfl, hb⟩

set_option maxHeartbeats 4000000 in
set_option maxRecDepth 20000 in
theorem small_high {w : World} {va : Value} {x n : Int} (hn1 : -9223372036854775808 ≤ n) (hn2 : n ≤ 9223372036854775807) (ha : ZN w va x 1048576) (hx : 9223372036854775807 < x) (htab : Lib.TabIs Tryd.prog w p10 .u64 Lib.pow10Tab) :
    Calls Tryd.prog 4 #[.int .i64 n, va] w fun e w' => e = .returned (.bool true) ∧ Below w.heap.size w w' := by
  have htabs := Lib.tabBelow_of_tabIs htab
  have hnw : IntKind.i64.wrap n = n := by rw [IntKind.wrap_i64]; omega
  have hnn : (n == n) = true := by simp
  have LNN := hide (zlen_i n hn1 hn2)
  have LM := hide (zlen_i (-9223372036854775808) (by decide) (by decide))
  have LX := hide (zlen_i (9223372036854775807) (by decide) (by decide))
  obtain ⟨D, hD⟩ : ∃ D, zcmp x (-9223372036854775808) = D := ⟨_, rfl⟩
  obtain ⟨F, hF⟩ : ∃ F, zcmp x 9223372036854775807 = F := ⟨_, rfl⟩
  have HD := hide hD
  have HF := hide hF
  have hD1 : D = 1 := by rw [← hD]; exact zcmp_gt (by omega)
  subst hD1
  have hF1 : F = 1 := by rw [← hF]; exact zcmp_gt hx
  subst hF1
  clear hD hF
  obtain ⟨na, oa, ca, xs, rfl, hca, _, _, hxl⟩ := ha.open_
  go_enter Tryd.func4, Tryd.ntmps4
  have hb := Below.refl w.heap.size w
  have hp := Bk.new w na (.slice oa xs.length ca)
  replace ha := ha.alloc (.cells #[.bool na, (.slice oa xs.length ca)] 24)
  replace hb := hb.alloc hb.size (.cells #[.bool na, (.slice oa xs.length ca)] 24)
  go_wp2_with fail
  refine (zawake_any _ (htabs _ hb)).mono ?_
  rintro e w_1 ⟨rfl, hb_1⟩
  replace ha := ha.below hb_1 (Nat.le_refl _)
  replace hp := hp.below hb_1 (Nat.le_refl _)
  replace hb := hb.trans (hb_1.mono hb.size)
  clear hb_1
  go_wp2_with fail
  refine (from_any n _ hn1 hn2).mono ?_
  rintro e w_2 ⟨v1, rfl, g1, hb_2⟩
  replace ha := ha.below hb_2 (Nat.le_refl _)
  replace hp := hp.below hb_2 (Nat.le_refl _)
  replace hb := hb.trans (hb_2.mono hb.size)
  clear hb_2
  replace g1 := g1.rd
  have kb_h5 := hb.size
  have ne_hp_h5 : w.heap.size ≠ w_2.heap.size := by have := hp.lt; (try simp only [Bk.size_alloc] at this); omega
  have h5 := Bk.new w_2 false (.slice none 0 0)
  replace ha := ha.alloc (.cells #[.bool false, (.slice none 0 0)] 24)
  replace hp := hp.alloc (.cells #[.bool false, (.slice none 0 0)] 24)
  replace g1 := g1.alloc (.cells #[.bool false, (.slice none 0 0)] 24)
  replace hb := hb.alloc hb.size (.cells #[.bool false, (.slice none 0 0)] 24)
  obtain ⟨w_3, hw_3⟩ : ∃ v, (w_2.alloc (.cells #[.bool false, (.slice none 0 0)] 24)) = v := ⟨_, rfl⟩
  rw [hw_3] at ha hp g1 h5 hb
  obtain ⟨sb_h5, o_h5, n_h5, c_h5, rfl⟩ := g1.open2
  have f_h5 := h5.facts
  have ho := Bk.only w_3 (w_2.heap.size) sb_h5 (.slice o_h5 n_h5 c_h5)
  have hbx_ := h5.bx
  replace ha := ha.frame hbx_ ho
  replace hp := hp.frame ho (by first | assumption | (apply Ne.symm; assumption) | omega)
  replace g1 := g1.frame hbx_ ho
  replace h5 := h5.store sb_h5 (.slice o_h5 n_h5 c_h5)
  replace hb := (hb.setCell (p := ⟨w_2.heap.size, 0, none⟩) (show w.heap.size ≤ w_2.heap.size by first | assumption | omega) (.bool sb_h5)).setCell (p := ⟨w_2.heap.size, 1, none⟩) (show w.heap.size ≤ w_2.heap.size by first | assumption | omega) (.slice o_h5 n_h5 c_h5)
  clear ho hbx_
  obtain ⟨w_4, hw_4⟩ : ∃ v, ((w_3.setCell ⟨w_2.heap.size, 0, none⟩ (.bool sb_h5)).setCell ⟨w_2.heap.size, 1, none⟩ (.slice o_h5 n_h5 c_h5)) = v := ⟨_, rfl⟩
  rw [hw_4] at ha hp g1 h5 hb
  have f_h5 := h5.facts
  go_wp2_with fail
  refine (int_any (g1.zn LNN.out) (by decide) hn1 hn2).mono ?_
  rintro e w_5 ⟨rfl, hb_5⟩
  replace ha := ha.below hb_5 (Nat.le_refl _)
  replace hp := hp.below hb_5 (Nat.le_refl _)
  replace g1 := g1.below hb_5 (Nat.le_refl _)
  replace h5 := h5.below hb_5 (Nat.le_refl _)
  replace hb := hb.trans (hb_5.mono hb.size)
  clear hb_5
  clear f_h5
  clear f_h5
  have f_hp := hp.facts
  go_wp2_with fail
  refine (int_high ha (by decide) hx).mono ?_
  rintro e w_6 ⟨rfl, hb_6⟩
  replace ha := ha.below hb_6 (Nat.le_refl _)
  replace hp := hp.below hb_6 (Nat.le_refl _)
  replace g1 := g1.below hb_6 (Nat.le_refl _)
  replace h5 := h5.below hb_6 (Nat.le_refl _)
  replace hb := hb.trans (hb_6.mono hb.size)
  clear hb_6
  clear f_hp
  replace ha := ha.drew
  replace hp := hp.drew
  replace g1 := g1.drew
  replace h5 := h5.drew
  replace hb := hb.drew
  go_wp2_with fail
  refine wp_region_pl [(0, false), (1, true), (2, true), (3, false), (4, false)] (fun w' => w'.cell? ⟨w.heap.size, 0, none⟩ = some (.bool na) ∧ w'.cell? ⟨w.heap.size, 1, none⟩ = some (.slice oa xs.length ca) ∧ w'.cell? ⟨w_2.heap.size, 0, none⟩ = some (.bool sb_h5) ∧ w'.cell? ⟨w_2.heap.size, 1, none⟩ = some (.slice o_h5 n_h5 c_h5)) (by kernel_rfl) (by kernel_rfl) (by kernel_rfl) (by kernel_rfl) ⟨hp.facts.1, hp.facts.2.1, h5.facts.1, h5.facts.2.1⟩ ?_
  apply wpPl_ld
  case hi => rfl
  case h1 => intro w' hC K hK; obtain ⟨c0, c1, c2, c3⟩ := hC; (first | go_big_move | go_big_op); exact hK
  case hw => kernel_rfl
  case hv => kernel_rfl
  case hb => kernel_rfl
  case hp => kernel_rfl
  apply wpPl_call
  case hi => rfl
  case hw => kernel_rfl
  case h =>
  intro K hK
  have kb_7 := hb.size
  go_big_op
  go_fit (ri_any (-9223372036854775808) _ (by decide) (by decide))
  rintro e w_7 ⟨v3, rfl, g3, hb_7⟩
  replace ha := ha.below hb_7 (Nat.le_refl _)
  replace hp := hp.below hb_7 (Nat.le_refl _)
  replace g1 := g1.below hb_7 (Nat.le_refl _)
  replace h5 := h5.below hb_7 (Nat.le_refl _)
  replace hb := hb.trans (hb_7.mono hb.size)
  refine hK _ _ rfl ⟨hp.facts.1, hp.facts.2.1, h5.facts.1, h5.facts.2.1⟩ ?_
  clear hK K hb_7
  replace g3 := g3.rd
  apply wpPl_call
  case hi => rfl
  case hw => kernel_rfl
  case h =>
  intro K hK
  have kb_8 := hb.size
  go_big_op
  go_fit (rzcmp_any ha (g3.zn LM.out) (by decide) (by decide))
  rintro e w_8 ⟨rfl, hb_8⟩
  replace ha := ha.below hb_8 (Nat.le_refl _)
  replace hp := hp.below hb_8 (Nat.le_refl _)
  replace g1 := g1.below hb_8 (Nat.le_refl _)
  replace h5 := h5.below hb_8 (Nat.le_refl _)
  replace g3 := g3.below hb_8 (Nat.le_refl _)
  replace hb := hb.trans (hb_8.mono hb.size)
  refine hK _ _ rfl ⟨hp.facts.1, hp.facts.2.1, h5.facts.1, h5.facts.2.1⟩ ?_
  clear hK K hb_8
  rw [HD.out]
  clear g3
  apply wpPl_ld
  case hi => rfl
  case h1 => intro w' hC K hK; obtain ⟨c0, c1, c2, c3⟩ := hC; (first | go_big_move | go_big_op); exact hK
  case hw => kernel_rfl
  case hv => kernel_rfl
  case hb => kernel_rfl
  case hp => kernel_rfl
  apply wpPl_ld
  case hi => rfl
  case h1 => intro w' hC K hK; obtain ⟨c0, c1, c2, c3⟩ := hC; (first | go_big_move | go_big_op); exact hK
  case hw => kernel_rfl
  case hv => kernel_rfl
  case hb => kernel_rfl
  case hp => kernel_rfl
  apply wpPl_end
  replace ha := ha.drew
  replace hp := hp.drew
  replace g1 := g1.drew
  replace h5 := h5.drew
  replace hb := hb.drew
  go_wp2_with fail
  refine wp_region_pl [(0, false), (1, true), (2, true), (3, false), (4, false)] (fun w' => w'.cell? ⟨w.heap.size, 0, none⟩ = some (.bool na) ∧ w'.cell? ⟨w.heap.size, 1, none⟩ = some (.slice oa xs.length ca) ∧ w'.cell? ⟨w_2.heap.size, 0, none⟩ = some (.bool sb_h5) ∧ w'.cell? ⟨w_2.heap.size, 1, none⟩ = some (.slice o_h5 n_h5 c_h5)) (by kernel_rfl) (by kernel_rfl) (by kernel_rfl) (by kernel_rfl) ⟨hp.facts.1, hp.facts.2.1, h5.facts.1, h5.facts.2.1⟩ ?_
  apply wpPl_ld
  case hi => rfl
  case h1 => intro w' hC K hK; obtain ⟨c0, c1, c2, c3⟩ := hC; (first | go_big_move | go_big_op); exact hK
  case hw => kernel_rfl
  case hv => kernel_rfl
  case hb => kernel_rfl
  case hp => kernel_rfl
  apply wpPl_call
  case hi => rfl
  case hw => kernel_rfl
  case h =>
  intro K hK
  have kb_9 := hb.size
  go_big_op
  go_fit (ri_any 9223372036854775807 _ (by decide) (by decide))
  rintro e w_9 ⟨v4, rfl, g4, hb_9⟩
  replace ha := ha.below hb_9 (Nat.le_refl _)
  replace hp := hp.below hb_9 (Nat.le_refl _)
  replace g1 := g1.below hb_9 (Nat.le_refl _)
  replace h5 := h5.below hb_9 (Nat.le_refl _)
  replace hb := hb.trans (hb_9.mono hb.size)
  refine hK _ _ rfl ⟨hp.facts.1, hp.facts.2.1, h5.facts.1, h5.facts.2.1⟩ ?_
  clear hK K hb_9
  replace g4 := g4.rd
  apply wpPl_call
  case hi => rfl
  case hw => kernel_rfl
  case h =>
  intro K hK
  have kb_10 := hb.size
  go_big_op
  go_fit (rzcmp_any ha (g4.zn LX.out) (by decide) (by decide))
  rintro e w_10 ⟨rfl, hb_10⟩
  replace ha := ha.below hb_10 (Nat.le_refl _)
  replace hp := hp.below hb_10 (Nat.le_refl _)
  replace g1 := g1.below hb_10 (Nat.le_refl _)
  replace h5 := h5.below hb_10 (Nat.le_refl _)
  replace g4 := g4.below hb_10 (Nat.le_refl _)
  replace hb := hb.trans (hb_10.mono hb.size)
  refine hK _ _ rfl ⟨hp.facts.1, hp.facts.2.1, h5.facts.1, h5.facts.2.1⟩ ?_
  clear hK K hb_10
  rw [HF.out]
  clear g4
  apply wpPl_ld
  case hi => rfl
  case h1 => intro w' hC K hK; obtain ⟨c0, c1, c2, c3⟩ := hC; (first | go_big_move | go_big_op); exact hK
  case hw => kernel_rfl
  case hv => kernel_rfl
  case hb => kernel_rfl
  case hp => kernel_rfl
  apply wpPl_ld
  case hi => rfl
  case h1 => intro w' hC K hK; obtain ⟨c0, c1, c2, c3⟩ := hC; (first | go_big_move | go_big_op); exact hK
  case hw => kernel_rfl
  case hv => kernel_rfl
  case hb => kernel_rfl
  case hp => kernel_rfl
  apply wpPl_end
  have f_h5 := h5.facts
  go_wp2_with fail
  refine (small_zz n g1 hn1 hn2).mono ?_
  rintro e w_11 ⟨rfl, hb_11⟩
  replace ha := ha.below hb_11 (Nat.le_refl _)
  replace hp := hp.below hb_11 (Nat.le_refl _)
  replace g1 := g1.below hb_11 (Nat.le_refl _)
  replace h5 := h5.below hb_11 (Nat.le_refl _)
  replace hb := hb.trans (hb_11.mono hb.size)
  clear hb_11
  clear f_h5
  go_wp2
  go_ret
  exact ⟨rfl, hb⟩

set_option maxHeartbeats 4000000 in
set_option maxRecDepth 20000 in
theorem small_mid {w : World} {va : Value} {x n : Int} (hn1 : -9223372036854775808 ≤ n) (hn2 : n ≤ 9223372036854775807) (ha : ZN w va x 1048576) (hx1 : -9223372036854775808 ≤ x) (hx2 : x ≤ 9223372036854775807) (htab : Lib.TabIs Tryd.prog w p10 .u64 Lib.pow10Tab) :
    Calls Tryd.prog 4 #[.int .i64 n, va] w fun e w' => e = .returned (.bool true) ∧ Below w.heap.size w w' := by
  have htabs := Lib.tabBelow_of_tabIs htab
  have hnw : IntKind.i64.wrap n = n := by rw [IntKind.wrap_i64]; omega
  have hnn : (n == n) = true := by simp
  have LNN := hide (zlen_i n hn1 hn2)
  have LM := hide (zlen_i (-9223372036854775808) (by decide) (by decide))
  have LX := hide (zlen_i (9223372036854775807) (by decide) (by decide))
  obtain ⟨D, hD⟩ : ∃ D, zcmp x (-9223372036854775808) = D := ⟨_, rfl⟩
  obtain ⟨F, hF⟩ : ∃ F, zcmp x 9223372036854775807 = F := ⟨_, rfl⟩
  have HD := hide hD
  have HF := hide hF
  have hD0 : 0 ≤ D := by rw [← hD]; exact zcmp_ge hx1
  have hD1 : (D < 0) = False := eq_false (by omega)
  have hF0 : F ≤ 0 := by
    rw [← hF]; unfold zcmp
    split
    · omega
    · rw [if_pos (by omega)]; omega
  have hF1 : (0 < F) = False := eq_false (by omega)
  have LXX := hide (zlen_i x hx1 hx2)
  have hxw : IntKind.i64.wrap x = x := by rw [IntKind.wrap_i64]; omega
  clear hD hF
  obtain ⟨na, oa, ca, xs, rfl, hca, _, _, hxl⟩ := ha.open_
  go_enter Tryd.func4, Tryd.ntmps4
  have hb := Below.refl w.heap.size w
  have hp := Bk.new w na (.slice oa xs.length ca)
  replace ha := ha.alloc (.cells #[.bool na, (.slice oa xs.length ca)] 24)
  replace hb := hb.alloc hb.size (.cells #[.bool na, (.slice oa xs.length ca)] 24)
  go_wp2_with fail
  refine (zawake_any _ (htabs _ hb)).mono ?_
  rintro e w_1 ⟨rfl, hb_1⟩
  replace ha := ha.below hb_1 (Nat.le_refl _)
  replace hp := hp.below hb_1 (Nat.le_refl _)
  replace hb := hb.trans (hb_1.mono hb.size)
  clear hb_1
  go_wp2_with fail
  refine (from_any n _ hn1 hn2).mono ?_
  rintro e w_2 ⟨v1, rfl, g1, hb_2⟩
  replace ha := ha.below hb_2 (Nat.le_refl _)
  replace hp := hp.below hb_2 (Nat.le_refl _)
  replace hb := hb.trans (hb_2.mono hb.size)
  clear hb_2
  replace g1 := g1.rd
  have kb_h5 := hb.size
  have ne_hp_h5 : w.heap.size ≠ w_2.heap.size := by have := hp.lt; (try simp only [Bk.size_alloc] at this); omega
  have h5 := Bk.new w_2 false (.slice none 0 0)
  replace ha := ha.alloc (.cells #[.bool false, (.slice none 0 0)] 24)
  replace hp := hp.alloc (.cells #[.bool false, (.slice none 0 0)] 24)
  replace g1 := g1.alloc (.cells #[.bool false, (.slice none 0 0)] 24)
  replace hb := hb.alloc hb.size (.cells #[.bool false, (.slice none 0 0)] 24)
  obtain ⟨w_3, hw_3⟩ : ∃ v, (w_2.alloc (.cells #[.bool false, (.slice none 0 0)] 24)) = v := ⟨_, rfl⟩
  rw [hw_3] at ha hp g1 h5 hb
  obtain ⟨sb_h5, o_h5, n_h5, c_h5, rfl⟩ := g1.open2
  have f_h5 := h5.facts
  have ho := Bk.only w_3 (w_2.heap.size) sb_h5 (.slice o_h5 n_h5 c_h5)
  have hbx_ := h5.bx
  replace ha := ha.frame hbx_ ho
  replace hp := hp.frame ho (by first | assumption | (apply Ne.symm; assumption) | omega)
  replace g1 := g1.frame hbx_ ho
  replace h5 := h5.store sb_h5 (.slice o_h5 n_h5 c_h5)
  replace hb := (hb.setCell (p := ⟨w_2.heap.size, 0, none⟩) (show w.heap.size ≤ w_2.heap.size by first | assumption | omega) (.bool sb_h5)).setCell (p := ⟨w_2.heap.size, 1, none⟩) (show w.heap.size ≤ w_2.heap.size by first | assumption | omega) (.slice o_h5 n_h5 c_h5)
  clear ho hbx_
  obtain ⟨w_4, hw_4⟩ : ∃ v, ((w_3.setCell ⟨w_2.heap.size, 0, none⟩ (.bool sb_h5)).setCell ⟨w_2.heap.size, 1, none⟩ (.slice o_h5 n_h5 c_h5)) = v := ⟨_, rfl⟩
  rw [hw_4] at ha hp g1 h5 hb
  have f_h5 := h5.facts
  go_wp2_with fail
  refine (int_any (g1.zn LNN.out) (by decide) hn1 hn2).mono ?_
  rintro e w_5 ⟨rfl, hb_5⟩
  replace ha := ha.below hb_5 (Nat.le_refl _)
  replace hp := hp.below hb_5 (Nat.le_refl _)
  replace g1 := g1.below hb_5 (Nat.le_refl _)
  replace h5 := h5.below hb_5 (Nat.le_refl _)
  replace hb := hb.trans (hb_5.mono hb.size)
  clear hb_5
  clear f_h5
  clear f_h5
  have f_hp := hp.facts
  go_wp2_with fail
  refine (int_any ha (by decide) hx1 hx2).mono ?_
  rintro e w_6 ⟨rfl, hb_6⟩
  replace ha := ha.below hb_6 (Nat.le_refl _)
  replace hp := hp.below hb_6 (Nat.le_refl _)
  replace g1 := g1.below hb_6 (Nat.le_refl _)
  replace h5 := h5.below hb_6 (Nat.le_refl _)
  replace hb := hb.trans (hb_6.mono hb.size)
  clear hb_6
  clear f_hp
  replace ha := ha.drew
  replace hp := hp.drew
  replace g1 := g1.drew
  replace h5 := h5.drew
  replace hb := hb.drew
  go_wp2_with fail
  refine wp_region_pl [(0, false), (1, true), (2, true), (3, false), (4, false)] (fun w' => w'.cell? ⟨w.heap.size, 0, none⟩ = some (.bool na) ∧ w'.cell? ⟨w.heap.size, 1, none⟩ = some (.slice oa xs.length ca) ∧ w'.cell? ⟨w_2.heap.size, 0, none⟩ = some (.bool sb_h5) ∧ w'.cell? ⟨w_2.heap.size, 1, none⟩ = some (.slice o_h5 n_h5 c_h5)) (by kernel_rfl) (by kernel_rfl) (by kernel_rfl) (by kernel_rfl) ⟨hp.facts.1, hp.facts.2.1, h5.facts.1, h5.facts.2.1⟩ ?_
  apply wpPl_ld
  case hi => rfl
  case h1 => intro w' hC K hK; obtain ⟨c0, c1, c2, c3⟩ := hC; (first | go_big_move | go_big_op); exact hK
  case hw => kernel_rfl
  case hv => kernel_rfl
  case hb => kernel_rfl
  case hp => kernel_rfl
  apply wpPl_call
  case hi => rfl
  case hw => kernel_rfl
  case h =>
  intro K hK
  have kb_7 := hb.size
  go_big_op
  go_fit (ri_any (-9223372036854775808) _ (by decide) (by decide))
  rintro e w_7 ⟨v3, rfl, g3, hb_7⟩
  replace ha := ha.below hb_7 (Nat.le_refl _)
  replace hp := hp.below hb_7 (Nat.le_refl _)
  replace g1 := g1.below hb_7 (Nat.le_refl _)
  replace h5 := h5.below hb_7 (Nat.le_refl _)
  replace hb := hb.trans (hb_7.mono hb.size)
  refine hK _ _ rfl ⟨hp.facts.1, hp.facts.2.1, h5.facts.1, h5.facts.2.1⟩ ?_
  clear hK K hb_7
  replace g3 := g3.rd
  apply wpPl_call
  case hi => rfl
  case hw => kernel_rfl
  case h =>
  intro K hK
  have kb_8 := hb.size
  go_big_op
  go_fit (rzcmp_any ha (g3.zn LM.out) (by decide) (by decide))
  rintro e w_8 ⟨rfl, hb_8⟩
  replace ha := ha.below hb_8 (Nat.le_refl _)
  replace hp := hp.below hb_8 (Nat.le_refl _)
  replace g1 := g1.below hb_8 (Nat.le_refl _)
  replace h5 := h5.below hb_8 (Nat.le_refl _)
  replace g3 := g3.below hb_8 (Nat.le_refl _)
  replace hb := hb.trans (hb_8.mono hb.size)
  refine hK _ _ rfl ⟨hp.facts.1, hp.facts.2.1, h5.facts.1, h5.facts.2.1⟩ ?_
  clear hK K hb_8
  rw [HD.out]
  clear g3
  apply wpPl_ld
  case hi => rfl
  case h1 => intro w' hC K hK; obtain ⟨c0, c1, c2, c3⟩ := hC; (first | go_big_move | go_big_op); exact hK
  case hw => kernel_rfl
  case hv => kernel_rfl
  case hb => kernel_rfl
  case hp => kernel_rfl
  apply wpPl_ld
  case hi => rfl
  case h1 => intro w' hC K hK; obtain ⟨c0, c1, c2, c3⟩ := hC; (first | go_big_move | go_big_op); exact hK
  case hw => kernel_rfl
  case hv => kernel_rfl
  case hb => kernel_rfl
  case hp => kernel_rfl
  apply wpPl_end
  replace ha := ha.drew
  replace hp := hp.drew
  replace g1 := g1.drew
  replace h5 := h5.drew
  replace hb := hb.drew
  go_wp2_with fail
  refine wp_region_pl [(0, false), (1, true), (2, true), (3, false), (4, false)] (fun w' => w'.cell? ⟨w.heap.size, 0, none⟩ = some (.bool na) ∧ w'.cell? ⟨w.heap.size, 1, none⟩ = some (.slice oa xs.length ca) ∧ w'.cell? ⟨w_2.heap.size, 0, none⟩ = some (.bool sb_h5) ∧ w'.cell? ⟨w_2.heap.size, 1, none⟩ = some (.slice o_h5 n_h5 c_h5)) (by kernel_rfl) (by kernel_rfl) (by kernel_rfl) (by kernel_rfl) ⟨hp.facts.1, hp.facts.2.1, h5.facts.1, h5.facts.2.1⟩ ?_
  apply wpPl_ld
  case hi => rfl
  case h1 => intro w' hC K hK; obtain ⟨c0, c1, c2, c3⟩ := hC; (first | go_big_move | go_big_op); exact hK
  case hw => kernel_rfl
  case hv => kernel_rfl
  case hb => kernel_rfl
  case hp => kernel_rfl
  apply wpPl_call
  case hi => rfl
  case hw => kernel_rfl
  case h =>
  intro K hK
  have kb_9 := hb.size
  go_big_op
  go_fit (ri_any 9223372036854775807 _ (by decide) (by decide))
  rintro e w_9 ⟨v4, rfl, g4, hb_9⟩
  replace ha := ha.below hb_9 (Nat.le_refl _)
  replace hp := hp.below hb_9 (Nat.le_refl _)
  replace g1 := g1.below hb_9 (Nat.le_refl _)
  replace h5 := h5.below hb_9 (Nat.le_refl _)
  replace hb := hb.trans (hb_9.mono hb.size)
  refine hK _ _ rfl ⟨hp.facts.1, hp.facts.2.1, h5.facts.1, h5.facts.2.1⟩ ?_
  clear hK K hb_9
  replace g4 := g4.rd
  apply wpPl_call
  case hi => rfl
  case hw => kernel_rfl
  case h =>
  intro K hK
  have kb_10 := hb.size
  go_big_op
  go_fit (rzcmp_any ha (g4.zn LX.out) (by decide) (by decide))
  rintro e w_10 ⟨rfl, hb_10⟩
  replace ha := ha.below hb_10 (Nat.le_refl _)
  replace hp := hp.below hb_10 (Nat.le_refl _)
  replace g1 := g1.below hb_10 (Nat.le_refl _)
  replace h5 := h5.below hb_10 (Nat.le_refl _)
  replace g4 := g4.below hb_10 (Nat.le_refl _)
  replace hb := hb.trans (hb_10.mono hb.size)
  refine hK _ _ rfl ⟨hp.facts.1, hp.facts.2.1, h5.facts.1, h5.facts.2.1⟩ ?_
  clear hK K hb_10
  rw [HF.out]
  clear g4
  apply wpPl_ld
  case hi => rfl
  case h1 => intro w' hC K hK; obtain ⟨c0, c1, c2, c3⟩ := hC; (first | go_big_move | go_big_op); exact hK
  case hw => kernel_rfl
  case hv => kernel_rfl
  case hb => kernel_rfl
  case hp => kernel_rfl
  apply wpPl_ld
  case hi => rfl
  case h1 => intro w' hC K hK; obtain ⟨c0, c1, c2, c3⟩ := hC; (first | go_big_move | go_big_op); exact hK
  case hw => kernel_rfl
  case hv => kernel_rfl
  case hb => kernel_rfl
  case hp => kernel_rfl
  apply wpPl_end
  have f_h5 := h5.facts
  go_wp2_with fail
  refine (small_zz n g1 hn1 hn2).mono ?_
  rintro e w_11 ⟨rfl, hb_11⟩
  replace ha := ha.below hb_11 (Nat.le_refl _)
  replace hp := hp.below hb_11 (Nat.le_refl _)
  replace g1 := g1.below hb_11 (Nat.le_refl _)
  replace h5 := h5.below hb_11 (Nat.le_refl _)
  replace hb := hb.trans (hb_11.mono hb.size)
  clear hb_11
  clear f_h5
  have f_hp := hp.facts
  go_wp2_with fail
  refine (a2_any ha (by decide)).mono ?_
  rintro e w_12 ⟨v6, rfl, g6, hb_12⟩
  replace ha := ha.below hb_12 (Nat.le_refl _)
  replace hp := hp.below hb_12 (Nat.le_refl _)
  replace g1 := g1.below hb_12 (Nat.le_refl _)
  replace h5 := h5.below hb_12 (Nat.le_refl _)
  replace hb := hb.trans (hb_12.mono hb.size)
  clear hb_12
  clear f_hp
  go_wp2_with fail
  refine (ri_any x _ hx1 hx2).mono ?_
  rintro e w_13 ⟨v7, rfl, g7, hb_13⟩
  replace ha := ha.below hb_13 (Nat.le_refl _)
  replace hp := hp.below hb_13 (Nat.le_refl _)
  replace g1 := g1.below hb_13 (Nat.le_refl _)
  replace h5 := h5.below hb_13 (Nat.le_refl _)
  replace g6 := g6.below hb_13 (Nat.le_refl _)
  replace hb := hb.trans (hb_13.mono hb.size)
  clear hb_13
  replace g7 := g7.rd
  go_wp2_with fail
  refine (is_zz g6 (g7.zn LXX.out) (by decide)).mono ?_
  rintro e w_14 ⟨rfl, hb_14⟩
  replace ha := ha.below hb_14 (Nat.le_refl _)
  replace hp := hp.below hb_14 (Nat.le_refl _)
  replace g1 := g1.below hb_14 (Nat.le_refl _)
  replace h5 := h5.below hb_14 (Nat.le_refl _)
  replace g6 := g6.below hb_14 (Nat.le_refl _)
  replace g7 := g7.below hb_14 (Nat.le_refl _)
  replace hb := hb.trans (hb_14.mono hb.size)
  clear hb_14
  go_wp2
  go_ret
  exact ⟨rfl, hb⟩

theorem walk_ZintSmall (w : World) (n : Int) (hn1 : -9223372036854775808 ≤ n) (hn2 : n ≤ 9223372036854775807) (na : Bool) (sa : Value) (xs : List Nat) (hx : Rd w sa xs) (hxl : xs.length ≤ 1048576) (htab : Lib.TabIs Tryd.prog w p10 .u64 Lib.pow10Tab) :
    Calls Tryd.prog 4 #[.int .i64 n, .agg #[.bool na, sa]] w fun e w' => e = .returned (.bool true) ∧ Below w.heap.size w w' := by
  have ha : ZN w (.agg #[.bool na, sa]) (zv na xs) 1048576 := ⟨na, sa, xs, rfl, hx, rfl, hxl⟩
  rcases Int.lt_or_le (zv na xs) (-9223372036854775808) with h | h
  · exact small_low hn1 hn2 ha h htab
  · rcases Int.lt_or_le 9223372036854775807 (zv na xs) with k | k
    · exact small_high hn1 hn2 ha k htab
    · exact small_mid hn1 hn2 ha h k htab
end Go.Proofs.YtabmffenbkdgkaaDoor
