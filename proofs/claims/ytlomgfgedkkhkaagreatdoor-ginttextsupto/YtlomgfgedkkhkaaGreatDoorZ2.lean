/- zint: Neg, Abs, Mul, Add, Sub. -/
import Derived.Test.YtlomgfgedkkhkaaGreatDoorR2aToZ1
import Derived.Test.YtlomgfgedkkhkaaGreatDoorW11ToRf
import Derived.Deep.DeepFit
namespace Go.Proofs.YtlomgfgedkkhkaaGreatDoor
open Go.RowKit Dig

theorem zv_not (neg : Bool) (xs : List Nat) : (if (!neg) = true then -(val xs : Int) else (val xs : Int)) = -(zv neg xs) := by
  unfold zv; cases neg <;> simp
set_option maxHeartbeats 1000000 in
set_option maxRecDepth 20000 in
/-- zint.Neg. -/
theorem zneg_any {w : World} {v : Value} {z : Int} {l : Nat} (h : ZN w v z l) (hl : l ≤ 1000000000) :
    Calls Tryz.prog 50 #[v] w fun e w' => ∃ v', e = .returned v' ∧ ZO w' w.heap.size v' (-z) ∧ Below w.heap.size w w' := by
  obtain ⟨neg, oa, cap, xs, rfl, hcap, hr, hz', hxl⟩ := h.open_
  have HZZ := hide (show (if (!neg) = true then -(val xs : Int) else (val xs : Int)) = -z by rw [zv_not, hz'])
  clear h hz'
  go_enter Tryz.func50, Tryz.ntmps50
  have hb := Below.refl w.heap.size w
  have hp := Bk.new w neg (.slice oa xs.length cap)
  replace hr := hr.alloc (.cells #[.bool neg, (.slice oa xs.length cap)] 26)
  replace hb := hb.alloc hb.size (.cells #[.bool neg, (.slice oa xs.length cap)] 26)
  have hz := Bk.new (w.alloc (.cells #[.bool neg, (.slice oa xs.length cap)] 26)) false (.slice none 0 0)
  simp only [Bk.size_alloc] at hz
  replace hr := hr.alloc (.cells #[.bool false, (.slice none 0 0)] 26)
  replace hp := hp.alloc (.cells #[.bool false, (.slice none 0 0)] 26)
  replace hb := hb.alloc hb.size (.cells #[.bool false, (.slice none 0 0)] 26)
  replace hr := hr.drew
  replace hp := hp.drew
  replace hz := hz.drew
  replace hb := hb.drew
  go_wp2_with fail
  refine wp_region_lx (fun w' => w'.cell? ⟨w.heap.size, 0, none⟩ = some (.bool neg) ∧ w'.cell? ⟨w.heap.size, 1, none⟩ = some (.slice oa xs.length cap)) (by kernel_rfl) (by kernel_rfl) ⟨hp.facts.1, hp.facts.2.1⟩ ?_
  apply wpLx_st 0
  case hi => rfl
  case h => intro w' hC; obtain ⟨c0, c1⟩ := hC; go_simp; rfl
  case hw => rfl
  case hf => kernel_rfl
  case hr => kernel_rfl
  apply wpLx_st 1
  case hi => rfl
  case h => intro w' hC; obtain ⟨c0, c1⟩ := hC; go_simp; rfl
  case hw => rfl
  case hf => kernel_rfl
  case hr => kernel_rfl
  apply wpLx_st 2
  case hi => rfl
  case h => intro w' hC; obtain ⟨c0, c1⟩ := hC; go_simp; rfl
  case hw => rfl
  case hf => kernel_rfl
  case hr => kernel_rfl
  apply wpLx_st 3
  case hi => rfl
  case h => intro w' hC; obtain ⟨c0, c1⟩ := hC; go_simp; rfl
  case hw => rfl
  case hf => kernel_rfl
  case hr => kernel_rfl
  apply wpLx_st 4
  case hi => rfl
  case h => intro w' hC; obtain ⟨c0, c1⟩ := hC; go_simp; rfl
  case hw => rfl
  case hf => kernel_rfl
  case hr => kernel_rfl
  apply wpLx_call 5
  case hi => rfl
  case hw => rfl
  case hr => kernel_rfl
  case h =>
  intro K hK
  unfold Calm
  go_simp
  have kz_1 := hz.lt
  have kb_1 := hb.size
  go_fit (norm_rd hr (by omega))
  rintro e w_1 ⟨s, rfl, hs, hb_1⟩
  replace hr := hr.below hb_1 (Nat.le_refl _)
  replace hp := hp.below hb_1 (Nat.le_refl _)
  replace hz := hz.below hb_1 (Nat.le_refl _)
  replace hb := hb.trans (hb_1.mono hb.size)
  clear hb_1
  refine ⟨_, rfl, hK _ _ ⟨hp.facts.1, hp.facts.2.1⟩ ?_⟩
  clear hK K
  apply wpLx_call 6
  case hi => rfl
  case hw => rfl
  case hr => kernel_rfl
  case h =>
  intro K hK
  unfold Calm
  go_simp
  have kz_2 := hz.lt
  have kb_2 := hb.size
  go_fit (signed_z (-z) hs HZZ.out)
  rintro e w_2 ⟨v', rfl, hv, hb_2⟩
  replace hr := hr.below hb_2 (Nat.le_refl _)
  replace hp := hp.below hb_2 (Nat.le_refl _)
  replace hz := hz.below hb_2 (Nat.le_refl _)
  replace hs := hs.below hb_2 (Nat.le_refl _)
  replace hb := hb.trans (hb_2.mono hb.size)
  clear hb_2
  refine ⟨_, rfl, hK _ _ ⟨hp.facts.1, hp.facts.2.1⟩ ?_⟩
  clear hK K
  obtain ⟨sb, o5, n5, c5, rfl⟩ := hv.open2
  apply wpLx_call 7
  case hi => rfl
  case hw => rfl
  case hr => kernel_rfl
  case h =>
  intro K hK
  unfold Calm
  have c9 := hz.facts
  go_simp
  have ho := Bk.only w_2 (w.heap.size + 1) sb (.slice o5 n5 c5)
  replace hp := hp.frame ho (by first | assumption | (apply Ne.symm; assumption) | (simp; done) | omega)
  have d := (hz.store sb (.slice o5 n5 c5)).facts
  refine hK _ _ ⟨hp.facts.1, hp.facts.2.1⟩ ?_
  clear hK K
  apply wpLx_nil
  case hr => kernel_rfl
  case h =>
  go_wp2
  refine bodyPost_ret (v := .agg #[.bool sb, .slice o5 n5 c5]) (by simp [results, Tryz.results50, go_sem, d.1, d.2.1]) rfl ?_
  exact ⟨_, rfl, (hv.only (Bk.only _ _ _ _) (by first | assumption | (simp; done) | omega | (simp; omega))).mono (by first | assumption | (simp; omega) | omega), (hb.setCell (by simp <;> omega) _).setCell (by simp <;> omega) _⟩
set_option maxHeartbeats 1000000 in
set_option maxRecDepth 20000 in
/-- zint.Abs. -/
theorem zabs_any {w : World} {v : Value} {z : Int} {l : Nat} (h : ZN w v z l) (hl : l ≤ 1000000000) :
    Calls Tryz.prog 47 #[v] w fun e w' => ∃ v', e = .returned v' ∧ ZO w' w.heap.size v' z.natAbs ∧ Below w.heap.size w w' := by
  obtain ⟨neg, oa, cap, xs, rfl, hcap, hr, hz', hxl⟩ := h.open_
  have e9 : (if (false : Bool) = true then -((val xs : Nat) : Int) else ((val xs : Nat) : Int)) = (z.natAbs : Int) := by rw [show val xs = z.natAbs by rw [← hz', zv_abs]]; simp
  have E9 := hide e9
  clear h hz' e9
  go_enter Tryz.func47, Tryz.ntmps47
  have hb := Below.refl w.heap.size w
  have hp := Bk.new w neg (.slice oa xs.length cap)
  replace hr := hr.alloc (.cells #[.bool neg, (.slice oa xs.length cap)] 26)
  replace hb := hb.alloc hb.size (.cells #[.bool neg, (.slice oa xs.length cap)] 26)
  have hz := Bk.new (w.alloc (.cells #[.bool neg, (.slice oa xs.length cap)] 26)) false (.slice none 0 0)
  simp only [Bk.size_alloc] at hz
  replace hr := hr.alloc (.cells #[.bool false, (.slice none 0 0)] 26)
  replace hp := hp.alloc (.cells #[.bool false, (.slice none 0 0)] 26)
  replace hb := hb.alloc hb.size (.cells #[.bool false, (.slice none 0 0)] 26)
  go_wp2_with fail
  refine (norm_rd hr (by omega)).mono ?_
  rintro e w_1 ⟨s, rfl, hs, hb_1⟩
  replace hr := hr.below hb_1 (Nat.le_refl _)
  replace hp := hp.below hb_1 (Nat.le_refl _)
  replace hz := hz.below hb_1 (Nat.le_refl _)
  replace hb := hb.trans (hb_1.mono hb.size)
  clear hb_1
  go_wp2_with fail
  refine (signed_z (z.natAbs : Int) hs E9.out).mono ?_
  rintro e w_2 ⟨v', rfl, hv, hb_2⟩
  replace hr := hr.below hb_2 (Nat.le_refl _)
  replace hp := hp.below hb_2 (Nat.le_refl _)
  replace hz := hz.below hb_2 (Nat.le_refl _)
  replace hs := hs.below hb_2 (Nat.le_refl _)
  replace hb := hb.trans (hb_2.mono hb.size)
  clear hb_2
  obtain ⟨sb, o5, n5, c5, rfl⟩ := hv.open2
  have c9 := hz.facts
  have d := (hz.store sb (.slice o5 n5 c5)).facts
  go_wp2
  refine bodyPost_ret (v := .agg #[.bool sb, .slice o5 n5 c5]) (by simp [results, Tryz.results47, go_sem, d.1, d.2.1]) rfl ?_
  exact ⟨_, rfl, (hv.only (Bk.only _ _ _ _) (by first | assumption | (simp; done) | omega | (simp; omega))).mono (by first | assumption | (simp; omega) | omega), (hb.setCell (by simp <;> omega) _).setCell (by simp <;> omega) _⟩
set_option maxHeartbeats 1000000 in
set_option maxRecDepth 20000 in
/-- zint.Mul. -/
theorem zmul_any {w : World} {va vb : Value} {x y : Int} {l m : Nat} (ha : ZN w va x l) (hb' : ZN w vb y m) (hl : l ≤ 1000000000) (hm : m ≤ 1000000000) :
    Calls Tryz.prog 29 #[va, vb] w fun e w' => ∃ v', e = .returned v' ∧ ZO w' w.heap.size v' (x * y) ∧ Below w.heap.size w w' := by
  obtain ⟨na, oa, ca, xs, rfl, hca, hx, hzx, hxl⟩ := ha.open_
  obtain ⟨nb, ob, cb, ys, rfl, hcb, hy, hzy, hyl⟩ := hb'.open_
  have HZ := hide (show (if (na != nb) = true then -((val xs * val ys : Nat) : Int) else ((val xs * val ys : Nat) : Int)) = x * y by
    rw [← hzx, ← hzy]; unfold zv
    cases na <;> cases nb <;> simp [Int.neg_mul, Int.mul_neg])
  clear ha hb' hzx hzy
  have hbn : (!(na == nb)) = (na != nb) := rfl
  go_enter Tryz.func29, Tryz.ntmps29
  have hb := Below.refl w.heap.size w
  have hp := Bk.new w na (.slice oa xs.length ca)
  replace hx := hx.alloc (.cells #[.bool na, (.slice oa xs.length ca)] 26)
  replace hy := hy.alloc (.cells #[.bool na, (.slice oa xs.length ca)] 26)
  replace hb := hb.alloc hb.size (.cells #[.bool na, (.slice oa xs.length ca)] 26)
  have hq := Bk.new (w.alloc (.cells #[.bool na, (.slice oa xs.length ca)] 26)) nb (.slice ob ys.length cb)
  simp only [Bk.size_alloc] at hq
  replace hx := hx.alloc (.cells #[.bool nb, (.slice ob ys.length cb)] 26)
  replace hy := hy.alloc (.cells #[.bool nb, (.slice ob ys.length cb)] 26)
  replace hp := hp.alloc (.cells #[.bool nb, (.slice ob ys.length cb)] 26)
  replace hb := hb.alloc hb.size (.cells #[.bool nb, (.slice ob ys.length cb)] 26)
  have hz := Bk.new ((w.alloc (.cells #[.bool na, (.slice oa xs.length ca)] 26)).alloc (.cells #[.bool nb, (.slice ob ys.length cb)] 26)) false (.slice none 0 0)
  simp only [Bk.size_alloc] at hz
  replace hx := hx.alloc (.cells #[.bool false, (.slice none 0 0)] 26)
  replace hy := hy.alloc (.cells #[.bool false, (.slice none 0 0)] 26)
  replace hp := hp.alloc (.cells #[.bool false, (.slice none 0 0)] 26)
  replace hq := hq.alloc (.cells #[.bool false, (.slice none 0 0)] 26)
  replace hb := hb.alloc hb.size (.cells #[.bool false, (.slice none 0 0)] 26)
  replace hx := hx.drew
  replace hy := hy.drew
  replace hp := hp.drew
  replace hq := hq.drew
  replace hz := hz.drew
  replace hb := hb.drew
  go_wp2_with fail
  refine wp_region_lx (fun w' => w'.cell? ⟨w.heap.size, 0, none⟩ = some (.bool na) ∧ w'.cell? ⟨w.heap.size, 1, none⟩ = some (.slice oa xs.length ca) ∧ w'.cell? ⟨w.heap.size + 1, 0, none⟩ = some (.bool nb) ∧ w'.cell? ⟨w.heap.size + 1, 1, none⟩ = some (.slice ob ys.length cb)) (by kernel_rfl) (by kernel_rfl) ⟨hp.facts.1, hp.facts.2.1, hq.facts.1, hq.facts.2.1⟩ ?_
  apply wpLx_st 0
  case hi => rfl
  case h => intro w' hC; obtain ⟨c0, c1, c2, c3⟩ := hC; go_simp; rfl
  case hw => rfl
  case hf => kernel_rfl
  case hr => kernel_rfl
  apply wpLx_st 1
  case hi => rfl
  case h => intro w' hC; obtain ⟨c0, c1, c2, c3⟩ := hC; go_simp; rfl
  case hw => rfl
  case hf => kernel_rfl
  case hr => kernel_rfl
  apply wpLx_st 2
  case hi => rfl
  case h => intro w' hC; obtain ⟨c0, c1, c2, c3⟩ := hC; go_simp; rfl
  case hw => rfl
  case hf => kernel_rfl
  case hr => kernel_rfl
  apply wpLx_st 3
  case hi => rfl
  case h => intro w' hC; obtain ⟨c0, c1, c2, c3⟩ := hC; go_simp; rfl
  case hw => rfl
  case hf => kernel_rfl
  case hr => kernel_rfl
  apply wpLx_st 4
  case hi => rfl
  case h => intro w' hC; obtain ⟨c0, c1, c2, c3⟩ := hC; go_simp; rfl
  case hw => rfl
  case hf => kernel_rfl
  case hr => kernel_rfl
  apply wpLx_st 5
  case hi => rfl
  case h => intro w' hC; obtain ⟨c0, c1, c2, c3⟩ := hC; go_simp; rfl
  case hw => rfl
  case hf => kernel_rfl
  case hr => kernel_rfl
  apply wpLx_st 6
  case hi => rfl
  case h => intro w' hC; obtain ⟨c0, c1, c2, c3⟩ := hC; go_simp; rfl
  case hw => rfl
  case hf => kernel_rfl
  case hr => kernel_rfl
  apply wpLx_st 7
  case hi => rfl
  case h => intro w' hC; obtain ⟨c0, c1, c2, c3⟩ := hC; go_simp; rfl
  case hw => rfl
  case hf => kernel_rfl
  case hr => kernel_rfl
  apply wpLx_st 8
  case hi => rfl
  case h => intro w' hC; obtain ⟨c0, c1, c2, c3⟩ := hC; go_simp; rfl
  case hw => rfl
  case hf => kernel_rfl
  case hr => kernel_rfl
  apply wpLx_call 9
  case hi => rfl
  case hw => rfl
  case hr => kernel_rfl
  case h =>
  intro K hK
  unfold Calm
  go_simp
  have kz_1 := hz.lt
  have kb_1 := hb.size
  go_fit (mul_rd hx hy (by omega) (by omega))
  rintro e w_1 ⟨s, rfl, hs, hb_1⟩
  replace hx := hx.below hb_1 (Nat.le_refl _)
  replace hy := hy.below hb_1 (Nat.le_refl _)
  replace hp := hp.below hb_1 (Nat.le_refl _)
  replace hq := hq.below hb_1 (Nat.le_refl _)
  replace hz := hz.below hb_1 (Nat.le_refl _)
  replace hb := hb.trans (hb_1.mono hb.size)
  clear hb_1
  refine ⟨_, rfl, hK _ _ ⟨hp.facts.1, hp.facts.2.1, hq.facts.1, hq.facts.2.1⟩ ?_⟩
  clear hK K
  apply wpLx_call 10
  case hi => rfl
  case hw => rfl
  case hr => kernel_rfl
  case h =>
  intro K hK
  unfold Calm
  go_simp
  have kz_2 := hz.lt
  have kb_2 := hb.size
  go_fit (signed_z (x * y) hs HZ.out)
  rintro e w_2 ⟨v', rfl, hv, hb_2⟩
  replace hx := hx.below hb_2 (Nat.le_refl _)
  replace hy := hy.below hb_2 (Nat.le_refl _)
  replace hp := hp.below hb_2 (Nat.le_refl _)
  replace hq := hq.below hb_2 (Nat.le_refl _)
  replace hz := hz.below hb_2 (Nat.le_refl _)
  replace hs := hs.below hb_2 (Nat.le_refl _)
  replace hb := hb.trans (hb_2.mono hb.size)
  clear hb_2
  refine ⟨_, rfl, hK _ _ ⟨hp.facts.1, hp.facts.2.1, hq.facts.1, hq.facts.2.1⟩ ?_⟩
  clear hK K
  obtain ⟨sb, o5, n5, c5, rfl⟩ := hv.open2
  apply wpLx_call 11
  case hi => rfl
  case hw => rfl
  case hr => kernel_rfl
  case h =>
  intro K hK
  unfold Calm
  have c9 := hz.facts
  go_simp
  have ho := Bk.only w_2 (w.heap.size + 1 + 1) sb (.slice o5 n5 c5)
  replace hp := hp.frame ho (by first | assumption | (apply Ne.symm; assumption) | (simp; done) | omega)
  replace hq := hq.frame ho (by first | assumption | (apply Ne.symm; assumption) | (simp; done) | omega)
  have d := (hz.store sb (.slice o5 n5 c5)).facts
  refine hK _ _ ⟨hp.facts.1, hp.facts.2.1, hq.facts.1, hq.facts.2.1⟩ ?_
  clear hK K
  apply wpLx_nil
  case hr => kernel_rfl
  case h =>
  go_wp2
  refine bodyPost_ret (v := .agg #[.bool sb, .slice o5 n5 c5]) (by simp [results, Tryz.results29, go_sem, d.1, d.2.1]) rfl ?_
  exact ⟨_, rfl, (hv.only (Bk.only _ _ _ _) (by first | assumption | (simp; done) | omega | (simp; omega))).mono (by first | assumption | (simp; omega) | omega), (hb.setCell (by simp <;> omega) _).setCell (by simp <;> omega) _⟩
theorem zv_add_same (neg : Bool) (xs ys : List Nat) : (if neg = true then -((val xs + val ys : Nat) : Int) else ((val xs + val ys : Nat) : Int)) = zv neg xs + zv neg ys := by
  unfold zv; cases neg <;> simp <;> omega
set_option maxHeartbeats 1000000 in
set_option maxRecDepth 20000 in
/-- zint.Add of two of one sign. -/
theorem zadd_same {w : World} {oa ob : Option Addr} {ca cb : Nat} {xs ys : List Nat} (neg : Bool) (hx : Rd w (.slice oa xs.length ca) xs) (hy : Rd w (.slice ob ys.length cb) ys) (hxl : xs.length ≤ 1000000000) (hyl : ys.length ≤ 1000000000) :
    Calls Tryz.prog 28 #[.agg #[.bool neg, .slice oa xs.length ca], .agg #[.bool neg, .slice ob ys.length cb]] w fun e w' => ∃ v', e = .returned v' ∧ ZO w' w.heap.size v' (zv neg xs + zv neg ys) ∧ Below w.heap.size w w' := by
  have HZ := hide (zv_add_same neg xs ys)
  have hbq : (neg == neg) = true := by simp
  go_enter Tryz.func28, Tryz.ntmps28
  have hb := Below.refl w.heap.size w
  have hp := Bk.new w neg (.slice oa xs.length ca)
  replace hx := hx.alloc (.cells #[.bool neg, (.slice oa xs.length ca)] 26)
  replace hy := hy.alloc (.cells #[.bool neg, (.slice oa xs.length ca)] 26)
  replace hb := hb.alloc hb.size (.cells #[.bool neg, (.slice oa xs.length ca)] 26)
  have hq := Bk.new (w.alloc (.cells #[.bool neg, (.slice oa xs.length ca)] 26)) neg (.slice ob ys.length cb)
  simp only [Bk.size_alloc] at hq
  replace hx := hx.alloc (.cells #[.bool neg, (.slice ob ys.length cb)] 26)
  replace hy := hy.alloc (.cells #[.bool neg, (.slice ob ys.length cb)] 26)
  replace hp := hp.alloc (.cells #[.bool neg, (.slice ob ys.length cb)] 26)
  replace hb := hb.alloc hb.size (.cells #[.bool neg, (.slice ob ys.length cb)] 26)
  have hz := Bk.new ((w.alloc (.cells #[.bool neg, (.slice oa xs.length ca)] 26)).alloc (.cells #[.bool neg, (.slice ob ys.length cb)] 26)) false (.slice none 0 0)
  simp only [Bk.size_alloc] at hz
  replace hx := hx.alloc (.cells #[.bool false, (.slice none 0 0)] 26)
  replace hy := hy.alloc (.cells #[.bool false, (.slice none 0 0)] 26)
  replace hp := hp.alloc (.cells #[.bool false, (.slice none 0 0)] 26)
  replace hq := hq.alloc (.cells #[.bool false, (.slice none 0 0)] 26)
  replace hb := hb.alloc hb.size (.cells #[.bool false, (.slice none 0 0)] 26)
  replace hx := hx.drew
  replace hy := hy.drew
  replace hp := hp.drew
  replace hq := hq.drew
  replace hz := hz.drew
  replace hb := hb.drew
  go_wp2_with fail
  refine wp_region_lx (fun w' => w'.cell? ⟨w.heap.size, 0, none⟩ = some (.bool neg) ∧ w'.cell? ⟨w.heap.size, 1, none⟩ = some (.slice oa xs.length ca) ∧ w'.cell? ⟨w.heap.size + 1, 0, none⟩ = some (.bool neg) ∧ w'.cell? ⟨w.heap.size + 1, 1, none⟩ = some (.slice ob ys.length cb)) (by kernel_rfl) (by kernel_rfl) ⟨hp.facts.1, hp.facts.2.1, hq.facts.1, hq.facts.2.1⟩ ?_
  apply wpLx_st 0
  case hi => rfl
  case h => intro w' hC; obtain ⟨c0, c1, c2, c3⟩ := hC; go_simp; rfl
  case hw => rfl
  case hf => kernel_rfl
  case hr => kernel_rfl
  apply wpLx_st 1
  case hi => rfl
  case h => intro w' hC; obtain ⟨c0, c1, c2, c3⟩ := hC; go_simp; rfl
  case hw => rfl
  case hf => kernel_rfl
  case hr => kernel_rfl
  apply wpLx_st 2
  case hi => rfl
  case h => intro w' hC; obtain ⟨c0, c1, c2, c3⟩ := hC; go_simp; rfl
  case hw => rfl
  case hf => kernel_rfl
  case hr => kernel_rfl
  apply wpLx_st 3
  case hi => rfl
  case h => intro w' hC; obtain ⟨c0, c1, c2, c3⟩ := hC; go_simp; rfl
  case hw => rfl
  case hf => kernel_rfl
  case hr => kernel_rfl
  apply wpLx_st 4
  case hi => rfl
  case h => intro w' hC; obtain ⟨c0, c1, c2, c3⟩ := hC; go_simp; rfl
  case hw => rfl
  case hf => kernel_rfl
  case hr => kernel_rfl
  apply wpLx_st 5
  case hi => rfl
  case h => intro w' hC; obtain ⟨c0, c1, c2, c3⟩ := hC; go_simp; rfl
  case hw => rfl
  case hf => kernel_rfl
  case hr => kernel_rfl
  apply wpLx_call 6
  case hi => rfl
  case hw => rfl
  case hr => kernel_rfl
  case h =>
  intro K hK
  unfold Calm
  go_simp
  have kz_1 := hz.lt
  have kb_1 := hb.size
  go_fit (add_rd hx hy (by omega) (by omega))
  rintro e w_1 ⟨s, rfl, hs, hb_1⟩
  replace hx := hx.below hb_1 (Nat.le_refl _)
  replace hy := hy.below hb_1 (Nat.le_refl _)
  replace hp := hp.below hb_1 (Nat.le_refl _)
  replace hq := hq.below hb_1 (Nat.le_refl _)
  replace hz := hz.below hb_1 (Nat.le_refl _)
  replace hb := hb.trans (hb_1.mono hb.size)
  clear hb_1
  refine ⟨_, rfl, hK _ _ ⟨hp.facts.1, hp.facts.2.1, hq.facts.1, hq.facts.2.1⟩ ?_⟩
  clear hK K
  apply wpLx_call 7
  case hi => rfl
  case hw => rfl
  case hr => kernel_rfl
  case h =>
  intro K hK
  unfold Calm
  go_simp
  have kz_2 := hz.lt
  have kb_2 := hb.size
  go_fit (signed_z (zv neg xs + zv neg ys) hs HZ.out)
  rintro e w_2 ⟨v', rfl, hv, hb_2⟩
  replace hx := hx.below hb_2 (Nat.le_refl _)
  replace hy := hy.below hb_2 (Nat.le_refl _)
  replace hp := hp.below hb_2 (Nat.le_refl _)
  replace hq := hq.below hb_2 (Nat.le_refl _)
  replace hz := hz.below hb_2 (Nat.le_refl _)
  replace hs := hs.below hb_2 (Nat.le_refl _)
  replace hb := hb.trans (hb_2.mono hb.size)
  clear hb_2
  refine ⟨_, rfl, hK _ _ ⟨hp.facts.1, hp.facts.2.1, hq.facts.1, hq.facts.2.1⟩ ?_⟩
  clear hK K
  obtain ⟨sb, o5, n5, c5, rfl⟩ := hv.open2
  apply wpLx_call 8
  case hi => rfl
  case hw => rfl
  case hr => kernel_rfl
  case h =>
  intro K hK
  unfold Calm
  have c9 := hz.facts
  go_simp
  have ho := Bk.only w_2 (w.heap.size + 1 + 1) sb (.slice o5 n5 c5)
  replace hp := hp.frame ho (by first | assumption | (apply Ne.symm; assumption) | (simp; done) | omega)
  replace hq := hq.frame ho (by first | assumption | (apply Ne.symm; assumption) | (simp; done) | omega)
  have d := (hz.store sb (.slice o5 n5 c5)).facts
  refine hK _ _ ⟨hp.facts.1, hp.facts.2.1, hq.facts.1, hq.facts.2.1⟩ ?_
  clear hK K
  apply wpLx_nil
  case hr => kernel_rfl
  case h =>
  go_wp2
  refine bodyPost_ret (v := .agg #[.bool sb, .slice o5 n5 c5]) (by simp [results, Tryz.results28, go_sem, d.1, d.2.1]) rfl ?_
  exact ⟨_, rfl, (hv.only (Bk.only _ _ _ _) (by first | assumption | (simp; done) | omega | (simp; omega))).mono (by first | assumption | (simp; omega) | omega), (hb.setCell (by simp <;> omega) _).setCell (by simp <;> omega) _⟩
theorem zv_add_diff (neg : Bool) (xs ys : List Nat) (h : val ys ≤ val xs) : (if neg = true then -((val xs - val ys : Nat) : Int) else ((val xs - val ys : Nat) : Int)) = zv neg xs + zv (!neg) ys := by
  unfold zv; cases neg <;> simp <;> omega
theorem zv_add_swap (neg : Bool) (xs ys : List Nat) (h : val xs < val ys) : (if (!neg) = true then -((val ys - val xs : Nat) : Int) else ((val ys - val xs : Nat) : Int)) = zv neg xs + zv (!neg) ys := by
  unfold zv; cases neg <;> simp <;> omega
set_option maxHeartbeats 1000000 in
set_option maxRecDepth 20000 in
/-- zint.Add of two of different signs, the second amount not the greater. -/
theorem zadd_diff {w : World} {oa ob : Option Addr} {ca cb : Nat} {xs ys : List Nat} (neg : Bool) (hx : Rd w (.slice oa xs.length ca) xs) (hy : Rd w (.slice ob ys.length cb) ys) (hxl : xs.length ≤ 1000000000) (hyl : ys.length ≤ 1000000000) (hle : val ys ≤ val xs) :
    Calls Tryz.prog 28 #[.agg #[.bool neg, .slice oa xs.length ca], .agg #[.bool (!neg), .slice ob ys.length cb]] w fun e w' => ∃ v', e = .returned v' ∧ ZO w' w.heap.size v' (zv neg xs + zv (!neg) ys) ∧ Below w.heap.size w w' := by
  have HZ := hide (zv_add_diff neg xs ys hle)
  have hbq : (neg == !neg) = false := by cases neg <;> rfl
  have hc : ¬ cmpI (val xs) (val ys) < 0 := fun h => by have := cmpI_neg.1 h; omega
  have hsI : subI (val xs) (val ys) = 0 := by unfold subI; rw [if_neg (by omega)]
  have HSI := hide hsI
  have HNL := hide (show ¬ val xs < val ys by omega)
  clear hle hsI
  go_enter Tryz.func28, Tryz.ntmps28
  have hb := Below.refl w.heap.size w
  have hp := Bk.new w neg (.slice oa xs.length ca)
  replace hx := hx.alloc (.cells #[.bool neg, (.slice oa xs.length ca)] 26)
  replace hy := hy.alloc (.cells #[.bool neg, (.slice oa xs.length ca)] 26)
  replace hb := hb.alloc hb.size (.cells #[.bool neg, (.slice oa xs.length ca)] 26)
  have hq := Bk.new (w.alloc (.cells #[.bool neg, (.slice oa xs.length ca)] 26)) (!neg) (.slice ob ys.length cb)
  simp only [Bk.size_alloc] at hq
  replace hx := hx.alloc (.cells #[.bool (!neg), (.slice ob ys.length cb)] 26)
  replace hy := hy.alloc (.cells #[.bool (!neg), (.slice ob ys.length cb)] 26)
  replace hp := hp.alloc (.cells #[.bool (!neg), (.slice ob ys.length cb)] 26)
  replace hb := hb.alloc hb.size (.cells #[.bool (!neg), (.slice ob ys.length cb)] 26)
  have hz := Bk.new ((w.alloc (.cells #[.bool neg, (.slice oa xs.length ca)] 26)).alloc (.cells #[.bool (!neg), (.slice ob ys.length cb)] 26)) false (.slice none 0 0)
  simp only [Bk.size_alloc] at hz
  replace hx := hx.alloc (.cells #[.bool false, (.slice none 0 0)] 26)
  replace hy := hy.alloc (.cells #[.bool false, (.slice none 0 0)] 26)
  replace hp := hp.alloc (.cells #[.bool false, (.slice none 0 0)] 26)
  replace hq := hq.alloc (.cells #[.bool false, (.slice none 0 0)] 26)
  replace hb := hb.alloc hb.size (.cells #[.bool false, (.slice none 0 0)] 26)
  go_wp2_with fail
  refine (cmp_rd hx hy (by omega) (by omega)).mono ?_
  rintro e w_1 ⟨rfl, hb_1⟩
  replace hx := hx.below hb_1 (Nat.le_refl _)
  replace hy := hy.below hb_1 (Nat.le_refl _)
  replace hp := hp.below hb_1 (Nat.le_refl _)
  replace hq := hq.below hb_1 (Nat.le_refl _)
  replace hz := hz.below hb_1 (Nat.le_refl _)
  replace hb := hb.trans (hb_1.mono hb.size)
  clear hb_1
  generalize cmpI (val xs) (val ys) = c at *
  have cp := hp.facts
  have cq := hq.facts
  have kz := hz.lt
  go_wp2_with fail
  refine (sub_rd hx hy (by omega) (by omega)).mono ?_
  rintro e w_2 ⟨s, rfl, hs, hb_2⟩
  replace hx := hx.below hb_2 (Nat.le_refl _)
  replace hy := hy.below hb_2 (Nat.le_refl _)
  replace hp := hp.below hb_2 (Nat.le_refl _)
  replace hq := hq.below hb_2 (Nat.le_refl _)
  replace hz := hz.below hb_2 (Nat.le_refl _)
  have k1 := hb.size
  replace hb := hb.trans (hb_2.mono hb.size)
  clear hb_2
  rw [if_neg HNL.out] at hs
  have cp := hp.facts
  go_wp2_with fail
  refine (signed_z (zv neg xs + zv (!neg) ys) hs HZ.out).mono ?_
  rintro e w_3 ⟨v', rfl, hv, hb_3⟩
  replace hx := hx.below hb_3 (Nat.le_refl _)
  replace hy := hy.below hb_3 (Nat.le_refl _)
  replace hp := hp.below hb_3 (Nat.le_refl _)
  replace hq := hq.below hb_3 (Nat.le_refl _)
  replace hz := hz.below hb_3 (Nat.le_refl _)
  replace hs := hs.below hb_3 (Nat.le_refl _)
  replace hb := hb.trans (hb_3.mono hb.size)
  clear hb_3
  obtain ⟨sb, o5, n5, c5, rfl⟩ := hv.open2
  have c9 := hz.facts
  have d := (hz.store sb (.slice o5 n5 c5)).facts
  go_wp2
  refine bodyPost_ret (v := .agg #[.bool sb, .slice o5 n5 c5]) (by simp [results, Tryz.results28, go_sem, d.1, d.2.1]) rfl ?_
  exact ⟨_, rfl, (hv.only (Bk.only _ _ _ _) (by first | assumption | (simp; done) | omega | (simp; omega))).mono (by first | assumption | (simp; omega) | omega), (hb.setCell (by simp <;> omega) _).setCell (by simp <;> omega) _⟩
set_option maxHeartbeats 1000000 in
set_option maxRecDepth 20000 in
/-- zint.Add of two of different signs, the second amount the greater. -/
theorem zadd_swap {w : World} {oa ob : Option Addr} {ca cb : Nat} {xs ys : List Nat} (neg : Bool) (hx : Rd w (.slice oa xs.length ca) xs) (hy : Rd w (.slice ob ys.length cb) ys) (hxl : xs.length ≤ 1000000000) (hyl : ys.length ≤ 1000000000) (hlt : val xs < val ys) :
    Calls Tryz.prog 28 #[.agg #[.bool neg, .slice oa xs.length ca], .agg #[.bool (!neg), .slice ob ys.length cb]] w fun e w' => ∃ v', e = .returned v' ∧ ZO w' w.heap.size v' (zv neg xs + zv (!neg) ys) ∧ Below w.heap.size w w' := by
  have HZ := hide (zv_add_swap neg xs ys hlt)
  have HX0 := hide hx
  have HY0 := hide hy
  have hbq : (neg == !neg) = false := by cases neg <;> rfl
  have hc : cmpI (val xs) (val ys) < 0 := cmpI_neg.2 hlt
  have HNL := hide (show ¬ val ys < val xs by omega)
  clear hlt
  go_enter Tryz.func28, Tryz.ntmps28
  have hb := Below.refl w.heap.size w
  have hp := Bk.new w neg (.slice oa xs.length ca)
  replace hx := hx.alloc (.cells #[.bool neg, (.slice oa xs.length ca)] 26)
  replace hy := hy.alloc (.cells #[.bool neg, (.slice oa xs.length ca)] 26)
  replace hb := hb.alloc hb.size (.cells #[.bool neg, (.slice oa xs.length ca)] 26)
  have hq := Bk.new (w.alloc (.cells #[.bool neg, (.slice oa xs.length ca)] 26)) (!neg) (.slice ob ys.length cb)
  simp only [Bk.size_alloc] at hq
  replace hx := hx.alloc (.cells #[.bool (!neg), (.slice ob ys.length cb)] 26)
  replace hy := hy.alloc (.cells #[.bool (!neg), (.slice ob ys.length cb)] 26)
  replace hp := hp.alloc (.cells #[.bool (!neg), (.slice ob ys.length cb)] 26)
  replace hb := hb.alloc hb.size (.cells #[.bool (!neg), (.slice ob ys.length cb)] 26)
  have hz := Bk.new ((w.alloc (.cells #[.bool neg, (.slice oa xs.length ca)] 26)).alloc (.cells #[.bool (!neg), (.slice ob ys.length cb)] 26)) false (.slice none 0 0)
  simp only [Bk.size_alloc] at hz
  replace hx := hx.alloc (.cells #[.bool false, (.slice none 0 0)] 26)
  replace hy := hy.alloc (.cells #[.bool false, (.slice none 0 0)] 26)
  replace hp := hp.alloc (.cells #[.bool false, (.slice none 0 0)] 26)
  replace hq := hq.alloc (.cells #[.bool false, (.slice none 0 0)] 26)
  replace hb := hb.alloc hb.size (.cells #[.bool false, (.slice none 0 0)] 26)
  go_wp2_with fail
  refine (cmp_rd hx hy (by omega) (by omega)).mono ?_
  rintro e w_1 ⟨rfl, hb_1⟩
  replace hx := hx.below hb_1 (Nat.le_refl _)
  replace hy := hy.below hb_1 (Nat.le_refl _)
  replace hp := hp.below hb_1 (Nat.le_refl _)
  replace hq := hq.below hb_1 (Nat.le_refl _)
  replace hz := hz.below hb_1 (Nat.le_refl _)
  replace hb := hb.trans (hb_1.mono hb.size)
  clear hb_1
  generalize cmpI (val xs) (val ys) = c at *
  have cp := hp.facts
  have cq := hq.facts
  go_wp2_with fail
  have o1 := Bk.only w_1 w.heap.size (!neg) (.slice ob ys.length cb)
  replace hp := hp.store (!neg) (.slice ob ys.length cb)
  replace hq := hq.frame o1 (by omega)
  replace hz := hz.frame o1 (by omega)
  replace hb : Below w.heap.size w ((w_1.setCell ⟨w.heap.size, 0, none⟩ (.bool (!neg))).setCell ⟨w.heap.size, 1, none⟩ (.slice ob ys.length cb)) := (hb.setCell (Nat.le_refl _) _).setCell (Nat.le_refl _) _
  clear o1 cp cq hx hy
  generalize (w_1.setCell ⟨w.heap.size, 0, none⟩ (.bool (!neg))).setCell ⟨w.heap.size, 1, none⟩ (.slice ob ys.length cb) = W1 at *
  have o2 := Bk.only W1 (w.heap.size + 1) neg (.slice oa xs.length ca)
  replace hp := hp.frame o2 (by omega)
  replace hq := hq.store neg (.slice oa xs.length ca)
  replace hz := hz.frame o2 (by omega)
  replace hb : Below w.heap.size w ((W1.setCell ⟨w.heap.size + 1, 0, none⟩ (.bool neg)).setCell ⟨w.heap.size + 1, 1, none⟩ (.slice oa xs.length ca)) := (hb.setCell (by simp) _).setCell (by simp) _
  clear o2
  generalize (W1.setCell ⟨w.heap.size + 1, 0, none⟩ (.bool neg)).setCell ⟨w.heap.size + 1, 1, none⟩ (.slice oa xs.length ca) = W2 at *
  have hx := HX0.out.below hb (Nat.le_refl _)
  have hy := HY0.out.below hb (Nat.le_refl _)
  have kz := hz.lt
  refine (sub_rd hy hx (by omega) (by omega)).mono ?_
  rintro e w_2 ⟨s, rfl, hs, hb_2⟩
  rw [if_neg HNL.out] at hs
  replace hp := hp.below hb_2 (Nat.le_refl _)
  replace hz := hz.below hb_2 (Nat.le_refl _)
  have k1 := hb.size
  replace hb := hb.trans (hb_2.mono hb.size)
  clear hb_2 hx hy hq
  have cp := hp.facts
  go_wp2_with fail
  refine (signed_z (zv neg xs + zv (!neg) ys) hs HZ.out).mono ?_
  rintro e w_2 ⟨v', rfl, hv, hb_2⟩
  replace hs := hs.below hb_2 (Nat.le_refl _)
  replace hp := hp.below hb_2 (Nat.le_refl _)
  replace hz := hz.below hb_2 (Nat.le_refl _)
  replace hb := hb.trans (hb_2.mono hb.size)
  clear hb_2
  obtain ⟨sb, o5, n5, c5, rfl⟩ := hv.open2
  have c9 := hz.facts
  have d := (hz.store sb (.slice o5 n5 c5)).facts
  go_wp2
  refine bodyPost_ret (v := .agg #[.bool sb, .slice o5 n5 c5]) (by simp [results, Tryz.results28, go_sem, d.1, d.2.1]) rfl ?_
  exact ⟨_, rfl, (hv.only (Bk.only _ _ _ _) (by first | assumption | (simp; done) | omega | (simp; omega))).mono (by first | assumption | (simp; omega) | omega), (hb.setCell (by simp <;> omega) _).setCell (by simp <;> omega) _⟩
/-- zint.Add. -/
theorem zadd_any {w : World} {va vb : Value} {x y : Int} {l m : Nat} (ha : ZN w va x l) (hb' : ZN w vb y m) (hl : l ≤ 1000000000) (hm : m ≤ 1000000000) :
    Calls Tryz.prog 28 #[va, vb] w fun e w' => ∃ v', e = .returned v' ∧ ZO w' w.heap.size v' (x + y) ∧ Below w.heap.size w w' := by
  obtain ⟨na, oa, ca, xs, rfl, hca, hx, hzx, hxl⟩ := ha.open_
  obtain ⟨nb, ob, cb, ys, rfl, hcb, hy, hzy, hyl⟩ := hb'.open_
  subst hzx
  subst hzy
  by_cases h : nb = na
  · subst h; exact zadd_same nb hx hy (by omega) (by omega)
  · obtain rfl : nb = !na := by cases na <;> cases nb <;> simp_all
    rcases Nat.lt_or_ge (val xs) (val ys) with h2 | h2
    · exact zadd_swap na hx hy (by omega) (by omega) h2
    · exact zadd_diff na hx hy (by omega) (by omega) h2
end Go.Proofs.YtlomgfgedkkhkaaGreatDoor

