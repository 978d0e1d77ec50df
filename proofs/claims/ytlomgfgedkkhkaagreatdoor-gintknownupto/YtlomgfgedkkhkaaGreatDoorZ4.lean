/- zint: Cmp. -/
import Derived.Test.YtlomgfgedkkhkaaGreatDoorZ3
namespace Go.Proofs.YtlomgfgedkkhkaaGreatDoor
open Go.RowKit Dig

theorem zcmp_sign (x y : Int) (h : x.sign ≠ y.sign) : zcmp x.sign y.sign = zcmp x y ∧ zcmp x y ≠ 0 := by
  have hx : x.sign = -1 ∧ x < 0 ∨ x.sign = 0 ∧ x = 0 ∨ x.sign = 1 ∧ 0 < x := by
    rcases (show x < 0 ∨ x = 0 ∨ 0 < x by omega) with h | h | h
    · exact .inl ⟨Int.sign_eq_neg_one_of_neg h, h⟩
    · exact .inr (.inl ⟨by rw [h]; rfl, h⟩)
    · exact .inr (.inr ⟨Int.sign_eq_one_of_pos h, h⟩)
  have hy : y.sign = -1 ∧ y < 0 ∨ y.sign = 0 ∧ y = 0 ∨ y.sign = 1 ∧ 0 < y := by
    rcases (show y < 0 ∨ y = 0 ∨ 0 < y by omega) with h | h | h
    · exact .inl ⟨Int.sign_eq_neg_one_of_neg h, h⟩
    · exact .inr (.inl ⟨by rw [h]; rfl, h⟩)
    · exact .inr (.inr ⟨Int.sign_eq_one_of_pos h, h⟩)
  unfold zcmp
  generalize x.sign = p at *
  generalize y.sign = q at *
  constructor
  · split <;> split <;> (try split) <;> (try split) <;> omega
  · split <;> (try split) <;> omega
theorem zcmp_same (na nb : Bool) (xs ys : List Nat) (h : (zv na xs).sign = (zv nb ys).sign) :
    zcmp (zv na xs) (zv nb ys) = if na then cmpI (val ys) (val xs) else cmpI (val xs) (val ys) := by
  have key : ∀ x : Int, x < 0 ∧ x.sign = -1 ∨ x = 0 ∧ x.sign = 0 ∨ 0 < x ∧ x.sign = 1 := fun x => by
    rcases (show x < 0 ∨ x = 0 ∨ 0 < x by omega) with h | h | h
    · exact .inl ⟨h, Int.sign_eq_neg_one_of_neg h⟩
    · exact .inr (.inl ⟨h, by rw [h]; rfl⟩)
    · exact .inr (.inr ⟨h, Int.sign_eq_one_of_pos h⟩)
  have hx := key (zv na xs)
  have hy := key (zv nb ys)
  generalize (zv na xs).sign = p at *
  generalize (zv nb ys).sign = q at *
  unfold zcmp cmpI
  unfold zv at *
  cases na <;> cases nb <;> simp only [Bool.false_eq_true, if_false, if_true] at * <;> split <;> (try split) <;> (try split) <;> (try split) <;> omega
set_option maxHeartbeats 1000000 in
set_option maxRecDepth 20000 in
/-- zint.Cmp. -/
theorem zcmp_any {w : World} {va vb : Value} {x y : Int} {l m : Nat} (ha : ZN w va x l) (hb' : ZN w vb y m) (hl : l ≤ 1000000000) (hm : m ≤ 1000000000) :
    Calls Tryz.prog 44 #[va, vb] w fun e w' => e = .returned (.int .i64 (zcmp x y)) ∧ Below w.heap.size w w' := by
  obtain ⟨na, oa, ca, xs, rfl, hca, hx, hzx, hxl⟩ := ha.open_
  obtain ⟨nb, ob, cb, ys, rfl, hcb, hy, hzy, hyl⟩ := hb'.open_
  by_cases hs : x.sign = y.sign
  · have hc0 : zcmp x.sign y.sign = 0 := by rw [hs]; unfold zcmp; rw [if_neg (by omega), if_pos rfl]
    have hres : zcmp x y = if na then cmpI (val ys) (val xs) else cmpI (val xs) (val ys) := by
      rw [← hzx, ← hzy]; exact zcmp_same na nb xs ys (by rw [hzx, hzy]; exact hs)
    rw [hres]
    have HC := hide hc0
    clear hres hs hzx hzy hc0
    have hbq : ((0 : Int) == 0) = true := rfl
    cases na
    · rw [if_neg (by simp)]
      go_enter Tryz.func44, Tryz.ntmps44
      have hb := Below.refl w.heap.size w
      have hp := Bk.new w false (.slice oa xs.length ca)
      replace ha := ha.alloc (.cells #[.bool false, (.slice oa xs.length ca)] 26)
      replace hb' := hb'.alloc (.cells #[.bool false, (.slice oa xs.length ca)] 26)
      replace hx := hx.alloc (.cells #[.bool false, (.slice oa xs.length ca)] 26)
      replace hy := hy.alloc (.cells #[.bool false, (.slice oa xs.length ca)] 26)
      replace hb := hb.alloc hb.size (.cells #[.bool false, (.slice oa xs.length ca)] 26)
      have hq := Bk.new (w.alloc (.cells #[.bool false, (.slice oa xs.length ca)] 26)) nb (.slice ob ys.length cb)
      simp only [Bk.size_alloc] at hq
      replace ha := ha.alloc (.cells #[.bool nb, (.slice ob ys.length cb)] 26)
      replace hb' := hb'.alloc (.cells #[.bool nb, (.slice ob ys.length cb)] 26)
      replace hx := hx.alloc (.cells #[.bool nb, (.slice ob ys.length cb)] 26)
      replace hy := hy.alloc (.cells #[.bool nb, (.slice ob ys.length cb)] 26)
      replace hp := hp.alloc (.cells #[.bool nb, (.slice ob ys.length cb)] 26)
      replace hb := hb.alloc hb.size (.cells #[.bool nb, (.slice ob ys.length cb)] 26)
      replace ha := ha.drew
      replace hb' := hb'.drew
      replace hx := hx.drew
      replace hy := hy.drew
      replace hp := hp.drew
      replace hq := hq.drew
      replace hb := hb.drew
      go_wp2_with fail
      refine wp_region_lx (fun w' => w'.cell? ⟨w.heap.size, 0, none⟩ = some (.bool false) ∧ w'.cell? ⟨w.heap.size, 1, none⟩ = some (.slice oa xs.length ca) ∧ w'.cell? ⟨w.heap.size + 1, 0, none⟩ = some (.bool nb) ∧ w'.cell? ⟨w.heap.size + 1, 1, none⟩ = some (.slice ob ys.length cb)) (by kernel_rfl) (by kernel_rfl) ⟨hp.facts.1, hp.facts.2.1, hq.facts.1, hq.facts.2.1⟩ ?_
      apply wpLx_st 0
      case hi => rfl
      case h => intro w' hC; obtain ⟨c0, c1, c2, c3⟩ := hC; go_simp; rfl
      case hw => rfl
      case hf => kernel_rfl
      case hr => kernel_rfl
      apply wpLx_st 2
      case hi => rfl
      case h => intro w' hC; obtain ⟨c0, c1, c2, c3⟩ := hC; go_simp; rfl
      case hw => rfl
      case hf => kernel_rfl
      case hr => kernel_rfl
      apply wpLx_call 1
      case hi => rfl
      case hw => rfl
      case hr => kernel_rfl
      case h =>
      intro K hK
      unfold Calm
      go_simp
      have kb_1 := hb.size
      go_fit (zsign_any ha hl)
      rintro e w_1 ⟨rfl, hb_1⟩
      replace ha := ha.below hb_1 (Nat.le_refl _)
      replace hb' := hb'.below hb_1 (Nat.le_refl _)
      replace hx := hx.below hb_1 (Nat.le_refl _)
      replace hy := hy.below hb_1 (Nat.le_refl _)
      replace hp := hp.below hb_1 (Nat.le_refl _)
      replace hq := hq.below hb_1 (Nat.le_refl _)
      replace hb := hb.trans (hb_1.mono hb.size)
      clear hb_1
      refine ⟨_, rfl, hK _ _ ⟨hp.facts.1, hp.facts.2.1, hq.facts.1, hq.facts.2.1⟩ ?_⟩
      clear hK K
      apply wpLx_call 3
      case hi => rfl
      case hw => rfl
      case hr => kernel_rfl
      case h =>
      intro K hK
      unfold Calm
      go_simp
      have kb_2 := hb.size
      go_fit (zsign_any hb' hm)
      rintro e w_2 ⟨rfl, hb_2⟩
      replace ha := ha.below hb_2 (Nat.le_refl _)
      replace hb' := hb'.below hb_2 (Nat.le_refl _)
      replace hx := hx.below hb_2 (Nat.le_refl _)
      replace hy := hy.below hb_2 (Nat.le_refl _)
      replace hp := hp.below hb_2 (Nat.le_refl _)
      replace hq := hq.below hb_2 (Nat.le_refl _)
      replace hb := hb.trans (hb_2.mono hb.size)
      clear hb_2
      refine ⟨_, rfl, hK _ _ ⟨hp.facts.1, hp.facts.2.1, hq.facts.1, hq.facts.2.1⟩ ?_⟩
      clear hK K
      apply wpLx_call 4
      case hi => rfl
      case hw => rfl
      case hr => kernel_rfl
      case h =>
      intro K hK
      unfold Calm
      go_simp
      have kb_3 := hb.size
      go_fit (compare_any x.sign y.sign _)
      rintro e w_3 ⟨rfl, hb_3⟩
      replace ha := ha.below hb_3 (Nat.le_refl _)
      replace hb' := hb'.below hb_3 (Nat.le_refl _)
      replace hx := hx.below hb_3 (Nat.le_refl _)
      replace hy := hy.below hb_3 (Nat.le_refl _)
      replace hp := hp.below hb_3 (Nat.le_refl _)
      replace hq := hq.below hb_3 (Nat.le_refl _)
      replace hb := hb.trans (hb_3.mono hb.size)
      clear hb_3
      refine ⟨_, rfl, hK _ _ ⟨hp.facts.1, hp.facts.2.1, hq.facts.1, hq.facts.2.1⟩ ?_⟩
      clear hK K
      rw [HC.out]
      apply wpLx_st 5
      case hi => rfl
      case h => intro w' hC; obtain ⟨c0, c1, c2, c3⟩ := hC; go_simp; rfl
      case hw => rfl
      case hf => kernel_rfl
      case hr => kernel_rfl
      apply wpLx_nil
      case hr => kernel_rfl
      case h =>
      have cp := hp.facts
      have cq := hq.facts
      go_wp2_with fail
      refine (cmp_rd hx hy (by omega) (by omega)).mono ?_
      rintro e w_4 ⟨rfl, hb_4⟩
      replace ha := ha.below hb_4 (Nat.le_refl _)
      replace hb' := hb'.below hb_4 (Nat.le_refl _)
      replace hx := hx.below hb_4 (Nat.le_refl _)
      replace hy := hy.below hb_4 (Nat.le_refl _)
      replace hp := hp.below hb_4 (Nat.le_refl _)
      replace hq := hq.below hb_4 (Nat.le_refl _)
      replace hb := hb.trans (hb_4.mono hb.size)
      clear hb_4
      go_wp2
      go_ret
      exact ⟨rfl, hb⟩
    · rw [if_pos rfl]
      go_enter Tryz.func44, Tryz.ntmps44
      have hb := Below.refl w.heap.size w
      have hp := Bk.new w true (.slice oa xs.length ca)
      replace ha := ha.alloc (.cells #[.bool true, (.slice oa xs.length ca)] 26)
      replace hb' := hb'.alloc (.cells #[.bool true, (.slice oa xs.length ca)] 26)
      replace hx := hx.alloc (.cells #[.bool true, (.slice oa xs.length ca)] 26)
      replace hy := hy.alloc (.cells #[.bool true, (.slice oa xs.length ca)] 26)
      replace hb := hb.alloc hb.size (.cells #[.bool true, (.slice oa xs.length ca)] 26)
      have hq := Bk.new (w.alloc (.cells #[.bool true, (.slice oa xs.length ca)] 26)) nb (.slice ob ys.length cb)
      simp only [Bk.size_alloc] at hq
      replace ha := ha.alloc (.cells #[.bool nb, (.slice ob ys.length cb)] 26)
      replace hb' := hb'.alloc (.cells #[.bool nb, (.slice ob ys.length cb)] 26)
      replace hx := hx.alloc (.cells #[.bool nb, (.slice ob ys.length cb)] 26)
      replace hy := hy.alloc (.cells #[.bool nb, (.slice ob ys.length cb)] 26)
      replace hp := hp.alloc (.cells #[.bool nb, (.slice ob ys.length cb)] 26)
      replace hb := hb.alloc hb.size (.cells #[.bool nb, (.slice ob ys.length cb)] 26)
      replace ha := ha.drew
      replace hb' := hb'.drew
      replace hx := hx.drew
      replace hy := hy.drew
      replace hp := hp.drew
      replace hq := hq.drew
      replace hb := hb.drew
      go_wp2_with fail
      refine wp_region_lx (fun w' => w'.cell? ⟨w.heap.size, 0, none⟩ = some (.bool true) ∧ w'.cell? ⟨w.heap.size, 1, none⟩ = some (.slice oa xs.length ca) ∧ w'.cell? ⟨w.heap.size + 1, 0, none⟩ = some (.bool nb) ∧ w'.cell? ⟨w.heap.size + 1, 1, none⟩ = some (.slice ob ys.length cb)) (by kernel_rfl) (by kernel_rfl) ⟨hp.facts.1, hp.facts.2.1, hq.facts.1, hq.facts.2.1⟩ ?_
      apply wpLx_st 0
      case hi => rfl
      case h => intro w' hC; obtain ⟨c0, c1, c2, c3⟩ := hC; go_simp; rfl
      case hw => rfl
      case hf => kernel_rfl
      case hr => kernel_rfl
      apply wpLx_st 2
      case hi => rfl
      case h => intro w' hC; obtain ⟨c0, c1, c2, c3⟩ := hC; go_simp; rfl
      case hw => rfl
      case hf => kernel_rfl
      case hr => kernel_rfl
      apply wpLx_call 1
      case hi => rfl
      case hw => rfl
      case hr => kernel_rfl
      case h =>
      intro K hK
      unfold Calm
      go_simp
      have kb_1 := hb.size
      go_fit (zsign_any ha hl)
      rintro e w_1 ⟨rfl, hb_1⟩
      replace ha := ha.below hb_1 (Nat.le_refl _)
      replace hb' := hb'.below hb_1 (Nat.le_refl _)
      replace hx := hx.below hb_1 (Nat.le_refl _)
      replace hy := hy.below hb_1 (Nat.le_refl _)
      replace hp := hp.below hb_1 (Nat.le_refl _)
      replace hq := hq.below hb_1 (Nat.le_refl _)
      replace hb := hb.trans (hb_1.mono hb.size)
      clear hb_1
      refine ⟨_, rfl, hK _ _ ⟨hp.facts.1, hp.facts.2.1, hq.facts.1, hq.facts.2.1⟩ ?_⟩
      clear hK K
      apply wpLx_call 3
      case hi => rfl
      case hw => rfl
      case hr => kernel_rfl
      case h =>
      intro K hK
      unfold Calm
      go_simp
      have kb_2 := hb.size
      go_fit (zsign_any hb' hm)
      rintro e w_2 ⟨rfl, hb_2⟩
      replace ha := ha.below hb_2 (Nat.le_refl _)
      replace hb' := hb'.below hb_2 (Nat.le_refl _)
      replace hx := hx.below hb_2 (Nat.le_refl _)
      replace hy := hy.below hb_2 (Nat.le_refl _)
      replace hp := hp.below hb_2 (Nat.le_refl _)
      replace hq := hq.below hb_2 (Nat.le_refl _)
      replace hb := hb.trans (hb_2.mono hb.size)
      clear hb_2
      refine ⟨_, rfl, hK _ _ ⟨hp.facts.1, hp.facts.2.1, hq.facts.1, hq.facts.2.1⟩ ?_⟩
      clear hK K
      apply wpLx_call 4
      case hi => rfl
      case hw => rfl
      case hr => kernel_rfl
      case h =>
      intro K hK
      unfold Calm
      go_simp
      have kb_3 := hb.size
      go_fit (compare_any x.sign y.sign _)
      rintro e w_3 ⟨rfl, hb_3⟩
      replace ha := ha.below hb_3 (Nat.le_refl _)
      replace hb' := hb'.below hb_3 (Nat.le_refl _)
      replace hx := hx.below hb_3 (Nat.le_refl _)
      replace hy := hy.below hb_3 (Nat.le_refl _)
      replace hp := hp.below hb_3 (Nat.le_refl _)
      replace hq := hq.below hb_3 (Nat.le_refl _)
      replace hb := hb.trans (hb_3.mono hb.size)
      clear hb_3
      refine ⟨_, rfl, hK _ _ ⟨hp.facts.1, hp.facts.2.1, hq.facts.1, hq.facts.2.1⟩ ?_⟩
      clear hK K
      rw [HC.out]
      apply wpLx_st 5
      case hi => rfl
      case h => intro w' hC; obtain ⟨c0, c1, c2, c3⟩ := hC; go_simp; rfl
      case hw => rfl
      case hf => kernel_rfl
      case hr => kernel_rfl
      apply wpLx_nil
      case hr => kernel_rfl
      case h =>
      have cp := hp.facts
      have cq := hq.facts
      go_wp2_with fail
      refine (cmp_rd hy hx (by omega) (by omega)).mono ?_
      rintro e w_4 ⟨rfl, hb_4⟩
      replace ha := ha.below hb_4 (Nat.le_refl _)
      replace hb' := hb'.below hb_4 (Nat.le_refl _)
      replace hx := hx.below hb_4 (Nat.le_refl _)
      replace hy := hy.below hb_4 (Nat.le_refl _)
      replace hp := hp.below hb_4 (Nat.le_refl _)
      replace hq := hq.below hb_4 (Nat.le_refl _)
      replace hb := hb.trans (hb_4.mono hb.size)
      clear hb_4
      go_wp2
      go_ret
      exact ⟨rfl, hb⟩
  · obtain ⟨h1, h2⟩ := zcmp_sign x y hs
    have HC := hide h1
    have hbq : (zcmp x y == 0) = false := by rw [beq_eq_false_iff_ne]; exact h2
    clear h1 h2 hs hzx hzy
    generalize zcmp x y = g at *
    go_enter Tryz.func44, Tryz.ntmps44
    have hb := Below.refl w.heap.size w
    have hp := Bk.new w na (.slice oa xs.length ca)
    replace ha := ha.alloc (.cells #[.bool na, (.slice oa xs.length ca)] 26)
    replace hb' := hb'.alloc (.cells #[.bool na, (.slice oa xs.length ca)] 26)
    replace hx := hx.alloc (.cells #[.bool na, (.slice oa xs.length ca)] 26)
    replace hy := hy.alloc (.cells #[.bool na, (.slice oa xs.length ca)] 26)
    replace hb := hb.alloc hb.size (.cells #[.bool na, (.slice oa xs.length ca)] 26)
    have hq := Bk.new (w.alloc (.cells #[.bool na, (.slice oa xs.length ca)] 26)) nb (.slice ob ys.length cb)
    simp only [Bk.size_alloc] at hq
    replace ha := ha.alloc (.cells #[.bool nb, (.slice ob ys.length cb)] 26)
    replace hb' := hb'.alloc (.cells #[.bool nb, (.slice ob ys.length cb)] 26)
    replace hx := hx.alloc (.cells #[.bool nb, (.slice ob ys.length cb)] 26)
    replace hy := hy.alloc (.cells #[.bool nb, (.slice ob ys.length cb)] 26)
    replace hp := hp.alloc (.cells #[.bool nb, (.slice ob ys.length cb)] 26)
    replace hb := hb.alloc hb.size (.cells #[.bool nb, (.slice ob ys.length cb)] 26)
    replace ha := ha.drew
    replace hb' := hb'.drew
    replace hx := hx.drew
    replace hy := hy.drew
    replace hp := hp.drew
    replace hq := hq.drew
    replace hb := hb.drew
    go_wp2_with fail
    refine wp_region_lx (fun w' => w'.cell? ⟨w.heap.size, 0, none⟩ = some (.bool na) ∧ w'.cell? ⟨w.heap.size, 1, none⟩ = some (.slice oa xs.length ca) ∧ w'.cell? ⟨w.heap.size + 1, 0, none⟩ = some (.bool nb) ∧ w'.cell? ⟨w.heap.size + 1, 1, none⟩ = some (.slice ob ys.length cb)) (by kernel_rfl) (by kernel_rfl) ⟨hp.facts.1, hp.facts.2.1, hq.facts.1, hq.facts.2.1⟩ ?_
    apply wpLx_st 0
    case hi => rfl
    case h => intro w' hC; obtain ⟨c0, c1, c2, c3⟩ := hC; go_simp; rfl
    case hw => rfl
    case hf => kernel_rfl
    case hr => kernel_rfl
    apply wpLx_st 2
    case hi => rfl
    case h => intro w' hC; obtain ⟨c0, c1, c2, c3⟩ := hC; go_simp; rfl
    case hw => rfl
    case hf => kernel_rfl
    case hr => kernel_rfl
    apply wpLx_call 1
    case hi => rfl
    case hw => rfl
    case hr => kernel_rfl
    case h =>
    intro K hK
    unfold Calm
    go_simp
    have kb_1 := hb.size
    go_fit (zsign_any ha hl)
    rintro e w_1 ⟨rfl, hb_1⟩
    replace ha := ha.below hb_1 (Nat.le_refl _)
    replace hb' := hb'.below hb_1 (Nat.le_refl _)
    replace hx := hx.below hb_1 (Nat.le_refl _)
    replace hy := hy.below hb_1 (Nat.le_refl _)
    replace hp := hp.below hb_1 (Nat.le_refl _)
    replace hq := hq.below hb_1 (Nat.le_refl _)
    replace hb := hb.trans (hb_1.mono hb.size)
    clear hb_1
    refine ⟨_, rfl, hK _ _ ⟨hp.facts.1, hp.facts.2.1, hq.facts.1, hq.facts.2.1⟩ ?_⟩
    clear hK K
    apply wpLx_call 3
    case hi => rfl
    case hw => rfl
    case hr => kernel_rfl
    case h =>
    intro K hK
    unfold Calm
    go_simp
    have kb_2 := hb.size
    go_fit (zsign_any hb' hm)
    rintro e w_2 ⟨rfl, hb_2⟩
    replace ha := ha.below hb_2 (Nat.le_refl _)
    replace hb' := hb'.below hb_2 (Nat.le_refl _)
    replace hx := hx.below hb_2 (Nat.le_refl _)
    replace hy := hy.below hb_2 (Nat.le_refl _)
    replace hp := hp.below hb_2 (Nat.le_refl _)
    replace hq := hq.below hb_2 (Nat.le_refl _)
    replace hb := hb.trans (hb_2.mono hb.size)
    clear hb_2
    refine ⟨_, rfl, hK _ _ ⟨hp.facts.1, hp.facts.2.1, hq.facts.1, hq.facts.2.1⟩ ?_⟩
    clear hK K
    apply wpLx_call 4
    case hi => rfl
    case hw => rfl
    case hr => kernel_rfl
    case h =>
    intro K hK
    unfold Calm
    go_simp
    have kb_3 := hb.size
    go_fit (compare_any x.sign y.sign _)
    rintro e w_3 ⟨rfl, hb_3⟩
    replace ha := ha.below hb_3 (Nat.le_refl _)
    replace hb' := hb'.below hb_3 (Nat.le_refl _)
    replace hx := hx.below hb_3 (Nat.le_refl _)
    replace hy := hy.below hb_3 (Nat.le_refl _)
    replace hp := hp.below hb_3 (Nat.le_refl _)
    replace hq := hq.below hb_3 (Nat.le_refl _)
    replace hb := hb.trans (hb_3.mono hb.size)
    clear hb_3
    refine ⟨_, rfl, hK _ _ ⟨hp.facts.1, hp.facts.2.1, hq.facts.1, hq.facts.2.1⟩ ?_⟩
    clear hK K
    rw [HC.out]
    apply wpLx_st 5
    case hi => rfl
    case h => intro w' hC; obtain ⟨c0, c1, c2, c3⟩ := hC; go_simp; rfl
    case hw => rfl
    case hf => kernel_rfl
    case hr => kernel_rfl
    apply wpLx_nil
    case hr => kernel_rfl
    case h =>
    go_wp2
    go_ret
    exact ⟨rfl, hb⟩
end Go.Proofs.YtlomgfgedkkhkaaGreatDoor

