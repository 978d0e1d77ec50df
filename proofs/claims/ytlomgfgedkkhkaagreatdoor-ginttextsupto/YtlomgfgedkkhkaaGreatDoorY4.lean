/- zint's reference: Sub, Sign. -/
import Derived.Test.YtlomgfgedkkhkaaGreatDoorY3
namespace Go.Proofs.YtlomgfgedkkhkaaGreatDoor
open Go.RowKit Dig

theorem ZW.open_ {w : World} {B : Nat} {v : Value} {z : Int} (h : ZW w B v z) :
    ∃ oa cap, v = .agg #[.bool (decide (z < 0)), .slice oa (dig z.natAbs).length cap] := by
  obtain ⟨s, rfl, ⟨oa, cap, rfl, _⟩, _⟩ := h
  exact ⟨oa, cap, rfl⟩
theorem ZW.zn {w : World} {B : Nat} {v : Value} {z : Int} (h : ZW w B v z) {l : Nat} (hl : (dig z.natAbs).length ≤ l) : ZN w v z l := h.rd.zn hl
theorem ZN.len {w : World} {v : Value} {z : Int} {l : Nat} (h : ZN w v z l) : (dig z.natAbs).length ≤ l := by
  obtain ⟨neg, s, xs, rfl, hr, hz, hl⟩ := h
  rw [← hz, zv_abs]
  exact Nat.le_trans (dig_length_le (val_lt hr.ok)) hl
set_option maxHeartbeats 1000000 in
set_option maxRecDepth 20000 in
/-- tesselref2.Neg, its answer read as any number. -/
theorem rneg_zn {w : World} {v : Value} {z : Int} {l : Nat} (h : ZN w v z l) (hl : l ≤ 1000000000) :
    Calls Tryz.prog 55 #[v] w fun e w' => ∃ v', e = .returned v' ∧ ZN w' v' (-z) l ∧ Below w.heap.size w w' :=
  (rneg_any h hl).mono fun _ _ ⟨v', h1, h2, h3⟩ => ⟨v', h1, h2.zn (by rw [Int.natAbs_neg]; exact h.len), h3⟩
set_option maxHeartbeats 1000000 in
set_option maxRecDepth 20000 in
/-- tesselref2.Sub. -/
theorem rzsub_any {w : World} {va vb : Value} {x y : Int} {l m : Nat} (ha : ZN w va x l) (hb' : ZN w vb y m) (hl : l ≤ 400000000) (hm : m ≤ 400000000) :
    Calls Tryz.prog 86 #[va, vb] w fun e w' => ∃ v', e = .returned v' ∧ ZW w' w.heap.size v' (x - y) ∧ Below w.heap.size w w' := by
  have HXY := hide (show x + -y = x - y by omega)
  obtain ⟨na, oa, ca, xs, rfl, hca, _, _, hxl⟩ := ha.open_
  obtain ⟨nb, ob, cb, ys, rfl, hcb, _, _, hyl⟩ := hb'.open_
  go_enter Tryz.func86, Tryz.ntmps86
  have hb := Below.refl w.heap.size w
  have hp := Bk.new w na (.slice oa xs.length ca)
  replace ha := ha.alloc (.cells #[.bool na, (.slice oa xs.length ca)] 26)
  replace hb' := hb'.alloc (.cells #[.bool na, (.slice oa xs.length ca)] 26)
  replace hb := hb.alloc hb.size (.cells #[.bool na, (.slice oa xs.length ca)] 26)
  have hq := Bk.new (w.alloc (.cells #[.bool na, (.slice oa xs.length ca)] 26)) nb (.slice ob ys.length cb)
  simp only [Bk.size_alloc] at hq
  replace ha := ha.alloc (.cells #[.bool nb, (.slice ob ys.length cb)] 26)
  replace hb' := hb'.alloc (.cells #[.bool nb, (.slice ob ys.length cb)] 26)
  replace hp := hp.alloc (.cells #[.bool nb, (.slice ob ys.length cb)] 26)
  replace hb := hb.alloc hb.size (.cells #[.bool nb, (.slice ob ys.length cb)] 26)
  have hz := Bk.new ((w.alloc (.cells #[.bool na, (.slice oa xs.length ca)] 26)).alloc (.cells #[.bool nb, (.slice ob ys.length cb)] 26)) false (.slice none 0 0)
  simp only [Bk.size_alloc] at hz
  replace ha := ha.alloc (.cells #[.bool false, (.slice none 0 0)] 26)
  replace hb' := hb'.alloc (.cells #[.bool false, (.slice none 0 0)] 26)
  replace hp := hp.alloc (.cells #[.bool false, (.slice none 0 0)] 26)
  replace hq := hq.alloc (.cells #[.bool false, (.slice none 0 0)] 26)
  replace hb := hb.alloc hb.size (.cells #[.bool false, (.slice none 0 0)] 26)
  replace ha := ha.drew
  replace hb' := hb'.drew
  replace hp := hp.drew
  replace hq := hq.drew
  replace hz := hz.drew
  replace hb := hb.drew
  go_wp2_with fail
  refine wp_region_lx (fun w' => w'.cell? ⟨w.heap.size, 0, none⟩ = some (.bool na) ∧ w'.cell? ⟨w.heap.size, 1, none⟩ = some (.slice oa xs.length ca) ∧ w'.cell? ⟨w.heap.size + 1, 0, none⟩ = some (.bool nb) ∧ w'.cell? ⟨w.heap.size + 1, 1, none⟩ = some (.slice ob ys.length cb)) (by kernel_rfl) (by kernel_rfl) ⟨hp.facts.1, hp.facts.2.1, hq.facts.1, hq.facts.2.1⟩ ?_
  apply wpLx_st 0
  case hi => rfl
  case h => intro w' hC; obtain ⟨c0, c1, c2, c3⟩ := hC; go_simp; rfl
  case hw => rfl
  case hf => kernel_rfl
  case hr => kernel_rfl
  apply wpLx_st 1
  case hi => rfl
  case h => intro w' hC; obtain ⟨c0, c1, c2, c3⟩ := hC; go_simp; rfl
  case hw => rfl
  case hf => kernel_rfl
  case hr => kernel_rfl
  apply wpLx_call 2
  case hi => rfl
  case hw => rfl
  case hr => kernel_rfl
  case h =>
  intro K hK
  unfold Calm
  go_simp
  have kz_1 := hz.lt
  have kb_1 := hb.size
  go_fit (rneg_zn hb' (by omega))
  rintro e w_1 ⟨v2, rfl, h2, hb_1⟩
  replace ha := ha.below hb_1 (Nat.le_refl _)
  replace hb' := hb'.below hb_1 (Nat.le_refl _)
  replace hp := hp.below hb_1 (Nat.le_refl _)
  replace hq := hq.below hb_1 (Nat.le_refl _)
  replace hz := hz.below hb_1 (Nat.le_refl _)
  replace hb := hb.trans (hb_1.mono hb.size)
  clear hb_1
  refine ⟨_, rfl, hK _ _ ⟨hp.facts.1, hp.facts.2.1, hq.facts.1, hq.facts.2.1⟩ ?_⟩
  clear hK K
  apply wpLx_call 3
  case hi => rfl
  case hw => rfl
  case hr => kernel_rfl
  case h =>
  intro K hK
  unfold Calm
  go_simp
  have kz_2 := hz.lt
  have kb_2 := hb.size
  go_fit (rzadd_any ha h2 hl hm)
  rintro e w_2 ⟨v', rfl, hv, hb_2⟩
  replace ha := ha.below hb_2 (Nat.le_refl _)
  replace hb' := hb'.below hb_2 (Nat.le_refl _)
  replace hp := hp.below hb_2 (Nat.le_refl _)
  replace hq := hq.below hb_2 (Nat.le_refl _)
  replace hz := hz.below hb_2 (Nat.le_refl _)
  replace h2 := h2.below hb_2 (Nat.le_refl _)
  replace hb := hb.trans (hb_2.mono hb.size)
  clear hb_2
  refine ⟨_, rfl, hK _ _ ⟨hp.facts.1, hp.facts.2.1, hq.facts.1, hq.facts.2.1⟩ ?_⟩
  clear hK K
  rw [HXY.out] at hv
  obtain ⟨sb, o5, n5, c5, rfl⟩ := hv.open2
  apply wpLx_call 4
  case hi => rfl
  case hw => rfl
  case hr => kernel_rfl
  case h =>
  intro K hK
  unfold Calm
  have c9 := hz.facts
  go_simp
  have ho := Bk.only w_2 (w.heap.size + 1 + 1) sb (.slice o5 n5 c5)
  replace hp := hp.frame ho (by first | assumption | (apply Ne.symm; assumption) | (simp; done) | omega)
  replace hq := hq.frame ho (by first | assumption | (apply Ne.symm; assumption) | (simp; done) | omega)
  have d := (hz.store sb (.slice o5 n5 c5)).facts
  refine hK _ _ ⟨hp.facts.1, hp.facts.2.1, hq.facts.1, hq.facts.2.1⟩ ?_
  clear hK K
  apply wpLx_nil
  case hr => kernel_rfl
  case h =>
  go_wp2
  refine bodyPost_ret (v := .agg #[.bool sb, .slice o5 n5 c5]) (by simp [results, Tryz.results86, go_sem, d.1, d.2.1]) rfl ?_
  exact ⟨_, rfl, (hv.only (Bk.only _ _ _ _) (by first | assumption | (simp; done) | omega | (simp; omega))).mono (by first | assumption | (simp; omega) | omega), (hb.setCell (by simp <;> omega) _).setCell (by simp <;> omega) _⟩
set_option maxHeartbeats 1000000 in
set_option maxRecDepth 20000 in
/-- tesselref2.Sign. -/
theorem rzsign_any {w : World} {v : Value} {z : Int} {l : Nat} (h : ZN w v z l) (hl : l ≤ 1000000000) :
    Calls Tryz.prog 56 #[v] w fun e w' => e = .returned (.int .i64 z.sign) ∧ Below w.heap.size w w' := by
  have hdl : (dig z.natAbs).length = 0 ↔ z = 0 := by rw [List.length_eq_zero_iff, dig_eq_nil, Int.natAbs_eq_zero]
  have hzn := h
  obtain ⟨neg, oa, cap, xs, rfl, hcap, _, _, _⟩ := h.open_
  clear h
  rcases (show z = 0 ∨ z < 0 ∨ 0 < z by omega) with h0 | h0 | h0
  · have E := hide (And.intro (decide_eq_false (show ¬ z < 0 by omega)) (hdl.2 h0))
    have e3 : z.sign = 0 := by rw [h0]; rfl
    rw [e3]
    clear h0 hdl e3
    go_enter Tryz.func56, Tryz.ntmps56
    have hb := Below.refl w.heap.size w
    have hp := Bk.new w neg (.slice oa xs.length cap)
    replace hzn := hzn.alloc (.cells #[.bool neg, (.slice oa xs.length cap)] 26)
    replace hb := hb.alloc hb.size (.cells #[.bool neg, (.slice oa xs.length cap)] 26)
    go_wp2_with fail
    refine (rnorm_any hzn hl).mono ?_
    rintro e w_1 ⟨v, rfl, hv, hb_1⟩
    replace hzn := hzn.below hb_1 (Nat.le_refl _)
    replace hp := hp.below hb_1 (Nat.le_refl _)
    replace hb := hb.trans (hb_1.mono hb.size)
    clear hb_1
    obtain ⟨o5, c5, rfl⟩ := hv.open_
    rw [E.out.1, E.out.2]
    have d := (Bk.new w_1 false (.slice o5 0 c5)).facts
    go_wp2
    go_ret
    exact ⟨rfl, hb.alloc hb.size _⟩
  · obtain ⟨n, hn⟩ : ∃ n, (dig z.natAbs).length = n := ⟨_, rfl⟩
    have hn0 : n ≠ 0 := fun h => by have := hdl.1 (hn.trans h); omega
    have hnq : ((n : Int) == 0) = false := by rw [beq_eq_false_iff_ne]; omega
    have E := hide (And.intro (decide_eq_true h0) hn)
    have e3 : z.sign = -1 := Int.sign_eq_neg_one_of_neg h0
    clear hn hn0
    rw [e3]
    clear h0 hdl e3
    go_enter Tryz.func56, Tryz.ntmps56
    have hb := Below.refl w.heap.size w
    have hp := Bk.new w neg (.slice oa xs.length cap)
    replace hzn := hzn.alloc (.cells #[.bool neg, (.slice oa xs.length cap)] 26)
    replace hb := hb.alloc hb.size (.cells #[.bool neg, (.slice oa xs.length cap)] 26)
    go_wp2_with fail
    refine (rnorm_any hzn hl).mono ?_
    rintro e w_1 ⟨v, rfl, hv, hb_1⟩
    replace hzn := hzn.below hb_1 (Nat.le_refl _)
    replace hp := hp.below hb_1 (Nat.le_refl _)
    replace hb := hb.trans (hb_1.mono hb.size)
    clear hb_1
    obtain ⟨o5, c5, rfl⟩ := hv.open_
    rw [E.out.1, E.out.2]
    have d := (Bk.new w_1 true (.slice o5 n c5)).facts
    go_wp2
    go_ret
    exact ⟨rfl, hb.alloc hb.size _⟩
  · obtain ⟨n, hn⟩ : ∃ n, (dig z.natAbs).length = n := ⟨_, rfl⟩
    have hn0 : n ≠ 0 := fun h => by have := hdl.1 (hn.trans h); omega
    have hnq : ((n : Int) == 0) = false := by rw [beq_eq_false_iff_ne]; omega
    have E := hide (And.intro (decide_eq_false (show ¬ z < 0 by omega)) hn)
    have e3 : z.sign = 1 := Int.sign_eq_one_of_pos h0
    clear hn hn0
    rw [e3]
    clear h0 hdl e3
    go_enter Tryz.func56, Tryz.ntmps56
    have hb := Below.refl w.heap.size w
    have hp := Bk.new w neg (.slice oa xs.length cap)
    replace hzn := hzn.alloc (.cells #[.bool neg, (.slice oa xs.length cap)] 26)
    replace hb := hb.alloc hb.size (.cells #[.bool neg, (.slice oa xs.length cap)] 26)
    go_wp2_with fail
    refine (rnorm_any hzn hl).mono ?_
    rintro e w_1 ⟨v, rfl, hv, hb_1⟩
    replace hzn := hzn.below hb_1 (Nat.le_refl _)
    replace hp := hp.below hb_1 (Nat.le_refl _)
    replace hb := hb.trans (hb_1.mono hb.size)
    clear hb_1
    obtain ⟨o5, c5, rfl⟩ := hv.open_
    rw [E.out.1, E.out.2]
    have d := (Bk.new w_1 false (.slice o5 n c5)).facts
    go_wp2
    go_ret
    exact ⟨rfl, hb.alloc hb.size _⟩
end Go.Proofs.YtlomgfgedkkhkaaGreatDoor

