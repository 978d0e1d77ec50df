/- zint: Sub, Cmp, From. -/
import Derived.Test.YtlomgfgedkkhkaaGreatDoorZ2
namespace Go.Proofs.YtlomgfgedkkhkaaGreatDoor
open Go.RowKit Dig

set_option maxHeartbeats 1000000 in
set_option maxRecDepth 20000 in
/-- zint.Sub. -/
theorem zsub_any {w : World} {va vb : Value} {x y : Int} {l m : Nat} (ha : ZN w va x l) (hb' : ZN w vb y m) (hl : l ≤ 1000000000) (hm : m ≤ 1000000000) :
    Calls Tryz.prog 61 #[va, vb] w fun e w' => ∃ v', e = .returned v' ∧ ZO w' w.heap.size v' (x - y) ∧ Below w.heap.size w w' := by
  have HXY := hide (show x + -y = x - y by omega)
  obtain ⟨na, oa, ca, xs, rfl, hca, _, _, hxl⟩ := ha.open_
  obtain ⟨nb, ob, cb, ys, rfl, hcb, _, _, hyl⟩ := hb'.open_
  go_enter Tryz.func61, Tryz.ntmps61
  have hb := Below.refl w.heap.size w
  have hp := Bk.new w na (.slice oa xs.length ca)
  replace ha := ha.alloc (.cells #[.bool na, (.slice oa xs.length ca)] 26)
  replace hb' := hb'.alloc (.cells #[.bool na, (.slice oa xs.length ca)] 26)
  replace hb := hb.alloc hb.size (.cells #[.bool na, (.slice oa xs.length ca)] 26)
  have hq := Bk.new (w.alloc (.cells #[.bool na, (.slice oa xs.length ca)] 26)) nb (.slice ob ys.length cb)
  simp only [Bk.size_alloc] at hq
  replace ha := ha.alloc (.cells #[.bool nb, (.slice ob ys.length cb)] 26)
  replace hb' := hb'.alloc (.cells #[.bool nb, (.slice ob ys.length cb)] 26)
  replace hp := hp.alloc (.cells #[.bool nb, (.slice ob ys.length cb)] 26)
  replace hb := hb.alloc hb.size (.cells #[.bool nb, (.slice ob ys.length cb)] 26)
  have hz := Bk.new ((w.alloc (.cells #[.bool na, (.slice oa xs.length ca)] 26)).alloc (.cells #[.bool nb, (.slice ob ys.length cb)] 26)) false (.slice none 0 0)
  simp only [Bk.size_alloc] at hz
  replace ha := ha.alloc (.cells #[.bool false, (.slice none 0 0)] 26)
  replace hb' := hb'.alloc (.cells #[.bool false, (.slice none 0 0)] 26)
  replace hp := hp.alloc (.cells #[.bool false, (.slice none 0 0)] 26)
  replace hq := hq.alloc (.cells #[.bool false, (.slice none 0 0)] 26)
  replace hb := hb.alloc hb.size (.cells #[.bool false, (.slice none 0 0)] 26)
  replace ha := ha.drew
  replace hb' := hb'.drew
  replace hp := hp.drew
  replace hq := hq.drew
  replace hz := hz.drew
  replace hb := hb.drew
  go_wp2_with fail
  refine wp_region_lx (fun w' => w'.cell? ⟨w.heap.size, 0, none⟩ = some (.bool na) ∧ w'.cell? ⟨w.heap.size, 1, none⟩ = some (.slice oa xs.length ca) ∧ w'.cell? ⟨w.heap.size + 1, 0, none⟩ = some (.bool nb) ∧ w'.cell? ⟨w.heap.size + 1, 1, none⟩ = some (.slice ob ys.length cb)) (by kernel_rfl) (by kernel_rfl) ⟨hp.facts.1, hp.facts.2.1, hq.facts.1, hq.facts.2.1⟩ ?_
  apply wpLx_st 0
  case hi => rfl
  case h => intro w' hC; obtain ⟨c0, c1, c2, c3⟩ := hC; go_simp; rfl
  case hw => rfl
  case hf => kernel_rfl
  case hr => kernel_rfl
  apply wpLx_st 1
  case hi => rfl
  case h => intro w' hC; obtain ⟨c0, c1, c2, c3⟩ := hC; go_simp; rfl
  case hw => rfl
  case hf => kernel_rfl
  case hr => kernel_rfl
  apply wpLx_call 2
  case hi => rfl
  case hw => rfl
  case hr => kernel_rfl
  case h =>
  intro K hK
  unfold Calm
  go_simp
  have kz_1 := hz.lt
  have kb_1 := hb.size
  go_fit (turned_any hb')
  rintro e w_1 ⟨v2, rfl, h2, hb_1⟩
  replace ha := ha.below hb_1 (Nat.le_refl _)
  replace hb' := hb'.below hb_1 (Nat.le_refl _)
  replace hp := hp.below hb_1 (Nat.le_refl _)
  replace hq := hq.below hb_1 (Nat.le_refl _)
  replace hz := hz.below hb_1 (Nat.le_refl _)
  replace hb := hb.trans (hb_1.mono hb.size)
  clear hb_1
  refine ⟨_, rfl, hK _ _ ⟨hp.facts.1, hp.facts.2.1, hq.facts.1, hq.facts.2.1⟩ ?_⟩
  clear hK K
  apply wpLx_call 3
  case hi => rfl
  case hw => rfl
  case hr => kernel_rfl
  case h =>
  intro K hK
  unfold Calm
  go_simp
  have kz_2 := hz.lt
  have kb_2 := hb.size
  go_fit (zadd_any ha h2 hl hm)
  rintro e w_2 ⟨v', rfl, hv, hb_2⟩
  replace ha := ha.below hb_2 (Nat.le_refl _)
  replace hb' := hb'.below hb_2 (Nat.le_refl _)
  replace hp := hp.below hb_2 (Nat.le_refl _)
  replace hq := hq.below hb_2 (Nat.le_refl _)
  replace hz := hz.below hb_2 (Nat.le_refl _)
  replace h2 := h2.below hb_2 (Nat.le_refl _)
  replace hb := hb.trans (hb_2.mono hb.size)
  clear hb_2
  refine ⟨_, rfl, hK _ _ ⟨hp.facts.1, hp.facts.2.1, hq.facts.1, hq.facts.2.1⟩ ?_⟩
  clear hK K
  rw [HXY.out] at hv
  obtain ⟨sb, o5, n5, c5, rfl⟩ := hv.open2
  apply wpLx_call 4
  case hi => rfl
  case hw => rfl
  case hr => kernel_rfl
  case h =>
  intro K hK
  unfold Calm
  have c9 := hz.facts
  go_simp
  have ho := Bk.only w_2 (w.heap.size + 1 + 1) sb (.slice o5 n5 c5)
  replace hp := hp.frame ho (by first | assumption | (apply Ne.symm; assumption) | (simp; done) | omega)
  replace hq := hq.frame ho (by first | assumption | (apply Ne.symm; assumption) | (simp; done) | omega)
  have d := (hz.store sb (.slice o5 n5 c5)).facts
  refine hK _ _ ⟨hp.facts.1, hp.facts.2.1, hq.facts.1, hq.facts.2.1⟩ ?_
  clear hK K
  apply wpLx_nil
  case hr => kernel_rfl
  case h =>
  go_wp2
  refine bodyPost_ret (v := .agg #[.bool sb, .slice o5 n5 c5]) (by simp [results, Tryz.results61, go_sem, d.1, d.2.1]) rfl ?_
  exact ⟨_, rfl, (hv.only (Bk.only _ _ _ _) (by first | assumption | (simp; done) | omega | (simp; omega))).mono (by first | assumption | (simp; omega) | omega), (hb.setCell (by simp <;> omega) _).setCell (by simp <;> omega) _⟩
/-- How two numbers are ordered. -/
def zcmp (x y : Int) : Int := if x < y then -1 else if x = y then 0 else 1
theorem isnan_any (x : Int) (w : World) : Calls Tryz.prog 96 #[.int .i64 x] w fun e w' => e = .returned (.bool false) ∧ Below w.heap.size w w' := by
  have h : (x == x) = true := by simp
  go_enter Tryz.func96, Tryz.ntmps96
  go_wp2
  go_ret
  exact ⟨by simp, Below.refl _ _⟩
set_option maxHeartbeats 1000000 in
set_option maxRecDepth 20000 in
theorem compare_any (x y : Int) (w : World) : Calls Tryz.prog 75 #[.int .i64 x, .int .i64 y] w fun e w' => e = .returned (.int .i64 (zcmp x y)) ∧ Below w.heap.size w w' := by
  obtain ⟨g, hg⟩ : ∃ g, zcmp x y = g := ⟨_, rfl⟩
  have HG := hide hg
  rw [hg]
  clear hg
  rcases (show x < y ∨ x = y ∨ y < x by omega) with h | h | h
  · have h1 : g = -1 := by rw [← HG.out]; unfold zcmp; rw [if_pos h]
    rw [h1]
    go_enter Tryz.func75, Tryz.ntmps75
    have hb := Below.refl w.heap.size w
    go_wp2_with fail
    refine (isnan_any x _).mono ?_
    rintro e w_1 ⟨rfl, hb_1⟩
    replace hb := hb.trans (hb_1.mono hb.size)
    clear hb_1
    go_wp2_with fail
    refine (isnan_any y _).mono ?_
    rintro e w_2 ⟨rfl, hb_2⟩
    replace hb := hb.trans (hb_2.mono hb.size)
    clear hb_2
    go_wp2
    go_ret
    exact ⟨rfl, hb⟩
  · have h1 : g = 0 := by rw [← HG.out]; unfold zcmp; rw [if_neg (by omega), if_pos h]
    rw [h1]
    subst h
    have hn : ¬ x < x := by omega
    go_enter Tryz.func75, Tryz.ntmps75
    have hb := Below.refl w.heap.size w
    go_wp2_with fail
    refine (isnan_any x _).mono ?_
    rintro e w_1 ⟨rfl, hb_1⟩
    replace hb := hb.trans (hb_1.mono hb.size)
    clear hb_1
    go_wp2_with fail
    refine (isnan_any x _).mono ?_
    rintro e w_2 ⟨rfl, hb_2⟩
    replace hb := hb.trans (hb_2.mono hb.size)
    clear hb_2
    go_wp2
    go_ret
    exact ⟨rfl, hb⟩
  · have h1 : g = 1 := by rw [← HG.out]; unfold zcmp; rw [if_neg (by omega), if_neg (by omega)]
    rw [h1]
    have hn : ¬ x < y := by omega
    go_enter Tryz.func75, Tryz.ntmps75
    have hb := Below.refl w.heap.size w
    go_wp2_with fail
    refine (isnan_any x _).mono ?_
    rintro e w_1 ⟨rfl, hb_1⟩
    replace hb := hb.trans (hb_1.mono hb.size)
    clear hb_1
    go_wp2_with fail
    refine (isnan_any y _).mono ?_
    rintro e w_2 ⟨rfl, hb_2⟩
    replace hb := hb.trans (hb_2.mono hb.size)
    clear hb_2
    go_wp2
    go_ret
    exact ⟨rfl, hb⟩
end Go.Proofs.YtlomgfgedkkhkaaGreatDoor

