/- zint's reference: Neg, Abs, Norm, Mul, Add. -/
import Derived.Test.YtlomgfgedkkhkaaGreatDoorZ3ToY1
namespace Go.Proofs.YtlomgfgedkkhkaaGreatDoor
open Go.RowKit Dig

set_option maxHeartbeats 1000000 in
set_option maxRecDepth 20000 in
theorem rabs_any {w : World} {v : Value} {z : Int} {l : Nat} (h : ZN w v z l) (hl : l ≤ 1000000000) :
    Calls Tryz.prog 58 #[v] w fun e w' => ∃ v', e = .returned v' ∧ ZW w' w.heap.size v' z.natAbs ∧ Below w.heap.size w w' := by
  obtain ⟨neg, oa, cap, xs, rfl, hcap, hr, hz', hxl⟩ := h.open_
  have e9 : (if (false : Bool) = true then -((val xs : Nat) : Int) else ((val xs : Nat) : Int)) = (z.natAbs : Int) := by rw [show val xs = z.natAbs by rw [← hz', zv_abs]]; simp
  have E9 := hide e9
  clear h hz' e9
  go_enter Tryz.func58, Tryz.ntmps58
  have hb := Below.refl w.heap.size w
  have hp := Bk.new w neg (.slice oa xs.length cap)
  replace hr := hr.alloc (.cells #[.bool neg, (.slice oa xs.length cap)] 26)
  replace hb := hb.alloc hb.size (.cells #[.bool neg, (.slice oa xs.length cap)] 26)
  have hz := Bk.new (w.alloc (.cells #[.bool neg, (.slice oa xs.length cap)] 26)) false (.slice none 0 0)
  simp only [Bk.size_alloc] at hz
  replace hr := hr.alloc (.cells #[.bool false, (.slice none 0 0)] 26)
  replace hp := hp.alloc (.cells #[.bool false, (.slice none 0 0)] 26)
  replace hb := hb.alloc hb.size (.cells #[.bool false, (.slice none 0 0)] 26)
  have c0 := hp.facts
  go_wp2_with fail
  refine (make_any false (z.natAbs : Int) hr (by omega) E9.out).mono ?_
  rintro e w_1 ⟨v', rfl, hv, hb_1⟩
  replace hr := hr.below hb_1 (Nat.le_refl _)
  replace hp := hp.below hb_1 (Nat.le_refl _)
  replace hz := hz.below hb_1 (Nat.le_refl _)
  replace hb := hb.trans (hb_1.mono hb.size)
  clear hb_1
  obtain ⟨sb, o5, n5, c5, rfl⟩ := hv.open2
  have c9 := hz.facts
  have d := (hz.store sb (.slice o5 n5 c5)).facts
  go_wp2
  refine bodyPost_ret (v := .agg #[.bool sb, .slice o5 n5 c5]) (by simp [results, Tryz.results58, go_sem, d.1, d.2.1]) rfl ?_
  exact ⟨_, rfl, (hv.only (Bk.only _ _ _ _) (by first | assumption | (simp; done) | omega | (simp; omega))).mono (by first | assumption | (simp; omega) | omega), (hb.setCell (by simp <;> omega) _).setCell (by simp <;> omega) _⟩
set_option maxHeartbeats 1000000 in
set_option maxRecDepth 20000 in
theorem rneg_any {w : World} {v : Value} {z : Int} {l : Nat} (h : ZN w v z l) (hl : l ≤ 1000000000) :
    Calls Tryz.prog 55 #[v] w fun e w' => ∃ v', e = .returned v' ∧ ZW w' w.heap.size v' (-z) ∧ Below w.heap.size w w' := by
  obtain ⟨neg, oa, cap, xs, rfl, hcap, hr, hz', hxl⟩ := h.open_
  have HZZ := hide (show (if (!neg) = true then -(val xs : Int) else (val xs : Int)) = -z by rw [zv_not, hz'])
  clear h hz'
  go_enter Tryz.func55, Tryz.ntmps55
  have hb := Below.refl w.heap.size w
  have hp := Bk.new w neg (.slice oa xs.length cap)
  replace hr := hr.alloc (.cells #[.bool neg, (.slice oa xs.length cap)] 26)
  replace hb := hb.alloc hb.size (.cells #[.bool neg, (.slice oa xs.length cap)] 26)
  have hz := Bk.new (w.alloc (.cells #[.bool neg, (.slice oa xs.length cap)] 26)) false (.slice none 0 0)
  simp only [Bk.size_alloc] at hz
  replace hr := hr.alloc (.cells #[.bool false, (.slice none 0 0)] 26)
  replace hp := hp.alloc (.cells #[.bool false, (.slice none 0 0)] 26)
  replace hb := hb.alloc hb.size (.cells #[.bool false, (.slice none 0 0)] 26)
  have c0 := hp.facts
  go_wp2_with fail
  refine (make_any (!neg) (-z) hr (by omega) HZZ.out).mono ?_
  rintro e w_1 ⟨v', rfl, hv, hb_1⟩
  replace hr := hr.below hb_1 (Nat.le_refl _)
  replace hp := hp.below hb_1 (Nat.le_refl _)
  replace hz := hz.below hb_1 (Nat.le_refl _)
  replace hb := hb.trans (hb_1.mono hb.size)
  clear hb_1
  obtain ⟨sb, o5, n5, c5, rfl⟩ := hv.open2
  have c9 := hz.facts
  have d := (hz.store sb (.slice o5 n5 c5)).facts
  go_wp2
  refine bodyPost_ret (v := .agg #[.bool sb, .slice o5 n5 c5]) (by simp [results, Tryz.results55, go_sem, d.1, d.2.1]) rfl ?_
  exact ⟨_, rfl, (hv.only (Bk.only _ _ _ _) (by first | assumption | (simp; done) | omega | (simp; omega))).mono (by first | assumption | (simp; omega) | omega), (hb.setCell (by simp <;> omega) _).setCell (by simp <;> omega) _⟩
set_option maxHeartbeats 1000000 in
set_option maxRecDepth 20000 in
theorem rnorm_any {w : World} {v : Value} {z : Int} {l : Nat} (h : ZN w v z l) (hl : l ≤ 1000000000) :
    Calls Tryz.prog 26 #[v] w fun e w' => ∃ v', e = .returned v' ∧ ZW w' w.heap.size v' z ∧ Below w.heap.size w w' := by
  obtain ⟨neg, oa, cap, xs, rfl, hcap, hr, hz', hxl⟩ := h.open_
  have HZZ := hide (show (if neg = true then -(val xs : Int) else (val xs : Int)) = z by exact hz')
  clear h hz'
  go_enter Tryz.func26, Tryz.ntmps26
  have hb := Below.refl w.heap.size w
  have hp := Bk.new w neg (.slice oa xs.length cap)
  replace hr := hr.alloc (.cells #[.bool neg, (.slice oa xs.length cap)] 26)
  replace hb := hb.alloc hb.size (.cells #[.bool neg, (.slice oa xs.length cap)] 26)
  have hz := Bk.new (w.alloc (.cells #[.bool neg, (.slice oa xs.length cap)] 26)) false (.slice none 0 0)
  simp only [Bk.size_alloc] at hz
  replace hr := hr.alloc (.cells #[.bool false, (.slice none 0 0)] 26)
  replace hp := hp.alloc (.cells #[.bool false, (.slice none 0 0)] 26)
  replace hb := hb.alloc hb.size (.cells #[.bool false, (.slice none 0 0)] 26)
  have c0 := hp.facts
  go_wp2_with fail
  refine (make_any neg z hr (by omega) HZZ.out).mono ?_
  rintro e w_1 ⟨v', rfl, hv, hb_1⟩
  replace hr := hr.below hb_1 (Nat.le_refl _)
  replace hp := hp.below hb_1 (Nat.le_refl _)
  replace hz := hz.below hb_1 (Nat.le_refl _)
  replace hb := hb.trans (hb_1.mono hb.size)
  clear hb_1
  obtain ⟨sb, o5, n5, c5, rfl⟩ := hv.open2
  have c9 := hz.facts
  have d := (hz.store sb (.slice o5 n5 c5)).facts
  go_wp2
  refine bodyPost_ret (v := .agg #[.bool sb, .slice o5 n5 c5]) (by simp [results, Tryz.results26, go_sem, d.1, d.2.1]) rfl ?_
  exact ⟨_, rfl, (hv.only (Bk.only _ _ _ _) (by first | assumption | (simp; done) | omega | (simp; omega))).mono (by first | assumption | (simp; omega) | omega), (hb.setCell (by simp <;> omega) _).setCell (by simp <;> omega) _⟩
theorem zmul_dig_length (xs ys : List Nat) (okx : OK xs) (oky : OK ys) : (dig (val xs * val ys)).length ≤ xs.length + ys.length := by
  apply dig_length_le
  rw [pw_add]
  exact Nat.mul_lt_mul'' (val_lt okx) (val_lt oky)
end Go.Proofs.YtlomgfgedkkhkaaGreatDoor

