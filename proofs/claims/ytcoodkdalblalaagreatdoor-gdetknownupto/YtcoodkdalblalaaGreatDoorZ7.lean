/- zint.RoundDiv, Exact. -/
import Derived.Test.YtcoodkdalblalaaGreatDoorSxToZ6
namespace Go.Proofs.YtcoodkdalblalaaGreatDoor
open Go.RowKit Dig

theorem fmod_eq (x y : Int) : x = x.fdiv y * y + x.fmod y := by have := Int.mul_fdiv_add_fmod x y; rw [Int.mul_comm] at this; omega
theorem fmod_bd {x y : Int} (_h0 : y ≠ 0) : (0 < y → 0 ≤ x.fmod y ∧ x.fmod y < y) ∧ (y < 0 → y < x.fmod y ∧ x.fmod y ≤ 0) := by
  refine ⟨fun h => ⟨Int.fmod_nonneg_of_pos x h, Int.fmod_lt_of_pos x h⟩, fun h => ?_⟩
  have h1 := ((Int.fdiv_fmod_unique' (a := x) (q := x.fdiv y) (r := x.fmod y) h).1 ⟨rfl, rfl⟩)
  exact ⟨h1.2.1, h1.2.2⟩
theorem fdiv_le {x y : Int} (h0 : y ≠ 0) : (x.fdiv y).natAbs ≤ x.natAbs := by
  have he := fmod_eq x y
  obtain ⟨b1, b2⟩ := fmod_bd (x := x) h0
  obtain ⟨q, hq⟩ : ∃ q, x.fdiv y = q := ⟨_, rfl⟩
  obtain ⟨r, hr⟩ : ∃ r, x.fmod y = r := ⟨_, rfl⟩
  rw [hq, hr] at he
  rw [hr] at b1 b2
  rw [hq]
  have h1 : (q * y).natAbs = q.natAbs * y.natAbs := Int.natAbs_mul q y
  have h2 : r.natAbs < y.natAbs := by
    rcases Int.lt_or_gt_of_ne h0 with hy | hy
    · have := b2 hy; omega
    · have := b1 hy; omega
  have h3 : (q * y).natAbs ≤ x.natAbs + r.natAbs := by
    generalize q * y = t at *
    omega
  rcases Nat.lt_or_ge x.natAbs q.natAbs with h | h
  · exfalso
    have h4 := Nat.mul_le_mul_right y.natAbs (show x.natAbs + 1 ≤ q.natAbs from h)
    rw [Nat.add_mul, Nat.one_mul] at h4
    have h5 := Nat.le_mul_of_pos_right x.natAbs (show 0 < y.natAbs by omega)
    omega
  · exact h
theorem fdiv_len {x y : Int} {l : Nat} (h0 : y ≠ 0) (h : (dig x.natAbs).length ≤ l) : (dig (x.fdiv y).natAbs).length ≤ l :=
  dig_length_le (Nat.lt_of_lt_of_le (Nat.lt_of_le_of_lt (fdiv_le h0) (lt_pw_dig _)) (pw_mono h))
theorem fmod_zero {x y : Int} {na nb : Bool} {xs ys : List Nat} (hx : zv na xs = x) (hy : zv nb ys = y) (h0 : y ≠ 0) : x.fmod y = 0 ↔ val xs % val ys = 0 := by
  have hv : val ys ≠ 0 := fun h => h0 (by rw [← hy]; exact zv_zero.2 h)
  have hs := zv_split na nb xs ys
  rw [hx, hy] at hs
  constructor
  · intro h
    by_cases hr : val xs % val ys = 0
    · exact hr
    · cases hd : (na != nb) with
      | false =>
        have := (floor_plain (na := na) (nb := nb) (xs := xs) hv (.inr hd)).2
        rw [hx, hy, h] at this
        exact absurd ((fr_sign na).1 (by rw [← this]; rfl)) hr
      | true =>
        have h2 := (floor_turned (na := na) (nb := nb) hv hr hd).2
        rw [hx, hy, h] at h2
        have h3 : (fr na (val xs) (val ys)).natAbs = val xs % val ys := by
          unfold fr; split
          · rw [Int.natAbs_neg]; exact Int.natAbs_natCast _
          · exact Int.natAbs_natCast _
        have h4 : y.natAbs = val ys := by rw [← hy, zv_abs]
        have := Nat.mod_lt (val xs) (Nat.pos_of_ne_zero hv)
        omega
  · intro h
    have := (floor_plain (na := na) (nb := nb) hv (.inl h)).2
    rw [hx, hy] at this
    rw [this]
    unfold fr; rw [h]; cases na <;> rfl
set_option maxHeartbeats 4000000 in
set_option maxRecDepth 20000 in
/-- zint.Exact by 0. -/
theorem exact_zero {w : World} {va vb : Value} {x : Int} {l m : Nat} (ha : ZN w va x l) (hb' : ZN w vb 0 m) (hl : l ≤ 400000000) (hm : m ≤ 400000000) :
    Calls Tryz.prog 69 #[va, vb] w fun e w' => e = .returned (.tuple #[.agg #[.bool false, .slice none 0 0], .int .i64 5]) ∧ Below w.heap.size w w' := by
  obtain ⟨na, oa, ca, xs, rfl, hca, hx, hzx, hxl⟩ := ha.open_
  obtain ⟨nb, ob, cb, ys, rfl, hcb, hy, hzy, hyl⟩ := hb'.open_
  have hv : val ys = 0 := zv_zero.1 hzy
  have HI := hide (show divI (val ys) = 5 by rw [hv]; rfl)
  have e5 : ((5 : Int) == 0) = false := rfl
  clear ha hb' hzx hzy hv
  go_enter Tryz.func69, Tryz.ntmps69
  have hb := Below.refl w.heap.size w
  have hp := Bk.new w na (.slice oa xs.length ca)
  replace hx := hx.alloc (.cells #[.bool na, (.slice oa xs.length ca)] 24)
  replace hy := hy.alloc (.cells #[.bool na, (.slice oa xs.length ca)] 24)
  replace hb := hb.alloc hb.size (.cells #[.bool na, (.slice oa xs.length ca)] 24)
  have hq := Bk.new (w.alloc (.cells #[.bool na, (.slice oa xs.length ca)] 24)) nb (.slice ob ys.length cb)
  simp only [Bk.size_alloc] at hq
  replace hx := hx.alloc (.cells #[.bool nb, (.slice ob ys.length cb)] 24)
  replace hy := hy.alloc (.cells #[.bool nb, (.slice ob ys.length cb)] 24)
  replace hp := hp.alloc (.cells #[.bool nb, (.slice ob ys.length cb)] 24)
  replace hb := hb.alloc hb.size (.cells #[.bool nb, (.slice ob ys.length cb)] 24)
  have hz1 := Bk.new ((w.alloc (.cells #[.bool na, (.slice oa xs.length ca)] 24)).alloc (.cells #[.bool nb, (.slice ob ys.length cb)] 24)) false (.slice none 0 0)
  simp only [Bk.size_alloc] at hz1
  replace hx := hx.alloc (.cells #[.bool false, (.slice none 0 0)] 24)
  replace hy := hy.alloc (.cells #[.bool false, (.slice none 0 0)] 24)
  replace hp := hp.alloc (.cells #[.bool false, (.slice none 0 0)] 24)
  replace hq := hq.alloc (.cells #[.bool false, (.slice none 0 0)] 24)
  replace hb := hb.alloc hb.size (.cells #[.bool false, (.slice none 0 0)] 24)
  have f_hp := hp.facts
  have f_hq := hq.facts
  go_wp2_with fail
  refine (divMod_rd hx hy (by omega) (by omega)).mono ?_
  rintro e w_1 ⟨s1, s2, rfl, -, -, -, hb_1⟩
  replace hx := hx.below hb_1 (Nat.le_refl _)
  replace hy := hy.below hb_1 (Nat.le_refl _)
  replace hp := hp.below hb_1 (Nat.le_refl _)
  replace hq := hq.below hb_1 (Nat.le_refl _)
  replace hz1 := hz1.below hb_1 (Nat.le_refl _)
  replace hb := hb.trans (hb_1.mono hb.size)
  clear hb_1
  rw [HI.out]
  clear f_hp f_hq
  have f_hz1 := hz1.facts
  have ho := Bk.only w_1 (w.heap.size + 1 + 1) false (.slice none 0 0)
  have hbx_ := hz1.bx
  replace hx := hx.frame hbx_ ho
  replace hy := hy.frame hbx_ ho
  replace hp := hp.frame ho (by first | assumption | (apply Ne.symm; assumption) | (simp; done) | omega)
  replace hq := hq.frame ho (by first | assumption | (apply Ne.symm; assumption) | (simp; done) | omega)
  replace hz1 := hz1.store false (.slice none 0 0)
  replace hb := (hb.setCell (p := ⟨w.heap.size + 1 + 1, 0, none⟩) (show w.heap.size ≤ w.heap.size + 1 + 1 by first | assumption | (simp; done) | omega) (.bool false)).setCell (p := ⟨w.heap.size + 1 + 1, 1, none⟩) (show w.heap.size ≤ w.heap.size + 1 + 1 by first | assumption | (simp; done) | omega) (.slice none 0 0)
  clear ho hbx_
  obtain ⟨w_2, hw_2⟩ : ∃ v, ((w_1.setCell ⟨w.heap.size + 1 + 1, 0, none⟩ (.bool false)).setCell ⟨w.heap.size + 1 + 1, 1, none⟩ (.slice none 0 0)) = v := ⟨_, rfl⟩
  rw [hw_2] at hx hy hp hq hz1 hb
  have f1 := hz1.facts
  go_wp2
  refine bodyPost_ret (v := .tuple #[.agg #[.bool false, .slice none 0 0], .int .i64 5]) (by simp [results, Tryz.results69, go_sem, f1.1, f1.2.1]) rfl ?_
  exact ⟨rfl, hb⟩
set_option maxHeartbeats 4000000 in
set_option maxRecDepth 20000 in
/-- zint.Exact without a rest. -/
theorem exact_any {w : World} {va vb : Value} {x y : Int} {l m : Nat} (ha : ZN w va x l) (hb' : ZN w vb y m) (hl : l ≤ 400000000) (hm : m ≤ 400000000) (h0 : y ≠ 0) (hr : x.fmod y = 0) :
    Calls Tryz.prog 69 #[va, vb] w fun e w' => ∃ v1, e = .returned (.tuple #[v1, .int .i64 0]) ∧ ZO w' w.heap.size v1 (x.fdiv y) ∧ Below w.heap.size w w' := by
  obtain ⟨na, oa, ca, xs, rfl, hca, hx, hzx, hxl⟩ := ha.open_
  obtain ⟨nb, ob, cb, ys, rfl, hcb, hy, hzy, hyl⟩ := hb'.open_
  have hv : val ys ≠ 0 := fun h => h0 (by rw [← hzy]; exact zv_zero.2 h)
  have hm0 : val xs % val ys = 0 := (fmod_zero hzx hzy h0).1 hr
  have HN := hide (show (dig (val xs % val ys)).length = 0 by rw [hm0]; exact List.length_eq_zero_iff.2 (dig_eq_nil.2 rfl))
  have H0 := hide hv
  have e0 : ((0 : Int) == 0) = true := rfl
  have hbn : (!(na == nb)) = (na != nb) := rfl
  have E1 := hide (show (if (na != nb) = true then -((val xs / val ys : Nat) : Int) else ((val xs / val ys : Nat) : Int)) = x.fdiv y by rw [← hzx, ← hzy, (floor_plain (na := na) (nb := nb) hv (.inl hm0)).1]; rfl)
  clear ha hb' hzx hzy hv hr h0 hm0
  go_enter Tryz.func69, Tryz.ntmps69
  have hb := Below.refl w.heap.size w
  have hp := Bk.new w na (.slice oa xs.length ca)
  replace hx := hx.alloc (.cells #[.bool na, (.slice oa xs.length ca)] 24)
  replace hy := hy.alloc (.cells #[.bool na, (.slice oa xs.length ca)] 24)
  replace hb := hb.alloc hb.size (.cells #[.bool na, (.slice oa xs.length ca)] 24)
  have hq := Bk.new (w.alloc (.cells #[.bool na, (.slice oa xs.length ca)] 24)) nb (.slice ob ys.length cb)
  simp only [Bk.size_alloc] at hq
  replace hx := hx.alloc (.cells #[.bool nb, (.slice ob ys.length cb)] 24)
  replace hy := hy.alloc (.cells #[.bool nb, (.slice ob ys.length cb)] 24)
  replace hp := hp.alloc (.cells #[.bool nb, (.slice ob ys.length cb)] 24)
  replace hb := hb.alloc hb.size (.cells #[.bool nb, (.slice ob ys.length cb)] 24)
  have hz1 := Bk.new ((w.alloc (.cells #[.bool na, (.slice oa xs.length ca)] 24)).alloc (.cells #[.bool nb, (.slice ob ys.length cb)] 24)) false (.slice none 0 0)
  simp only [Bk.size_alloc] at hz1
  replace hx := hx.alloc (.cells #[.bool false, (.slice none 0 0)] 24)
  replace hy := hy.alloc (.cells #[.bool false, (.slice none 0 0)] 24)
  replace hp := hp.alloc (.cells #[.bool false, (.slice none 0 0)] 24)
  replace hq := hq.alloc (.cells #[.bool false, (.slice none 0 0)] 24)
  replace hb := hb.alloc hb.size (.cells #[.bool false, (.slice none 0 0)] 24)
  have f_hp := hp.facts
  have f_hq := hq.facts
  go_wp2_with fail
  refine (divMod_pos hx hy H0.out (by omega) (by omega)).mono ?_
  rintro e w_1 ⟨s1, s2, rfl, h1, h2, -, hb_1⟩
  replace hx := hx.below hb_1 (Nat.le_refl _)
  replace hy := hy.below hb_1 (Nat.le_refl _)
  replace hp := hp.below hb_1 (Nat.le_refl _)
  replace hq := hq.below hb_1 (Nat.le_refl _)
  replace hz1 := hz1.below hb_1 (Nat.le_refl _)
  replace hb := hb.trans (hb_1.mono hb.size)
  clear hb_1
  clear f_hp f_hq
  obtain ⟨o2, c2, rfl, hc2, _⟩ := h2
  rw [HN.out]
  have f_hp := hp.facts
  have f_hq := hq.facts
  go_wp2_with fail
  refine (signed_z _ h1 E1.out).mono ?_
  rintro e w_2 ⟨v1, rfl, g1, hb_2⟩
  replace hx := hx.below hb_2 (Nat.le_refl _)
  replace hy := hy.below hb_2 (Nat.le_refl _)
  replace hp := hp.below hb_2 (Nat.le_refl _)
  replace hq := hq.below hb_2 (Nat.le_refl _)
  replace hz1 := hz1.below hb_2 (Nat.le_refl _)
  replace h1 := h1.below hb_2 (Nat.le_refl _)
  replace hb := hb.trans (hb_2.mono hb.size)
  clear hb_2
  clear h1
  clear f_hp f_hq
  obtain ⟨sb_hz1, o_hz1, n_hz1, c_hz1, rfl⟩ := g1.open2
  have f_hz1 := hz1.facts
  have ho := Bk.only w_2 (w.heap.size + 1 + 1) sb_hz1 (.slice o_hz1 n_hz1 c_hz1)
  have hbx_ := hz1.bx
  replace hx := hx.frame hbx_ ho
  replace hy := hy.frame hbx_ ho
  replace hp := hp.frame ho (by first | assumption | (apply Ne.symm; assumption) | (simp; done) | omega)
  replace hq := hq.frame ho (by first | assumption | (apply Ne.symm; assumption) | (simp; done) | omega)
  replace g1 := g1.frame hbx_ ho
  replace hz1 := hz1.store sb_hz1 (.slice o_hz1 n_hz1 c_hz1)
  replace hb := (hb.setCell (p := ⟨w.heap.size + 1 + 1, 0, none⟩) (show w.heap.size ≤ w.heap.size + 1 + 1 by first | assumption | (simp; done) | omega) (.bool sb_hz1)).setCell (p := ⟨w.heap.size + 1 + 1, 1, none⟩) (show w.heap.size ≤ w.heap.size + 1 + 1 by first | assumption | (simp; done) | omega) (.slice o_hz1 n_hz1 c_hz1)
  clear ho hbx_
  obtain ⟨w_3, hw_3⟩ : ∃ v, ((w_2.setCell ⟨w.heap.size + 1 + 1, 0, none⟩ (.bool sb_hz1)).setCell ⟨w.heap.size + 1 + 1, 1, none⟩ (.slice o_hz1 n_hz1 c_hz1)) = v := ⟨_, rfl⟩
  rw [hw_3] at hx hy hp hq hz1 g1 hb
  have f1 := hz1.facts
  go_wp2
  refine bodyPost_ret (v := .tuple #[.agg #[.bool sb_hz1, .slice o_hz1 n_hz1 c_hz1], .int .i64 0]) (by simp [results, Tryz.results69, go_sem, f1.1, f1.2.1]) rfl ?_
  exact ⟨_, rfl, g1.mono (by simp; omega), hb⟩
end Go.Proofs.YtcoodkdalblalaaGreatDoor

