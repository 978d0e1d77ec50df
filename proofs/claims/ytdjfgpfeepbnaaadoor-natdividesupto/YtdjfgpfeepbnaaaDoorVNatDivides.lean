/- The law NatDivides returns true for every three slices of at most 2^20 digits, and writes nothing that was there. -/
import Derived.Test.YtdjfgpfeepbnaaaDoorD8
namespace Go.Proofs.YtdjfgpfeepbnaaaDoor
open Go.RowKit Dig

set_option maxHeartbeats 4000000 in
theorem walk_NatDivides (w : World) (va : Value) (xs : List Nat) (hx : Rd w va xs) (hxl : xs.length ≤ 1048576) (vb : Value) (ys : List Nat) (hy : Rd w vb ys) (hyl : ys.length ≤ 1048576) (vc : Value) (zs : List Nat) (hz : Rd w vc zs) (hzl : zs.length ≤ 1048576) (htab : Lib.TabIs Tryd.prog w p10 .u64 Lib.pow10Tab) :
    Calls Tryd.prog 8 #[va, vb, vc] w fun e w' => e = .returned (.bool true) ∧ Below w.heap.size w w' := by
  have bx := val_lt hx.ok
  have by' := val_lt hy.ok
  have bz := val_lt hz.ok
  have m1 : val xs < pw 1048576 := Nat.lt_of_lt_of_le bx (pw_mono hxl)
  have m2 : val ys < pw 1048576 := Nat.lt_of_lt_of_le by' (pw_mono hyl)
  have m3 : val zs < pw 1048576 := Nat.lt_of_lt_of_le bz (pw_mono hzl)
  have dx := dig_val hx.ok
  have dz := dig_val hz.ok
  have slx := strip_length_le xs
  generalize hX : val xs = X at *
  generalize hY : val ys = Y at *
  generalize hZ : val zs = Z at *
  have mul2 : ∀ {p q a b : Nat}, p < pw a → q < pw b → p * q < pw (a + b) := fun {p q a b} h k => by
    rw [pw_add]; exact Nat.mul_lt_mul_of_lt_of_le h (Nat.le_of_lt k) (pw_pos _)
  have up : ∀ {p a b : Nat}, p < pw a → a ≤ b → p < pw b := fun {p a b} h k => Nat.lt_of_lt_of_le h (pw_mono k)
  have add3 : ∀ {p q a : Nat}, p < pw a → q < pw a → p + q < pw (a + 1) := fun {p q a} h k => by simp only [pw]; omega
  have lx : (dig X).length ≤ 1048576 := dig_length_le m1
  have lr : (dig (Z % Y)).length ≤ 1048576 := dig_length_le (Nat.lt_of_le_of_lt (Nat.mod_le _ _) m3)
  have lxy : (dig (X * Y)).length ≤ 2097152 := dig_length_le (up (mul2 m1 m2) (by decide))
  have lzy : (dig (Z * Y)).length ≤ 2097152 := dig_length_le (up (mul2 m3 m2) (by decide))
  have lsum : (dig (X * Y + Z % Y)).length ≤ 2097153 := dig_length_le (up (add3 (mul2 m1 m2) (Nat.lt_of_le_of_lt (Nat.mod_le Z Y) (up m3 (by decide)))) (by decide))
  have lg : (dig (Nat.gcd (X * Y) (Z * Y))).length ≤ 4194304 := by
    refine dig_length_le ?_
    rcases Nat.eq_zero_or_pos (X * Y) with h | h
    · rw [h, Nat.gcd_zero_left]; exact up (mul2 m3 m2) (by decide)
    · exact Nat.lt_of_le_of_lt (Nat.gcd_le_left _ h) (up (mul2 m1 m2) (by decide))
  have HX := hide hX
  have HY := hide hY
  have HZ := hide hZ
  have htabs := Lib.tabBelow_of_tabIs htab
  clear mul2 up add3 bx by' bz m1 m2 m3 hX hY hZ
  by_cases h0 : Y = 0
  · have ec : cmpI (val ys) (val []) = 0 := by rw [HY.out, h0]; decide
    go_enter Tryd.func8, Tryd.ntmps8
    have hb := Below.refl w.heap.size w
    go_wp2_with fail
    refine (awake_any _ (htabs _ hb)).mono ?_
    rintro e w_1 ⟨rfl, hb_1⟩
    replace hx := hx.below hb_1 (Nat.le_refl _)
    replace hy := hy.below hb_1 (Nat.le_refl _)
    replace hz := hz.below hb_1 (Nat.le_refl _)
    replace hb := hb.trans (hb_1.mono hb.size)
    clear hb_1
    go_wp2_with fail
    refine (cmp_rd hy (Rd.nil _) (by omega) (by simp)).mono ?_
    rintro e w_2 ⟨rfl, hb_2⟩
    replace hx := hx.below hb_2 (Nat.le_refl _)
    replace hy := hy.below hb_2 (Nat.le_refl _)
    replace hz := hz.below hb_2 (Nat.le_refl _)
    replace hb := hb.trans (hb_2.mono hb.size)
    clear hb_2
    rw [ec]
    go_wp2
    go_ret
    exact ⟨rfl, hb⟩
  · have ec : (cmpI (val ys) (val []) == 0) = false := by rw [HY.out, beq_eq_false_iff_ne]; show cmpI Y 0 ≠ 0; unfold cmpI; rw [if_neg (by omega), if_neg h0]; decide
    have eq1 : (X * Y + Z % Y) / Y = X := by rw [Nat.mul_comm, Nat.mul_add_div (by omega), Nat.div_eq_of_lt (Nat.mod_lt _ (by omega)), Nat.add_zero]
    have er1 : (X * Y + Z % Y) % Y = Z % Y := by rw [Nat.mul_comm, Nat.mul_add_mod, Nat.mod_mod]
    have erc : cmpI (Z % Y) Y < 0 := cmpI_neg.2 (Nat.mod_lt _ (by omega))
    have eg : Nat.gcd (X * Y) (Z * Y) = Nat.gcd X Z * Y := Nat.gcd_mul_right ..
    have gd : Nat.gcd (X * Y) (Z * Y) % Y = 0 := by rw [eg]; exact Nat.mul_mod_left ..
    have gx : X * Y % Nat.gcd (X * Y) (Z * Y) = 0 := Nat.mod_eq_zero_of_dvd (Nat.gcd_dvd_left ..)
    have gz : Z * Y % Nat.gcd (X * Y) (Z * Y) = 0 := Nat.mod_eq_zero_of_dvd (Nat.gcd_dvd_right ..)
    have g0 : Nat.gcd (X * Y) (Z * Y) = 0 → X = 0 ∧ Z = 0 := fun h => by
      rw [eg] at h
      have h1 : Nat.gcd X Z = 0 := (Nat.mul_eq_zero.1 h).resolve_right h0
      exact ⟨Nat.eq_zero_of_gcd_eq_zero_left h1, Nat.eq_zero_of_gcd_eq_zero_right h1⟩
    have hyn : val ys ≠ 0 := by rw [HY.out]; exact h0
    have M := hide (And.intro eq1 (And.intro er1 (And.intro gd (And.intro gx (And.intro gz g0)))))
    clear eq1 er1 eg gd gx gz g0
    go_enter Tryd.func8, Tryd.ntmps8
    have hb := Below.refl w.heap.size w
    go_wp2_with fail
    refine (awake_any _ (htabs _ hb)).mono ?_
    rintro e w_1 ⟨rfl, hb_1⟩
    replace hx := hx.below hb_1 (Nat.le_refl _)
    replace hy := hy.below hb_1 (Nat.le_refl _)
    replace hz := hz.below hb_1 (Nat.le_refl _)
    replace hb := hb.trans (hb_1.mono hb.size)
    clear hb_1
    go_wp2_with fail
    refine (cmp_rd hy (Rd.nil _) (by omega) (by simp)).mono ?_
    rintro e w_2 ⟨rfl, hb_2⟩
    replace hx := hx.below hb_2 (Nat.le_refl _)
    replace hy := hy.below hb_2 (Nat.le_refl _)
    replace hz := hz.below hb_2 (Nat.le_refl _)
    replace hb := hb.trans (hb_2.mono hb.size)
    clear hb_2
    go_wp2_with fail
    refine (divMod_pos hz hy hyn (by omega) (by omega)).mono ?_
    rintro e w_3 ⟨vq0, vr, rfl, _, hr, _, hb_3⟩
    replace hx := hx.below hb_3 (Nat.le_refl _)
    replace hy := hy.below hb_3 (Nat.le_refl _)
    replace hz := hz.below hb_3 (Nat.le_refl _)
    replace hb := hb.trans (hb_3.mono hb.size)
    clear hb_3
    rw [HZ.out, HY.out] at hr
    replace hr := hr.rd
    go_wp2_with fail
    refine (mul_rd hx hy (by omega) (by omega)).mono ?_
    rintro e w_4 ⟨v1, rfl, h1, hb_4⟩
    replace hx := hx.below hb_4 (Nat.le_refl _)
    replace hy := hy.below hb_4 (Nat.le_refl _)
    replace hz := hz.below hb_4 (Nat.le_refl _)
    replace hr := hr.below hb_4 (Nat.le_refl _)
    replace hb := hb.trans (hb_4.mono hb.size)
    clear hb_4
    rw [HX.out, HY.out] at h1
    replace h1 := h1.rd
    go_wp2_with fail
    refine (add_rd h1 hr (by omega) (by omega)).mono ?_
    rintro e w_5 ⟨v2, rfl, h2, hb_5⟩
    replace hx := hx.below hb_5 (Nat.le_refl _)
    replace hy := hy.below hb_5 (Nat.le_refl _)
    replace hz := hz.below hb_5 (Nat.le_refl _)
    replace hr := hr.below hb_5 (Nat.le_refl _)
    replace h1 := h1.below hb_5 (Nat.le_refl _)
    replace hb := hb.trans (hb_5.mono hb.size)
    clear hb_5
    rw [val_dig, val_dig] at h2
    replace h2 := h2.rd
    clear h1
    go_wp2_with fail
    refine (divMod_pos h2 hy hyn (by omega) (by omega)).mono ?_
    rintro e w_6 ⟨vq, vs, rfl, hq, hs, _, hb_6⟩
    replace hx := hx.below hb_6 (Nat.le_refl _)
    replace hy := hy.below hb_6 (Nat.le_refl _)
    replace hz := hz.below hb_6 (Nat.le_refl _)
    replace hr := hr.below hb_6 (Nat.le_refl _)
    replace h2 := h2.below hb_6 (Nat.le_refl _)
    replace hb := hb.trans (hb_6.mono hb.size)
    clear hb_6
    rw [val_dig, HY.out] at hq hs
    rw [M.out.1] at hq
    rw [M.out.2.1] at hs
    replace hq := hq.rd
    replace hs := hs.rd
    clear h2
    go_wp2_with fail
    refine (cmp_rd hr hy (by omega) (by omega)).mono ?_
    rintro e w_7 ⟨rfl, hb_7⟩
    replace hx := hx.below hb_7 (Nat.le_refl _)
    replace hy := hy.below hb_7 (Nat.le_refl _)
    replace hz := hz.below hb_7 (Nat.le_refl _)
    replace hr := hr.below hb_7 (Nat.le_refl _)
    replace hq := hq.below hb_7 (Nat.le_refl _)
    replace hs := hs.below hb_7 (Nat.le_refl _)
    replace hb := hb.trans (hb_7.mono hb.size)
    clear hb_7
    rw [val_dig, HY.out]
    generalize cmpI (Z % Y) Y = cc at *
    have hcc : ¬ (0 ≤ cc) := by omega
    go_wp2_with fail
    refine (is_any _ _ _ _ _ (by omega) (by omega) hq hx).mono ?_
    rintro e w_8 ⟨rfl, hb_8⟩
    replace hx := hx.below hb_8 (Nat.le_refl _)
    replace hy := hy.below hb_8 (Nat.le_refl _)
    replace hz := hz.below hb_8 (Nat.le_refl _)
    replace hr := hr.below hb_8 (Nat.le_refl _)
    replace hq := hq.below hb_8 (Nat.le_refl _)
    replace hs := hs.below hb_8 (Nat.le_refl _)
    replace hb := hb.trans (hb_8.mono hb.size)
    clear hb_8
    have e1 : decide (dig X = strip xs) = true := by rw [← dx]; simp
    rw [e1]
    clear e1
    go_wp2_with fail
    refine (is_any _ _ _ _ _ (by omega) (by omega) hs hr).mono ?_
    rintro e w_9 ⟨rfl, hb_9⟩
    replace hx := hx.below hb_9 (Nat.le_refl _)
    replace hy := hy.below hb_9 (Nat.le_refl _)
    replace hz := hz.below hb_9 (Nat.le_refl _)
    replace hr := hr.below hb_9 (Nat.le_refl _)
    replace hq := hq.below hb_9 (Nat.le_refl _)
    replace hs := hs.below hb_9 (Nat.le_refl _)
    replace hb := hb.trans (hb_9.mono hb.size)
    clear hb_9
    have e2 : decide (dig (Z % Y) = strip (dig (Z % Y))) = true := by rw [strip_dig]; simp
    rw [e2]
    clear e2
    go_wp2_with fail
    refine (mul_rd hx hy (by omega) (by omega)).mono ?_
    rintro e w_10 ⟨v3, rfl, h3, hb_10⟩
    replace hx := hx.below hb_10 (Nat.le_refl _)
    replace hy := hy.below hb_10 (Nat.le_refl _)
    replace hz := hz.below hb_10 (Nat.le_refl _)
    replace hr := hr.below hb_10 (Nat.le_refl _)
    replace hq := hq.below hb_10 (Nat.le_refl _)
    replace hs := hs.below hb_10 (Nat.le_refl _)
    replace hb := hb.trans (hb_10.mono hb.size)
    clear hb_10
    rw [HX.out, HY.out] at h3
    replace h3 := h3.rd
    go_wp2_with fail
    refine (mul_rd hz hy (by omega) (by omega)).mono ?_
    rintro e w_11 ⟨v4, rfl, h4, hb_11⟩
    replace hx := hx.below hb_11 (Nat.le_refl _)
    replace hy := hy.below hb_11 (Nat.le_refl _)
    replace hz := hz.below hb_11 (Nat.le_refl _)
    replace hr := hr.below hb_11 (Nat.le_refl _)
    replace hq := hq.below hb_11 (Nat.le_refl _)
    replace hs := hs.below hb_11 (Nat.le_refl _)
    replace h3 := h3.below hb_11 (Nat.le_refl _)
    replace hb := hb.trans (hb_11.mono hb.size)
    clear hb_11
    rw [HZ.out, HY.out] at h4
    replace h4 := h4.rd
    go_wp2_with fail
    refine (gcd_rd h3 h4 (by omega) (by omega)).mono ?_
    rintro e w_12 ⟨vg, rfl, hg, hb_12⟩
    replace hx := hx.below hb_12 (Nat.le_refl _)
    replace hy := hy.below hb_12 (Nat.le_refl _)
    replace hz := hz.below hb_12 (Nat.le_refl _)
    replace hr := hr.below hb_12 (Nat.le_refl _)
    replace hq := hq.below hb_12 (Nat.le_refl _)
    replace hs := hs.below hb_12 (Nat.le_refl _)
    replace h3 := h3.below hb_12 (Nat.le_refl _)
    replace h4 := h4.below hb_12 (Nat.le_refl _)
    replace hb := hb.trans (hb_12.mono hb.size)
    clear hb_12
    rw [val_dig, val_dig] at hg
    replace hg := hg.rd
    clear h3
    clear h4
    go_wp2_with fail
    refine (divMod_pos hg hy hyn (by omega) (by omega)).mono ?_
    rintro e w_13 ⟨vq2, vu, rfl, _, hu, _, hb_13⟩
    replace hx := hx.below hb_13 (Nat.le_refl _)
    replace hy := hy.below hb_13 (Nat.le_refl _)
    replace hz := hz.below hb_13 (Nat.le_refl _)
    replace hr := hr.below hb_13 (Nat.le_refl _)
    replace hq := hq.below hb_13 (Nat.le_refl _)
    replace hs := hs.below hb_13 (Nat.le_refl _)
    replace hg := hg.below hb_13 (Nat.le_refl _)
    replace hb := hb.trans (hb_13.mono hb.size)
    clear hb_13
    rw [val_dig, HY.out, M.out.2.2.1] at hu
    replace hu := hu.rd
    go_wp2_with fail
    refine (cmp_rd hg (Rd.nil _) (by omega) (by simp)).mono ?_
    rintro e w_14 ⟨rfl, hb_14⟩
    replace hx := hx.below hb_14 (Nat.le_refl _)
    replace hy := hy.below hb_14 (Nat.le_refl _)
    replace hz := hz.below hb_14 (Nat.le_refl _)
    replace hr := hr.below hb_14 (Nat.le_refl _)
    replace hq := hq.below hb_14 (Nat.le_refl _)
    replace hs := hs.below hb_14 (Nat.le_refl _)
    replace hg := hg.below hb_14 (Nat.le_refl _)
    replace hu := hu.below hb_14 (Nat.le_refl _)
    replace hb := hb.trans (hb_14.mono hb.size)
    clear hb_14
    rw [val_dig]
    generalize hG : Nat.gcd (X * Y) (Z * Y) = G at *
    have HG := hide hG
    clear hG
    by_cases hG0 : G = 0
    · have e0 : cmpI G (val []) = 0 := by rw [hG0]; decide
      rw [e0]
      have hxz := M.out.2.2.2.2.2 hG0
      have sx : strip xs = [] := by rw [← dx, hxz.1]; rfl
      have sz : strip zs = [] := by rw [← dz, hxz.2]; rfl
      clear e0
      go_wp2_with fail
      refine (rtrim_rd hx (by omega)).mono ?_
      rintro e w_15 ⟨v5, rfl, h5, hb_15⟩
      replace hx := hx.below hb_15 (Nat.le_refl _)
      replace hy := hy.below hb_15 (Nat.le_refl _)
      replace hz := hz.below hb_15 (Nat.le_refl _)
      replace hr := hr.below hb_15 (Nat.le_refl _)
      replace hq := hq.below hb_15 (Nat.le_refl _)
      replace hs := hs.below hb_15 (Nat.le_refl _)
      replace hg := hg.below hb_15 (Nat.le_refl _)
      replace hu := hu.below hb_15 (Nat.le_refl _)
      replace hb := hb.trans (hb_15.mono hb.size)
      clear hb_15
      rw [sx] at h5
      obtain ⟨o5, c5, rfl, _, _, _⟩ := h5
      go_wp2_with fail
      refine (rtrim_rd hz (by omega)).mono ?_
      rintro e w_16 ⟨v6, rfl, h6, hb_16⟩
      replace hx := hx.below hb_16 (Nat.le_refl _)
      replace hy := hy.below hb_16 (Nat.le_refl _)
      replace hz := hz.below hb_16 (Nat.le_refl _)
      replace hr := hr.below hb_16 (Nat.le_refl _)
      replace hq := hq.below hb_16 (Nat.le_refl _)
      replace hs := hs.below hb_16 (Nat.le_refl _)
      replace hg := hg.below hb_16 (Nat.le_refl _)
      replace hu := hu.below hb_16 (Nat.le_refl _)
      replace hb := hb.trans (hb_16.mono hb.size)
      clear hb_16
      rw [sz] at h6
      obtain ⟨o6, c6, rfl, _, _, _⟩ := h6
      go_wp2
      go_ret
      exact ⟨rfl, hb⟩
    · have e0 : (cmpI G (val []) == 0) = false := by rw [beq_eq_false_iff_ne]; show cmpI G 0 ≠ 0; unfold cmpI; rw [if_neg (by omega), if_neg hG0]; decide
      generalize cmpI G (val []) = cg at *
      have hgn : val (dig G) ≠ 0 := by rw [val_dig]; exact hG0
      go_wp2_with fail
      refine (mul_rd hx hy (by omega) (by omega)).mono ?_
      rintro e w_17 ⟨v7, rfl, h7, hb_17⟩
      replace hx := hx.below hb_17 (Nat.le_refl _)
      replace hy := hy.below hb_17 (Nat.le_refl _)
      replace hz := hz.below hb_17 (Nat.le_refl _)
      replace hr := hr.below hb_17 (Nat.le_refl _)
      replace hq := hq.below hb_17 (Nat.le_refl _)
      replace hs := hs.below hb_17 (Nat.le_refl _)
      replace hg := hg.below hb_17 (Nat.le_refl _)
      replace hu := hu.below hb_17 (Nat.le_refl _)
      replace hb := hb.trans (hb_17.mono hb.size)
      clear hb_17
      rw [HX.out, HY.out] at h7
      replace h7 := h7.rd
      go_wp2_with fail
      refine (divMod_pos h7 hg hgn (by omega) (by omega)).mono ?_
      rintro e w_18 ⟨vq3, vv, rfl, _, hv, _, hb_18⟩
      replace hx := hx.below hb_18 (Nat.le_refl _)
      replace hy := hy.below hb_18 (Nat.le_refl _)
      replace hz := hz.below hb_18 (Nat.le_refl _)
      replace hr := hr.below hb_18 (Nat.le_refl _)
      replace hq := hq.below hb_18 (Nat.le_refl _)
      replace hs := hs.below hb_18 (Nat.le_refl _)
      replace hg := hg.below hb_18 (Nat.le_refl _)
      replace hu := hu.below hb_18 (Nat.le_refl _)
      replace h7 := h7.below hb_18 (Nat.le_refl _)
      replace hb := hb.trans (hb_18.mono hb.size)
      clear hb_18
      rw [val_dig, val_dig, M.out.2.2.2.1] at hv
      replace hv := hv.rd
      go_wp2_with fail
      refine (mul_rd hz hy (by omega) (by omega)).mono ?_
      rintro e w_19 ⟨v8, rfl, h8, hb_19⟩
      replace hx := hx.below hb_19 (Nat.le_refl _)
      replace hy := hy.below hb_19 (Nat.le_refl _)
      replace hz := hz.below hb_19 (Nat.le_refl _)
      replace hr := hr.below hb_19 (Nat.le_refl _)
      replace hq := hq.below hb_19 (Nat.le_refl _)
      replace hs := hs.below hb_19 (Nat.le_refl _)
      replace hg := hg.below hb_19 (Nat.le_refl _)
      replace hu := hu.below hb_19 (Nat.le_refl _)
      replace h7 := h7.below hb_19 (Nat.le_refl _)
      replace hv := hv.below hb_19 (Nat.le_refl _)
      replace hb := hb.trans (hb_19.mono hb.size)
      clear hb_19
      rw [HZ.out, HY.out] at h8
      replace h8 := h8.rd
      go_wp2_with fail
      refine (divMod_pos h8 hg hgn (by omega) (by omega)).mono ?_
      rintro e w_20 ⟨vq4, vw, rfl, _, hw, _, hb_20⟩
      replace hx := hx.below hb_20 (Nat.le_refl _)
      replace hy := hy.below hb_20 (Nat.le_refl _)
      replace hz := hz.below hb_20 (Nat.le_refl _)
      replace hr := hr.below hb_20 (Nat.le_refl _)
      replace hq := hq.below hb_20 (Nat.le_refl _)
      replace hs := hs.below hb_20 (Nat.le_refl _)
      replace hg := hg.below hb_20 (Nat.le_refl _)
      replace hu := hu.below hb_20 (Nat.le_refl _)
      replace h7 := h7.below hb_20 (Nat.le_refl _)
      replace hv := hv.below hb_20 (Nat.le_refl _)
      replace h8 := h8.below hb_20 (Nat.le_refl _)
      replace hb := hb.trans (hb_20.mono hb.size)
      clear hb_20
      rw [val_dig, val_dig, M.out.2.2.2.2.1] at hw
      replace hw := hw.rd
      obtain ⟨o1, c1, rfl, _, _, _⟩ := hu
      obtain ⟨o2, c2, rfl, _, _, _⟩ := hv
      obtain ⟨o3, c3, rfl, _, _, _⟩ := hw
      go_wp2
      go_ret
      exact ⟨rfl, hb⟩
end Go.Proofs.YtdjfgpfeepbnaaaDoor
