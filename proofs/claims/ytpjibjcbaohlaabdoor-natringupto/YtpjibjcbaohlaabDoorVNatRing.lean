/- The law NatRing returns true for every three slices of at most 2^20 digits together, and writes nothing that was there. -/
import Derived.Test.YtpjibjcbaohlaabDoorR2
namespace Go.Proofs.YtpjibjcbaohlaabDoor
open Go.RowKit Dig

theorem same_rd {w : World} {va vb : Value} {xs ys : List Nat} (hx : Rd w va xs) (hy : Rd w vb ys) (hxl : xs.length ≤ 100000000000) (hyl : ys.length ≤ 100000000000) :
    Calls Tryd.prog 31 #[va, vb] w fun e w' => e = .returned (.bool (decide (xs = ys))) ∧ Below w.heap.size w w' := by
  obtain ⟨oa, ca, rfl, hca, okx, hcx⟩ := hx
  obtain ⟨ob, cb, rfl, hcb, oky, hcy⟩ := hy
  exact same_any oa ob ca cb xs ys w (by omega) (by omega) hcx hcy
theorem dig_lt_length {n k : Nat} (h : n < pw k) : (dig n).length ≤ k := dig_length_le h

set_option maxHeartbeats 2000000 in
theorem walk_NatRing (w : World) (va : Value) (xs : List Nat) (hx : Rd w va xs) (hxl : xs.length ≤ 1048576) (vb : Value) (ys : List Nat) (hy : Rd w vb ys) (hyl : ys.length ≤ 1048576) (vc : Value) (zs : List Nat) (hz : Rd w vc zs) (hzl : zs.length ≤ 1048576) (htab : Lib.TabIs Tryd.prog w p10 .u64 Lib.pow10Tab) :
    Calls Tryd.prog 7 #[va, vb, vc] w fun e w' => e = .returned (.bool true) ∧ Below w.heap.size w w' := by
  have htabs := Lib.tabBelow_of_tabIs htab
  have ox := hx.ok
  have bx := val_lt hx.ok
  have by' := val_lt hy.ok
  have bz := val_lt hz.ok
  have m1 : val xs < pw 1048576 := Nat.lt_of_lt_of_le bx (pw_mono hxl)
  have m2 : val ys < pw 1048576 := Nat.lt_of_lt_of_le by' (pw_mono hyl)
  have m3 : val zs < pw 1048576 := Nat.lt_of_lt_of_le bz (pw_mono hzl)
  have dx := dig_val hx.ok
  have slx := strip_length_le xs
  generalize hX : val xs = X at *
  generalize hY : val ys = Y at *
  generalize hZ : val zs = Z at *
  have mul2 : ∀ {p q a b : Nat}, p < pw a → q < pw b → p * q < pw (a + b) := fun {p q a b} h k => by
    rw [pw_add]; exact Nat.mul_lt_mul_of_lt_of_le h (Nat.le_of_lt k) (pw_pos _)
  have up : ∀ {p a b : Nat}, p < pw a → a ≤ b → p < pw b := fun {p a b} h k => Nat.lt_of_lt_of_le h (pw_mono k)
  have add3 : ∀ {p q a : Nat}, p < pw a → q < pw a → p + q < pw (a + 1) := fun {p q a} h k => by simp only [pw]; omega
  have a2 : ∀ {p q : Nat}, p < pw 1048576 → q < pw 1048576 → p + q < pw 2097152 := fun {p q} h k => up (add3 h k) (by decide)
  have l1 : (dig (X + Y)).length ≤ 2097152 := dig_length_le (a2 m1 m2)
  have l2 : (dig (Y + X)).length ≤ 2097152 := dig_length_le (a2 m2 m1)
  have l3 : (dig (X + Y - Y)).length ≤ 2097152 := dig_length_le (Nat.lt_of_le_of_lt (Nat.sub_le _ _) (a2 m1 m2))
  have l4 : (dig ((X + Y) * Z)).length ≤ 4194304 := dig_length_le (up (mul2 (a2 m1 m2) m3) (by decide))
  have l5 : (dig (X * Z)).length ≤ 4194304 := dig_length_le (up (mul2 m1 m3) (by decide))
  have l6 : (dig (Y * Z)).length ≤ 4194304 := dig_length_le (up (mul2 m2 m3) (by decide))
  have l7 : (dig (X * Z + Y * Z)).length ≤ 4194304 := dig_length_le (up (add3 (mul2 m1 m3) (mul2 m2 m3)) (by decide))
  have l8 : (dig (X * Y)).length ≤ 4194304 := dig_length_le (up (mul2 m1 m2) (by decide))
  have l9 : (dig (X * Y * Z)).length ≤ 4194304 := dig_length_le (up (mul2 (mul2 m1 m2) m3) (by decide))
  have l10 : (dig (X * (Y * Z))).length ≤ 4194304 := dig_length_le (up (mul2 m1 (mul2 m2 m3)) (by decide))
  have l11 : (dig (Y + Z)).length ≤ 4194304 := dig_length_le (up (add3 m2 m3) (by decide))
  have l12 : (dig (X + Y + Z)).length ≤ 4194304 := dig_length_le (up (add3 (a2 m1 m2) (up m3 (by decide))) (by decide))
  have l13 : (dig (X + (Y + Z))).length ≤ 4194304 := dig_length_le (up (add3 (up m1 (by decide)) (add3 m2 m3)) (by decide))
  have HX := hide hX
  have HY := hide hY
  have HZ := hide hZ
  clear hX hY hZ a2 mul2 up add3 bx by' bz m1 m2 m3
  go_enter Tryd.func7, Tryd.ntmps7
  have hb := Below.refl w.heap.size w
  go_wp2_with fail
  refine (add_rd hx hy (by omega) (by omega)).mono ?_
  rintro e w_1 ⟨vab, rfl, hab, hb_1⟩
  replace hx := hx.below hb_1 (Nat.le_refl _)
  replace hy := hy.below hb_1 (Nat.le_refl _)
  replace hz := hz.below hb_1 (Nat.le_refl _)
  replace hb := hb.trans (hb_1.mono hb.size)
  clear hb_1
  rw [HX.out, HY.out] at hab
  replace hab := hab.rd
  go_wp2_with fail
  refine (sub_rd hab hy (by omega) (by omega)).mono ?_
  rintro e w_2 ⟨vd, rfl, hd, hb_2⟩
  replace hx := hx.below hb_2 (Nat.le_refl _)
  replace hy := hy.below hb_2 (Nat.le_refl _)
  replace hz := hz.below hb_2 (Nat.le_refl _)
  replace hab := hab.below hb_2 (Nat.le_refl _)
  replace hb := hb.trans (hb_2.mono hb.size)
  clear hb_2
  rw [val_dig, HY.out, if_neg (by omega)] at hd
  replace hd := hd.rd
  have es : subI (val (dig (X + Y))) (val ys) = 0 := by unfold subI; rw [val_dig, HY.out, if_neg (by omega)]
  rw [es]
  clear es
  go_wp2_with fail
  refine (add_rd hx hy (by omega) (by omega)).mono ?_
  rintro e w_3 ⟨v1, rfl, h1, hb_3⟩
  replace hx := hx.below hb_3 (Nat.le_refl _)
  replace hy := hy.below hb_3 (Nat.le_refl _)
  replace hz := hz.below hb_3 (Nat.le_refl _)
  replace hab := hab.below hb_3 (Nat.le_refl _)
  replace hd := hd.below hb_3 (Nat.le_refl _)
  replace hb := hb.trans (hb_3.mono hb.size)
  clear hb_3
  rw [HX.out, HY.out] at h1
  replace h1 := h1.rd
  go_wp2_with fail
  refine (mul_rd h1 hz (by omega) (by omega)).mono ?_
  rintro e w_4 ⟨vl, rfl, hl, hb_4⟩
  replace hx := hx.below hb_4 (Nat.le_refl _)
  replace hy := hy.below hb_4 (Nat.le_refl _)
  replace hz := hz.below hb_4 (Nat.le_refl _)
  replace hab := hab.below hb_4 (Nat.le_refl _)
  replace hd := hd.below hb_4 (Nat.le_refl _)
  replace h1 := h1.below hb_4 (Nat.le_refl _)
  replace hb := hb.trans (hb_4.mono hb.size)
  clear hb_4
  rw [val_dig, HZ.out] at hl
  replace hl := hl.rd
  clear h1
  go_wp2_with fail
  refine (mul_rd hx hz (by omega) (by omega)).mono ?_
  rintro e w_5 ⟨v2, rfl, h2, hb_5⟩
  replace hx := hx.below hb_5 (Nat.le_refl _)
  replace hy := hy.below hb_5 (Nat.le_refl _)
  replace hz := hz.below hb_5 (Nat.le_refl _)
  replace hab := hab.below hb_5 (Nat.le_refl _)
  replace hd := hd.below hb_5 (Nat.le_refl _)
  replace hl := hl.below hb_5 (Nat.le_refl _)
  replace hb := hb.trans (hb_5.mono hb.size)
  clear hb_5
  rw [HX.out, HZ.out] at h2
  replace h2 := h2.rd
  go_wp2_with fail
  refine (mul_rd hy hz (by omega) (by omega)).mono ?_
  rintro e w_6 ⟨v3, rfl, h3, hb_6⟩
  replace hx := hx.below hb_6 (Nat.le_refl _)
  replace hy := hy.below hb_6 (Nat.le_refl _)
  replace hz := hz.below hb_6 (Nat.le_refl _)
  replace hab := hab.below hb_6 (Nat.le_refl _)
  replace hd := hd.below hb_6 (Nat.le_refl _)
  replace hl := hl.below hb_6 (Nat.le_refl _)
  replace h2 := h2.below hb_6 (Nat.le_refl _)
  replace hb := hb.trans (hb_6.mono hb.size)
  clear hb_6
  rw [HY.out, HZ.out] at h3
  replace h3 := h3.rd
  go_wp2_with fail
  refine (add_rd h2 h3 (by omega) (by omega)).mono ?_
  rintro e w_7 ⟨vr, rfl, hr, hb_7⟩
  replace hx := hx.below hb_7 (Nat.le_refl _)
  replace hy := hy.below hb_7 (Nat.le_refl _)
  replace hz := hz.below hb_7 (Nat.le_refl _)
  replace hab := hab.below hb_7 (Nat.le_refl _)
  replace hd := hd.below hb_7 (Nat.le_refl _)
  replace hl := hl.below hb_7 (Nat.le_refl _)
  replace h2 := h2.below hb_7 (Nat.le_refl _)
  replace h3 := h3.below hb_7 (Nat.le_refl _)
  replace hb := hb.trans (hb_7.mono hb.size)
  clear hb_7
  rw [val_dig, val_dig] at hr
  replace hr := hr.rd
  clear h2
  clear h3
  go_wp2_with fail
  refine (mul_rd hx hy (by omega) (by omega)).mono ?_
  rintro e w_8 ⟨v4, rfl, h4, hb_8⟩
  replace hx := hx.below hb_8 (Nat.le_refl _)
  replace hy := hy.below hb_8 (Nat.le_refl _)
  replace hz := hz.below hb_8 (Nat.le_refl _)
  replace hab := hab.below hb_8 (Nat.le_refl _)
  replace hd := hd.below hb_8 (Nat.le_refl _)
  replace hl := hl.below hb_8 (Nat.le_refl _)
  replace hr := hr.below hb_8 (Nat.le_refl _)
  replace hb := hb.trans (hb_8.mono hb.size)
  clear hb_8
  rw [HX.out, HY.out] at h4
  replace h4 := h4.rd
  go_wp2_with fail
  refine (mul_rd h4 hz (by omega) (by omega)).mono ?_
  rintro e w_9 ⟨vx, rfl, hxx, hb_9⟩
  replace hx := hx.below hb_9 (Nat.le_refl _)
  replace hy := hy.below hb_9 (Nat.le_refl _)
  replace hz := hz.below hb_9 (Nat.le_refl _)
  replace hab := hab.below hb_9 (Nat.le_refl _)
  replace hd := hd.below hb_9 (Nat.le_refl _)
  replace hl := hl.below hb_9 (Nat.le_refl _)
  replace hr := hr.below hb_9 (Nat.le_refl _)
  replace h4 := h4.below hb_9 (Nat.le_refl _)
  replace hb := hb.trans (hb_9.mono hb.size)
  clear hb_9
  rw [val_dig, HZ.out] at hxx
  replace hxx := hxx.rd
  clear h4
  go_wp2_with fail
  refine (mul_rd hy hz (by omega) (by omega)).mono ?_
  rintro e w_10 ⟨v5, rfl, h5, hb_10⟩
  replace hx := hx.below hb_10 (Nat.le_refl _)
  replace hy := hy.below hb_10 (Nat.le_refl _)
  replace hz := hz.below hb_10 (Nat.le_refl _)
  replace hab := hab.below hb_10 (Nat.le_refl _)
  replace hd := hd.below hb_10 (Nat.le_refl _)
  replace hl := hl.below hb_10 (Nat.le_refl _)
  replace hr := hr.below hb_10 (Nat.le_refl _)
  replace hxx := hxx.below hb_10 (Nat.le_refl _)
  replace hb := hb.trans (hb_10.mono hb.size)
  clear hb_10
  rw [HY.out, HZ.out] at h5
  replace h5 := h5.rd
  go_wp2_with fail
  refine (mul_rd hx h5 (by omega) (by omega)).mono ?_
  rintro e w_11 ⟨vy, rfl, hyy, hb_11⟩
  replace hx := hx.below hb_11 (Nat.le_refl _)
  replace hy := hy.below hb_11 (Nat.le_refl _)
  replace hz := hz.below hb_11 (Nat.le_refl _)
  replace hab := hab.below hb_11 (Nat.le_refl _)
  replace hd := hd.below hb_11 (Nat.le_refl _)
  replace hl := hl.below hb_11 (Nat.le_refl _)
  replace hr := hr.below hb_11 (Nat.le_refl _)
  replace hxx := hxx.below hb_11 (Nat.le_refl _)
  replace h5 := h5.below hb_11 (Nat.le_refl _)
  replace hb := hb.trans (hb_11.mono hb.size)
  clear hb_11
  rw [val_dig, HX.out] at hyy
  replace hyy := hyy.rd
  clear h5
  go_wp2_with fail
  refine (awake_any _ (htabs _ hb)).mono ?_
  rintro e w_12 ⟨rfl, hb_12⟩
  replace hx := hx.below hb_12 (Nat.le_refl _)
  replace hy := hy.below hb_12 (Nat.le_refl _)
  replace hz := hz.below hb_12 (Nat.le_refl _)
  replace hab := hab.below hb_12 (Nat.le_refl _)
  replace hd := hd.below hb_12 (Nat.le_refl _)
  replace hl := hl.below hb_12 (Nat.le_refl _)
  replace hr := hr.below hb_12 (Nat.le_refl _)
  replace hxx := hxx.below hb_12 (Nat.le_refl _)
  replace hyy := hyy.below hb_12 (Nat.le_refl _)
  replace hb := hb.trans (hb_12.mono hb.size)
  clear hb_12
  go_wp2_with fail
  refine (add_rd hy hx (by omega) (by omega)).mono ?_
  rintro e w_13 ⟨v6, rfl, h6, hb_13⟩
  replace hx := hx.below hb_13 (Nat.le_refl _)
  replace hy := hy.below hb_13 (Nat.le_refl _)
  replace hz := hz.below hb_13 (Nat.le_refl _)
  replace hab := hab.below hb_13 (Nat.le_refl _)
  replace hd := hd.below hb_13 (Nat.le_refl _)
  replace hl := hl.below hb_13 (Nat.le_refl _)
  replace hr := hr.below hb_13 (Nat.le_refl _)
  replace hxx := hxx.below hb_13 (Nat.le_refl _)
  replace hyy := hyy.below hb_13 (Nat.le_refl _)
  replace hb := hb.trans (hb_13.mono hb.size)
  clear hb_13
  rw [HX.out, HY.out] at h6
  replace h6 := h6.rd
  go_wp2_with fail
  refine (cmp_rd hab h6 (by omega) (by omega)).mono ?_
  rintro e w_14 ⟨rfl, hb_14⟩
  replace hx := hx.below hb_14 (Nat.le_refl _)
  replace hy := hy.below hb_14 (Nat.le_refl _)
  replace hz := hz.below hb_14 (Nat.le_refl _)
  replace hab := hab.below hb_14 (Nat.le_refl _)
  replace hd := hd.below hb_14 (Nat.le_refl _)
  replace hl := hl.below hb_14 (Nat.le_refl _)
  replace hr := hr.below hb_14 (Nat.le_refl _)
  replace hxx := hxx.below hb_14 (Nat.le_refl _)
  replace hyy := hyy.below hb_14 (Nat.le_refl _)
  replace h6 := h6.below hb_14 (Nat.le_refl _)
  replace hb := hb.trans (hb_14.mono hb.size)
  clear hb_14
  clear h6
  clear hab
  have ec : cmpI (val (dig (X + Y))) (val (dig (Y + X))) = 0 := by rw [val_dig, val_dig]; unfold cmpI; rw [if_neg (by omega), if_pos (by omega)]
  rw [ec]
  clear ec
  go_wp2_with fail
  refine (is_any _ _ _ _ _ (by omega) (by omega) hd hx).mono ?_
  rintro e w_15 ⟨rfl, hb_15⟩
  replace hx := hx.below hb_15 (Nat.le_refl _)
  replace hy := hy.below hb_15 (Nat.le_refl _)
  replace hz := hz.below hb_15 (Nat.le_refl _)
  replace hd := hd.below hb_15 (Nat.le_refl _)
  replace hl := hl.below hb_15 (Nat.le_refl _)
  replace hr := hr.below hb_15 (Nat.le_refl _)
  replace hxx := hxx.below hb_15 (Nat.le_refl _)
  replace hyy := hyy.below hb_15 (Nat.le_refl _)
  replace hb := hb.trans (hb_15.mono hb.size)
  clear hb_15
  clear hd
  have e1 : decide (dig (X + Y - Y) = strip xs) = true := by rw [Nat.add_sub_cancel, ← dx]; simp
  rw [e1]
  clear e1
  go_wp2_with fail
  refine (same_rd hl hr (by omega) (by omega)).mono ?_
  rintro e w_16 ⟨rfl, hb_16⟩
  replace hx := hx.below hb_16 (Nat.le_refl _)
  replace hy := hy.below hb_16 (Nat.le_refl _)
  replace hz := hz.below hb_16 (Nat.le_refl _)
  replace hl := hl.below hb_16 (Nat.le_refl _)
  replace hr := hr.below hb_16 (Nat.le_refl _)
  replace hxx := hxx.below hb_16 (Nat.le_refl _)
  replace hyy := hyy.below hb_16 (Nat.le_refl _)
  replace hb := hb.trans (hb_16.mono hb.size)
  clear hb_16
  clear hl
  clear hr
  have e2 : decide (dig ((X + Y) * Z) = dig (X * Z + Y * Z)) = true := by rw [Nat.add_mul]; simp
  rw [e2]
  clear e2
  go_wp2_with fail
  refine (same_rd hxx hyy (by omega) (by omega)).mono ?_
  rintro e w_17 ⟨rfl, hb_17⟩
  replace hx := hx.below hb_17 (Nat.le_refl _)
  replace hy := hy.below hb_17 (Nat.le_refl _)
  replace hz := hz.below hb_17 (Nat.le_refl _)
  replace hxx := hxx.below hb_17 (Nat.le_refl _)
  replace hyy := hyy.below hb_17 (Nat.le_refl _)
  replace hb := hb.trans (hb_17.mono hb.size)
  clear hb_17
  clear hxx
  clear hyy
  have e3 : decide (dig (X * Y * Z) = dig (X * (Y * Z))) = true := by rw [Nat.mul_assoc]; simp
  rw [e3]
  clear e3
  go_wp2_with fail
  refine (add_rd hx hy (by omega) (by omega)).mono ?_
  rintro e w_18 ⟨v7, rfl, h7, hb_18⟩
  replace hx := hx.below hb_18 (Nat.le_refl _)
  replace hy := hy.below hb_18 (Nat.le_refl _)
  replace hz := hz.below hb_18 (Nat.le_refl _)
  replace hb := hb.trans (hb_18.mono hb.size)
  clear hb_18
  rw [HX.out, HY.out] at h7
  replace h7 := h7.rd
  go_wp2_with fail
  refine (add_rd h7 hz (by omega) (by omega)).mono ?_
  rintro e w_19 ⟨v8, rfl, h8, hb_19⟩
  replace hx := hx.below hb_19 (Nat.le_refl _)
  replace hy := hy.below hb_19 (Nat.le_refl _)
  replace hz := hz.below hb_19 (Nat.le_refl _)
  replace h7 := h7.below hb_19 (Nat.le_refl _)
  replace hb := hb.trans (hb_19.mono hb.size)
  clear hb_19
  rw [val_dig, HZ.out] at h8
  replace h8 := h8.rd
  clear h7
  go_wp2_with fail
  refine (add_rd hy hz (by omega) (by omega)).mono ?_
  rintro e w_20 ⟨v9, rfl, h9, hb_20⟩
  replace hx := hx.below hb_20 (Nat.le_refl _)
  replace hy := hy.below hb_20 (Nat.le_refl _)
  replace hz := hz.below hb_20 (Nat.le_refl _)
  replace h8 := h8.below hb_20 (Nat.le_refl _)
  replace hb := hb.trans (hb_20.mono hb.size)
  clear hb_20
  rw [HY.out, HZ.out] at h9
  replace h9 := h9.rd
  go_wp2_with fail
  refine (add_rd hx h9 (by omega) (by omega)).mono ?_
  rintro e w_21 ⟨v10, rfl, h10, hb_21⟩
  replace hx := hx.below hb_21 (Nat.le_refl _)
  replace hy := hy.below hb_21 (Nat.le_refl _)
  replace hz := hz.below hb_21 (Nat.le_refl _)
  replace h8 := h8.below hb_21 (Nat.le_refl _)
  replace h9 := h9.below hb_21 (Nat.le_refl _)
  replace hb := hb.trans (hb_21.mono hb.size)
  clear hb_21
  rw [val_dig, HX.out] at h10
  replace h10 := h10.rd
  clear h9
  go_wp2_with fail
  refine (is_any _ _ _ _ _ (by omega) (by omega) h8 h10).mono ?_
  rintro e w_22 ⟨rfl, hb_22⟩
  replace hx := hx.below hb_22 (Nat.le_refl _)
  replace hy := hy.below hb_22 (Nat.le_refl _)
  replace hz := hz.below hb_22 (Nat.le_refl _)
  replace h8 := h8.below hb_22 (Nat.le_refl _)
  replace h10 := h10.below hb_22 (Nat.le_refl _)
  replace hb := hb.trans (hb_22.mono hb.size)
  clear hb_22
  have e4 : decide (dig (X + Y + Z) = strip (dig (X + (Y + Z)))) = true := by rw [strip_dig, Nat.add_assoc]; simp
  rw [e4]
  clear e4
  go_wp2
  go_ret
  exact ⟨rfl, hb⟩
end Go.Proofs.YtpjibjcbaohlaabDoor
