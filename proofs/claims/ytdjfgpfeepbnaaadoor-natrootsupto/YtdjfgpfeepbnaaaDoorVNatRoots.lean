/- The law NatRoots returns true for every slice of at most 2^20 digits, and writes nothing that was there. -/
import Derived.Test.YtdjfgpfeepbnaaaDoorR18
namespace Go.Proofs.YtdjfgpfeepbnaaaDoor
open Go.RowKit Dig

set_option maxHeartbeats 2000000 in
theorem walk_NatRoots (w : World) (va : Value) (xs : List Nat) (hx : Rd w va xs) (hxl : xs.length ≤ 1048576) (htab : Lib.TabIs Tryd.prog w p10 .u64 Lib.pow10Tab) :
    Calls Tryd.prog 7 #[va] w fun e w' => e = .returned (.bool true) ∧ Below w.heap.size w w' := by
  have htabs := Lib.tabBelow_of_tabIs htab
  have m1 : val xs < pw 1048576 := Nat.lt_of_lt_of_le (val_lt hx.ok) (pw_mono hxl)
  have dx := dig_val hx.ok
  have slx := strip_length_le xs
  obtain ⟨A, hA⟩ : ∃ A, val xs = A := ⟨_, rfl⟩
  rw [hA] at m1 dx
  obtain ⟨R, h1, h2⟩ := sqrt_ex A
  have hRA : R ≤ A := by
    rcases Nat.eq_zero_or_pos R with h | h
    · omega
    · have := Nat.le_mul_of_pos_right R h; omega
  have up : ∀ {p a b : Nat}, p < pw a → a ≤ b → p < pw b := fun {p a b} h k => Nat.lt_of_lt_of_le h (pw_mono k)
  have hsq : A * A < pw 2097152 := by
    rw [show (2097152 : Nat) = 1048576 + 1048576 from rfl, pw_add]; exact Nat.mul_lt_mul'' m1 m1
  obtain ⟨L, hL⟩ : ∃ L, 2097152 = L := ⟨_, rfl⟩
  rw [hL] at hsq
  have hAA : A ≤ A * A + 1 := by
    rcases Nat.eq_zero_or_pos A with h | h
    · omega
    · have := Nat.le_mul_of_pos_right A h; omega
  have hpp := pw_pos L
  have lA : (dig A).length ≤ 1048576 := dig_length_le m1
  have lR : (dig R).length ≤ 1048576 := dig_length_le (by omega)
  have big : ∀ y, y ≤ A * A + 4 * A + 4 → (dig y).length ≤ 2097153 := fun y hy => Nat.le_trans (dig_length_le (k := L + 1) (by simp only [pw]; omega)) (by omega)
  have lA1 : (dig (A + 1)).length ≤ 2097153 := big _ (by omega)
  have lAm : (dig (A - 1)).length ≤ 2097153 := big _ (by omega)
  have l1 : (dig (A * A)).length ≤ 2097153 := big _ (by omega)
  have l2 : (dig (A * A + A)).length ≤ 2097153 := big _ (by omega)
  have l3 : (dig (A * A + A + A)).length ≤ 2097153 := big _ (by omega)
  have l4 : (dig (A * A + A + A + 1)).length ≤ 2097153 := big _ (by omega)
  have l5 : (dig (A * A - 1)).length ≤ 2097153 := big _ (by omega)
  have q0 : A * A ≤ val (dig (A * A)) ∧ val (dig (A * A)) < (A + 1) * (A + 1) := by
    rw [val_dig, Nat.add_mul, Nat.mul_add]; omega
  have q1 : A * A ≤ val (dig (A * A + A)) ∧ val (dig (A * A + A)) < (A + 1) * (A + 1) := by
    rw [val_dig, Nat.add_mul, Nat.mul_add]; omega
  have q2 : A * A ≤ val (dig (A * A + A + A)) ∧ val (dig (A * A + A + A)) < (A + 1) * (A + 1) := by
    rw [val_dig, Nat.add_mul, Nat.mul_add]; omega
  have q3 : (A + 1) * (A + 1) ≤ val (dig (A * A + A + A + 1)) ∧ val (dig (A * A + A + A + 1)) < (A + 1 + 1) * (A + 1 + 1) := by
    have e : (A + 1 + 1) * (A + 1 + 1) = (A + 1) * (A + 1) + (A + 1) + (A + 1) + 1 := by
      rw [Nat.add_mul, Nat.mul_add, Nat.one_mul, Nat.mul_one]; omega
    rw [val_dig, e, Nat.add_mul, Nat.mul_add]; omega
  have q4 : A ≠ 0 → (A - 1) * (A - 1) ≤ val (dig (A * A - 1)) ∧ val (dig (A * A - 1)) < (A - 1 + 1) * (A - 1 + 1) := by
    intro h
    obtain ⟨B, rfl⟩ : ∃ B, A = B + 1 := ⟨A - 1, by omega⟩
    rw [val_dig, Nat.add_sub_cancel, Nat.add_mul, Nat.mul_add]; omega
  have hAp : A ≠ 0 → 1 ≤ A * A := fun h => Nat.mul_pos (Nat.pos_of_ne_zero h) (Nat.pos_of_ne_zero h)
  have M := hide (And.intro q0 (And.intro q1 (And.intro q2 (And.intro q3 (And.intro q4 (And.intro h1 (And.intro h2 hAp)))))))
  have HA := hide hA
  have e1 : ∀ z, decide (dig z = strip (dig z)) = true := fun z => by rw [strip_dig]; simp
  have ex : decide (dig A = strip xs) = true := by rw [dx]; simp
  have HD := hide dx
  have v1 : val [1] = 1 := by simp [val]
  clear q0 q1 q2 q3 q4 h1 h2 hAp hA big hpp hL hsq hAA up m1 hRA dx
  go_enter Tryd.func7, Tryd.ntmps7
  have hb := Below.refl w.heap.size w
  go_wp2_with fail
  refine (rmul_rd3 hx hx (by omega) (by omega)).mono ?_
  rintro e w_1 ⟨vs, rfl, hs, hb_1⟩
  replace hx := hx.below hb_1 (Nat.le_refl _)
  replace hb := hb.trans (hb_1.mono hb.size)
  clear hb_1
  rw [HA.out] at hs
  have ho := lit1 w_1 1 (by decide)
  replace hx := hx.alloc (.cells #[.int .u32 (1 : Int)] 26)
  replace hs := hs.alloc (.cells #[.int .u32 (1 : Int)] 26)
  replace hb := hb.alloc hb.size (.cells #[.int .u32 (1 : Int)] 26)
  go_wp2_with fail
  refine (awake_any _ (htabs _ hb)).mono ?_
  rintro e w_2 ⟨rfl, hb_2⟩
  replace hx := hx.below hb_2 (Nat.le_refl _)
  replace hs := hs.below hb_2 (Nat.le_refl _)
  replace ho := ho.below hb_2 (Nat.le_refl _)
  replace hb := hb.trans (hb_2.mono hb.size)
  clear hb_2
  go_wp2_with fail
  refine (root_rd R hx (by omega) (by rw [HA.out]; exact M.out.2.2.2.2.2.1) (by rw [HA.out]; exact M.out.2.2.2.2.2.2.1)).mono ?_
  rintro e w_3 ⟨v3, rfl, h3, hb_3⟩
  replace hx := hx.below hb_3 (Nat.le_refl _)
  replace hs := hs.below hb_3 (Nat.le_refl _)
  replace ho := ho.below hb_3 (Nat.le_refl _)
  replace hb := hb.trans (hb_3.mono hb.size)
  clear hb_3
  replace h3 := h3.rd
  go_wp2_with fail
  refine (rroot_rd R hx (by omega) (by rw [HA.out]; exact M.out.2.2.2.2.2.1) (by rw [HA.out]; exact M.out.2.2.2.2.2.2.1)).mono ?_
  rintro e w_4 ⟨v4, rfl, h4, hb_4⟩
  replace hx := hx.below hb_4 (Nat.le_refl _)
  replace hs := hs.below hb_4 (Nat.le_refl _)
  replace ho := ho.below hb_4 (Nat.le_refl _)
  replace h3 := h3.below hb_4 (Nat.le_refl _)
  replace hb := hb.trans (hb_4.mono hb.size)
  clear hb_4
  go_wp2_with fail
  refine (is_any _ _ _ _ _ (by omega) (by omega) h3 h4).mono ?_
  rintro e w_5 ⟨rfl, hb_5⟩
  replace hx := hx.below hb_5 (Nat.le_refl _)
  replace hs := hs.below hb_5 (Nat.le_refl _)
  replace ho := ho.below hb_5 (Nat.le_refl _)
  replace h3 := h3.below hb_5 (Nat.le_refl _)
  replace h4 := h4.below hb_5 (Nat.le_refl _)
  replace hb := hb.trans (hb_5.mono hb.size)
  clear hb_5
  clear h3
  clear h4
  rw [e1]
  go_wp2_with fail
  refine (root_rd A hs (by omega) M.out.1.1 M.out.1.2).mono ?_
  rintro e w_6 ⟨v5, rfl, h5, hb_6⟩
  replace hx := hx.below hb_6 (Nat.le_refl _)
  replace hs := hs.below hb_6 (Nat.le_refl _)
  replace ho := ho.below hb_6 (Nat.le_refl _)
  replace hb := hb.trans (hb_6.mono hb.size)
  clear hb_6
  replace h5 := h5.rd
  go_wp2_with fail
  refine (is_any _ _ _ _ _ (by omega) (by omega) h5 hx).mono ?_
  rintro e w_7 ⟨rfl, hb_7⟩
  replace hx := hx.below hb_7 (Nat.le_refl _)
  replace hs := hs.below hb_7 (Nat.le_refl _)
  replace ho := ho.below hb_7 (Nat.le_refl _)
  replace h5 := h5.below hb_7 (Nat.le_refl _)
  replace hb := hb.trans (hb_7.mono hb.size)
  clear hb_7
  clear h5
  rw [ex]
  go_wp2_with fail
  refine (radd_rd2 hs hx (by omega) (by omega)).mono ?_
  rintro e w_8 ⟨v6, rfl, h6, hb_8⟩
  replace hx := hx.below hb_8 (Nat.le_refl _)
  replace hs := hs.below hb_8 (Nat.le_refl _)
  replace ho := ho.below hb_8 (Nat.le_refl _)
  replace hb := hb.trans (hb_8.mono hb.size)
  clear hb_8
  rw [val_dig, HA.out] at h6
  go_wp2_with fail
  refine (root_rd A h6 (by omega) M.out.2.1.1 M.out.2.1.2).mono ?_
  rintro e w_9 ⟨v7, rfl, h7, hb_9⟩
  replace hx := hx.below hb_9 (Nat.le_refl _)
  replace hs := hs.below hb_9 (Nat.le_refl _)
  replace ho := ho.below hb_9 (Nat.le_refl _)
  replace h6 := h6.below hb_9 (Nat.le_refl _)
  replace hb := hb.trans (hb_9.mono hb.size)
  clear hb_9
  replace h7 := h7.rd
  clear h6
  go_wp2_with fail
  refine (is_any _ _ _ _ _ (by omega) (by omega) h7 hx).mono ?_
  rintro e w_10 ⟨rfl, hb_10⟩
  replace hx := hx.below hb_10 (Nat.le_refl _)
  replace hs := hs.below hb_10 (Nat.le_refl _)
  replace ho := ho.below hb_10 (Nat.le_refl _)
  replace h7 := h7.below hb_10 (Nat.le_refl _)
  replace hb := hb.trans (hb_10.mono hb.size)
  clear hb_10
  clear h7
  rw [ex]
  go_wp2_with fail
  refine (radd_rd2 hs hx (by omega) (by omega)).mono ?_
  rintro e w_11 ⟨v8, rfl, h8, hb_11⟩
  replace hx := hx.below hb_11 (Nat.le_refl _)
  replace hs := hs.below hb_11 (Nat.le_refl _)
  replace ho := ho.below hb_11 (Nat.le_refl _)
  replace hb := hb.trans (hb_11.mono hb.size)
  clear hb_11
  rw [val_dig, HA.out] at h8
  go_wp2_with fail
  refine (radd_rd2 h8 hx (by omega) (by omega)).mono ?_
  rintro e w_12 ⟨v9, rfl, h9, hb_12⟩
  replace hx := hx.below hb_12 (Nat.le_refl _)
  replace hs := hs.below hb_12 (Nat.le_refl _)
  replace ho := ho.below hb_12 (Nat.le_refl _)
  replace h8 := h8.below hb_12 (Nat.le_refl _)
  replace hb := hb.trans (hb_12.mono hb.size)
  clear hb_12
  rw [val_dig, HA.out] at h9
  clear h8
  go_wp2_with fail
  refine (root_rd A h9 (by omega) M.out.2.2.1.1 M.out.2.2.1.2).mono ?_
  rintro e w_13 ⟨v10, rfl, h10, hb_13⟩
  replace hx := hx.below hb_13 (Nat.le_refl _)
  replace hs := hs.below hb_13 (Nat.le_refl _)
  replace ho := ho.below hb_13 (Nat.le_refl _)
  replace h9 := h9.below hb_13 (Nat.le_refl _)
  replace hb := hb.trans (hb_13.mono hb.size)
  clear hb_13
  replace h10 := h10.rd
  go_wp2_with fail
  refine (is_any _ _ _ _ _ (by omega) (by omega) h10 hx).mono ?_
  rintro e w_14 ⟨rfl, hb_14⟩
  replace hx := hx.below hb_14 (Nat.le_refl _)
  replace hs := hs.below hb_14 (Nat.le_refl _)
  replace ho := ho.below hb_14 (Nat.le_refl _)
  replace h9 := h9.below hb_14 (Nat.le_refl _)
  replace h10 := h10.below hb_14 (Nat.le_refl _)
  replace hb := hb.trans (hb_14.mono hb.size)
  clear hb_14
  clear h10
  rw [ex]
  go_wp2_with fail
  refine (radd_rd2 h9 ho (by omega) (by simp)).mono ?_
  rintro e w_15 ⟨v11, rfl, h11, hb_15⟩
  replace hx := hx.below hb_15 (Nat.le_refl _)
  replace hs := hs.below hb_15 (Nat.le_refl _)
  replace ho := ho.below hb_15 (Nat.le_refl _)
  replace h9 := h9.below hb_15 (Nat.le_refl _)
  replace hb := hb.trans (hb_15.mono hb.size)
  clear hb_15
  rw [val_dig, v1] at h11
  clear h9
  go_wp2_with fail
  refine (root_rd (A + 1) h11 (by omega) M.out.2.2.2.1.1 M.out.2.2.2.1.2).mono ?_
  rintro e w_16 ⟨v12, rfl, h12, hb_16⟩
  replace hx := hx.below hb_16 (Nat.le_refl _)
  replace hs := hs.below hb_16 (Nat.le_refl _)
  replace ho := ho.below hb_16 (Nat.le_refl _)
  replace h11 := h11.below hb_16 (Nat.le_refl _)
  replace hb := hb.trans (hb_16.mono hb.size)
  clear hb_16
  replace h12 := h12.rd
  clear h11
  go_wp2_with fail
  refine (radd_rd2 hx ho (by omega) (by simp)).mono ?_
  rintro e w_17 ⟨v13, rfl, h13, hb_17⟩
  replace hx := hx.below hb_17 (Nat.le_refl _)
  replace hs := hs.below hb_17 (Nat.le_refl _)
  replace ho := ho.below hb_17 (Nat.le_refl _)
  replace h12 := h12.below hb_17 (Nat.le_refl _)
  replace hb := hb.trans (hb_17.mono hb.size)
  clear hb_17
  rw [HA.out, v1] at h13
  go_wp2_with fail
  refine (is_any _ _ _ _ _ (by omega) (by omega) h12 h13).mono ?_
  rintro e w_18 ⟨rfl, hb_18⟩
  replace hx := hx.below hb_18 (Nat.le_refl _)
  replace hs := hs.below hb_18 (Nat.le_refl _)
  replace ho := ho.below hb_18 (Nat.le_refl _)
  replace h12 := h12.below hb_18 (Nat.le_refl _)
  replace h13 := h13.below hb_18 (Nat.le_refl _)
  replace hb := hb.trans (hb_18.mono hb.size)
  clear hb_18
  clear h12
  clear h13
  rw [e1]
  go_wp2_with fail
  refine (rtrim_rd hx (by omega)).mono ?_
  rintro e w_19 ⟨v14, rfl, h14, hb_19⟩
  replace hx := hx.below hb_19 (Nat.le_refl _)
  replace hs := hs.below hb_19 (Nat.le_refl _)
  replace ho := ho.below hb_19 (Nat.le_refl _)
  replace hb := hb.trans (hb_19.mono hb.size)
  clear hb_19
  obtain ⟨o1, c1, rfl, _, _, _⟩ := h14
  by_cases h0 : A = 0
  · have hl : ((strip xs).length : Int) = 0 := by rw [← HD.out, h0]; rfl
    have hl2 : (strip xs).length = 0 := by omega
    rw [hl2]
    go_wp2
    go_ret
    exact ⟨rfl, hb⟩
  · have hl : ((strip xs).length : Int) ≠ 0 := fun h => h0 (dig_eq_nil.1 (by rw [HD.out]; exact List.length_eq_zero_iff.1 (by omega)))
    have hlb : (((strip xs).length : Int) == 0) = false := by rw [beq_eq_false_iff_ne]; exact hl
    have g1 : val [1] ≤ val (dig (A * A)) := by rw [val_dig, v1]; exact M.out.2.2.2.2.2.2.2 h0
    have g2 : val [1] ≤ val xs := by rw [HA.out, v1]; omega
    have hM := M.out.2.2.2.2.1 h0
    have HM := hide hM
    generalize (strip xs).length = lx at *
    clear hM
    go_wp2_with fail
    refine (rsub_rd2 hs ho (by omega) (by simp) g1).mono ?_
    rintro e w_20 ⟨v15, rfl, h15, hb_20⟩
    replace hx := hx.below hb_20 (Nat.le_refl _)
    replace hs := hs.below hb_20 (Nat.le_refl _)
    replace ho := ho.below hb_20 (Nat.le_refl _)
    replace hb := hb.trans (hb_20.mono hb.size)
    clear hb_20
    rw [val_dig, v1] at h15
    go_wp2_with fail
    refine (root_rd (A - 1) h15 (by omega) HM.out.1 HM.out.2).mono ?_
    rintro e w_21 ⟨v16, rfl, h16, hb_21⟩
    replace hx := hx.below hb_21 (Nat.le_refl _)
    replace hs := hs.below hb_21 (Nat.le_refl _)
    replace ho := ho.below hb_21 (Nat.le_refl _)
    replace h15 := h15.below hb_21 (Nat.le_refl _)
    replace hb := hb.trans (hb_21.mono hb.size)
    clear hb_21
    replace h16 := h16.rd
    go_wp2_with fail
    refine (rsub_rd2 hx ho (by omega) (by simp) g2).mono ?_
    rintro e w_22 ⟨v17, rfl, h17, hb_22⟩
    replace hx := hx.below hb_22 (Nat.le_refl _)
    replace hs := hs.below hb_22 (Nat.le_refl _)
    replace ho := ho.below hb_22 (Nat.le_refl _)
    replace h15 := h15.below hb_22 (Nat.le_refl _)
    replace h16 := h16.below hb_22 (Nat.le_refl _)
    replace hb := hb.trans (hb_22.mono hb.size)
    clear hb_22
    rw [HA.out, v1] at h17
    go_wp2_with fail
    refine (is_any _ _ _ _ _ (by omega) (by omega) h16 h17).mono ?_
    rintro e w_23 ⟨rfl, hb_23⟩
    replace hx := hx.below hb_23 (Nat.le_refl _)
    replace hs := hs.below hb_23 (Nat.le_refl _)
    replace ho := ho.below hb_23 (Nat.le_refl _)
    replace h15 := h15.below hb_23 (Nat.le_refl _)
    replace h16 := h16.below hb_23 (Nat.le_refl _)
    replace h17 := h17.below hb_23 (Nat.le_refl _)
    replace hb := hb.trans (hb_23.mono hb.size)
    clear hb_23
    rw [e1]
    go_wp2
    go_ret
    exact ⟨rfl, hb⟩
end Go.Proofs.YtdjfgpfeepbnaaaDoor
