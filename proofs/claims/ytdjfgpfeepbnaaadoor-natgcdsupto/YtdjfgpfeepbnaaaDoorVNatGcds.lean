/- The law NatGcds returns true for every three slices of at most 2^20 digits together, and writes nothing that was there. -/
import Derived.Test.YtdjfgpfeepbnaaaDoorR17
import Derived.Test.YtdjfgpfeepbnaaaDoorR3
namespace Go.Proofs.YtdjfgpfeepbnaaaDoor
open Go.RowKit Dig

theorem rmul_rd2 {w : World} {va vb : Value} {xs ys : List Nat} (hx : Rd w va xs) (hy : Rd w vb ys) (hxl : xs.length ≤ 100000000000) (hyl : ys.length ≤ 100000000000) :
    Calls Tryd.prog 26 #[va, vb] w fun e w' => ∃ v, e = .returned v ∧ Rd w' v (dig (val xs * val ys)) ∧ Below w.heap.size w w' := by
  obtain ⟨oa, ca, rfl, hca, okx, hcx⟩ := hx
  obtain ⟨ob, cb, rfl, hcb, oky, hcy⟩ := hy
  exact rmul_any oa ob ca cb xs ys w (by omega) (by omega) okx oky hcx hcy

set_option maxHeartbeats 1000000 in
theorem walk_NatGcds (w : World) (va : Value) (xs : List Nat) (hx : Rd w va xs) (hxl : xs.length ≤ 1048576) (vb : Value) (ys : List Nat) (hy : Rd w vb ys) (hyl : ys.length ≤ 1048576) (vc : Value) (zs : List Nat) (hz : Rd w vc zs) (hzl : zs.length ≤ 1048576) (htab : Lib.TabIs Tryd.prog w p10 .u64 Lib.pow10Tab) :
    Calls Tryd.prog 5 #[va, vb, vc] w fun e w' => e = .returned (.bool true) ∧ Below w.heap.size w w' := by
  have htabs := Lib.tabBelow_of_tabIs htab
  have m1 : val xs < pw 1048576 := Nat.lt_of_lt_of_le (val_lt hx.ok) (pw_mono hxl)
  have m2 : val ys < pw 1048576 := Nat.lt_of_lt_of_le (val_lt hy.ok) (pw_mono hyl)
  have m3 : val zs < pw 1048576 := Nat.lt_of_lt_of_le (val_lt hz.ok) (pw_mono hzl)
  have mul2 : ∀ {p q a b : Nat}, p < pw a → q < pw b → p * q < pw (a + b) := fun {p q a b} h k => by
    rw [pw_add]; exact Nat.mul_lt_mul_of_lt_of_le h (Nat.le_of_lt k) (pw_pos _)
  have up : ∀ {p a b : Nat}, p < pw a → a ≤ b → p < pw b := fun {p a b} h k => Nat.lt_of_lt_of_le h (pw_mono k)
  have lg : ∀ {p q a : Nat}, p < pw a → q < pw a → (dig (Nat.gcd p q)).length ≤ a := fun {p q a} h k => by
    refine dig_length_le ?_
    rcases Nat.eq_zero_or_pos p with h0 | h0
    · rw [h0, Nat.gcd_zero_left]; exact k
    · exact Nat.lt_of_le_of_lt (Nat.gcd_le_left _ h0) h
  have lxz : (dig (val xs * val zs)).length ≤ 2097152 := dig_length_le (up (mul2 m1 m3) (by decide))
  have lyz : (dig (val ys * val zs)).length ≤ 2097152 := dig_length_le (up (mul2 m2 m3) (by decide))
  have lg1 : (dig (Nat.gcd (val xs) (val ys))).length ≤ 1048576 := lg m1 m2
  have lg2 : (dig (Nat.gcd (val xs * val zs) (val ys * val zs))).length ≤ 2097152 := lg (up (mul2 m1 m3) (by decide)) (up (mul2 m2 m3) (by decide))
  have e1 : ∀ z, decide (dig z = strip (dig z)) = true := fun z => by rw [strip_dig]; simp
  clear mul2 up lg m1 m2 m3
  go_enter Tryd.func5, Tryd.ntmps5
  have hb := Below.refl w.heap.size w
  go_wp2_with fail
  refine (rmul_rd2 hx hz (by omega) (by omega)).mono ?_
  rintro e w_1 ⟨v1, rfl, h1, hb_1⟩
  replace hx := hx.below hb_1 (Nat.le_refl _)
  replace hy := hy.below hb_1 (Nat.le_refl _)
  replace hz := hz.below hb_1 (Nat.le_refl _)
  replace hb := hb.trans (hb_1.mono hb.size)
  clear hb_1
  go_wp2_with fail
  refine (rmul_rd2 hy hz (by omega) (by omega)).mono ?_
  rintro e w_2 ⟨v2, rfl, h2, hb_2⟩
  replace hx := hx.below hb_2 (Nat.le_refl _)
  replace hy := hy.below hb_2 (Nat.le_refl _)
  replace hz := hz.below hb_2 (Nat.le_refl _)
  replace h1 := h1.below hb_2 (Nat.le_refl _)
  replace hb := hb.trans (hb_2.mono hb.size)
  clear hb_2
  go_wp2_with fail
  refine (awake_any _ (htabs _ hb)).mono ?_
  rintro e w_3 ⟨rfl, hb_3⟩
  replace hx := hx.below hb_3 (Nat.le_refl _)
  replace hy := hy.below hb_3 (Nat.le_refl _)
  replace hz := hz.below hb_3 (Nat.le_refl _)
  replace h1 := h1.below hb_3 (Nat.le_refl _)
  replace h2 := h2.below hb_3 (Nat.le_refl _)
  replace hb := hb.trans (hb_3.mono hb.size)
  clear hb_3
  go_wp2_with fail
  refine (gcd_rd hx hy (by omega) (by omega)).mono ?_
  rintro e w_4 ⟨v3, rfl, h3, hb_4⟩
  replace hx := hx.below hb_4 (Nat.le_refl _)
  replace hy := hy.below hb_4 (Nat.le_refl _)
  replace hz := hz.below hb_4 (Nat.le_refl _)
  replace h1 := h1.below hb_4 (Nat.le_refl _)
  replace h2 := h2.below hb_4 (Nat.le_refl _)
  replace hb := hb.trans (hb_4.mono hb.size)
  clear hb_4
  replace h3 := h3.rd
  go_wp2_with fail
  refine (rgcd_rd hx hy (by omega) (by omega)).mono ?_
  rintro e w_5 ⟨v4, rfl, h4, hb_5⟩
  replace hx := hx.below hb_5 (Nat.le_refl _)
  replace hy := hy.below hb_5 (Nat.le_refl _)
  replace hz := hz.below hb_5 (Nat.le_refl _)
  replace h1 := h1.below hb_5 (Nat.le_refl _)
  replace h2 := h2.below hb_5 (Nat.le_refl _)
  replace h3 := h3.below hb_5 (Nat.le_refl _)
  replace hb := hb.trans (hb_5.mono hb.size)
  clear hb_5
  go_wp2_with fail
  refine (is_any _ _ _ _ _ (by omega) (by omega) h3 h4).mono ?_
  rintro e w_6 ⟨rfl, hb_6⟩
  replace hx := hx.below hb_6 (Nat.le_refl _)
  replace hy := hy.below hb_6 (Nat.le_refl _)
  replace hz := hz.below hb_6 (Nat.le_refl _)
  replace h1 := h1.below hb_6 (Nat.le_refl _)
  replace h2 := h2.below hb_6 (Nat.le_refl _)
  replace h3 := h3.below hb_6 (Nat.le_refl _)
  replace h4 := h4.below hb_6 (Nat.le_refl _)
  replace hb := hb.trans (hb_6.mono hb.size)
  clear hb_6
  clear h3
  clear h4
  rw [e1]
  go_wp2_with fail
  refine (gcd_rd h1 h2 (by omega) (by omega)).mono ?_
  rintro e w_7 ⟨v5, rfl, h5, hb_7⟩
  replace hx := hx.below hb_7 (Nat.le_refl _)
  replace hy := hy.below hb_7 (Nat.le_refl _)
  replace hz := hz.below hb_7 (Nat.le_refl _)
  replace h1 := h1.below hb_7 (Nat.le_refl _)
  replace h2 := h2.below hb_7 (Nat.le_refl _)
  replace hb := hb.trans (hb_7.mono hb.size)
  clear hb_7
  rw [val_dig, val_dig] at h5
  replace h5 := h5.rd
  go_wp2_with fail
  refine (rgcd_rd h1 h2 (by omega) (by omega)).mono ?_
  rintro e w_8 ⟨v6, rfl, h6, hb_8⟩
  replace hx := hx.below hb_8 (Nat.le_refl _)
  replace hy := hy.below hb_8 (Nat.le_refl _)
  replace hz := hz.below hb_8 (Nat.le_refl _)
  replace h1 := h1.below hb_8 (Nat.le_refl _)
  replace h2 := h2.below hb_8 (Nat.le_refl _)
  replace h5 := h5.below hb_8 (Nat.le_refl _)
  replace hb := hb.trans (hb_8.mono hb.size)
  clear hb_8
  rw [val_dig, val_dig] at h6
  go_wp2_with fail
  refine (is_any _ _ _ _ _ (by omega) (by omega) h5 h6).mono ?_
  rintro e w_9 ⟨rfl, hb_9⟩
  replace hx := hx.below hb_9 (Nat.le_refl _)
  replace hy := hy.below hb_9 (Nat.le_refl _)
  replace hz := hz.below hb_9 (Nat.le_refl _)
  replace h1 := h1.below hb_9 (Nat.le_refl _)
  replace h2 := h2.below hb_9 (Nat.le_refl _)
  replace h5 := h5.below hb_9 (Nat.le_refl _)
  replace h6 := h6.below hb_9 (Nat.le_refl _)
  replace hb := hb.trans (hb_9.mono hb.size)
  clear hb_9
  rw [e1]
  go_wp2
  go_ret
  exact ⟨rfl, hb⟩
end Go.Proofs.YtdjfgpfeepbnaaaDoor
