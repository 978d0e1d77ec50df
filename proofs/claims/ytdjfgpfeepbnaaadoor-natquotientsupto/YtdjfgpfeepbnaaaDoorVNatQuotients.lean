/- The law NatQuotients returns true for every two slices of at most 2^20 digits, and writes nothing that was there. -/
import Derived.Test.YtdjfgpfeepbnaaaDoorD8
import Derived.Test.YtdjfgpfeepbnaaaDoorR16
namespace Go.Proofs.YtdjfgpfeepbnaaaDoor
open Go.RowKit Dig

theorem rdivMod_rd {w : World} {va vb : Value} {xs ys : List Nat} (hx : Rd w va xs) (hy : Rd w vb ys) (h0 : val ys ≠ 0) (hxl : xs.length ≤ 1000000000) (hyl : ys.length ≤ 1000000000) :
    Calls Tryd.prog 25 #[va, vb] w fun e w' => ∃ v1 v2, e = .returned (.tuple #[v1, v2]) ∧ Rd w' v1 (dig (val xs / val ys)) ∧ Rd w' v2 (dig (val xs % val ys)) ∧ Below w.heap.size w w' := by
  obtain ⟨oa, ca, rfl, hca, okx, hcx⟩ := hx
  obtain ⟨ob, cb, rfl, hcb, oky, hcy⟩ := hy
  exact rdivMod_any oa ob ca cb xs ys w hxl hyl hca hcb okx oky hcx hcy h0

set_option maxHeartbeats 1000000 in
theorem walk_NatQuotients (w : World) (va : Value) (xs : List Nat) (hx : Rd w va xs) (hxl : xs.length ≤ 1048576) (vb : Value) (ys : List Nat) (hy : Rd w vb ys) (hyl : ys.length ≤ 1048576) (htab : Lib.TabIs Tryd.prog w p10 .u64 Lib.pow10Tab) :
    Calls Tryd.prog 4 #[va, vb] w fun e w' => e = .returned (.bool true) ∧ Below w.heap.size w w' := by
  have htabs := Lib.tabBelow_of_tabIs htab
  have m1 : val xs < pw 1048576 := Nat.lt_of_lt_of_le (val_lt hx.ok) (pw_mono hxl)
  have lq : (dig (val xs / val ys)).length ≤ 1048576 := dig_length_le (Nat.lt_of_le_of_lt (Nat.div_le_self _ _) m1)
  have lr : (dig (val xs % val ys)).length ≤ 1048576 := dig_length_le (Nat.lt_of_le_of_lt (Nat.mod_le _ _) m1)
  have dy := dig_val hy.ok
  clear m1
  by_cases h0 : val ys = 0
  · have sy : strip ys = [] := by rw [← dy, h0]; rfl
    have eI : divI (val ys) = 5 := if_pos h0
    have eR : divR (val xs) (val ys) = [] := if_pos h0
    have eQ : dig (val xs / val ys) = [] := by rw [h0, Nat.div_zero]; rfl
    have hd := divMod_rd hx hy (by omega) (by omega)
    rw [eI, eR, eQ] at hd
    clear dy eI eR eQ
    go_enter Tryd.func4, Tryd.ntmps4
    have hb := Below.refl w.heap.size w
    go_wp2_with fail
    refine (hd).mono ?_
    rintro e w_1 ⟨vq, vr, rfl, hq, hr, _, hb_1⟩
    replace hx := hx.below hb_1 (Nat.le_refl _)
    replace hy := hy.below hb_1 (Nat.le_refl _)
    replace hb := hb.trans (hb_1.mono hb.size)
    clear hb_1
    replace hq := hq.rd
    replace hr := hr.rd
    go_wp2_with fail
    refine (awake_any _ (htabs _ hb)).mono ?_
    rintro e w_2 ⟨rfl, hb_2⟩
    replace hx := hx.below hb_2 (Nat.le_refl _)
    replace hy := hy.below hb_2 (Nat.le_refl _)
    replace hq := hq.below hb_2 (Nat.le_refl _)
    replace hr := hr.below hb_2 (Nat.le_refl _)
    replace hb := hb.trans (hb_2.mono hb.size)
    clear hb_2
    go_wp2_with fail
    refine (rtrim_rd hy (by omega)).mono ?_
    rintro e w_3 ⟨v5, rfl, h5, hb_3⟩
    replace hx := hx.below hb_3 (Nat.le_refl _)
    replace hy := hy.below hb_3 (Nat.le_refl _)
    replace hq := hq.below hb_3 (Nat.le_refl _)
    replace hr := hr.below hb_3 (Nat.le_refl _)
    replace hb := hb.trans (hb_3.mono hb.size)
    clear hb_3
    rw [sy] at h5
    obtain ⟨o5, c5, rfl, _, _, _⟩ := h5
    obtain ⟨o1, c1, rfl, _, _, _⟩ := hq
    obtain ⟨o2, c2, rfl, _, _, _⟩ := hr
    go_wp2
    go_ret
    exact ⟨rfl, hb⟩
  · have sy : ((strip ys).length : Int) ≠ 0 := fun h => h0 (by rw [← val_strip, List.length_eq_zero_iff.1 (show (strip ys).length = 0 by omega)]; rfl)
    have syb : (((strip ys).length : Int) == 0) = false := by rw [beq_eq_false_iff_ne]; exact sy
    clear dy
    go_enter Tryd.func4, Tryd.ntmps4
    have hb := Below.refl w.heap.size w
    go_wp2_with fail
    refine (divMod_pos hx hy h0 (by omega) (by omega)).mono ?_
    rintro e w_1 ⟨vq, vr, rfl, hq, hr, _, hb_1⟩
    replace hx := hx.below hb_1 (Nat.le_refl _)
    replace hy := hy.below hb_1 (Nat.le_refl _)
    replace hb := hb.trans (hb_1.mono hb.size)
    clear hb_1
    replace hq := hq.rd
    replace hr := hr.rd
    go_wp2_with fail
    refine (awake_any _ (htabs _ hb)).mono ?_
    rintro e w_2 ⟨rfl, hb_2⟩
    replace hx := hx.below hb_2 (Nat.le_refl _)
    replace hy := hy.below hb_2 (Nat.le_refl _)
    replace hq := hq.below hb_2 (Nat.le_refl _)
    replace hr := hr.below hb_2 (Nat.le_refl _)
    replace hb := hb.trans (hb_2.mono hb.size)
    clear hb_2
    go_wp2_with fail
    refine (rtrim_rd hy (by omega)).mono ?_
    rintro e w_3 ⟨v5, rfl, h5, hb_3⟩
    replace hx := hx.below hb_3 (Nat.le_refl _)
    replace hy := hy.below hb_3 (Nat.le_refl _)
    replace hq := hq.below hb_3 (Nat.le_refl _)
    replace hr := hr.below hb_3 (Nat.le_refl _)
    replace hb := hb.trans (hb_3.mono hb.size)
    clear hb_3
    obtain ⟨o5, c5, rfl, _, _, _⟩ := h5
    generalize (strip ys).length = ly at *
    go_wp2_with fail
    refine (rdivMod_rd hx hy h0 (by omega) (by omega)).mono ?_
    rintro e w_4 ⟨vx, vy, rfl, hx2, hy2, hb_4⟩
    replace hx := hx.below hb_4 (Nat.le_refl _)
    replace hy := hy.below hb_4 (Nat.le_refl _)
    replace hq := hq.below hb_4 (Nat.le_refl _)
    replace hr := hr.below hb_4 (Nat.le_refl _)
    replace hb := hb.trans (hb_4.mono hb.size)
    clear hb_4
    go_wp2_with fail
    refine (is_any _ _ _ _ _ (by omega) (by omega) hq hx2).mono ?_
    rintro e w_5 ⟨rfl, hb_5⟩
    replace hx := hx.below hb_5 (Nat.le_refl _)
    replace hy := hy.below hb_5 (Nat.le_refl _)
    replace hq := hq.below hb_5 (Nat.le_refl _)
    replace hr := hr.below hb_5 (Nat.le_refl _)
    replace hx2 := hx2.below hb_5 (Nat.le_refl _)
    replace hy2 := hy2.below hb_5 (Nat.le_refl _)
    replace hb := hb.trans (hb_5.mono hb.size)
    clear hb_5
    have e1 : ∀ z, decide (dig z = strip (dig z)) = true := fun z => by rw [strip_dig]; simp
    rw [e1]
    go_wp2_with fail
    refine (is_any _ _ _ _ _ (by omega) (by omega) hr hy2).mono ?_
    rintro e w_6 ⟨rfl, hb_6⟩
    replace hx := hx.below hb_6 (Nat.le_refl _)
    replace hy := hy.below hb_6 (Nat.le_refl _)
    replace hq := hq.below hb_6 (Nat.le_refl _)
    replace hr := hr.below hb_6 (Nat.le_refl _)
    replace hx2 := hx2.below hb_6 (Nat.le_refl _)
    replace hy2 := hy2.below hb_6 (Nat.le_refl _)
    replace hb := hb.trans (hb_6.mono hb.size)
    clear hb_6
    rw [e1]
    go_wp2
    go_ret
    exact ⟨rfl, hb⟩
end Go.Proofs.YtdjfgpfeepbnaaaDoor
