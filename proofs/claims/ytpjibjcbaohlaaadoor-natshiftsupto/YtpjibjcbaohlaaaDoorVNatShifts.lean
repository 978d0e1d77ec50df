/- The law NatShifts returns true for every slice of at most 2^20 digits and every number of places, and writes nothing that was there. -/
import Derived.Test.YtpjibjcbaohlaaaDoorR8
import Derived.Test.YtpjibjcbaohlaaaDoorVNatSums
namespace Go.Proofs.YtpjibjcbaohlaaaDoor
open Go.RowKit Dig

theorem shl_rd {w : World} {va : Value} {xs : List Nat} (n : Int) (hx : Rd w va xs) (hxl : xs.length ≤ 100000000000) :
    Calls Tryd.prog 17 #[va, .int .i64 n] w fun e w' => ∃ v, e = .returned (.tuple #[v, .int .i64 (shlI n)]) ∧ Own w' w.heap.size v (shlD (val xs) n) ∧ Below w.heap.size w w' := by
  obtain ⟨oa, ca, rfl, hca, okx, hcx⟩ := hx
  exact shl_any oa ca xs n w hxl hca okx hcx
theorem shr_rd {w : World} {va : Value} {xs : List Nat} (n : Int) (hx : Rd w va xs) (hxl : xs.length ≤ 100000000000) (hn : n ≤ 9223372036854775807) :
    Calls Tryd.prog 18 #[va, .int .i64 n] w fun e w' => ∃ v, e = .returned (.tuple #[v, .int .i64 (shrI n)]) ∧ Own w' w.heap.size v (shrD (val xs) n) ∧ Below w.heap.size w w' := by
  obtain ⟨oa, ca, rfl, hca, okx, hcx⟩ := hx
  exact shr_any oa ca xs n w hxl hca okx hcx hn
theorem rshl_rd {w : World} {va : Value} {xs : List Nat} (n : Nat) (hx : Rd w va xs) (hxl : xs.length ≤ 100000000000) (hn : n ≤ 8000000000000) :
    Calls Tryd.prog 33 #[va, .int .i64 (n : Int)] w fun e w' => ∃ v, e = .returned v ∧ Rd w' v (dig (val xs * 2 ^ n)) ∧ Below w.heap.size w w' := by
  obtain ⟨oa, ca, rfl, hca, okx, hcx⟩ := hx
  exact rshl_any oa ca n xs w hxl hca okx hcx hn
theorem rshr_rd {w : World} {va : Value} {xs : List Nat} (n : Nat) (hx : Rd w va xs) (hxl : xs.length ≤ 100000000000) (hn : n ≤ 9223372036854775807) :
    Calls Tryd.prog 32 #[va, .int .i64 (n : Int)] w fun e w' => ∃ v, e = .returned v ∧ Rd w' v (dig (val xs / 2 ^ n)) ∧ Below w.heap.size w w' := by
  obtain ⟨oa, ca, rfl, hca, okx, hcx⟩ := hx
  exact rshr_any oa ca n xs w hxl okx hcx hn

theorem two_le_pw {n m : Nat} (h : n ≤ 32 * m) : 2 ^ n ≤ pw m := by
  rw [pw_eq]; exact Nat.pow_le_pow_right (by decide) h
theorem dig_shl_length (xs : List Nat) (ok : OK xs) (n : Nat) (hn : n ≤ 65536) : (dig (val xs * 2 ^ n)).length ≤ xs.length + 2049 := by
  refine dig_length_le ?_
  rw [pw_add]
  exact Nat.mul_lt_mul_of_lt_of_le (val_lt ok) (two_le_pw (by omega)) (pw_pos _)
theorem dig_shr_length (xs : List Nat) (ok : OK xs) (n : Nat) : (dig (val xs / n)).length ≤ xs.length :=
  dig_length_le (Nat.lt_of_le_of_lt (Nat.div_le_self _ _) (val_lt ok))

set_option maxHeartbeats 800000 in
theorem walk_NatShifts (w : World) (va : Value) (xs : List Nat) (hx : Rd w va xs) (hxl : xs.length ≤ 1048576) (n : Int) (_hlo : -9223372036854775808 ≤ n) (hhi : n ≤ 9223372036854775807) (htab : Lib.TabIs Tryd.prog w p10 .u64 Lib.pow10Tab) :
    Calls Tryd.prog 8 #[va, .int .i64 n] w fun e w' => e = .returned (.bool true) ∧ Below w.heap.size w w' := by
  have htabs := Lib.tabBelow_of_tabIs htab
  have okx := hx.ok
  by_cases h0 : n < 0
  · have e1 : shlI n = 9 := by unfold shlI; rw [if_pos h0]
    have e2 : shlD (val xs) n = [] := by unfold shlD; rw [if_pos (.inl h0)]
    have e3 : shrI n = 9 := by unfold shrI; rw [if_pos h0]
    have e4 : shrD (val xs) n = [] := by unfold shrD; rw [if_pos h0]
    have E1 := hide e1
    have E2 := hide e2
    have E3 := hide e3
    have E4 := hide e4
    clear e1 e2 e3 e4
    go_enter Tryd.func8, Tryd.ntmps8
    have hb := Below.refl w.heap.size w
    go_wp2_with fail
    refine (shl_rd n hx (by omega)).mono ?_
    rintro e w_1 ⟨vl, rfl, hl, hb_1⟩
    replace hx := hx.below hb_1 (Nat.le_refl _)
    replace hb := hb.trans (hb_1.mono hb.size)
    clear hb_1
    rw [E2.out] at hl
    replace hl := hl.rd
    rw [E1.out]
    go_wp2_with fail
    refine (shr_rd n hx (by omega) hhi).mono ?_
    rintro e w_2 ⟨vr, rfl, hr, hb_2⟩
    replace hx := hx.below hb_2 (Nat.le_refl _)
    replace hl := hl.below hb_2 (Nat.le_refl _)
    replace hb := hb.trans (hb_2.mono hb.size)
    clear hb_2
    rw [E4.out] at hr
    replace hr := hr.rd
    rw [E3.out]
    go_wp2_with fail
    refine (awake_any _ (htabs _ hb)).mono ?_
    rintro e w_3 ⟨rfl, hb_3⟩
    replace hx := hx.below hb_3 (Nat.le_refl _)
    replace hl := hl.below hb_3 (Nat.le_refl _)
    replace hr := hr.below hb_3 (Nat.le_refl _)
    replace hb := hb.trans (hb_3.mono hb.size)
    clear hb_3
    obtain ⟨ol, cl, rfl, _, _, _⟩ := hl
    obtain ⟨or', cr, rfl, _, _, _⟩ := hr
    go_wp2
    go_ret
    exact ⟨rfl, hb⟩
  · obtain ⟨k, rfl⟩ : ∃ k : Nat, n = k := ⟨n.toNat, by omega⟩
    have e3 : shrI k = 0 := by unfold shrI; rw [if_neg h0]
    have e4 : shrD (val xs) k = dig (val xs / 2 ^ k) := by unfold shrD; rw [if_neg h0, Int.toNat_natCast]
    have lr := dig_shr_length xs okx (2 ^ k)
    have E3 := hide e3
    have E4 := hide e4
    clear e3 e4
    by_cases h1 : 65536 < (k : Int)
    · have e1 : shlI k = 12 := by unfold shlI; rw [if_neg h0, if_pos h1]
      have e2 : shlD (val xs) k = [] := by unfold shlD; rw [if_pos (.inr h1)]
      have E1 := hide e1
      have E2 := hide e2
      clear e1 e2
      go_enter Tryd.func8, Tryd.ntmps8
      have hb := Below.refl w.heap.size w
      go_wp2_with fail
      refine (shl_rd k hx (by omega)).mono ?_
      rintro e w_1 ⟨vl, rfl, hl, hb_1⟩
      replace hx := hx.below hb_1 (Nat.le_refl _)
      replace hb := hb.trans (hb_1.mono hb.size)
      clear hb_1
      rw [E2.out] at hl
      replace hl := hl.rd
      rw [E1.out]
      go_wp2_with fail
      refine (shr_rd k hx (by omega) hhi).mono ?_
      rintro e w_2 ⟨vr, rfl, hr, hb_2⟩
      replace hx := hx.below hb_2 (Nat.le_refl _)
      replace hl := hl.below hb_2 (Nat.le_refl _)
      replace hb := hb.trans (hb_2.mono hb.size)
      clear hb_2
      rw [E4.out] at hr
      replace hr := hr.rd
      rw [E3.out]
      go_wp2_with fail
      refine (awake_any _ (htabs _ hb)).mono ?_
      rintro e w_3 ⟨rfl, hb_3⟩
      replace hx := hx.below hb_3 (Nat.le_refl _)
      replace hl := hl.below hb_3 (Nat.le_refl _)
      replace hr := hr.below hb_3 (Nat.le_refl _)
      replace hb := hb.trans (hb_3.mono hb.size)
      clear hb_3
      go_wp2_with fail
      refine (rshr_rd k hx (by omega) (by omega)).mono ?_
      rintro e w_4 ⟨v2, rfl, h2, hb_4⟩
      replace hx := hx.below hb_4 (Nat.le_refl _)
      replace hl := hl.below hb_4 (Nat.le_refl _)
      replace hr := hr.below hb_4 (Nat.le_refl _)
      replace hb := hb.trans (hb_4.mono hb.size)
      clear hb_4
      go_wp2_with fail
      refine (is_any _ _ _ _ _ (by omega) (by omega) hr h2).mono ?_
      rintro e w_5 ⟨rfl, hb_5⟩
      replace hx := hx.below hb_5 (Nat.le_refl _)
      replace hl := hl.below hb_5 (Nat.le_refl _)
      replace hr := hr.below hb_5 (Nat.le_refl _)
      replace h2 := h2.below hb_5 (Nat.le_refl _)
      replace hb := hb.trans (hb_5.mono hb.size)
      clear hb_5
      rw [decide_dig]
      obtain ⟨ol, cl, rfl, _, _, _⟩ := hl
      go_wp2
      go_ret
      exact ⟨rfl, hb⟩
    · have e1 : shlI k = 0 := by unfold shlI; rw [if_neg h0, if_neg h1]
      have e2 : shlD (val xs) k = dig (val xs * 2 ^ k) := by unfold shlD; rw [if_neg (by omega), Int.toNat_natCast]
      have ll := dig_shl_length xs okx k (by omega)
      have E1 := hide e1
      have E2 := hide e2
      clear e1 e2
      go_enter Tryd.func8, Tryd.ntmps8
      have hb := Below.refl w.heap.size w
      go_wp2_with fail
      refine (shl_rd k hx (by omega)).mono ?_
      rintro e w_1 ⟨vl, rfl, hl, hb_1⟩
      replace hx := hx.below hb_1 (Nat.le_refl _)
      replace hb := hb.trans (hb_1.mono hb.size)
      clear hb_1
      rw [E2.out] at hl
      replace hl := hl.rd
      rw [E1.out]
      go_wp2_with fail
      refine (shr_rd k hx (by omega) hhi).mono ?_
      rintro e w_2 ⟨vr, rfl, hr, hb_2⟩
      replace hx := hx.below hb_2 (Nat.le_refl _)
      replace hl := hl.below hb_2 (Nat.le_refl _)
      replace hb := hb.trans (hb_2.mono hb.size)
      clear hb_2
      rw [E4.out] at hr
      replace hr := hr.rd
      rw [E3.out]
      go_wp2_with fail
      refine (awake_any _ (htabs _ hb)).mono ?_
      rintro e w_3 ⟨rfl, hb_3⟩
      replace hx := hx.below hb_3 (Nat.le_refl _)
      replace hl := hl.below hb_3 (Nat.le_refl _)
      replace hr := hr.below hb_3 (Nat.le_refl _)
      replace hb := hb.trans (hb_3.mono hb.size)
      clear hb_3
      go_wp2_with fail
      refine (rshr_rd k hx (by omega) (by omega)).mono ?_
      rintro e w_4 ⟨v2, rfl, h2, hb_4⟩
      replace hx := hx.below hb_4 (Nat.le_refl _)
      replace hl := hl.below hb_4 (Nat.le_refl _)
      replace hr := hr.below hb_4 (Nat.le_refl _)
      replace hb := hb.trans (hb_4.mono hb.size)
      clear hb_4
      go_wp2_with fail
      refine (is_any _ _ _ _ _ (by omega) (by omega) hr h2).mono ?_
      rintro e w_5 ⟨rfl, hb_5⟩
      replace hx := hx.below hb_5 (Nat.le_refl _)
      replace hl := hl.below hb_5 (Nat.le_refl _)
      replace hr := hr.below hb_5 (Nat.le_refl _)
      replace h2 := h2.below hb_5 (Nat.le_refl _)
      replace hb := hb.trans (hb_5.mono hb.size)
      clear hb_5
      rw [decide_dig]
      go_wp2_with fail
      refine (rshl_rd k hx (by omega) (by omega)).mono ?_
      rintro e w_6 ⟨v3, rfl, h3, hb_6⟩
      replace hx := hx.below hb_6 (Nat.le_refl _)
      replace hl := hl.below hb_6 (Nat.le_refl _)
      replace hr := hr.below hb_6 (Nat.le_refl _)
      replace h2 := h2.below hb_6 (Nat.le_refl _)
      replace hb := hb.trans (hb_6.mono hb.size)
      clear hb_6
      go_wp2_with fail
      refine (is_any _ _ _ _ _ (by omega) (by omega) hl h3).mono ?_
      rintro e w_7 ⟨rfl, hb_7⟩
      replace hx := hx.below hb_7 (Nat.le_refl _)
      replace hl := hl.below hb_7 (Nat.le_refl _)
      replace hr := hr.below hb_7 (Nat.le_refl _)
      replace h2 := h2.below hb_7 (Nat.le_refl _)
      replace h3 := h3.below hb_7 (Nat.le_refl _)
      replace hb := hb.trans (hb_7.mono hb.size)
      clear hb_7
      rw [decide_dig]
      go_wp2
      go_ret
      exact ⟨rfl, hb⟩
end Go.Proofs.YtpjibjcbaohlaaaDoor
