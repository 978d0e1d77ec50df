/- The law NatPowers returns true for every slice of at most 2^20 digits and every exponent, and writes nothing that was there. -/
import Derived.Test.YtdjfgpfeepbnaaaDoorR19
namespace Go.Proofs.YtdjfgpfeepbnaaaDoor
open Go.RowKit Dig

theorem pow_neg {w : World} {va : Value} {xs : List Nat} (n : Int) (_hx : Rd w va xs) (hn : n < 0) :
    Calls Tryd.prog 19 #[va, .int .i64 n] w fun e w' => ∃ v, e = .returned (.tuple #[v, .int .i64 9]) ∧ Own w' w.heap.size v [] ∧ Below w.heap.size w w' := by
  go_enter Tryd.func19, Tryd.ntmps19
  go_wp2
  go_ret2
  exact ⟨_, rfl, Own.nil _ _ _, Below.refl _ _⟩

theorem pow_big {w : World} {va : Value} {xs : List Nat} (n : Int) (hx : Rd w va xs) (hxl : xs.length ≤ 1048576) (hn : 0 ≤ n) (h1 : 1 < bitsN (val xs)) (h2 : 65536 / (bitsN (val xs) : Int) < n) :
    Calls Tryd.prog 19 #[va, .int .i64 n] w fun e w' => ∃ v, e = .returned (.tuple #[v, .int .i64 12]) ∧ Own w' w.heap.size v [] ∧ Below w.heap.size w w' := by
  have hbl := bitsN_bound2 (val_lt hx.ok)
  obtain ⟨b, hb'⟩ : ∃ b, bitsN (val xs) = b := ⟨_, rfl⟩
  rw [hb'] at h1 h2 hbl
  have HB := hide hb'
  clear hb'
  have h1i : (1 : Int) < (b : Int) := by omega
  go_enter Tryd.func19, Tryd.ntmps19
  have hb := Below.refl w.heap.size w
  go_wp2_with fail
  refine (bits_rd' hx (by omega)).mono ?_
  rintro e w_1 ⟨rfl, hb_1⟩
  replace hx := hx.below hb_1 (Nat.le_refl _)
  replace hb := hb.trans (hb_1.mono hb.size)
  clear hb_1
  rw [HB.out]
  go_wp2
  go_ret2
  exact ⟨_, rfl, Own.nil _ _ _, hb⟩

set_option maxHeartbeats 1000000 in
theorem walk_NatPowers (w : World) (va : Value) (xs : List Nat) (hx : Rd w va xs) (hxl : xs.length ≤ 1048576) (n : Int) (hlo : -9223372036854775808 ≤ n) (hhi : n ≤ 9223372036854775807) (htab : Lib.TabIs Tryd.prog w p10 .u64 Lib.pow10Tab) :
    Calls Tryd.prog 6 #[va, .int .i64 n] w fun e w' => e = .returned (.bool true) ∧ Below w.heap.size w w' := by
  have htabs := Lib.tabBelow_of_tabIs htab
  have hbl := bitsN_bound2 (val_lt hx.ok)
  by_cases hn : n < 0
  · go_enter Tryd.func6, Tryd.ntmps6
    have hb := Below.refl w.heap.size w
    go_wp2_with fail
    refine (pow_neg n hx hn).mono ?_
    rintro e w_1 ⟨vp, rfl, hp, hb_1⟩
    replace hx := hx.below hb_1 (Nat.le_refl _)
    replace hb := hb.trans (hb_1.mono hb.size)
    clear hb_1
    replace hp := hp.rd
    go_wp2_with fail
    refine (awake_any _ (htabs _ hb)).mono ?_
    rintro e w_2 ⟨rfl, hb_2⟩
    replace hx := hx.below hb_2 (Nat.le_refl _)
    replace hp := hp.below hb_2 (Nat.le_refl _)
    replace hb := hb.trans (hb_2.mono hb.size)
    clear hb_2
    obtain ⟨o1, c1, rfl, _, _, _⟩ := hp
    go_wp2
    go_ret
    exact ⟨rfl, hb⟩
  · obtain ⟨m, rfl⟩ : ∃ m : Nat, n = m := ⟨n.toNat, by omega⟩
    obtain ⟨b, hb'⟩ : ∃ b, bitsN (val xs) = b := ⟨_, rfl⟩
    rw [hb'] at hbl
    have HB := hide hb'
    by_cases hbig : 1 < b ∧ 65536 / (b : Int) < (m : Int)
    · have h1i : (1 : Int) < (b : Int) := by omega
      have h2i := hbig.2
      have hpb := pow_big (m : Int) hx hxl (by omega) (by rw [hb']; exact hbig.1) (by rw [hb']; exact hbig.2)
      clear hb' hbig
      go_enter Tryd.func6, Tryd.ntmps6
      have hb := Below.refl w.heap.size w
      go_wp2_with fail
      refine (hpb).mono ?_
      rintro e w_1 ⟨vp, rfl, hp, hb_1⟩
      replace hx := hx.below hb_1 (Nat.le_refl _)
      replace hb := hb.trans (hb_1.mono hb.size)
      clear hb_1
      replace hp := hp.rd
      go_wp2_with fail
      refine (awake_any _ (htabs _ hb)).mono ?_
      rintro e w_2 ⟨rfl, hb_2⟩
      replace hx := hx.below hb_2 (Nat.le_refl _)
      replace hp := hp.below hb_2 (Nat.le_refl _)
      replace hb := hb.trans (hb_2.mono hb.size)
      clear hb_2
      go_wp2_with fail
      refine (rbits_rd' hx (by omega)).mono ?_
      rintro e w_3 ⟨rfl, hb_3⟩
      replace hx := hx.below hb_3 (Nat.le_refl _)
      replace hp := hp.below hb_3 (Nat.le_refl _)
      replace hb := hb.trans (hb_3.mono hb.size)
      clear hb_3
      rw [HB.out]
      obtain ⟨o1, c1, rfl, _, _, _⟩ := hp
      go_wp2
      go_ret
      exact ⟨rfl, hb⟩
    · have hok : bitsN (val xs) ≤ 1 ∨ (m : Int) ≤ 65536 / (bitsN (val xs) : Int) := by
        rw [hb']
        rcases Nat.lt_or_ge 1 b with h | h
        · exact .inr (by have : ¬ (65536 / (b : Int) < (m : Int)) := fun h3 => hbig ⟨h, h3⟩; omega)
        · exact .inl h
      have hlen : ∀ k, k ≤ m → (dig (val xs ^ k)).length ≤ 1048576 := fun k hk => by
        rcases Nat.lt_or_ge 1 b with h | h
        · have hq : (m : Int) ≤ 65536 / (b : Int) := by
            have : ¬ (65536 / (b : Int) < (m : Int)) := fun h3 => hbig ⟨h, h3⟩
            omega
          have hm : m * b ≤ 65536 := by
            have h4 : m ≤ 65536 / b := by
              have e : (65536 : Int) / (b : Int) = ((65536 / b : Nat) : Int) := by simp
              rw [e] at hq; omega
            exact (Nat.le_div_iff_mul_le (by omega)).1 h4
          have h5 : val xs < 2 ^ b := by have := bitsN_lt (val xs); rwa [hb'] at this
          obtain ⟨T, hT⟩ : ∃ T, 65536 = T := ⟨_, rfl⟩
          rw [hT] at hm
          refine Nat.le_trans (dig_length_le (k := T) ?_) (by omega)
          rw [pw_eq]
          have h6 : val xs ^ k ≤ (2 ^ b) ^ k := Nat.pow_le_pow_left (Nat.le_of_lt h5) k
          rw [← Nat.pow_mul] at h6
          refine Nat.lt_of_le_of_lt h6 (Nat.pow_lt_pow_right (by decide) ?_)
          have h7 : b * k ≤ m * b := by rw [Nat.mul_comm]; exact Nat.mul_le_mul_right _ hk
          omega
        · have h8 : val xs ≤ 1 := bitsN_le_one.1 (by rw [hb']; exact h)
          have h9 : val xs ^ k ≤ 1 := by
            have := Nat.pow_le_pow_left h8 k
            rwa [Nat.one_pow] at this
          exact Nat.le_trans (dig_length_mono h9) (by decide)
      have hnb : ¬ (1 < b ∧ 65536 / (b : Int) < (m : Int)) := hbig
      have e1 : ∀ z, decide (dig z = strip (dig z)) = true := fun z => by rw [strip_dig]; simp
      have hl := hlen m (Nat.le_refl _)
      have hpw := pow_walk m hx hxl (by omega) hlen hok
      have HNB := hide hnb
      clear hlen hok hnb hbig hb'
      rcases Nat.lt_or_ge 1 b with h | h
      · have h1i : (1 : Int) < (b : Int) := by omega
        have h2i : ¬ (65536 / (b : Int) < (m : Int)) := fun h3 => HNB.out ⟨h, h3⟩
        go_enter Tryd.func6, Tryd.ntmps6
        have hb := Below.refl w.heap.size w
        go_wp2_with fail
        refine (hpw).mono ?_
        rintro e w_1 ⟨vp, rfl, hp, hb_1⟩
        replace hx := hx.below hb_1 (Nat.le_refl _)
        replace hb := hb.trans (hb_1.mono hb.size)
        clear hb_1
        replace hp := hp.rd
        go_wp2_with fail
        refine (awake_any _ (htabs _ hb)).mono ?_
        rintro e w_2 ⟨rfl, hb_2⟩
        replace hx := hx.below hb_2 (Nat.le_refl _)
        replace hp := hp.below hb_2 (Nat.le_refl _)
        replace hb := hb.trans (hb_2.mono hb.size)
        clear hb_2
        go_wp2_with fail
        refine (rbits_rd' hx (by omega)).mono ?_
        rintro e w_3 ⟨rfl, hb_3⟩
        replace hx := hx.below hb_3 (Nat.le_refl _)
        replace hp := hp.below hb_3 (Nat.le_refl _)
        replace hb := hb.trans (hb_3.mono hb.size)
        clear hb_3
        rw [HB.out]
        go_wp2_with fail
        refine (rpow_rd m hx hxl (by omega) hl).mono ?_
        rintro e w_4 ⟨v2, rfl, h2, hb_4⟩
        replace hx := hx.below hb_4 (Nat.le_refl _)
        replace hp := hp.below hb_4 (Nat.le_refl _)
        replace hb := hb.trans (hb_4.mono hb.size)
        clear hb_4
        go_wp2_with fail
        refine (is_any _ _ _ _ _ (by omega) (by omega) hp h2).mono ?_
        rintro e w_5 ⟨rfl, hb_5⟩
        replace hx := hx.below hb_5 (Nat.le_refl _)
        replace hp := hp.below hb_5 (Nat.le_refl _)
        replace h2 := h2.below hb_5 (Nat.le_refl _)
        replace hb := hb.trans (hb_5.mono hb.size)
        clear hb_5
        rw [e1]
        go_wp2
        go_ret
        exact ⟨rfl, hb⟩
      · have h1i : ¬ (1 : Int) < (b : Int) := by omega
        go_enter Tryd.func6, Tryd.ntmps6
        have hb := Below.refl w.heap.size w
        go_wp2_with fail
        refine (hpw).mono ?_
        rintro e w_1 ⟨vp, rfl, hp, hb_1⟩
        replace hx := hx.below hb_1 (Nat.le_refl _)
        replace hb := hb.trans (hb_1.mono hb.size)
        clear hb_1
        replace hp := hp.rd
        go_wp2_with fail
        refine (awake_any _ (htabs _ hb)).mono ?_
        rintro e w_2 ⟨rfl, hb_2⟩
        replace hx := hx.below hb_2 (Nat.le_refl _)
        replace hp := hp.below hb_2 (Nat.le_refl _)
        replace hb := hb.trans (hb_2.mono hb.size)
        clear hb_2
        go_wp2_with fail
        refine (rbits_rd' hx (by omega)).mono ?_
        rintro e w_3 ⟨rfl, hb_3⟩
        replace hx := hx.below hb_3 (Nat.le_refl _)
        replace hp := hp.below hb_3 (Nat.le_refl _)
        replace hb := hb.trans (hb_3.mono hb.size)
        clear hb_3
        rw [HB.out]
        go_wp2_with fail
        refine (rpow_rd m hx hxl (by omega) hl).mono ?_
        rintro e w_4 ⟨v2, rfl, h2, hb_4⟩
        replace hx := hx.below hb_4 (Nat.le_refl _)
        replace hp := hp.below hb_4 (Nat.le_refl _)
        replace hb := hb.trans (hb_4.mono hb.size)
        clear hb_4
        go_wp2_with fail
        refine (is_any _ _ _ _ _ (by omega) (by omega) hp h2).mono ?_
        rintro e w_5 ⟨rfl, hb_5⟩
        replace hx := hx.below hb_5 (Nat.le_refl _)
        replace hp := hp.below hb_5 (Nat.le_refl _)
        replace h2 := h2.below hb_5 (Nat.le_refl _)
        replace hb := hb.trans (hb_5.mono hb.size)
        clear hb_5
        rw [e1]
        go_wp2
        go_ret
        exact ⟨rfl, hb⟩
end Go.Proofs.YtdjfgpfeepbnaaaDoor
