/- The law NatTexts returns true for every slice of at most 2^20 digits and every text of at most 2^20 bytes, and writes nothing that was there. -/
import Derived.Test.YtpjibjcbaohlaabDoorR2
import Derived.Test.YtpjibjcbaohlaabDoorR11
import Derived.Test.YtpjibjcbaohlaabDoorR12
namespace Go.Proofs.YtpjibjcbaohlaabDoor
open Go.RowKit Dig

set_option maxHeartbeats 800000 in
theorem walk_NatTexts (w : World) (va : Value) (xs : List Nat) (hx : Rd w va xs) (hxl : xs.length ≤ 1048576) (s : ByteArray) (hs : s.size ≤ 1048576) (htab : Lib.TabIs Tryd.prog w p10 .u64 Lib.pow10Tab) :
    Calls Tryd.prog 6 #[va, .string s] w fun e w' => e = .returned (.bool true) ∧ Below w.heap.size w w' := by
  have htabs := Lib.tabBelow_of_tabIs htab
  by_cases h1 : 65536 < s.size
  · have e1 : parseI s = 12 := by unfold parseI; rw [if_pos h1]
    have e2 : parseD s = [] := by unfold parseD; rw [if_pos h1]
    have E1 := hide e1
    have E2 := hide e2
    clear e1 e2
    go_enter Tryd.func6, Tryd.ntmps6
    have hb := Below.refl w.heap.size w
    go_wp2_with fail
    refine (parse_any s _ (by omega)).mono ?_
    rintro e w_1 ⟨vn, rfl, hn, hb_1⟩
    replace hx := hx.below hb_1 (Nat.le_refl _)
    replace hb := hb.trans (hb_1.mono hb.size)
    clear hb_1
    rw [E2.out] at hn
    rw [E1.out]
    go_wp2_with fail
    refine (awake_any _ (htabs _ hb)).mono ?_
    rintro e w_2 ⟨rfl, hb_2⟩
    replace hx := hx.below hb_2 (Nat.le_refl _)
    replace hn := hn.below hb_2 (Nat.le_refl _)
    replace hb := hb.trans (hb_2.mono hb.size)
    clear hb_2
    go_wp2_with fail
    refine (text_rd hx (by omega) (htabs _ hb)).mono ?_
    rintro e w_3 ⟨rfl, hb_3⟩
    replace hx := hx.below hb_3 (Nat.le_refl _)
    replace hn := hn.below hb_3 (Nat.le_refl _)
    replace hb := hb.trans (hb_3.mono hb.size)
    clear hb_3
    go_wp2_with fail
    refine (rtext_any hx (by omega)).mono ?_
    rintro e w_4 ⟨rfl, hb_4⟩
    replace hx := hx.below hb_4 (Nat.le_refl _)
    replace hn := hn.below hb_4 (Nat.le_refl _)
    replace hb := hb.trans (hb_4.mono hb.size)
    clear hb_4
    obtain ⟨on, cn, rfl, _, _, _⟩ := hn
    go_wp2
    go_ret
    exact ⟨rfl, hb⟩
  · by_cases h2 : digitsB s.data.toList = true
    · have e1 : parseI s = 0 := by unfold parseI; rw [if_neg h1, if_pos h2]
      have e2 : parseD s = dig (pval s.data.toList) := by unfold parseD; rw [if_neg h1, if_pos h2]
      have hall : s.data.toList.all isD = true := by unfold digitsB at h2; rw [Bool.and_eq_true] at h2; exact h2.1
      have hl := pval_dig_length hall (by rw [Array.length_toList]; show s.size ≤ 65536; omega)
      have ed : decide (dig (pval s.data.toList) = strip (dig (pval s.data.toList))) = true := by rw [strip_dig]; simp
      have E1 := hide e1
      have E2 := hide e2
      have HA := hide hall
      have H2 := hide h2
      clear e1 e2 hall h2
      go_enter Tryd.func6, Tryd.ntmps6
      have hb := Below.refl w.heap.size w
      go_wp2_with fail
      refine (parse_any s _ (by omega)).mono ?_
      rintro e w_1 ⟨vn, rfl, hn, hb_1⟩
      replace hx := hx.below hb_1 (Nat.le_refl _)
      replace hb := hb.trans (hb_1.mono hb.size)
      clear hb_1
      rw [E2.out] at hn
      rw [E1.out]
      go_wp2_with fail
      refine (awake_any _ (htabs _ hb)).mono ?_
      rintro e w_2 ⟨rfl, hb_2⟩
      replace hx := hx.below hb_2 (Nat.le_refl _)
      replace hn := hn.below hb_2 (Nat.le_refl _)
      replace hb := hb.trans (hb_2.mono hb.size)
      clear hb_2
      go_wp2_with fail
      refine (text_rd hx (by omega) (htabs _ hb)).mono ?_
      rintro e w_3 ⟨rfl, hb_3⟩
      replace hx := hx.below hb_3 (Nat.le_refl _)
      replace hn := hn.below hb_3 (Nat.le_refl _)
      replace hb := hb.trans (hb_3.mono hb.size)
      clear hb_3
      go_wp2_with fail
      refine (rtext_any hx (by omega)).mono ?_
      rintro e w_4 ⟨rfl, hb_4⟩
      replace hx := hx.below hb_4 (Nat.le_refl _)
      replace hn := hn.below hb_4 (Nat.le_refl _)
      replace hb := hb.trans (hb_4.mono hb.size)
      clear hb_4
      go_wp2_with fail
      refine (rDigits_any s _ (by omega)).mono ?_
      rintro e w_d ⟨rfl, rfl⟩
      rw [H2.out]
      go_wp2_with fail
      refine (rparse_any s _ (by omega) HA.out).mono ?_
      rintro e w_5 ⟨vp, rfl, hp, hb_5⟩
      replace hx := hx.below hb_5 (Nat.le_refl _)
      replace hn := hn.below hb_5 (Nat.le_refl _)
      replace hb := hb.trans (hb_5.mono hb.size)
      clear hb_5
      go_wp2_with fail
      refine (is_any _ _ _ _ _ (by omega) (by omega) hn hp).mono ?_
      rintro e w_6 ⟨rfl, hb_6⟩
      replace hx := hx.below hb_6 (Nat.le_refl _)
      replace hn := hn.below hb_6 (Nat.le_refl _)
      replace hp := hp.below hb_6 (Nat.le_refl _)
      replace hb := hb.trans (hb_6.mono hb.size)
      clear hb_6
      rw [ed]
      go_wp2
      go_ret
      exact ⟨rfl, hb⟩
    · have e1 : parseI s = 7 := by unfold parseI; rw [if_neg h1, if_neg h2]
      have e2 : parseD s = [] := by unfold parseD; rw [if_neg h1, if_neg h2]
      have h2' : digitsB s.data.toList = false := by simpa using h2
      have E1 := hide e1
      have E2 := hide e2
      have H2 := hide h2'
      clear e1 e2 h2 h2'
      go_enter Tryd.func6, Tryd.ntmps6
      have hb := Below.refl w.heap.size w
      go_wp2_with fail
      refine (parse_any s _ (by omega)).mono ?_
      rintro e w_1 ⟨vn, rfl, hn, hb_1⟩
      replace hx := hx.below hb_1 (Nat.le_refl _)
      replace hb := hb.trans (hb_1.mono hb.size)
      clear hb_1
      rw [E2.out] at hn
      rw [E1.out]
      go_wp2_with fail
      refine (awake_any _ (htabs _ hb)).mono ?_
      rintro e w_2 ⟨rfl, hb_2⟩
      replace hx := hx.below hb_2 (Nat.le_refl _)
      replace hn := hn.below hb_2 (Nat.le_refl _)
      replace hb := hb.trans (hb_2.mono hb.size)
      clear hb_2
      go_wp2_with fail
      refine (text_rd hx (by omega) (htabs _ hb)).mono ?_
      rintro e w_3 ⟨rfl, hb_3⟩
      replace hx := hx.below hb_3 (Nat.le_refl _)
      replace hn := hn.below hb_3 (Nat.le_refl _)
      replace hb := hb.trans (hb_3.mono hb.size)
      clear hb_3
      go_wp2_with fail
      refine (rtext_any hx (by omega)).mono ?_
      rintro e w_4 ⟨rfl, hb_4⟩
      replace hx := hx.below hb_4 (Nat.le_refl _)
      replace hn := hn.below hb_4 (Nat.le_refl _)
      replace hb := hb.trans (hb_4.mono hb.size)
      clear hb_4
      go_wp2_with fail
      refine (rDigits_any s _ (by omega)).mono ?_
      rintro e w_d ⟨rfl, rfl⟩
      rw [H2.out]
      obtain ⟨on, cn, rfl, _, _, _⟩ := hn
      go_wp2
      go_ret
      exact ⟨rfl, hb⟩
end Go.Proofs.YtpjibjcbaohlaabDoor
