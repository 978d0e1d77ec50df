/- The law NatBack returns true for every slice of at most 2^20 digits and every int, and writes nothing that was there. -/
import Derived.Test.YtpjibjcbaohlaacDoorR2
import Derived.Test.YtpjibjcbaohlaacDoorW10
import Derived.Test.YtpjibjcbaohlaacDoorW12
namespace Go.Proofs.YtpjibjcbaohlaacDoor
open Go.RowKit Dig Go.Lib

theorem i64_and255 (n : Int) : bits .and .i64 n 255 = n % 256 := by
  have h255 : (BitVec.ofInt 64 255).toNat = 2 ^ 8 - 1 := by decide
  have key : (BitVec.ofInt 64 n &&& BitVec.ofInt 64 255).toNat = (n % ((2 ^ 64 : Nat) : Int)).toNat % 2 ^ 8 := by
    rw [BitVec.toNat_and, BitVec.toNat_ofInt, h255, Nat.and_two_pow_sub_one_eq_mod]
  show IntKind.i64.wrap ((BitVec.ofInt 64 n &&& BitVec.ofInt 64 255).toNat : Nat) = n % 256
  rw [key, IntKind.wrap_i64]
  omega

theorem b8_nat (d : Nat) (h : d < 10) : (UInt8.ofNat (48 + d)).toNat = 48 + d := by
  rw [UInt8.toNat_ofNat']
  omega
theorem isD_b8 (d : Nat) (h : d < 10) : isD (UInt8.ofNat (48 + d)) = true := by
  unfold isD
  rw [b8_nat d h]
  exact decide_eq_true (by omega)

theorem dec_one (d : Nat) (h : d < 10) : decDigits d = [UInt8.ofNat (48 + d)] := by
  rw [decDigits, dif_pos h]
theorem dec_more (n : Nat) (h : ¬ n < 10) : decDigits n = decDigits (n / 10) ++ [UInt8.ofNat (48 + n % 10)] := by
  rw [decDigits, dif_neg h]

theorem dec_facts (n : Nat) : (decDigits n).all isD = true ∧ pval (decDigits n) = n ∧ 0 < (decDigits n).length ∧ (0 < n → ∃ c, (decDigits n)[0]? = some c ∧ 48 < c.toNat) := by
  induction n using Nat.strongRecOn with
  | ind n ih =>
    by_cases h : n < 10
    · rw [dec_one n h]
      refine ⟨by rw [List.all_cons, isD_b8 n h]; rfl, ?_, by simp, fun hp => ⟨_, rfl, by rw [b8_nat n h]; omega⟩⟩
      simp only [pval, List.foldl_cons, List.foldl_nil, b8_nat n h]
      omega
    · rw [dec_more n h]
      obtain ⟨h1, h2, h3, h4⟩ := ih (n / 10) (by omega)
      refine ⟨by rw [List.all_append, h1, List.all_cons, isD_b8 (n % 10) (by omega)]; rfl, ?_, by simp, fun _ => ?_⟩
      · rw [pval_snoc, h2, b8_nat _ (by omega)]; omega
      · obtain ⟨c, hc, hk⟩ := h4 (by omega)
        exact ⟨c, by rw [List.getElem?_append_left h3]; exact hc, hk⟩

theorem pw_le_ten (L : Nat) : pw L ≤ 10 ^ (10 * L) := by
  rw [pw_eq, Nat.pow_mul, Nat.pow_mul]
  exact Nat.pow_le_pow_left (by decide) L

theorem dec_len {n L : Nat} (h : n < pw L) (hL : 0 < L) : (decDigits n).length ≤ 10 * L :=
  decDigits_length_le _ _ (by omega) (Nat.lt_of_lt_of_le h (pw_le_ten L))

theorem shl_rd {w : World} {va : Value} {xs : List Nat} (n : Int) (hx : Rd w va xs) (hxl : xs.length ≤ 100000000000) :
    Calls Tryd.prog 8 #[va, .int .i64 n] w fun e w' => ∃ v, e = .returned (.tuple #[v, .int .i64 (shlI n)]) ∧ Own w' w.heap.size v (shlD (val xs) n) ∧ Below w.heap.size w w' := by
  obtain ⟨oa, ca, rfl, hca, okx, hcx⟩ := hx
  exact shl_any oa ca xs n w hxl hca okx hcx
theorem shr_rd {w : World} {va : Value} {xs : List Nat} (n : Int) (hx : Rd w va xs) (hxl : xs.length ≤ 100000000000) (hn : n ≤ 9223372036854775807) :
    Calls Tryd.prog 9 #[va, .int .i64 n] w fun e w' => ∃ v, e = .returned (.tuple #[v, .int .i64 (shrI n)]) ∧ Own w' w.heap.size v (shrD (val xs) n) ∧ Below w.heap.size w w' := by
  obtain ⟨oa, ca, rfl, hca, okx, hcx⟩ := hx
  exact shr_any oa ca xs n w hxl hca okx hcx hn
set_option maxHeartbeats 800000 in
theorem walk_NatBack (w : World) (va : Value) (xs : List Nat) (hx : Rd w va xs) (hxl : xs.length ≤ 1048576) (n : Int) (_hlo : -9223372036854775808 ≤ n) (_hhi : n ≤ 9223372036854775807) (htab : Lib.TabIs Tryd.prog w p10 .u64 Lib.pow10Tab) :
    Calls Tryd.prog 3 #[va, .int .i64 n] w fun e w' => e = .returned (.bool true) ∧ Below w.heap.size w w' := by
  have htabs := Lib.tabBelow_of_tabIs htab
  have okx := hx.ok
  have m1 : val xs < pw 1048576 := Nat.lt_of_lt_of_le (val_lt hx.ok) (pw_mono hxl)
  have dl := dec_len m1 (by omega)
  have dx := dig_val okx
  have slx := strip_length_le xs
  clear m1
  obtain ⟨k, hk, hk2⟩ : ∃ k : Nat, k < 256 ∧ bits .and .i64 n 255 = (k : Int) := ⟨(n % 256).toNat, by omega, by rw [i64_and255]; omega⟩
  obtain ⟨fa, fv, fl, fh⟩ := dec_facts (val xs)
  have e1 : shlI k = 0 := by unfold shlI; rw [if_neg (by omega), if_neg (by omega)]
  have e2 : shlD (val xs) k = dig (val xs * 2 ^ k) := by unfold shlD; rw [if_neg (by omega), Int.toNat_natCast]
  have e3 : shrI k = 0 := by unfold shrI; rw [if_neg (by omega)]
  have e4 : shrD (val xs * 2 ^ k) k = dig (val xs) := by unfold shrD; rw [if_neg (by omega), Int.toNat_natCast, Nat.mul_div_cancel _ (Nat.two_pow_pos k)]
  have ll : (dig (val xs * 2 ^ k)).length ≤ xs.length + 2049 := by
    refine dig_length_le ?_
    rw [pw_add]
    exact Nat.mul_lt_mul_of_lt_of_le (val_lt okx) (two_le_pw' (by omega)) (pw_pos _)
  generalize hD : decDigits (val xs) = D at *
  generalize hX : val xs = X at *
  have E1 := hide e1
  have E2 := hide e2
  have E3 := hide e3
  have E4 := hide e4
  have HX := hide hX
  have HD := hide hD
  have DX := hide dx
  have FA := hide fa
  have FV := hide fv
  have FH := hide fh
  clear e1 e2 e3 e4 hX hD dx fa fv fh
  have hs1 : (⟨D.toArray⟩ : ByteArray).size = D.length := by simp [ByteArray.size]
  have dg : digitsB D = true := by
    unfold digitsB; rw [FA.out]
    match D, fl with
    | _ :: _, _ => rfl
  have hs2 : ((⟨#[48, 48]⟩ : ByteArray) ++ ⟨D.toArray⟩).size = D.length + 2 := by
    rw [ByteArray.size_append, hs1]; exact Nat.add_comm 2 _
  have hl2 : ((⟨#[48, 48]⟩ : ByteArray) ++ ⟨D.toArray⟩).data.toList = [48, 48] ++ D := by simp [ByteArray.data_append]
  have hv2 : pval ([48, 48] ++ D) = X := by
    rw [pval_append, FV.out]
    have e : pval [48, 48] = 0 := by decide
    rw [e]; omega
  have dg2 : digitsB ([48, 48] ++ D) = true := by
    unfold digitsB; rw [List.all_append, FA.out]; rfl
  have H2 := hide hs2
  by_cases hlong : 65534 < D.length
  · have p2 : parseI ((⟨#[48, 48]⟩ : ByteArray) ++ ⟨D.toArray⟩) = 12 := by unfold parseI; rw [hs2, if_pos (by omega)]
    have P2 := hide p2
    obtain ⟨r1, R1⟩ : ∃ r, Hid (parseI ⟨D.toArray⟩ = r) := ⟨_, hide rfl⟩
    obtain ⟨r2, R2⟩ : ∃ r, Hid (parseD ⟨D.toArray⟩ = r) := ⟨_, hide rfl⟩
    have l2 : r2.length ≤ 100000000000 := by
      rw [← R2.out]; unfold parseD; rw [hs1]
      by_cases hh : 65536 < D.length
      · rw [if_pos hh]; simp
      · rw [if_neg hh, if_pos (by simpa using dg)]
        have := pval_dig_length (l := D) FA.out (by omega)
        have e : (⟨D.toArray⟩ : ByteArray).data.toList = D := by simp
        rw [e]
        omega
    clear p2 dg dg2 hs2 hl2 hv2
    have hlong' : (65534 : Int) < (D.length : Int) := by omega
    go_enter Tryd.func3, Tryd.ntmps3
    have hb := Below.refl w.heap.size w
    go_wp2_with fail
    refine (awake_any _ (htabs _ hb)).mono ?_
    rintro e w_1 ⟨rfl, hb_1⟩
    replace hx := hx.below hb_1 (Nat.le_refl _)
    replace hb := hb.trans (hb_1.mono hb.size)
    clear hb_1
    go_wp2_with fail
    refine (text_rd hx (by omega) (htabs _ hb)).mono ?_
    rintro e w_2 ⟨rfl, hb_2⟩
    replace hx := hx.below hb_2 (Nat.le_refl _)
    replace hb := hb.trans (hb_2.mono hb.size)
    clear hb_2
    rw [HX.out, HD.out]
    go_wp2_with fail
    refine (parse_any ⟨D.toArray⟩ _ (by omega)).mono ?_
    rintro e w_3 ⟨vb, rfl, hvb, hb_3⟩
    replace hx := hx.below hb_3 (Nat.le_refl _)
    replace hb := hb.trans (hb_3.mono hb.size)
    clear hb_3
    rw [R2.out] at hvb
    rw [R1.out]
    go_wp2_with fail
    refine (parse_any _ _ (by rw [H2.out]; omega)).mono ?_
    rintro e w_4 ⟨vc, rfl, hvc, hb_4⟩
    replace hx := hx.below hb_4 (Nat.le_refl _)
    replace hvb := hvb.below hb_4 (Nat.le_refl _)
    replace hb := hb.trans (hb_4.mono hb.size)
    clear hb_4
    rw [P2.out]
    go_wp2_with fail
    refine (shl_rd k hx (by omega)).mono ?_
    rintro e w_5 ⟨vl, rfl, hl, hb_5⟩
    replace hx := hx.below hb_5 (Nat.le_refl _)
    replace hvb := hvb.below hb_5 (Nat.le_refl _)
    replace hb := hb.trans (hb_5.mono hb.size)
    clear hb_5
    rw [HX.out, E2.out] at hl
    replace hl := hl.rd
    rw [E1.out]
    go_wp2_with fail
    refine (shr_rd k hl (by omega) (by omega)).mono ?_
    rintro e w_6 ⟨vr, rfl, hr, hb_6⟩
    replace hx := hx.below hb_6 (Nat.le_refl _)
    replace hvb := hvb.below hb_6 (Nat.le_refl _)
    replace hl := hl.below hb_6 (Nat.le_refl _)
    replace hb := hb.trans (hb_6.mono hb.size)
    clear hb_6
    rw [val_dig, E4.out] at hr
    replace hr := hr.rd
    rw [E3.out]
    go_wp2
    go_ret
    exact ⟨rfl, hb⟩
  · have p1 : parseI ⟨D.toArray⟩ = 0 := by unfold parseI; rw [hs1, if_neg (by omega), if_pos (by simpa using dg)]
    have p2 : parseD ⟨D.toArray⟩ = dig X := by unfold parseD; rw [hs1, if_neg (by omega), if_pos (by simpa using dg)]; simp [FV.out]
    have q1 : parseI ((⟨#[48, 48]⟩ : ByteArray) ++ ⟨D.toArray⟩) = 0 := by unfold parseI; rw [hs2, if_neg (by omega), hl2, if_pos dg2]
    have q2 : parseD ((⟨#[48, 48]⟩ : ByteArray) ++ ⟨D.toArray⟩) = dig X := by unfold parseD; rw [hs2, if_neg (by omega), hl2, if_pos dg2, hv2]
    have P1 := hide p1
    have P2 := hide p2
    have Q1 := hide q1
    have Q2 := hide q2
    have lX : (dig X).length ≤ xs.length := by rw [DX.out]; exact slx
    have ed : decide (dig X = strip xs) = true := by rw [DX.out]; simp
    have hlong' : (D.length : Int) ≤ 65534 := by omega
    obtain ⟨m, hm, hmz, hmc⟩ : ∃ m : Nat, ((⟨D.toArray⟩ : ByteArray)[0]'(by rw [hs1]; exact fl)).toNat = m ∧ 48 ≤ m ∧ (48 < m ∨ D.length = 1) := by
      refine ⟨_, rfl, ?_⟩
      have e : ((⟨D.toArray⟩ : ByteArray)[0]'(by rw [hs1]; exact fl)) = D[0] := by
        show D.toArray[0]'(by simpa using fl) = D[0]
        simp
      rw [e]
      by_cases hx0 : 0 < X
      · obtain ⟨c, hc, hk⟩ := FH.out hx0
        rw [List.getElem?_eq_getElem fl] at hc
        have := Option.some.inj hc
        rw [this]
        exact ⟨by omega, .inl hk⟩
      · have h0 : X = 0 := by omega
        have hD0 := HD.out
        rw [h0, dec_one 0 (by decide)] at hD0
        subst hD0
        exact ⟨by rw [List.getElem_cons_zero, b8_nat 0 (by decide)]; omega, .inr rfl⟩
    clear p1 p2 q1 q2 dg dg2 hs2 hl2 hv2
    go_enter Tryd.func3, Tryd.ntmps3
    have hb := Below.refl w.heap.size w
    go_wp2_with fail
    refine (awake_any _ (htabs _ hb)).mono ?_
    rintro e w_1 ⟨rfl, hb_1⟩
    replace hx := hx.below hb_1 (Nat.le_refl _)
    replace hb := hb.trans (hb_1.mono hb.size)
    clear hb_1
    go_wp2_with fail
    refine (text_rd hx (by omega) (htabs _ hb)).mono ?_
    rintro e w_2 ⟨rfl, hb_2⟩
    replace hx := hx.below hb_2 (Nat.le_refl _)
    replace hb := hb.trans (hb_2.mono hb.size)
    clear hb_2
    rw [HX.out, HD.out]
    go_wp2_with fail
    refine (parse_any ⟨D.toArray⟩ _ (by omega)).mono ?_
    rintro e w_3 ⟨vb, rfl, hvb, hb_3⟩
    replace hx := hx.below hb_3 (Nat.le_refl _)
    replace hb := hb.trans (hb_3.mono hb.size)
    clear hb_3
    rw [P2.out] at hvb
    rw [P1.out]
    go_wp2_with fail
    refine (parse_any _ _ (by rw [H2.out]; omega)).mono ?_
    rintro e w_4 ⟨vc, rfl, hvc, hb_4⟩
    replace hx := hx.below hb_4 (Nat.le_refl _)
    replace hvb := hvb.below hb_4 (Nat.le_refl _)
    replace hb := hb.trans (hb_4.mono hb.size)
    clear hb_4
    rw [Q2.out] at hvc
    rw [Q1.out]
    go_wp2_with fail
    refine (shl_rd k hx (by omega)).mono ?_
    rintro e w_5 ⟨vl, rfl, hl, hb_5⟩
    replace hx := hx.below hb_5 (Nat.le_refl _)
    replace hvb := hvb.below hb_5 (Nat.le_refl _)
    replace hvc := hvc.below hb_5 (Nat.le_refl _)
    replace hb := hb.trans (hb_5.mono hb.size)
    clear hb_5
    rw [HX.out, E2.out] at hl
    replace hl := hl.rd
    rw [E1.out]
    go_wp2_with fail
    refine (shr_rd k hl (by omega) (by omega)).mono ?_
    rintro e w_6 ⟨vr, rfl, hr, hb_6⟩
    replace hx := hx.below hb_6 (Nat.le_refl _)
    replace hvb := hvb.below hb_6 (Nat.le_refl _)
    replace hvc := hvc.below hb_6 (Nat.le_refl _)
    replace hl := hl.below hb_6 (Nat.le_refl _)
    replace hb := hb.trans (hb_6.mono hb.size)
    clear hb_6
    rw [val_dig, E4.out] at hr
    replace hr := hr.rd
    rw [E3.out]
    go_wp2_with fail
    refine (is_any _ _ _ _ _ (by omega) (by omega) hvb hx).mono ?_
    rintro e w_7 ⟨rfl, hb_7⟩
    replace hx := hx.below hb_7 (Nat.le_refl _)
    replace hvb := hvb.below hb_7 (Nat.le_refl _)
    replace hvc := hvc.below hb_7 (Nat.le_refl _)
    replace hl := hl.below hb_7 (Nat.le_refl _)
    replace hr := hr.below hb_7 (Nat.le_refl _)
    replace hb := hb.trans (hb_7.mono hb.size)
    clear hb_7
    rw [ed]
    go_wp2_with fail
    refine (is_any _ _ _ _ _ (by omega) (by omega) hvc hx).mono ?_
    rintro e w_8 ⟨rfl, hb_8⟩
    replace hx := hx.below hb_8 (Nat.le_refl _)
    replace hvb := hvb.below hb_8 (Nat.le_refl _)
    replace hvc := hvc.below hb_8 (Nat.le_refl _)
    replace hl := hl.below hb_8 (Nat.le_refl _)
    replace hr := hr.below hb_8 (Nat.le_refl _)
    replace hb := hb.trans (hb_8.mono hb.size)
    clear hb_8
    rw [ed]
    go_wp2_with fail
    refine (is_any _ _ _ _ _ (by omega) (by omega) hr hx).mono ?_
    rintro e w_9 ⟨rfl, hb_9⟩
    replace hx := hx.below hb_9 (Nat.le_refl _)
    replace hvb := hvb.below hb_9 (Nat.le_refl _)
    replace hvc := hvc.below hb_9 (Nat.le_refl _)
    replace hl := hl.below hb_9 (Nat.le_refl _)
    replace hr := hr.below hb_9 (Nat.le_refl _)
    replace hb := hb.trans (hb_9.mono hb.size)
    clear hb_9
    rw [ed]
    go_wp2
    · have hq : (decide ((48 : Int) < (m : Int)) || ((D.length : Int) == 1)) = true := by
        rcases hmc with h | h
        · rw [decide_eq_true (by omega)]; rfl
        · rw [h]; simp
      rw [hq]
      go_ret
      exact ⟨rfl, hb⟩
    · go_ret
      exact ⟨rfl, hb⟩
end Go.Proofs.YtpjibjcbaohlaacDoor
