/- nat.Root: Newton's steps from above. -/
import Derived.Test.YtdjfgpfeepbnaaaDoorD8
import Derived.Test.YtdjfgpfeepbnaaaDoorW10
import Derived.Test.YtdjfgpfeepbnaaaDoorR6
import Derived.Deep.LoopGhost
namespace Go.Proofs.YtdjfgpfeepbnaaaDoor
open Go.RowKit Dig

theorem sqrt_ex (A : Nat) : ∃ R, R * R ≤ A ∧ A < (R + 1) * (R + 1) := by
  induction A with
  | zero => exact ⟨0, by decide, by decide⟩
  | succ A ih =>
    obtain ⟨R, h1, h2⟩ := ih
    by_cases h : A + 1 < (R + 1) * (R + 1)
    · exact ⟨R, by omega, h⟩
    · refine ⟨R + 1, by omega, ?_⟩
      have e : (R + 1 + 1) * (R + 1 + 1) = (R + 1) * (R + 1) + (R + 1) + (R + 1) + 1 := by
        rw [Nat.add_mul, Nat.mul_add, Nat.one_mul, Nat.mul_one]; omega
      omega

theorem mul_le_mid {x y R : Nat} (h : x + y = 2 * R) : x * y ≤ R * R := by
  have key : ∀ d e : Nat, e * (e + 2 * d) ≤ (e + d) * (e + d) := fun d e => by
    rw [Nat.mul_add, Nat.add_mul, Nat.mul_add, Nat.mul_add, Nat.mul_left_comm e 2 d, Nat.mul_comm d e]
    generalize e * e = p
    generalize e * d = q
    omega
  rcases Nat.le_total x y with hxy | hxy
  · have := key (R - x) x
    rw [show x + 2 * (R - x) = y from by omega, show x + (R - x) = R from by omega] at this
    exact this
  · have := key (R - y) y
    rw [show y + 2 * (R - y) = x from by omega, show y + (R - y) = R from by omega] at this
    rw [Nat.mul_comm]; exact this

/-- A step of Newton's is not below the root. -/
theorem newton_ge {A R x : Nat} (hx : 0 < x) (h1 : R * R ≤ A) : R ≤ (x + A / x) / 2 := by
  rcases Nat.lt_or_ge ((x + A / x) / 2) R with h | h
  · exfalso
    have h3 : x + A / x < 2 * R := by omega
    have h4 : A < (A / x + 1) * x := by
      have := Nat.div_add_mod A x
      have := Nat.mod_lt A hx
      rw [Nat.add_mul, Nat.one_mul, Nat.mul_comm]; omega
    have h5 : (A / x + 1) * x ≤ (2 * R - x) * x := Nat.mul_le_mul_right _ (by generalize A / x = z at *; omega)
    have h6 := mul_le_mid (x := 2 * R - x) (y := x) (R := R) (by generalize A / x = z at *; omega)
    omega
  · exact h

/-- Where a step does not fall, the root is there. -/
theorem newton_end {A R x : Nat} (hx : 0 < x) (h2 : A < (R + 1) * (R + 1)) (hR : R ≤ x) (hn : x ≤ (x + A / x) / 2) : x = R := by
  have h3 : x ≤ A / x := by generalize A / x = z at *; omega
  have h4 : x * x ≤ A := (Nat.le_div_iff_mul_le hx).1 h3
  rcases Nat.lt_or_ge R x with h | h
  · have := Nat.mul_le_mul h h
    simp only [Nat.succ_eq_add_one] at this
    omega
  · omega

/-- The first guess is above the root. -/
theorem newton_first {A R b : Nat} (hb : A < 2 ^ b) (h1 : R * R ≤ A) : R < 2 ^ ((b + 1) / 2) := by
  rcases Nat.lt_or_ge R (2 ^ ((b + 1) / 2)) with h | h
  · exact h
  · exfalso
    have h3 := Nat.mul_le_mul h h
    rw [← Nat.pow_add] at h3
    have h4 : 2 ^ b ≤ 2 ^ ((b + 1) / 2 + (b + 1) / 2) := Nat.pow_le_pow_right (by decide) (by omega)
    omega

theorem bits_rd' {w : World} {va : Value} {xs : List Nat} (hx : Rd w va xs) (hxl : xs.length ≤ 100000000000) :
    Calls Tryd.prog 14 #[va] w fun e w' => e = .returned (.int .i64 ((bitsN (val xs) : Nat) : Int)) ∧ Below w.heap.size w w' := by
  obtain ⟨oa, ca, rfl, hca, okx, hcx⟩ := hx
  exact bits_any oa ca xs w (by omega) hca okx hcx
theorem shiftUp_rd {w : World} {va : Value} {xs : List Nat} (k : Nat) (hx : Rd w va xs) (hxl : xs.length ≤ 1000000000) (hk : k ≤ 1000000000) :
    Calls Tryd.prog 42 #[va, .int .i64 (k : Int)] w fun e w' => ∃ v, e = .returned v ∧ Own w' w.heap.size v (dig (val xs * 2 ^ k)) ∧ Below w.heap.size w w' := by
  obtain ⟨oa, ca, rfl, hca, okx, hcx⟩ := hx
  exact shiftUp_any oa ca k xs w (by omega) (by omega) okx hcx
theorem shr_rd1 {w : World} {va : Value} {xs : List Nat} (hx : Rd w va xs) (hxl : xs.length ≤ 10000000000) :
    Calls Tryd.prog 18 #[va, .int .i64 1] w fun e w' => ∃ v, e = .returned (.tuple #[v, .int .i64 0]) ∧ Own w' w.heap.size v (dig (val xs / 2)) ∧ Below w.heap.size w w' := by
  obtain ⟨oa, ca, rfl, hca, okx, hcx⟩ := hx
  have h := shr_any oa ca xs 1 w (by omega) hca okx hcx (by decide)
  exact h

set_option maxHeartbeats 1000000 in
set_option maxRecDepth 20000 in
theorem root_rd {w : World} {va : Value} {xs : List Nat} (R : Nat) (hx : Rd w va xs) (hxl : xs.length ≤ 10000000) (h1 : R * R ≤ val xs) (h2 : val xs < (R + 1) * (R + 1)) :
    Calls Tryd.prog 22 #[va] w fun e w' => ∃ v, e = .returned v ∧ Own w' w.heap.size v (dig R) ∧ Below w.heap.size w w' := by
  have hbd := bitsN_lt (val xs)
  have hxb := val_lt hx.ok
  have hbl : bitsN (val xs) ≤ 320000000 := by
    rcases Nat.eq_zero_or_pos (val xs) with h | h
    · rw [h]; decide
    · have h3 := bitsN_le (Nat.ne_of_gt h)
      rw [pw_eq] at hxb
      have h4 := (Nat.pow_lt_pow_iff_right (by decide : 1 < 2)).1 (Nat.lt_of_le_of_lt h3 hxb)
      omega
  have hz : bitsN (val xs) = 0 → R = 0 := fun h => by
    rw [h] at hbd
    have : val xs = 0 := by omega
    rw [this] at h1
    rcases Nat.eq_zero_or_pos R with h5 | h5
    · exact h5
    · have := Nat.mul_pos h5 h5; omega
  obtain ⟨A, hA⟩ : ∃ A, val xs = A := ⟨_, rfl⟩
  rw [hA] at h1 h2 hbd hxb hbl hz
  have hAL : ∀ y, y ≤ 4 * A + 4 → (dig y).length ≤ 10000001 := fun y hy => by
    refine Nat.le_trans (dig_length_le (k := xs.length + 1) ?_) (by omega)
    simp only [pw]
    have := pw_pos xs.length
    omega
  have HAL := hide hAL
  have HA := hide hA
  have H12 := hide (And.intro h1 h2)
  clear hAL hA h1 h2
  by_cases h0 : bitsN A = 0
  · have hR := hz h0
    have hb0 : (((bitsN A : Nat) : Int) == 0) = true := by rw [h0]; rfl
    go_enter Tryd.func22, Tryd.ntmps22
    have hb := Below.refl w.heap.size w
    go_wp2_with fail
    refine (bits_rd' hx (by omega)).mono ?_
    rintro e w_1 ⟨rfl, hb_1⟩
    replace hx := hx.below hb_1 (Nat.le_refl _)
    replace hb := hb.trans (hb_1.mono hb.size)
    clear hb_1
    rw [HA.out]
    generalize bitsN A = b at *
    go_wp2
    go_ret
    rw [hR]
    exact ⟨_, rfl, Own.nil _ _ _, hb⟩
  · have hb0 : (((bitsN A : Nat) : Int) == 0) = false := by rw [beq_eq_false_iff_ne]; omega
    have hA0 : A ≠ 0 := fun h => h0 (by rw [h]; decide)
    have hlo := bitsN_le hA0
    obtain ⟨b, hb'⟩ : ∃ b, bitsN A = b := ⟨_, rfl⟩
    have HB := hide hb'
    rw [hb'] at hb0 h0 hlo hbd hbl
    have hhalf : ((b : Int) + 1) / 2 = (((b + 1) / 2 : Nat) : Int) := by omega
    have hr0 : 2 ^ ((b + 1) / 2) ≤ 2 * A := by
      have h3 : 2 ^ ((b + 1) / 2) ≤ 2 ^ b := Nat.pow_le_pow_right (by decide) (by omega)
      have h4 : 2 ^ b = 2 * 2 ^ (b - 1) := by
        have e : b = b - 1 + 1 := by omega
        conv => lhs; rw [e, Nat.pow_succ]
        rw [Nat.mul_comm]
      omega
    have hRr := newton_first hbd H12.out.1
    have HR := hide (And.intro hr0 (And.intro hRr (And.intro hlo hbd)))
    have hmb : (b + 1) / 2 ≤ 1000000000 := by omega
    have HH := hide hhalf
    obtain ⟨m, hm⟩ : ∃ m, (b + 1) / 2 = m := ⟨_, rfl⟩
    rw [hm] at hmb
    have HM := hide hm
    clear hr0 hRr hlo hbd hhalf hz hm hb'
    go_enter Tryd.func22, Tryd.ntmps22
    have hb := Below.refl w.heap.size w
    go_wp2_with fail
    refine (bits_rd' hx (by omega)).mono ?_
    rintro e w_1 ⟨rfl, hb_1⟩
    replace hx := hx.below hb_1 (Nat.le_refl _)
    replace hb := hb.trans (hb_1.mono hb.size)
    clear hb_1
    rw [HA.out, HB.out]
    have h1 := lit1 w_1 1 (by decide)
    replace hx := hx.alloc (.cells #[.int .u32 (1 : Int)] 26)
    replace hb := hb.alloc hb.size (.cells #[.int .u32 (1 : Int)] 26)
    go_wp2_with fail
    refine (bits_rd' hx (by omega)).mono ?_
    rintro e w_2 ⟨rfl, hb_2⟩
    replace hx := hx.below hb_2 (Nat.le_refl _)
    replace h1 := h1.below hb_2 (Nat.le_refl _)
    replace hb := hb.trans (hb_2.mono hb.size)
    clear hb_2
    rw [HA.out, HB.out]
    go_wp2_with fail
    rw [HH.out, HM.out]
    have hbs := hb.size
    go_wp2_with fail
    refine (shiftUp_rd m h1 (by simp) hmb).mono ?_
    rintro e w_3 ⟨vr, rfl, hr, hb_3⟩
    replace hx := hx.below hb_3 (Nat.le_refl _)
    replace h1 := h1.below hb_3 (Nat.le_refl _)
    replace hb := hb.trans (hb_3.mono hb.size)
    clear hb_3
    rw [show val [1] * 2 ^ m = 2 ^ m from by simp [val]] at hr
    go_wp2_with fail
    go_loopg [3] (2 ^ m) (fun k s3 wr => Own wr w.heap.size s3 (dig k) ∧ Rd wr va xs ∧ Hid (R ≤ k ∧ k ≤ 2 * A ∧ 0 < k) ∧ Below w.heap.size w wr)
    case atStart =>
      have h3 := HR.out
      rw [HM.out] at h3
      exact ⟨hr.mono hbs, hx, hide ⟨by omega, h3.1, Nat.two_pow_pos m⟩, hb⟩
    case round =>
      clear h1 hr hx hb
      obtain ⟨ho, hx, HK, hb⟩ := hrel
      have hr := ho.rd
      have hk0 : val (dig gk) ≠ 0 := by rw [val_dig]; have := HK.out.2.2; omega
      have hl1 := HAL.out gk (by have := HK.out.2.1; omega)
      have hq : A / gk ≤ A := Nat.div_le_self _ _
      have hl2 := HAL.out (A / gk) (by generalize A / gk = z at *; omega)
      have hl3 := HAL.out (gk + A / gk) (by have := HK.out.2.1; generalize A / gk = z at *; omega)
      have hnx : (gk + A / gk) / 2 ≤ 2 * A := by have := HK.out.2.1; generalize A / gk = z at *; omega
      have hl4 := HAL.out ((gk + A / gk) / 2) (by generalize (gk + A / gk) / 2 = z at *; omega)
      have hge := newton_ge HK.out.2.2 H12.out.1
      have hpos : 0 < (gk + A / gk) / 2 := by
        rcases Nat.eq_zero_or_pos R with h | h
        · exfalso
          have := H12.out.2
          rw [h] at this
          omega
        · omega
      have HNX := hide (And.intro hnx (And.intro hge hpos))
      clear hq hnx hge hpos
      have hbW := hb
      have hbWs := hb.size
      have hb := Below.refl wr.heap.size wr
      go_wp2_with fail
      refine (divMod_pos hx hr hk0 (by omega) (by omega)).mono ?_
      rintro e w_1 ⟨vq, vs, rfl, hq, _, _, hb_1⟩
      replace hx := hx.below hb_1 (Nat.le_refl _)
      replace hr := hr.below hb_1 (Nat.le_refl _)
      replace ho := ho.below hb_1 (Nat.le_refl _)
      replace hb := hb.trans (hb_1.mono hb.size)
      clear hb_1
      rw [HA.out, val_dig] at hq
      replace hq := hq.rd
      go_wp2_with fail
      refine (add_rd hr hq (by omega) (by omega)).mono ?_
      rintro e w_2 ⟨vs2, rfl, hs, hb_2⟩
      replace hx := hx.below hb_2 (Nat.le_refl _)
      replace hr := hr.below hb_2 (Nat.le_refl _)
      replace ho := ho.below hb_2 (Nat.le_refl _)
      replace hq := hq.below hb_2 (Nat.le_refl _)
      replace hb := hb.trans (hb_2.mono hb.size)
      clear hb_2
      rw [val_dig, val_dig] at hs
      replace hs := hs.rd
      have hbs := hb.size
      go_wp2_with fail
      refine (shr_rd1 hs (by omega)).mono ?_
      rintro e w_3 ⟨vn, rfl, hn, hb_3⟩
      replace hx := hx.below hb_3 (Nat.le_refl _)
      replace hr := hr.below hb_3 (Nat.le_refl _)
      replace ho := ho.below hb_3 (Nat.le_refl _)
      replace hq := hq.below hb_3 (Nat.le_refl _)
      replace hs := hs.below hb_3 (Nat.le_refl _)
      replace hb := hb.trans (hb_3.mono hb.size)
      clear hb_3
      rw [val_dig] at hn
      go_wp2_with fail
      refine (cmp_rd hn.rd hr (by omega) (by omega)).mono ?_
      rintro e w_4 ⟨rfl, hb_4⟩
      replace hx := hx.below hb_4 (Nat.le_refl _)
      replace hr := hr.below hb_4 (Nat.le_refl _)
      replace ho := ho.below hb_4 (Nat.le_refl _)
      replace hq := hq.below hb_4 (Nat.le_refl _)
      replace hs := hs.below hb_4 (Nat.le_refl _)
      replace hn := hn.below hb_4 (Nat.le_refl _)
      replace hb := hb.trans (hb_4.mono hb.size)
      clear hb_4
      rw [val_dig, val_dig]
      replace hbW := hbW.trans (hb.mono hbW.size)
      by_cases hlt : (gk + A / gk) / 2 < gk
      · have hc : cmpI ((gk + A / gk) / 2) gk < 0 := cmpI_neg.2 hlt
        have HLT := hide hlt
        generalize cmpI ((gk + A / gk) / 2) gk = c at *
        clear hlt
        go_wp2_with fail
        go_roundg ((gk + A / gk) / 2)
        case rel => exact ⟨hn.mono (Nat.le_trans (by assumption) hbs), hx, hide ⟨HNX.out.2.1, HNX.out.1, HNX.out.2.2⟩, hbW⟩
        case measure => exact HLT.out
      · have hc : ¬ cmpI ((gk + A / gk) / 2) gk < 0 := fun h => hlt (cmpI_neg.1 h)
        have hfin := newton_end HK.out.2.2 H12.out.2 HK.out.1 (Nat.le_of_not_lt hlt)
        have HF := hide hfin
        generalize cmpI ((gk + A / gk) / 2) gk = c at *
        clear hlt hfin
        go_wp2_with fail
        go_ret
        exact ⟨_, rfl, by rw [← HF.out]; exact ho, hbW⟩
end Go.Proofs.YtdjfgpfeepbnaaaDoor
