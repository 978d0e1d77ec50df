/- The reference's Pow. -/
import Derived.Test.YtdjfgpfeepbnaaaDoorR18
import Derived.Test.YtdjfgpfeepbnaaaDoorD10
import Derived.Deep.LoopGhost
namespace Go.Proofs.YtdjfgpfeepbnaaaDoor
open Go.RowKit Dig

theorem rpow_step (o X k : Nat) (hk : 0 < k) : (if k % 2 = 1 then o * X else o) * (if 1 < k then X * X else X) ^ (k / 2) = o * X ^ k := by
  rcases (show k = 1 ∨ 1 < k by omega) with rfl | h
  · simp
  · rw [if_pos h]
    have e : (X * X) ^ (k / 2) = X ^ (2 * (k / 2)) := by rw [Nat.pow_mul, Nat.pow_two]
    rw [e]
    by_cases h2 : k % 2 = 1
    · rw [if_pos h2, Nat.mul_assoc, ← Nat.pow_succ']; congr 2; omega
    · rw [if_neg h2]; congr 2; omega

theorem le_pow_of {X k : Nat} (hX : 0 < X) (hk : 0 < k) : X ≤ X ^ k := by
  obtain ⟨j, rfl⟩ : ∃ j, k = j + 1 := ⟨k - 1, by omega⟩
  rw [Nat.pow_succ]
  exact Nat.le_mul_of_pos_left _ (Nat.pow_pos hX)
theorem sq_le_pow {X k : Nat} (hX : 0 < X) (hk : 1 < k) : X * X ≤ X ^ k := by
  rw [← Nat.pow_two]; exact Nat.pow_le_pow_right hX hk

set_option maxHeartbeats 1000000 in
theorem rpow_rd {w : World} {va : Value} {xs : List Nat} (n : Nat) (hx : Rd w va xs) (hxl : xs.length ≤ 1048576) (hn : n ≤ 9223372036854775807) (hlen : (dig (val xs ^ n)).length ≤ 1048576) :
    Calls Tryd.prog 29 #[va, .int .i64 (n : Int)] w fun e w' => ∃ v, e = .returned v ∧ Rd w' v (dig (val xs ^ n)) ∧ Below w.heap.size w w' := by
  have dx := dig_val hx.ok
  have slx := strip_length_le xs
  have v1 : val [1] = 1 := by simp [val]
  have d1 : dig 1 = [1] := by decide
  obtain ⟨A, hA⟩ : ∃ A, val xs = A := ⟨_, rfl⟩
  rw [hA] at dx hlen ⊢
  have HA := hide hA
  have HD := hide dx
  have hsx : val (strip xs) = A := by rw [val_strip]; exact hA
  have HSX := hide hsx
  have V1 := hide v1
  have D1 := hide d1
  clear hA dx hsx v1 d1
  have hc : ∃ c, Hid (cmpI A 1 = c) ∧ (c ≤ 0 ↔ A ≤ 1) := ⟨_, hide rfl, cmpI_le⟩
  obtain ⟨c, HC, hc⟩ := hc
  by_cases hA1 : A ≤ 1
  · have hc0 : c ≤ 0 := hc.2 hA1
    clear hc
    by_cases hn0 : n = 0
    · subst hn0
      have hz : (((0 : Nat) : Int) == 0) = true := rfl
      go_enter Tryd.func29, Tryd.ntmps29
      have hb := Below.refl w.heap.size w
      have ho := lit1 w 1 (by decide)
      replace hx := hx.alloc (.cells #[.int .u32 (1 : Int)] 26)
      replace hb := hb.alloc hb.size (.cells #[.int .u32 (1 : Int)] 26)
      go_wp2_with fail
      refine (rtrim_rd hx (by omega)).mono ?_
      rintro e w_1 ⟨vx, rfl, hX, hb_1⟩
      replace hx := hx.below hb_1 (Nat.le_refl _)
      replace ho := ho.below hb_1 (Nat.le_refl _)
      replace hb := hb.trans (hb_1.mono hb.size)
      clear hb_1
      have h1 := lit1 w_1 1 (by decide)
      replace hx := hx.alloc (.cells #[.int .u32 (1 : Int)] 26)
      replace ho := ho.alloc (.cells #[.int .u32 (1 : Int)] 26)
      replace hX := hX.alloc (.cells #[.int .u32 (1 : Int)] 26)
      replace hb := hb.alloc hb.size (.cells #[.int .u32 (1 : Int)] 26)
      go_wp2_with fail
      refine (rcmp_rd2 hX h1 (by omega) (by simp)).mono ?_
      rintro e w_2 ⟨rfl, hb_2⟩
      replace hx := hx.below hb_2 (Nat.le_refl _)
      replace ho := ho.below hb_2 (Nat.le_refl _)
      replace hX := hX.below hb_2 (Nat.le_refl _)
      replace h1 := h1.below hb_2 (Nat.le_refl _)
      replace hb := hb.trans (hb_2.mono hb.size)
      clear hb_2
      rw [HSX.out, V1.out, HC.out]
      go_wp2
      go_ret
      exact ⟨_, rfl, by rw [Nat.pow_zero, D1.out]; exact ho, hb⟩
    · have hz : ((n : Int) == 0) = false := by rw [beq_eq_false_iff_ne]; omega
      have hp : A ^ n = A := by
        rcases (show A = 0 ∨ A = 1 by omega) with rfl | rfl
        · exact Nat.zero_pow (Nat.pos_of_ne_zero hn0)
        · exact Nat.one_pow _
      have HP := hide hp
      clear hp
      go_enter Tryd.func29, Tryd.ntmps29
      have hb := Below.refl w.heap.size w
      have ho := lit1 w 1 (by decide)
      replace hx := hx.alloc (.cells #[.int .u32 (1 : Int)] 26)
      replace hb := hb.alloc hb.size (.cells #[.int .u32 (1 : Int)] 26)
      go_wp2_with fail
      refine (rtrim_rd hx (by omega)).mono ?_
      rintro e w_1 ⟨vx, rfl, hX, hb_1⟩
      replace hx := hx.below hb_1 (Nat.le_refl _)
      replace ho := ho.below hb_1 (Nat.le_refl _)
      replace hb := hb.trans (hb_1.mono hb.size)
      clear hb_1
      have h1 := lit1 w_1 1 (by decide)
      replace hx := hx.alloc (.cells #[.int .u32 (1 : Int)] 26)
      replace ho := ho.alloc (.cells #[.int .u32 (1 : Int)] 26)
      replace hX := hX.alloc (.cells #[.int .u32 (1 : Int)] 26)
      replace hb := hb.alloc hb.size (.cells #[.int .u32 (1 : Int)] 26)
      go_wp2_with fail
      refine (rcmp_rd2 hX h1 (by omega) (by simp)).mono ?_
      rintro e w_2 ⟨rfl, hb_2⟩
      replace hx := hx.below hb_2 (Nat.le_refl _)
      replace ho := ho.below hb_2 (Nat.le_refl _)
      replace hX := hX.below hb_2 (Nat.le_refl _)
      replace h1 := h1.below hb_2 (Nat.le_refl _)
      replace hb := hb.trans (hb_2.mono hb.size)
      clear hb_2
      rw [HSX.out, V1.out, HC.out]
      go_wp2
      go_ret
      exact ⟨_, rfl, by rw [HP.out, HD.out]; exact hX, hb⟩
  · have hc0 : ¬ c ≤ 0 := fun h => hA1 (hc.1 h)
    clear hc
    have HL := hide hlen
    clear hlen
    go_enter Tryd.func29, Tryd.ntmps29
    have hb := Below.refl w.heap.size w
    have ho := lit1 w 1 (by decide)
    replace hx := hx.alloc (.cells #[.int .u32 (1 : Int)] 26)
    replace hb := hb.alloc hb.size (.cells #[.int .u32 (1 : Int)] 26)
    go_wp2_with fail
    refine (rtrim_rd hx (by omega)).mono ?_
    rintro e w_1 ⟨vx, rfl, hX, hb_1⟩
    replace hx := hx.below hb_1 (Nat.le_refl _)
    replace ho := ho.below hb_1 (Nat.le_refl _)
    replace hb := hb.trans (hb_1.mono hb.size)
    clear hb_1
    have h1 := lit1 w_1 1 (by decide)
    replace hx := hx.alloc (.cells #[.int .u32 (1 : Int)] 26)
    replace ho := ho.alloc (.cells #[.int .u32 (1 : Int)] 26)
    replace hX := hX.alloc (.cells #[.int .u32 (1 : Int)] 26)
    replace hb := hb.alloc hb.size (.cells #[.int .u32 (1 : Int)] 26)
    go_wp2_with fail
    refine (rcmp_rd2 hX h1 (by omega) (by simp)).mono ?_
    rintro e w_2 ⟨rfl, hb_2⟩
    replace hx := hx.below hb_2 (Nat.le_refl _)
    replace ho := ho.below hb_2 (Nat.le_refl _)
    replace hX := hX.below hb_2 (Nat.le_refl _)
    replace h1 := h1.below hb_2 (Nat.le_refl _)
    replace hb := hb.trans (hb_2.mono hb.size)
    clear hb_2
    rw [HSX.out, V1.out, HC.out]
    rw [← HD.out] at hX
    go_wp2_with fail
    have hbW := hb
    have hAp : 0 < A := by omega
    have HA1 := hide hA1
    clear hA1
    go_loopg [5, 6, 7] n (fun k s5 s6 s7 wr => ∃ o X : Nat, Rd wr s5 (dig o) ∧ Rd wr s6 (dig X) ∧ s7 = .int .i64 (k : Int) ∧ Hid (o * X ^ k = A ^ n ∧ 0 < o ∧ 0 < X ∧ (0 < k → (dig o).length ≤ 1048576 ∧ (dig X).length ≤ 1048576)) ∧ Rd wr va xs ∧ k ≤ n ∧ Below w.heap.size w wr)
    case atStart =>
      refine ⟨1, A, by rw [D1.out]; exact ho, hX, rfl, hide ⟨Nat.one_mul _, by decide, hAp, fun _ => ⟨by rw [D1.out]; simp, ?_⟩⟩, hx, Nat.le_refl _, hb⟩
      rw [HD.out]; omega
    case round =>
      clear ho hX hx hb hbW h1
      obtain ⟨o, X, hO, hX, rfl, HI, hx, hkn, hbW⟩ := hrel
      rcases Nat.eq_zero_or_pos gk with hk0 | hk0
      · subst hk0
        go_wp2_with fail
        go_ret
        refine ⟨_, rfl, ?_, hbW⟩
        have := HI.out.1
        rw [Nat.pow_zero, Nat.mul_one] at this
        rw [← this]; exact hO
      · obtain ⟨i1, i2, i3, i4⟩ := HI.out
        obtain ⟨l1, l2⟩ := i4 hk0
        have st := rpow_step o X gk hk0
        have hXk : X ≤ X ^ gk := le_pow_of i3 hk0
        have hoX : o * X ≤ A ^ n := by rw [← i1]; exact Nat.mul_le_mul_left _ hXk
        have lo : (dig (o * X)).length ≤ 1048576 := Nat.le_trans (dig_length_mono hoX) HL.out
        have lXX : 1 < gk → (dig (X * X)).length ≤ 1048576 := fun h => Nat.le_trans (dig_length_mono (Nat.le_trans (sq_le_pow i3 h) (by rw [← i1]; exact Nat.le_mul_of_pos_left _ i2))) HL.out
        have hmod : (gk : Int) % 2 = ((gk % 2 : Nat) : Int) := by omega
        rw [i1] at st
        clear i1 i4 hXk hoX HI
        by_cases hodd : gk % 2 = 1
        · rw [if_pos hodd] at st
          rw [hodd] at hmod
          have hob : (((1 : Nat) : Int) == 1) = true := rfl
          by_cases hmore : 1 < gk
          · rw [if_pos hmore] at st
            have hXX := lXX hmore
            have HST := hide (And.intro st (And.intro (Nat.mul_pos i2 i3) (And.intro (Nat.mul_pos i3 i3) (fun _ : 0 < gk / 2 => And.intro lo hXX))))
            clear st i2 i3 lXX hodd
            have hb := Below.refl wr.heap.size wr
            go_wp2_with fail
            refine (rmul_rd3 hO hX (by omega) (by omega)).mono ?_
            rintro e w_1 ⟨v3, rfl, h3, hb_1⟩
            replace hx := hx.below hb_1 (Nat.le_refl _)
            replace hO := hO.below hb_1 (Nat.le_refl _)
            replace hX := hX.below hb_1 (Nat.le_refl _)
            replace hb := hb.trans (hb_1.mono hb.size)
            clear hb_1
            rw [val_dig, val_dig] at h3
            go_wp2_with fail
            refine (rmul_rd3 hX hX (by omega) (by omega)).mono ?_
            rintro e w_2 ⟨v4, rfl, h4, hb_2⟩
            replace hx := hx.below hb_2 (Nat.le_refl _)
            replace hO := hO.below hb_2 (Nat.le_refl _)
            replace hX := hX.below hb_2 (Nat.le_refl _)
            replace h3 := h3.below hb_2 (Nat.le_refl _)
            replace hb := hb.trans (hb_2.mono hb.size)
            clear hb_2
            rw [val_dig] at h4
            go_wp2_with fail
            go_roundg (gk / 2)
            case rel =>
              exact ⟨_, _, h3, h4, by go_num, hide ⟨HST.out.1, HST.out.2.1, HST.out.2.2.1, HST.out.2.2.2⟩, hx, by omega, hbW.trans (hb.mono hbW.size)⟩
            case measure => omega
          · rw [if_neg hmore] at st
            have HST := hide (And.intro st (And.intro (Nat.mul_pos i2 i3) (And.intro i3 (fun _ : 0 < gk / 2 => And.intro lo l2))))
            clear st i2 i3 lXX hodd
            have hb := Below.refl wr.heap.size wr
            go_wp2_with fail
            refine (rmul_rd3 hO hX (by omega) (by omega)).mono ?_
            rintro e w_1 ⟨v3, rfl, h3, hb_1⟩
            replace hx := hx.below hb_1 (Nat.le_refl _)
            replace hO := hO.below hb_1 (Nat.le_refl _)
            replace hX := hX.below hb_1 (Nat.le_refl _)
            replace hb := hb.trans (hb_1.mono hb.size)
            clear hb_1
            rw [val_dig, val_dig] at h3
            go_wp2_with fail
            go_roundg (gk / 2)
            case rel =>
              exact ⟨_, _, h3, hX, by go_num, hide ⟨HST.out.1, HST.out.2.1, HST.out.2.2.1, HST.out.2.2.2⟩, hx, by omega, hbW.trans (hb.mono hbW.size)⟩
            case measure => omega
        · rw [if_neg hodd] at st
          have hev : gk % 2 = 0 := by omega
          rw [hev] at hmod
          have hob : (((0 : Nat) : Int) == 1) = false := rfl
          have hmore : 1 < gk := by omega
          rw [if_pos hmore] at st
          have hXX := lXX hmore
          have HST := hide (And.intro st (And.intro i2 (And.intro (Nat.mul_pos i3 i3) (fun _ : 0 < gk / 2 => And.intro l1 hXX))))
          clear st i2 i3 lXX hodd hev
          have hb := Below.refl wr.heap.size wr
          go_wp2_with fail
          refine (rmul_rd3 hX hX (by omega) (by omega)).mono ?_
          rintro e w_1 ⟨v4, rfl, h4, hb_1⟩
          replace hx := hx.below hb_1 (Nat.le_refl _)
          replace hO := hO.below hb_1 (Nat.le_refl _)
          replace hX := hX.below hb_1 (Nat.le_refl _)
          replace hb := hb.trans (hb_1.mono hb.size)
          clear hb_1
          rw [val_dig] at h4
          go_wp2_with fail
          go_roundg (gk / 2)
          case rel =>
            exact ⟨_, _, hO, h4, by go_num, hide ⟨HST.out.1, HST.out.2.1, HST.out.2.2.1, HST.out.2.2.2⟩, hx, by omega, hbW.trans (hb.mono hbW.size)⟩
          case measure => omega
end Go.Proofs.YtdjfgpfeepbnaaaDoor
