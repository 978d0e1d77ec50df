/- The reference's Sub and Cmp answer the canonical difference and the order. -/
import Derived.Test.YtkgbfnmlpajblaaGreatDoorR4
namespace Go.Proofs.YtkgbfnmlpajblaaGreatDoor
open Go.RowKit Dig

theorem rsub_fin {X Y us : List Nat} {c : Nat} (okX : OK X) (ok : OK us) (h : us.length = X.length) (hYX : val Y ≤ val X)
    (heq : val (seg us 0 X.length) + val (Y.take X.length) = val (seg X 0 X.length) + pw X.length * c) : strip us = dig (val X - val Y) := by
  have hY : val (Y.take X.length) = val Y := by
    by_cases hl : X.length ≤ Y.length
    · have h1 := val_split Y X.length hl
      have h2 := val_lt okX
      have hz : val (Y.drop X.length) = 0 := by
        rcases Nat.eq_zero_or_pos (val (Y.drop X.length)) with hz | hz
        · exact hz
        · have : pw X.length * 1 ≤ pw X.length * val (Y.drop X.length) := Nat.mul_le_mul_left _ hz
          omega
      rw [hz] at h1; omega
    · rw [List.take_of_length_le (by omega)]
  rw [hY] at heq
  refine sub_fin ok h hYX (c := c) ?_ okX
  omega

set_option maxHeartbeats 800000 in
set_option maxRecDepth 20000 in
theorem rsub_any (oa ob : Option Addr) (ca cb : Nat) (X Y : List Nat) (w : World) (hxl : X.length ≤ 500000000000) (hyl : Y.length ≤ 500000000000) (okX : OK X) (okY : OK Y) (hx : Cells w oa X) (hy : Cells w ob Y) (hYX : val Y ≤ val X) :
    Calls Tryz.prog 122 #[.slice oa X.length ca, .slice ob Y.length cb] w fun e w' => ∃ v, e = .returned v ∧ Rd w' v (dig (val X - val Y)) ∧ Below w.heap.size w w' := by
  have hr0 := Row.new w (List.replicate X.length 0) (OK.replicate _ (by decide))
  have hb0 : Below w.heap.size w (w.alloc (.cells (cs (List.replicate X.length 0)) 72)) := (Below.refl _ _).alloc (Nat.le_refl _) _
  have hmk := mk_run X.length (by omega) w
  generalize hN : (List.replicate X.length 0 : List Nat) = Z at *
  have HN := hide hN
  have HYX := hide hYX
  clear hN hYX
  go_enter Tryz.func122, Tryz.ntmps122
  go_wp2_with fail
  go_loopw [6, 7] (fun c i wr => ∃ (k c0 : Nat) (ys : List Nat), k ≤ X.length ∧ c = .int .u64 (c0 : Int) ∧ i = .int .i64 (k : Int) ∧ Row wr w.heap.size ys ∧ Below w.heap.size w wr ∧ ys.length = X.length ∧
    val (seg ys 0 k) + val (Y.take k) = val (seg X 0 k) + pw k * c0 ∧ c0 ≤ 1) (fun _ i _ => X.length - (intOf i).toNat)
  case atStart => exact ⟨0, 0, Z, Nat.zero_le _, rfl, rfl, hr0, hb0, by rw [← HN.out]; simp, by simp [seg_zero, val], by decide⟩
  case round =>
    obtain ⟨k, c0, ys, hk, rfl, rfl, hr, hb, hyl, heq, hc0⟩ := hrel
    have Heq := hide heq
    clear heq
    by_cases hlt : k < X.length
    · have gu := hr.cell (i := k) (by omega)
      have gf := hr.free k
      obtain ⟨x, Hx⟩ : ∃ x, Hid (X[k]?.getD 0 = x) := ⟨_, rfl⟩
      obtain ⟨y, Hy⟩ : ∃ y, Hid (Y[k]?.getD 0 = y) := ⟨_, rfl⟩
      have hxb : x < 4294967296 := by have := okX.get k; rw [Hx.out] at this; exact this
      have hyb : y < 4294967296 := by have := okY.get k; rw [Hy.out] at this; exact this
      have ht : val (Y.take k) + pw k * y = val (Y.take (k + 1)) := by rw [val_take_next, Hy.out]
      have HYL := hide hyl
      by_cases hlo : x < y + c0
      · have hs := borrow_step (us := X) (p := y) (g := x + 4294967296 - (y + c0)) (q := 1) (by omega) hyl Heq.out (by rw [Nat.zero_add, Hx.out]; omega)
        rw [ht, Nat.zero_add] at hs
        have HS := hide hs
        have hlo' : (x : Int) < (y : Int) + (c0 : Int) := by omega
        have e2 : (x : Int) + 4294967296 - ((y : Int) + (c0 : Int)) = ((x + 4294967296 - (y + c0) : Nat) : Int) := by omega
        have E2 := hide e2
        clear hs ht e2 hyl
        go_wp2_with fail
        refine (rat_any oa ca X k _ (by omega) okX (hx.below hb (Nat.le_refl _))).mono ?_
        rintro e w' ⟨rfl, rfl⟩
        rw [Hx.out]
        go_wp2_with fail
        refine (rat_any ob cb Y k _ (by omega) okY (hy.below hb (Nat.le_refl _))).mono ?_
        rintro e w' ⟨rfl, rfl⟩
        rw [Hy.out]
        go_wp2_with fail
        rw [E2.out]
        go_roundw
        case rel => exact ⟨k + 1, 1, ys.set k (x + 4294967296 - (y + c0)), by omega, rfl, by go_num, hr.set _ (by omega), hb.setCell (Nat.le_refl _) _, by simpa using HYL.out, HS.out, by omega⟩
        case measure => simp [intOf]; omega
      · have hs := borrow_step (us := X) (p := y) (g := x - (y + c0)) (q := 0) (by omega) hyl Heq.out (by rw [Nat.zero_add, Hx.out]; omega)
        rw [ht, Nat.zero_add] at hs
        have HS := hide hs
        have hlo' : ¬ (x : Int) < (y : Int) + (c0 : Int) := by omega
        have e2 : (x : Int) - ((y : Int) + (c0 : Int)) = ((x - (y + c0) : Nat) : Int) := by omega
        have E2 := hide e2
        clear hs ht e2 hyl
        go_wp2_with fail
        refine (rat_any oa ca X k _ (by omega) okX (hx.below hb (Nat.le_refl _))).mono ?_
        rintro e w' ⟨rfl, rfl⟩
        rw [Hx.out]
        go_wp2_with fail
        refine (rat_any ob cb Y k _ (by omega) okY (hy.below hb (Nat.le_refl _))).mono ?_
        rintro e w' ⟨rfl, rfl⟩
        rw [Hy.out]
        go_wp2_with fail
        rw [E2.out]
        go_roundw
        case rel => exact ⟨k + 1, 0, ys.set k (x - (y + c0)), by omega, rfl, by go_num, hr.set _ (by omega), hb.setCell (Nat.le_refl _) _, by simpa using HYL.out, HS.out, by omega⟩
        case measure => simp [intOf]; omega
    · obtain rfl : k = X.length := by omega
      have hfin := rsub_fin (c := c0) okX hr.2 hyl HYX.out Heq.out
      have HF := hide hfin
      clear hfin
      go_wp2_with fail
      refine (rtrim_n _ _ _ ys wr hyl (by omega) (Nat.le_refl _) hr.2 hr.cells).mono ?_
      rintro e w2 ⟨v, rfl, hrd, hb2⟩
      rw [HF.out] at hrd
      go_wp2
      go_ret
      exact ⟨v, rfl, hrd, hb.trans (hb2.mono hb.size)⟩

set_option maxHeartbeats 1200000 in
set_option maxRecDepth 20000 in
theorem rcmp_any (oa ob : Option Addr) (ca cb : Nat) (xs ys : List Nat) (w : World) (hxl : xs.length ≤ 500000000000) (hyl : ys.length ≤ 500000000000) (hxc : xs.length ≤ ca) (hyc : ys.length ≤ cb)
    (okx : OK xs) (oky : OK ys) (hx : Cells w oa xs) (hy : Cells w ob ys) :
    Calls Tryz.prog 121 #[.slice oa xs.length ca, .slice ob ys.length cb] w fun e w' => e = .returned (.int .i64 (cmpI (val xs) (val ys))) ∧ Below w.heap.size w w' := by
  have h1 := strip_length_le xs
  have h2 := strip_length_le ys
  have ex := dig_val okx
  have ey := dig_val oky
  generalize val xs = m at *
  generalize val ys = n at *
  have HX := hide ex
  have HY := hide ey
  clear ex ey
  obtain ⟨r, Hr⟩ : ∃ r, Hid (cmpI m n = r) := ⟨_, rfl⟩
  rw [Hr.out]
  go_enter Tryz.func121, Tryz.ntmps121
  go_wp2_with fail
  refine (rtrim_any oa ca xs _ (by omega) hxc okx hx).mono ?_
  rintro e w1 ⟨v1, rfl, hv1, hb1⟩
  go_wp2_with fail
  refine (rtrim_any ob cb ys _ (by omega) hyc oky (hy.below hb1 (Nat.le_refl _))).mono ?_
  rintro e w2 ⟨v2, rfl, hv2, hb2⟩
  have hv1 := hv1.below hb2 (Nat.le_refl _)
  have hb := hb1.trans (hb2.mono hb1.size)
  clear hb1 hb2
  obtain ⟨oc, cc, rfl, hcc, okX, hcX⟩ := hv1
  obtain ⟨od, cd, rfl, hcd, okY, hcY⟩ := hv2
  generalize strip xs = X at *
  generalize strip ys = Y at *
  by_cases hlen : X.length = Y.length
  · have hbq : ((X.length : Int) == (Y.length : Int)) = true := by rw [beq_iff_eq]; omega
    have Hl := hide hlen
    clear hlen
    go_wp2_with fail
    go_loopw [7] (fun i wr => ∃ k : Nat, k ≤ X.length ∧ i = .int .i64 ((k : Int) - 1) ∧ X.drop k = Y.drop k ∧ Below w2.heap.size w2 wr) (fun i _ => (intOf i + 1).toNat)
    case atStart => exact ⟨X.length, Nat.le_refl _, rfl, by rw [List.drop_eq_nil_of_le (Nat.le_refl _), List.drop_eq_nil_of_le (Nat.le_of_eq Hl.out.symm)], Below.refl _ _⟩
    case round =>
      obtain ⟨k, hk, rfl, hdr, hbel⟩ := hrel
      have Hdr := hide hdr
      clear hdr
      by_cases hk0 : 0 < k
      · obtain ⟨j, rfl⟩ : ∃ j, k = j + 1 := ⟨k - 1, by omega⟩
        have hl := Hl.out
        have b1 : j < X.length := by omega
        have b2 : j < Y.length := by omega
        obtain ⟨bx, ox, x, ho, gx, Hx⟩ := (hcX.below hbel (Nat.le_refl _)).get b1
        obtain ⟨by', oy, y, ho', gy, Hy⟩ := (hcY.below hbel (Nat.le_refl _)).get b2
        subst ho
        subst ho'
        rw [show ((j + 1 : Nat) : Int) - 1 = (j : Int) from by omega]
        clear hl
        have hlt1 : x < y → r = -1 := fun h => by
          have := val_lt_of_top okX Hl.out b1 Hdr.out (by have := Hx.out; have := Hy.out; omega)
          rw [← HX.out, ← HY.out, val_dig, val_dig] at this
          rw [← Hr.out]; unfold cmpI; rw [if_pos this]
        have hlt2 : y < x → r = 1 := fun h => by
          have := val_lt_of_top okY Hl.out.symm b2 Hdr.out.symm (by have := Hx.out; have := Hy.out; omega)
          rw [← HX.out, ← HY.out, val_dig, val_dig] at this
          rw [← Hr.out]; unfold cmpI; rw [if_neg (by omega), if_neg (by omega)]
        rcases Nat.lt_trichotomy x y with h | h | h
        · have hr := hide (hlt1 h)
          have hi : (x : Int) < (y : Int) := by omega
          clear hlt1 hlt2
          go_wp2_with fail
          go_region
          all_goals go_wp2_with fail
          all_goals go_ret
          all_goals exact ⟨congrArg (fun z : Int => Ending.returned (.int .i64 z)) hr.out.symm, hb.trans ((hbel.drew).mono hb.size)⟩
        · subst h
          clear hlt1 hlt2
          go_wp2_with fail
          go_region
          all_goals go_wp2_with fail
          all_goals go_region
          all_goals go_wp2_with fail
          all_goals go_roundw
          case rel => exact ⟨j, by omega, rfl, drop_eq_of_top Hl.out b1 Hdr.out (Hx.out.trans Hy.out.symm), hbel.drew.drew⟩
          case measure => simp [intOf]
        · have hr := hide (hlt2 h)
          have hi : (y : Int) < (x : Int) := by omega
          have hi2 : ¬ (x : Int) < (y : Int) := by omega
          clear hlt1 hlt2
          go_wp2_with fail
          go_region
          all_goals go_wp2_with fail
          all_goals go_region
          all_goals go_wp2_with fail
          all_goals go_ret
          all_goals exact ⟨congrArg (fun z : Int => Ending.returned (.int .i64 z)) hr.out.symm, hb.trans ((hbel.drew.drew).mono hb.size)⟩
      · obtain rfl : k = 0 := by omega
        have hdr := Hdr.out
        simp only [List.drop_zero] at hdr
        have hmn : m = n := dig_inj (HX.out.trans (hdr.trans HY.out.symm))
        have hz : r = 0 := by
          rw [← Hr.out]; unfold cmpI; rw [if_neg (by omega), if_pos hmn]
        have HZ := hide hz
        clear hdr hmn hz
        go_wp2
        go_ret
        exact ⟨congrArg (fun z : Int => Ending.returned (.int .i64 z)) HZ.out.symm, hb.trans (hbel.mono hb.size)⟩
  · have hbq : ((X.length : Int) == (Y.length : Int)) = false := by rw [beq_eq_false_iff_ne]; omega
    by_cases hlt : X.length < Y.length
    · have hr : r = -1 := by
        have := lt_of_length_lt (m := m) (n := n) (by rw [HX.out, HY.out]; exact hlt)
        rw [← Hr.out]; unfold cmpI; rw [if_pos this]
      have HR := hide hr
      clear hr
      go_wp2_with fail
      go_ret
      exact ⟨congrArg (fun z : Int => Ending.returned (.int .i64 z)) HR.out.symm, hb⟩
    · have hr : r = 1 := by
        have := lt_of_length_lt (m := n) (n := m) (by rw [HX.out, HY.out]; omega)
        rw [← Hr.out]; unfold cmpI; rw [if_neg (by omega), if_neg (by omega)]
      have HR := hide hr
      clear hr
      go_wp2_with fail
      go_ret
      exact ⟨congrArg (fun z : Int => Ending.returned (.int .i64 z)) HR.out.symm, hb⟩
end Go.Proofs.YtkgbfnmlpajblaaGreatDoor
