/- The reference's at, Add and Sub answer digits, canonical sums and differences. -/
import Derived.Test.YtkgbfnmlpajblaaGreatDoorR3
namespace Go.Proofs.YtkgbfnmlpajblaaGreatDoor
open Go.RowKit Dig

theorem val_take_next (xs : List Nat) (k : Nat) : val (xs.take (k + 1)) = val (xs.take k) + pw k * xs[k]?.getD 0 := by
  by_cases h : k < xs.length
  · exact val_take_succ h
  · rw [List.take_of_length_le (by omega), List.take_of_length_le (by omega), List.getElem?_eq_none (by omega)]; simp

theorem seg_zeros (n off k : Nat) : val (seg (List.replicate n 0) off k) = 0 := by
  simp only [seg, List.drop_replicate, List.take_replicate]
  exact val_replicate_zero _

set_option maxHeartbeats 400000 in
set_option maxRecDepth 20000 in
theorem rat_any (oa : Option Addr) (ca : Nat) (xs : List Nat) (i : Nat) (w : World) (_hl : xs.length ≤ 10000000000000) (ok : OK xs) (hx : Cells w oa xs) :
    Calls Tryz.prog 141 #[.slice oa xs.length ca, .int .i64 (i : Int)] w fun e w' => e = .returned (.int .u64 (xs[i]?.getD 0 : Nat)) ∧ w = w' := by
  by_cases h : i < xs.length
  · obtain ⟨b, off, x, ho, gx, Hx⟩ := hx.get h
    subst ho
    have hxb : x < 4294967296 := by have := ok.get i; rw [Hx.out] at this; exact this
    rw [Hx.out]
    go_enter Tryz.func141, Tryz.ntmps141
    go_wp2
    go_ret
    exact ⟨rfl, rfl⟩
  · have e : xs[i]?.getD 0 = 0 := by rw [List.getElem?_eq_none (by omega)]; rfl
    rw [e]
    go_enter Tryz.func141, Tryz.ntmps141
    go_wp2
    go_ret
    exact ⟨rfl, rfl⟩

theorem rsum_fin {X Y us : List Nat} {n c : Nat} (okX : OK X) (okY : OK Y) (ok : OK us) (hx : X.length ≤ n) (hy : Y.length ≤ n) (h : us.length = n + 1)
    (heq : val (seg us 0 (n + 1)) + pw (n + 1) * c = val X + val Y) : strip us = dig (val X + val Y) := by
  have e1 : seg us 0 (n + 1) = us := by have := seg_all us; rw [h] at this; exact this
  rw [e1] at heq
  have h1 := Nat.lt_of_lt_of_le (val_lt okX) (pw_mono hx)
  have h2 := Nat.lt_of_lt_of_le (val_lt okY) (pw_mono hy)
  have hc : c = 0 := by
    rcases Nat.eq_zero_or_pos c with hc | hc
    · exact hc
    · have h4 : pw (n + 1) * 1 ≤ pw (n + 1) * c := Nat.mul_le_mul_left _ hc
      simp only [pw] at h4 heq
      omega
  subst hc
  rw [← dig_val ok]
  congr 1

set_option maxHeartbeats 800000 in
set_option maxRecDepth 20000 in
/-- The reference's Add, the longer one's length said. -/
theorem radd_any (oa ob : Option Addr) (ca cb : Nat) (X Y : List Nat) (w : World) (hxl : X.length ≤ 500000000000) (hyl : Y.length ≤ 500000000000) (okX : OK X) (okY : OK Y) (hx : Cells w oa X) (hy : Cells w ob Y) :
    Calls Tryz.prog 120 #[.slice oa X.length ca, .slice ob Y.length cb] w fun e w' => ∃ v, e = .returned v ∧ Rd w' v (dig (val X + val Y)) ∧ Below w.heap.size w w' := by
  obtain ⟨n, hn, hnx, hny, hn2⟩ : ∃ n, (n = X.length ∧ ¬ X.length < Y.length ∨ n = Y.length ∧ X.length < Y.length) ∧ X.length ≤ n ∧ Y.length ≤ n ∧ n ≤ 500000000000 := by
    by_cases h : X.length < Y.length
    · exact ⟨Y.length, .inr ⟨rfl, h⟩, by omega, by omega, hyl⟩
    · exact ⟨X.length, .inl ⟨rfl, h⟩, by omega, by omega, hxl⟩
  have hr0 := Row.new w (List.replicate (n + 1) 0) (OK.replicate _ (by decide))
  have hb0 : Below w.heap.size w (w.alloc (.cells (cs (List.replicate (n + 1) 0)) 72)) := (Below.refl _ _).alloc (Nat.le_refl _) _
  have hmk := mk_run' ((n : Int) + 1) (n + 1) (by omega) (by omega) w
  rcases hn with ⟨hn, hc⟩ | ⟨hn, hc⟩
  · subst hn
    generalize hN : (List.replicate (X.length + 1) 0 : List Nat) = Z at *
    have HN := hide hN
    clear hN
    go_enter Tryz.func120, Tryz.ntmps120
    go_wp2_with fail
    go_loopw [7, 8] (fun c i wr => ∃ (k c0 : Nat) (ys : List Nat), k ≤ X.length + 1 ∧ c = .int .u64 (c0 : Int) ∧ i = .int .i64 (k : Int) ∧ Row wr w.heap.size ys ∧ Below w.heap.size w wr ∧ ys.length = X.length + 1 ∧
      val (seg ys 0 k) + pw k * c0 = val (seg Z 0 k) + (val (X.take k) + val (Y.take k)) ∧ c0 ≤ 1) (fun _ i _ => X.length + 1 - (intOf i).toNat)
    case atStart => exact ⟨0, 0, Z, Nat.zero_le _, rfl, rfl, hr0, hb0, by rw [← HN.out]; simp, by simp [seg_zero, val], by decide⟩
    case round =>
      obtain ⟨k, c0, ys, hk, rfl, rfl, hr, hb, hyl, heq, hc0⟩ := hrel
      have Heq := hide heq
      clear heq
      by_cases hlt : k ≤ X.length
      · have gu := hr.cell (i := k) (by omega)
        have gf := hr.free k
        obtain ⟨x, Hx⟩ : ∃ x, Hid (X[k]?.getD 0 = x) := ⟨_, rfl⟩
        obtain ⟨y, Hy⟩ : ∃ y, Hid (Y[k]?.getD 0 = y) := ⟨_, rfl⟩
        have hxb : x < 4294967296 := by have := okX.get k; rw [Hx.out] at this; exact this
        have hyb : y < 4294967296 := by have := okY.get k; rw [Hy.out] at this; exact this
        have hzl : Z.length = X.length + 1 := by rw [← HN.out]; simp
        have hz0 : Z[k]?.getD 0 = 0 := by rw [← HN.out]; simp [show k < X.length + 1 by omega]
        have hs := carry_step (us := Z) (p := x + y) (t := c0 + (x + y)) (by omega) (by omega) Heq.out (by rw [Nat.zero_add, hz0]; omega)
        have ht : val (X.take k) + val (Y.take k) + pw k * (x + y) = val (X.take (k + 1)) + val (Y.take (k + 1)) := by
          rw [val_take_next, val_take_next, Hx.out, Hy.out, Nat.mul_add]; omega
        rw [ht, Nat.zero_add] at hs
        have e1 : ((x : Int) + (y : Int) + (c0 : Int)) / 4294967296 = (((c0 + (x + y)) / 4294967296 : Nat) : Int) := by omega
        have e2 : ((x : Int) + (y : Int) + (c0 : Int)) % 4294967296 = (((c0 + (x + y)) % 4294967296 : Nat) : Int) := by omega
        have HS := hide hs
        have E1 := hide e1
        have E2 := hide e2
        have HYL := hide hyl
        have hkb : k < X.length + 1 := by omega
        clear hs ht e1 e2 hzl hz0 hyl
        go_wp2_with fail
        refine (rat_any oa ca X k _ (by omega) okX (hx.below hb (Nat.le_refl _))).mono ?_
        rintro e w' ⟨rfl, rfl⟩
        rw [Hx.out]
        go_wp2_with fail
        refine (rat_any ob cb Y k _ (by omega) okY (hy.below hb (Nat.le_refl _))).mono ?_
        rintro e w' ⟨rfl, rfl⟩
        rw [Hy.out]
        go_wp2_with fail
        rw [E1.out, E2.out]
        go_roundw
        case rel => exact ⟨k + 1, _, ys.set k ((c0 + (x + y)) % 4294967296), by omega, rfl, by go_num, hr.set _ (by omega), hb.setCell (Nat.le_refl _) _, by simpa using HYL.out, HS.out, by omega⟩
        case measure => simp [intOf]; omega
      · obtain rfl : k = X.length + 1 := by omega
        have hfin := rsum_fin (c := c0) okX okY hr.2 hnx hny hyl (by
          have h1 := Heq.out
          rw [← HN.out, seg_zeros, List.take_of_length_le (by omega), List.take_of_length_le (by omega)] at h1
          omega)
        have HF := hide hfin
        clear hfin
        go_wp2_with fail
        refine (rtrim_n _ _ _ ys wr hyl (by omega) (Nat.le_refl _) hr.2 hr.cells).mono ?_
        rintro e w2 ⟨v, rfl, hrd, hb2⟩
        rw [HF.out] at hrd
        go_wp2
        go_ret
        exact ⟨v, rfl, hrd, hb.trans (hb2.mono hb.size)⟩
  · subst hn
    generalize hN : (List.replicate (Y.length + 1) 0 : List Nat) = Z at *
    have HN := hide hN
    clear hN
    go_enter Tryz.func120, Tryz.ntmps120
    go_wp2_with fail
    go_loopw [7, 8] (fun c i wr => ∃ (k c0 : Nat) (ys : List Nat), k ≤ Y.length + 1 ∧ c = .int .u64 (c0 : Int) ∧ i = .int .i64 (k : Int) ∧ Row wr w.heap.size ys ∧ Below w.heap.size w wr ∧ ys.length = Y.length + 1 ∧
      val (seg ys 0 k) + pw k * c0 = val (seg Z 0 k) + (val (X.take k) + val (Y.take k)) ∧ c0 ≤ 1) (fun _ i _ => Y.length + 1 - (intOf i).toNat)
    case atStart => exact ⟨0, 0, Z, Nat.zero_le _, rfl, rfl, hr0, hb0, by rw [← HN.out]; simp, by simp [seg_zero, val], by decide⟩
    case round =>
      obtain ⟨k, c0, ys, hk, rfl, rfl, hr, hb, hyl, heq, hc0⟩ := hrel
      have Heq := hide heq
      clear heq
      by_cases hlt : k ≤ Y.length
      · have gu := hr.cell (i := k) (by omega)
        have gf := hr.free k
        obtain ⟨x, Hx⟩ : ∃ x, Hid (X[k]?.getD 0 = x) := ⟨_, rfl⟩
        obtain ⟨y, Hy⟩ : ∃ y, Hid (Y[k]?.getD 0 = y) := ⟨_, rfl⟩
        have hxb : x < 4294967296 := by have := okX.get k; rw [Hx.out] at this; exact this
        have hyb : y < 4294967296 := by have := okY.get k; rw [Hy.out] at this; exact this
        have hzl : Z.length = Y.length + 1 := by rw [← HN.out]; simp
        have hz0 : Z[k]?.getD 0 = 0 := by rw [← HN.out]; simp [show k < Y.length + 1 by omega]
        have hs := carry_step (us := Z) (p := x + y) (t := c0 + (x + y)) (by omega) (by omega) Heq.out (by rw [Nat.zero_add, hz0]; omega)
        have ht : val (X.take k) + val (Y.take k) + pw k * (x + y) = val (X.take (k + 1)) + val (Y.take (k + 1)) := by
          rw [val_take_next, val_take_next, Hx.out, Hy.out, Nat.mul_add]; omega
        rw [ht, Nat.zero_add] at hs
        have e1 : ((x : Int) + (y : Int) + (c0 : Int)) / 4294967296 = (((c0 + (x + y)) / 4294967296 : Nat) : Int) := by omega
        have e2 : ((x : Int) + (y : Int) + (c0 : Int)) % 4294967296 = (((c0 + (x + y)) % 4294967296 : Nat) : Int) := by omega
        have HS := hide hs
        have E1 := hide e1
        have E2 := hide e2
        have HYL := hide hyl
        have hkb : k < Y.length + 1 := by omega
        clear hs ht e1 e2 hzl hz0 hyl
        go_wp2_with fail
        refine (rat_any oa ca X k _ (by omega) okX (hx.below hb (Nat.le_refl _))).mono ?_
        rintro e w' ⟨rfl, rfl⟩
        rw [Hx.out]
        go_wp2_with fail
        refine (rat_any ob cb Y k _ (by omega) okY (hy.below hb (Nat.le_refl _))).mono ?_
        rintro e w' ⟨rfl, rfl⟩
        rw [Hy.out]
        go_wp2_with fail
        rw [E1.out, E2.out]
        go_roundw
        case rel => exact ⟨k + 1, _, ys.set k ((c0 + (x + y)) % 4294967296), by omega, rfl, by go_num, hr.set _ (by omega), hb.setCell (Nat.le_refl _) _, by simpa using HYL.out, HS.out, by omega⟩
        case measure => simp [intOf]; omega
      · obtain rfl : k = Y.length + 1 := by omega
        have hfin := rsum_fin (c := c0) okX okY hr.2 hnx hny hyl (by
          have h1 := Heq.out
          rw [← HN.out, seg_zeros, List.take_of_length_le (by omega), List.take_of_length_le (by omega)] at h1
          omega)
        have HF := hide hfin
        clear hfin
        go_wp2_with fail
        refine (rtrim_n _ _ _ ys wr hyl (by omega) (Nat.le_refl _) hr.2 hr.cells).mono ?_
        rintro e w2 ⟨v, rfl, hrd, hb2⟩
        rw [HF.out] at hrd
        go_wp2
        go_ret
        exact ⟨v, rfl, hrd, hb.trans (hb2.mono hb.size)⟩
end Go.Proofs.YtkgbfnmlpajblaaGreatDoor
