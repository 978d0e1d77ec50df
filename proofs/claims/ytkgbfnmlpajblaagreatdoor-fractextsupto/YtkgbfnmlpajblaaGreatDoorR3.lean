/- The reference's Mul answers the canonical digits of the product. -/
import Derived.Test.YtkgbfnmlpajblaaGreatDoorR2a
namespace Go.Proofs.YtkgbfnmlpajblaaGreatDoor
open Go.RowKit Dig

theorem rtrim_n (oa : Option Addr) (n cap : Nat) (ds : List Nat) (w : World) (e : ds.length = n) (hl : n ≤ 10000000000000) (hc : n ≤ cap) (ok : OK ds) (hcell : Cells w oa ds) :
    Calls Tryz.prog 106 #[.slice oa n cap] w fun e w' => ∃ v, e = .returned v ∧ Rd w' v (strip ds) ∧ Below w.heap.size w w' := by
  subst e; exact rtrim_any oa cap ds w hl hc ok hcell

theorem zero_above {ds : List Nat} {k j : Nat} (h : val ds < pw k) (hj : k ≤ j) : ds[j]?.getD 0 = 0 := by
  by_cases hl : j < ds.length
  · have h1 := val_split ds j (by omega)
    have h2 := drop_succ_val hl
    have h3 := pw_mono hj
    rcases Nat.eq_zero_or_pos (ds[j]?.getD 0) with h4 | h4
    · exact h4
    · have : pw j * 1 ≤ pw j * val (ds.drop j) := Nat.mul_le_mul_left _ (by omega)
      omega
  · simp [List.getElem?_eq_none (by omega : ds.length ≤ j)]

theorem mul_row {X Y P P' : List Nat} {i n L : Nat} (d : Nat) (hi : i < X.length) (hd : X[i]?.getD 0 = d) (hP : P.length = L) (hL : X.length + Y.length ≤ L) (hP' : P'.length = P.length) (hn : n = L - i)
    (hv : val P = val (X.take i) * val Y) (hout : ∀ j, j < i ∨ i + n ≤ j → P'[j]?.getD 0 = P[j]?.getD 0) (heq : val (seg P' i n) = val (seg P i n) + d * val Y) : val P' = val (X.take (i + 1)) * val Y := by
  have s1 := seg_split (xs := P) (off := 0) (k := i) (n := P.length) (by omega) (by omega)
  have s2 := seg_split (xs := P') (off := 0) (k := i) (n := P.length) (by omega) (by omega)
  rw [seg_all] at s1
  rw [← hP', seg_all] at s2
  rw [Nat.zero_add] at s1 s2
  have en : P.length - i = n := by omega
  have en' : P'.length - i = n := by omega
  rw [en] at s1
  rw [en'] at s2
  have ec : seg P' 0 i = seg P 0 i := seg_congr hP' (fun j _ h => hout j (.inl (by omega)))
  have tk := val_take_succ (xs := X) hi
  rw [hd] at tk
  rw [tk, Nat.add_mul, ← hv, Nat.mul_assoc, s1, s2, ec, heq, Nat.mul_add]
  omega

theorem take_mul_lt {X Y : List Nat} (okX : OK X) (okY : OK Y) {i : Nat} (hi : i ≤ X.length) : val (X.take i) * val Y < pw (i + Y.length) := by
  have h1 : val (X.take i) < pw i := by
    have := val_lt (okX.take i)
    rw [List.length_take, Nat.min_eq_left hi] at this; exact this
  rw [pw_add]
  exact Nat.mul_lt_mul_of_lt_of_le h1 (Nat.le_of_lt (val_lt okY)) (pw_pos _)

set_option maxHeartbeats 1000000 in
set_option maxRecDepth 20000 in
/-- The reference's Mul. -/
theorem rmul_any (oa ob : Option Addr) (ca cb : Nat) (X Y : List Nat) (w : World) (hxl : X.length ≤ 500000000000) (hyl : Y.length ≤ 500000000000) (okX : OK X) (okY : OK Y) (hx : Cells w oa X) (hy : Cells w ob Y) :
    Calls Tryz.prog 123 #[.slice oa X.length ca, .slice ob Y.length cb] w fun e w' => ∃ v, e = .returned v ∧ Rd w' v (dig (val X * val Y)) ∧ Below w.heap.size w w' := by
  have hmk := mk_run' ((X.length : Int) + (Y.length : Int) + 1) (X.length + Y.length + 1) (by omega) (by omega) w
  have hr0 := Row.new w (List.replicate (X.length + Y.length + 1) 0) (OK.replicate _ (by decide))
  have hb0 : Below w.heap.size w (w.alloc (.cells (cs (List.replicate (X.length + Y.length + 1) 0)) 72)) := (Below.refl _ _).alloc (Nat.le_refl _) _
  go_enter Tryz.func123, Tryz.ntmps123
  go_wp2_with fail
  go_loopw [6] (fun i wr => ∃ (k : Nat) (P : List Nat), k ≤ X.length ∧ i = .int .i64 (k : Int) ∧ Row wr w.heap.size P ∧ Below w.heap.size w wr ∧ P.length = X.length + Y.length + 1 ∧ val P = val (X.take k) * val Y) (fun i _ => X.length - (intOf i).toNat)
  case atStart => exact ⟨0, _, Nat.zero_le _, rfl, hr0, hb0, by simp, by rw [val_replicate_zero]; simp [val]⟩
  case round =>
    obtain ⟨i, P, hi, rfl, hr, hb, hPl, hv⟩ := hrel
    have HP := hide hPl
    have HV := hide hv
    clear hPl hv
    by_cases hlt : i < X.length
    · obtain ⟨bx, ox, x, ho, gx0, Hx⟩ := hx.get hlt
      have hxb : x < 4294967296 := by have := okX.get i; rw [Hx.out] at this; exact this
      subst ho
      have hbx : bx < w.heap.size := hx.lt_block (fun e => by rw [e] at hlt; simp at hlt)
      have HZ : Hid (∀ j, i + Y.length ≤ j → P[j]?.getD 0 = 0) := fun j hj => zero_above (by rw [HV.out]; exact take_mul_lt okX okY (by omega)) hj
      obtain ⟨W0, HW0⟩ : ∃ W0, Hid (W0 = wr) := ⟨_, rfl⟩
      go_wp2_with fail
      go_loopw [7, 8] (fun c jj wx => ∃ (j c0 : Nat) (ys : List Nat), c = .int .u64 (c0 : Int) ∧ jj = .int .i64 (j : Int) ∧ Row wx w.heap.size ys ∧ Below w.heap.size w wx ∧ ys.length = P.length ∧
        (∀ t, t < i ∨ i + j ≤ t → ys[t]?.getD 0 = P[t]?.getD 0) ∧ val (seg ys i j) + pw j * c0 = val (seg P i j) + x * val (Y.take j) ∧ c0 < 4294967296 ∧ (j ≤ Y.length ∨ (j = Y.length + 1 ∧ c0 = 0))) (fun _ jj _ => Y.length + 1 - (intOf jj).toNat)
      case atStart => exact ⟨0, 0, P, rfl, rfl, hr, hb, rfl, fun _ _ => rfl, by simp [seg_zero, val], by decide, .inl (Nat.zero_le _)⟩
      case round =>
        clear hr hb
        obtain ⟨j, c0, ys, rfl, rfl, hr, hb, hyl, hout, heq, hc0, hjl⟩ := hrel
        have Heq := hide heq
        have Hout := hide hout
        have Hyl := hide hyl
        have hPl := HP.out
        have hyb : ys.length = X.length + Y.length + 1 := hyl.trans hPl
        clear heq hout hyl hPl
        by_cases hj : j < Y.length
        · obtain ⟨by', oy, y, ho', gy0, Hy⟩ := hy.get hj
          have hyy : y < 4294967296 := by have := okY.get j; rw [Hy.out] at this; exact this
          subst ho'
          have hby : by' < w.heap.size := hy.lt_block (fun e => by rw [e] at hj; simp at hj)
          have gx := (hb.cell (p := ⟨bx, ox + i, none⟩) hbx).trans gx0
          have gy := (hb.cell (p := ⟨by', oy + j, none⟩) hby).trans gy0
          have gu := hr.cell (i := i + j) (by omega)
          have gf := hr.free (i + j)
          obtain ⟨z, Hz⟩ : ∃ z, Hid (ys[i + j]?.getD 0 = z) := ⟨_, rfl⟩
          rw [Hz.out] at gu
          have hzb : z < 4294967296 := by have := hr.2.get (i + j); rw [Hz.out] at this; exact this
          have hm : (x : Int) * (y : Int) ≤ 18446744065119617025 := by
            have : x * y ≤ 4294967295 * 4294967295 := Nat.mul_le_mul (by omega) (by omega)
            have h2 : ((x * y : Nat) : Int) ≤ 18446744065119617025 := by omega
            simpa using h2
          have hm0 : 0 ≤ (x : Int) * (y : Int) := by have := Int.natCast_nonneg (x * y); simpa using this
          have hs := carry_step (p := x * y) (t := c0 + (x * y + z)) (by omega) Hyl.out Heq.out (by have h1 := Hout.out (i + j) (by omega); have h2 := Hz.out; rw [← h1, h2])
          have ht : x * val (Y.take j) + pw j * (x * y) = x * val (Y.take (j + 1)) := by
            rw [val_take_succ hj, Hy.out, Nat.mul_add, Nat.mul_left_comm (pw j)]
          rw [ht] at hs
          have e0 : (z : Int) + (c0 : Int) + (x : Int) * (y : Int) = (((c0 + (x * y + z)) : Nat) : Int) := by simp; omega
          have e1 : ((z : Int) + (c0 : Int) + (x : Int) * (y : Int)) / 4294967296 = ((((c0 + (x * y + z)) / 4294967296) : Nat) : Int) := by rw [e0]; rfl
          have e2 : ((z : Int) + (c0 : Int) + (x : Int) * (y : Int)) % 4294967296 = ((((c0 + (x * y + z)) % 4294967296) : Nat) : Int) := by rw [e0]; rfl
          have hq : (c0 + (x * y + z)) / 4294967296 < 4294967296 := by
            have : x * y ≤ 4294967295 * 4294967295 := Nat.mul_le_mul (by omega) (by omega)
            omega
          have HS := hide hs
          have E1 := hide e1
          have E2 := hide e2
          have HYB := hide hyb
          have b1 : i + j < X.length + Y.length + 1 := by omega
          clear hs ht e0 e1 e2 hyb gx0 gy0
          go_wp2_with fail
          go_region
          all_goals go_wp2_with fail
          all_goals rw [E1.out, E2.out]
          all_goals go_roundw
          case rel =>
            exact ⟨j + 1, _, ys.set (i + j) ((c0 + (x * y + z)) % 4294967296), rfl, by go_num, (hr.drew).set _ (by omega), hb.drew.setCell (Nat.le_refl _) _, by simpa using Hyl.out,
              fun t ht => by rw [getD_set_other (by omega)]; exact Hout.out t (by omega), HS.out, hq, .inl hj⟩
          case measure => simp [intOf]; omega
        · have hz0 : ys[i + j]?.getD 0 = 0 := by rw [Hout.out (i + j) (by omega)]; exact HZ.out _ (by omega)
          have hYt : Y.take j = Y := List.take_of_length_le (by omega)
          by_cases hc : c0 = 0
          · subst hc
            have hfin : val ys = val (X.take (i + 1)) * val Y := by
              have h1 := Heq.out
              rw [hYt, Nat.mul_zero, Nat.add_zero] at h1
              have h2 := seg_ext (us := P) (ys := ys) (off := i) (k := j) (n := P.length - i) (by have := HP.out; omega) Hyl.out (by have := HP.out; omega) Hout.out
              exact mul_row x hlt Hx.out HP.out (by omega) Hyl.out (n := P.length - i) (by have := HP.out; omega) HV.out (fun t ht => Hout.out t (by rcases ht with h | h; (· exact .inl h); (· exact .inr (by have := HP.out; omega)))) (by omega)
            have HFin := hide hfin
            clear hfin hz0 hYt hyb
            go_wp2_with fail
            go_roundw
            case rel => exact ⟨i + 1, ys, hlt, by go_num, hr, hb, Hyl.out.trans HP.out, HFin.out⟩
            case measure => simp [intOf]; omega
          · have hjY : j = Y.length := by omega
            have hcp : 0 < c0 := by omega
            have gu := hr.cell (i := i + j) (by omega)
            have gf := hr.free (i + j)
            rw [hz0] at gu
            have hs := carry_step (p := 0) (t := c0) (by omega) Hyl.out Heq.out (by have h1 := Hout.out (i + j) (by omega); rw [← h1, hz0]; omega)
            have hq : c0 / 4294967296 = 0 := by omega
            have hg : c0 % 4294967296 = c0 := by omega
            rw [hq, hg, hYt] at hs
            have hs2 : val (seg (ys.set (i + j) c0) i (j + 1)) + pw (j + 1) * 0 = val (seg P i (j + 1)) + x * val (Y.take (j + 1)) := by
              rw [List.take_of_length_le (by omega : Y.length ≤ j + 1)]; simpa using hs
            have HS := hide hs2
            have b1 : i + j < X.length + Y.length + 1 := by omega
            have hq2 : (c0 : Int) / 4294967296 = 0 := by omega
            have hg2 : (c0 : Int) % 4294967296 = (c0 : Int) := by omega
            have hnl : ¬ (j : Int) < (Y.length : Int) := by omega
            have hnl2 : ¬ j < Y.length := hj
            have HJ := hide hjY
            clear hs hs2 hq hg hz0 hYt hyb hjY hjl
            go_wp2_with fail
            go_roundw
            case rel =>
              exact ⟨j + 1, 0, ys.set (i + j) c0, rfl, by go_num, hr.set _ hc0, hb.setCell (Nat.le_refl _) _, by simpa using Hyl.out,
                fun t ht => by rw [getD_set_other (by omega)]; exact Hout.out t (by omega), HS.out, by decide, .inr ⟨by have := HJ.out; omega, rfl⟩⟩
            case measure => have := HJ.out; simp [intOf]; omega
    · obtain rfl : i = X.length := by omega
      go_wp2_with fail
      refine (rtrim_n _ _ _ P wr HP.out (by omega) (Nat.le_refl _) hr.2 hr.cells).mono ?_
      rintro e w2 ⟨v, rfl, hrd, hb2⟩
      have hfin : strip P = dig (val X * val Y) := by
        rw [← dig_val hr.2, HV.out, List.take_length]
      rw [hfin] at hrd
      clear hfin
      go_wp2
      go_ret
      exact ⟨v, rfl, hrd, hb.trans (hb2.mono hb.size)⟩
end Go.Proofs.YtkgbfnmlpajblaaGreatDoor
