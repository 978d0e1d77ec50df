/- nat.Sub and nat.Mul answer the canonical digits of the difference and the product, in new memory. -/
import Derived.Test.YtjcfhbekpmpbeaaDoorW4
namespace Go.Proofs.YtjcfhbekpmpbeaaDoor
open Go.RowKit Dig

/-- Sub's answer. -/
def subI (m n : Nat) : Int := if m < n then 6 else 0

theorem cmpI_neg {m n : Nat} : cmpI m n < 0 ↔ m < n := by
  unfold cmpI; split
  · simp [*]
  · split <;> simp <;> omega

theorem sub_fin {X Y us : List Nat} {c : Nat} (ok : OK us) (h : us.length = X.length) (hYX : val Y ≤ val X) (heq : val (seg us 0 X.length) + 1 * val Y = val (seg X 0 X.length) + pw X.length * c) (okX : OK X) :
    strip us = dig (val X - val Y) := by
  have e1 : seg us 0 X.length = us := by have := seg_all us; rw [h] at this; exact this
  rw [e1, seg_all, Nat.one_mul] at heq
  have h1 := val_lt ok
  have h2 := val_lt okX
  rw [h] at h1
  have hc : c = 0 := by
    rcases Nat.eq_zero_or_pos c with hc | hc
    · exact hc
    · have h4 : pw X.length * 1 ≤ pw X.length * c := Nat.mul_le_mul_left _ hc
      omega
  subst hc
  rw [← dig_val ok]
  congr 1
  omega

set_option maxHeartbeats 800000 in
set_option maxRecDepth 20000 in
/-- Sub. -/
theorem sub_any (oa ob : Option Addr) (ca cb : Nat) (xs ys : List Nat) (w : World) (hxl : xs.length ≤ 1000000000000) (hyl : ys.length ≤ 1000000000000) (hxc : xs.length ≤ ca) (hyc : ys.length ≤ cb)
    (okx : OK xs) (oky : OK ys) (hx : Cells w oa xs) (hy : Cells w ob ys) :
    Calls Tryd.prog 15 #[.slice oa xs.length ca, .slice ob ys.length cb] w fun e w' => ∃ v, e = .returned (.tuple #[v, .int .i64 (subI (val xs) (val ys))]) ∧ Own w' w.heap.size v (if val xs < val ys then [] else dig (val xs - val ys)) ∧ Below w.heap.size w w' := by
  have h1 := strip_length_le xs
  have h2 := strip_length_le ys
  by_cases hlt : val xs < val ys
  · have hneg : cmpI (val xs) (val ys) < 0 := cmpI_neg.2 hlt
    have hs : subI (val xs) (val ys) = 6 := by unfold subI; rw [if_pos hlt]
    rw [hs, if_pos hlt]
    go_enter Tryd.func15, Tryd.ntmps15
    go_wp2_with fail
    refine (cmp_any oa ob ca cb xs ys _ (by omega) (by omega) hxc hyc okx oky hx hy).mono ?_
    rintro e w1 ⟨rfl, hb⟩
    go_wp2
    go_ret2
    exact ⟨_, rfl, Own.nil _ _ _, hb⟩
  · have hneg : ¬ cmpI (val xs) (val ys) < 0 := fun h => hlt (cmpI_neg.1 h)
    have hs : subI (val xs) (val ys) = 0 := by unfold subI; rw [if_neg hlt]
    have hlen : (strip ys).length ≤ (strip xs).length := by
      rw [← dig_val okx, ← dig_val oky]; exact dig_length_mono (by omega)
    rw [hs, if_neg hlt]
    go_enter Tryd.func15, Tryd.ntmps15
    go_wp2_with fail
    refine (cmp_any oa ob ca cb xs ys _ (by omega) (by omega) hxc hyc okx oky hx hy).mono ?_
    rintro e w1 ⟨rfl, hb⟩
    go_wp2_with fail
    refine (norm_any oa ca xs w1 (by omega) hxc okx (hx.below hb (Nat.le_refl _))).mono ?_
    rintro e w2 ⟨rfl, hrow, hb2⟩
    go_wp2_with fail
    have hy2 := (hy.below hb (Nat.le_refl _)).below hb2 (Nat.le_refl _)
    have hy1 := (hy.below hb (Nat.le_refl _)).strip
    refine (trim_any ob cb ys _ (by omega) hyc hy2).mono ?_
    rintro e w' ⟨rfl, rfl⟩
    go_wp2_with fail
    refine (takeTimes_any w1.heap.size 0 (strip xs).length (strip xs).length (strip xs) (strip ys) ob cb 1 w2 (by omega) (Nat.le_refl _) hrow (by omega) (by omega) (by omega) hlen (OK_strip oky) hy2.strip (fun hne => hy1.off_new (Nat.le_refl _) hne) (by decide)).mono ?_
    rintro e w3 ⟨c, us', rfl, _, hrow2, hon, hul, _, heq⟩
    go_wp2_with fail
    refine (trim_n _ _ _ us' w3 hul (by omega) (Nat.le_refl _) hrow2.cells).mono ?_
    rintro e w' ⟨rfl, rfl⟩
    have hfin := sub_fin hrow2.2 hul (by rw [val_strip, val_strip]; omega) heq (OK_strip okx)
    rw [val_strip, val_strip] at hfin
    have hown := (Own.strip' (Nat.le_refl w1.heap.size) hrow2 hul).mono hb.size
    rw [hfin] at hown
    have hbb := hb.trans ((hb2.trans (hon.below (Nat.le_refl w1.heap.size))).mono hb.size)
    have HF := hide hfin
    clear hfin heq hul
    go_wp2
    go_ret2
    exact ⟨_, rfl, by rw [HF.out]; exact hown, hbb⟩

theorem mul_fin {X Y P : List Nat} {i n c : Nat} (d : Nat) {P' : List Nat} (okX : OK X) (okY : OK Y) (hi : i < X.length) (hd : X[i]?.getD 0 = d) (hP : P.length = X.length + Y.length) (hP' : P'.length = P.length) (hn : n = X.length + Y.length - i)
    (hv : val P = val (X.take i) * val Y) (hout : ∀ j, j < i ∨ i + n ≤ j → P'[j]?.getD 0 = P[j]?.getD 0) (heq : val (seg P' i n) + pw n * c = val (seg P i n) + d * val Y) : val P' = val (X.take (i + 1)) * val Y := by
  have s1 := seg_split (xs := P) (off := 0) (k := i) (n := P.length) (by omega) (by omega)
  have s2 := seg_split (xs := P') (off := 0) (k := i) (n := P.length) (by omega) (by omega)
  rw [seg_all] at s1
  rw [← hP', seg_all] at s2
  rw [Nat.zero_add] at s1 s2
  have en : P.length - i = n := by omega
  have en' : P'.length - i = n := by omega
  rw [en] at s1
  rw [en'] at s2
  have ec : seg P' 0 i = seg P 0 i := seg_congr hP' (fun j _ h => hout j (.inl (by omega)))
  have key : val P' + pw i * (pw n * c) = val P + pw i * (d * val Y) := by
    have := congrArg (fun z => pw i * z) heq
    simp only [Nat.mul_add] at this
    rw [s1, s2, ec]; omega
  have tk := val_take_succ (xs := X) hi
  rw [hd] at tk
  have e3 : val (X.take (i + 1)) * val Y = val P + pw i * (d * val Y) := by
    rw [tk, Nat.add_mul, hv, Nat.mul_assoc]
  have h1 : val (X.take (i + 1)) < pw (i + 1) := by
    have := val_lt (okX.take (i + 1))
    rw [List.length_take, Nat.min_eq_left (by omega)] at this; exact this
  have h2 := val_lt okY
  have h3 : val (X.take (i + 1)) * val Y < pw i * pw n := by
    rw [← pw_add]
    have h4 : val (X.take (i + 1)) * val Y < pw (i + 1) * pw Y.length := Nat.mul_lt_mul_of_lt_of_le h1 (Nat.le_of_lt h2) (pw_pos _)
    rw [← pw_add] at h4
    exact Nat.lt_of_lt_of_le h4 (pw_mono (by omega))
  have hc : c = 0 := by
    rcases Nat.eq_zero_or_pos c with hc | hc
    · exact hc
    · have h5 : pw i * pw n ≤ pw i * (pw n * c) := by
        rw [← Nat.mul_assoc]; exact Nat.le_mul_of_pos_right _ hc
      omega
  subst hc
  omega

set_option maxHeartbeats 800000 in
set_option maxRecDepth 20000 in
/-- Mul. -/
theorem mul_any (oa ob : Option Addr) (ca cb : Nat) (xs ys : List Nat) (w : World) (hxl : xs.length ≤ 500000000000) (hyl : ys.length ≤ 500000000000) (hxc : xs.length ≤ ca) (hyc : ys.length ≤ cb)
    (okx : OK xs) (oky : OK ys) (hx : Cells w oa xs) (hy : Cells w ob ys) :
    Calls Tryd.prog 9 #[.slice oa xs.length ca, .slice ob ys.length cb] w fun e w' => ∃ v, e = .returned v ∧ Own w' w.heap.size v (dig (val xs * val ys)) ∧ Below w.heap.size w w' := by
  have h1 := strip_length_le xs
  have h2 := strip_length_le ys
  have hx' := hx.strip
  have hy' := hy.strip
  have ex := val_strip xs
  have ey := val_strip ys
  have okX := OK_strip okx
  have okY := OK_strip oky
  generalize val xs = m at *
  generalize val ys = n at *
  have HX := hide ex
  have HY := hide ey
  clear ex ey
  go_enter Tryd.func9, Tryd.ntmps9
  go_wp2_with fail
  refine (trim_any oa ca xs _ (by omega) hxc hx).mono ?_
  rintro e w' ⟨rfl, rfl⟩
  go_wp2_with fail
  refine (trim_any ob cb ys _ (by omega) hyc hy).mono ?_
  rintro e w' ⟨rfl, rfl⟩
  generalize strip xs = X at *
  generalize strip ys = Y at *
  have hmk := mk_run' ((X.length : Int) + (Y.length : Int)) (X.length + Y.length) (by omega) (by omega) w
  have hr0 := Row.new w (List.replicate (X.length + Y.length) 0) (OK.replicate _ (by decide))
  have hb0 : Below w.heap.size w (w.alloc (.cells (cs (List.replicate (X.length + Y.length) 0)) 24)) := (Below.refl _ _).alloc (Nat.le_refl _) _
  go_wp2_with fail
  go_loopw [20] (fun i wr => ∃ (k : Nat) (P : List Nat), k ≤ X.length ∧ i = .int .i64 (k : Int) ∧ Row wr w.heap.size P ∧ Below w.heap.size w wr ∧ P.length = X.length + Y.length ∧ val P = val (X.take k) * val Y) (fun i _ => X.length - (intOf i).toNat)
  case atStart => exact ⟨0, _, Nat.zero_le _, rfl, hr0, hb0, by simp, by rw [val_replicate_zero]; simp [val]⟩
  case round =>
    obtain ⟨k, P, hk, rfl, hr, hb, hPl, hv⟩ := hrel
    have HP := hide hPl
    have HV := hide hv
    clear hPl hv
    by_cases hlt : k < X.length
    · obtain ⟨bx, ox, x, ho, gx, Hx⟩ := (hx'.below hb (Nat.le_refl _)).get hlt
      have hxb : x < 4294967296 := by have := okX.get k; rw [Hx.out] at this; exact this
      subst ho
      go_wp2_with fail
      have hPl := HP.out
      refine (addTimes_any w.heap.size k (X.length + Y.length - k) (X.length + Y.length - k) P Y ob cb x wr (by omega) (Nat.le_refl _) hr (by omega) (by omega) (by omega) (by omega) okY (hy'.below hb (Nat.le_refl _)) (fun hne => hy'.off_new (Nat.le_refl _) hne) hxb).mono ?_
      rintro e w2 ⟨c, P', rfl, hr2, hon, hP', hout, heq⟩
      have hv2 := mul_fin x okX okY hlt Hx.out hPl hP' rfl HV.out hout heq
      have HV2 := hide hv2
      have HP2 : Hid (P'.length = X.length + Y.length) := hP'.trans hPl
      clear hout heq hP' hPl hv2
      go_wp2
      go_roundw
      case rel => exact ⟨k + 1, P', hlt, by go_num, hr2, hb.trans (hon.below (Nat.le_refl _)), HP2.out, HV2.out⟩
      case measure => simp [intOf]; omega
    · obtain rfl : k = X.length := by omega
      go_wp2_with fail
      refine (trim_n _ _ _ P wr HP.out (by omega) (Nat.le_refl _) hr.cells).mono ?_
      rintro e w' ⟨rfl, rfl⟩
      have hfin : strip P = dig (m * n) := by
        rw [← dig_val hr.2, HV.out, List.take_length, HX.out, HY.out]
      have hown := Own.strip' (Nat.le_refl w.heap.size) hr HP.out
      rw [hfin] at hown
      have HF := hide hfin
      clear hfin
      go_wp2
      go_ret
      exact ⟨_, rfl, by rw [HF.out]; exact hown, hb⟩
end Go.Proofs.YtjcfhbekpmpbeaaDoor
