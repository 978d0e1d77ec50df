/- Small laws of stripped digits, of a slice's end, of Norm at a length written otherwise. -/
import Derived.Test.YtlomgfgedkkhkaaGreatDoorD5
import Derived.OwnWalk
namespace Go.Proofs.YtlomgfgedkkhkaaGreatDoor
open Go.RowKit Dig
theorem strip_strip' (ds : List Nat) : strip (strip ds) = strip ds := by
  induction ds with
  | nil => rfl
  | cons d ds ih =>
    by_cases h : strip ds = [] ∧ d = 0
    · simp [strip, h]
    · simp [strip, h, ih]
/-- Two answered slices lie in no common block. -/
def Parted (v1 v2 : Value) : Prop := ∀ p q n c m d, v1 = .slice (some p) n c → v2 = .slice (some q) m d → p.block ≠ q.block
theorem div_fin {X Y us' qs' : List Nat} {m : Nat} (okU : OK us') (okQ : OK qs') (hq : qs'.length = m) (hn : Y.length ≤ us'.length) (hU : us'.length = X.length + 1)
    (heq : val (seg (X ++ [0]) 0 (X.length + 1)) = val (seg us' 0 (X.length + 1)) + val Y * val (seg qs' 0 m)) (hlt : val (seg us' 0 (X.length + 1)) < val Y) (okY : OK Y) :
    strip qs' = dig (val X / val Y) ∧ strip (us'.take Y.length) = dig (val X % val Y) := by
  have e1 : seg (X ++ [0]) 0 (X.length + 1) = X ++ [0] := by
    have := seg_all (X ++ [0]); rwa [List.length_append] at this
  have e2 : seg us' 0 (X.length + 1) = us' := by rw [← hU]; exact seg_all us'
  have e3 : seg qs' 0 m = qs' := by rw [← hq]; exact seg_all qs'
  rw [e1, e2, e3, val_snoc_zero] at heq
  rw [e2] at hlt
  have hY : 0 < val Y := by omega
  have hq : val X / val Y = val qs' := by
    rw [heq, Nat.add_mul_div_left _ _ hY, Nat.div_eq_of_lt hlt, Nat.zero_add]
  have hr : val X % val Y = val us' := by
    rw [heq, Nat.add_mul_mod_self_left, Nat.mod_eq_of_lt hlt]
  refine ⟨by rw [hq, dig_val okQ], ?_⟩
  have hs := val_split us' Y.length hn
  have hz : val (us'.drop Y.length) = 0 := by
    rcases Nat.eq_zero_or_pos (val (us'.drop Y.length)) with h | h
    · exact h
    · have h1 := val_lt okY
      have := Nat.le_mul_of_pos_right (pw Y.length) h
      omega
  rw [hz, Nat.mul_zero, Nat.add_zero] at hs
  rw [hr, hs, dig_val (okU.take _)]
def divI (n : Nat) : Int := if n = 0 then 5 else 0
def divR (m n : Nat) : List Nat := if n = 0 then [] else dig (m % n)
theorem row_take {w : World} {b n : Nat} {xs : List Nat} (h : Row w b xs) (hn : n ≤ xs.length) : Cells w (some ⟨b, 0, none⟩) (xs.take n) := by
  have := Cells.of_row (n := n) h (off := 0) (by omega)
  simpa using this
theorem Own.cut {w : World} {B b n : Nat} {xs : List Nat} (hB : B ≤ b) (hr : Row w b xs) (hn : n ≤ xs.length) : Own w B (.slice (some ⟨b, 0, none⟩) (Dig.strip (xs.take n)).length (Dig.strip (xs.take n)).length) (Dig.strip (xs.take n)) := by
  have h1 := strip_length_le (xs.take n)
  have h2 : (xs.take n).length = n := by simp; omega
  have := Own.row (off := 0) (n := (Dig.strip (xs.take n)).length) (cap := (Dig.strip (xs.take n)).length) hB hr (Nat.le_refl _) (by omega)
  have e : ((xs.drop 0).take (Dig.strip (xs.take n)).length) = Dig.strip (xs.take n) := by
    conv => rhs; rw [strip_take]
    rw [List.drop_zero, List.take_take, Nat.min_eq_left (by omega)]
  rwa [e] at this
set_option maxHeartbeats 1600000 in
set_option maxRecDepth 20000 in
theorem divMod_any (oa ob : Option Addr) (ca cb : Nat) (xs ys : List Nat) (w : World) (hxl : xs.length ≤ 1000000000) (hyl : ys.length ≤ 1000000000) (hxc : xs.length ≤ ca) (hyc : ys.length ≤ cb)
    (okx : OK xs) (oky : OK ys) (hx : Cells w oa xs) (hy : Cells w ob ys) :
    Calls Tryz.prog 71 #[.slice oa xs.length ca, .slice ob ys.length cb] w fun e w' => ∃ v1 v2, e = .returned (.tuple #[v1, v2, .int .i64 (divI (val ys))]) ∧
      Own w' w.heap.size v1 (dig (val xs / val ys)) ∧ Own w' w.heap.size v2 (divR (val xs) (val ys)) ∧ Parted v1 v2 ∧ Below w.heap.size w w' := by
  have h1 := strip_length_le xs
  have h2 := strip_length_le ys
  have hx' := hx.strip
  have hy' := hy.strip
  have ex := val_strip xs
  have ey := val_strip ys
  have okX := OK_strip okx
  have okY := OK_strip oky
  have dY := dig_val oky
  have dX := dig_val okx
  have topY := strip_top (ds := ys)
  have ssX := strip_strip' xs
  generalize val xs = m at *
  generalize val ys = n at *
  have HX := hide ex
  have HY := hide ey
  have HDX := hide dX
  have HDY := hide dY
  have HT := hide topY
  have HSS := hide ssX
  clear ex ey dX dY topY ssX
  by_cases hn : n = 0
  · have eI : divI n = 5 := if_pos hn
    have eR : divR m n = [] := if_pos hn
    have eQ : dig (m / n) = [] := by rw [hn, Nat.div_zero]; rfl
    rw [eI, eR, eQ]
    have HN := hide hn
    clear hn eI eR eQ
    go_enter Tryz.func71, Tryz.ntmps71
    go_wp2_with fail
    refine (trim_any oa ca xs _ (by omega) hxc hx).mono ?_
    rintro e w' ⟨rfl, rfl⟩
    go_wp2_with fail
    refine (trim_any ob cb ys _ (by omega) hyc hy).mono ?_
    rintro e w' ⟨rfl, rfl⟩
    generalize strip xs = X at *
    generalize strip ys = Y at *
    have hY0 : Y.length = 0 := by rw [← HDY.out, HN.out]; rfl
    have hb : ((Y.length : Int) == 0) = true := by rw [beq_iff_eq]; omega
    clear hY0
    go_wp2_with fail
    go_ret3
    exact ⟨_, _, rfl, Own.nil _ _ _, Own.nil _ _ _, fun _ _ _ _ _ _ h => by (cases h), Below.refl _ _⟩
  · have eI : divI n = 0 := if_neg hn
    have eR : divR m n = dig (m % n) := if_neg hn
    rw [eI, eR]
    have HN := hide hn
    clear hn eI eR
    go_enter Tryz.func71, Tryz.ntmps71
    go_wp2_with fail
    refine (trim_any oa ca xs _ (by omega) hxc hx).mono ?_
    rintro e w' ⟨rfl, rfl⟩
    go_wp2_with fail
    refine (trim_any ob cb ys _ (by omega) hyc hy).mono ?_
    rintro e w' ⟨rfl, rfl⟩
    generalize strip xs = X at *
    generalize strip ys = Y at *
    have hY0 : ¬ Y.length = 0 := fun h => HN.out (dig_eq_nil.1 (by rw [HDY.out]; exact List.length_eq_zero_iff.1 h))
    have hb : ((Y.length : Int) == 0) = false := by rw [beq_eq_false_iff_ne]; omega
    by_cases hlt : X.length < Y.length
    · have hmn : m < n := lt_of_length_lt (by rw [HDX.out, HDY.out]; exact hlt)
      have HMN := hide hmn
      clear hmn
      go_wp2_with fail
      refine (norm_any oa ca X w (by omega) (by omega) okX hx').mono ?_
      rintro e w1 ⟨rfl, hrow, hb1⟩
      rw [HSS.out] at hrow ⊢
      go_wp2_with fail
      go_ret3
      refine ⟨_, _, rfl, ?_, ?_, fun _ _ _ _ _ _ h => by (cases h), hb1⟩
      · rw [Nat.div_eq_of_lt HMN.out, dig_zero]; exact Own.nil _ _ _
      · rw [Nat.mod_eq_of_lt HMN.out, HDX.out]
        have := Own.row (off := 0) (n := X.length) (cap := X.length) (Nat.le_refl w.heap.size) hrow (Nat.le_refl _) (by omega)
        rwa [List.drop_zero, List.take_length] at this
    · go_wp2_with fail
      refine (widen_any oa ca X w (by omega) okX hx').mono ?_
      rintro e w1 ⟨rfl, hrow, hb1⟩
      have hmk := mk_run' ((X.length : Int) - (Y.length : Int) + 1) (X.length - Y.length + 1) (by omega) (by omega) w1
      have hb2 : Below w.heap.size w (w1.alloc (.cells (cs (List.replicate (X.length - Y.length + 1) 0)) 56)) := hb1.alloc hb1.size _
      have hrow2 := hrow.alloc (.cells (cs (List.replicate (X.length - Y.length + 1) 0)) 56)
      have hrq := Row.new w1 (List.replicate (X.length - Y.length + 1) 0) (OK.replicate _ (by decide))
      have hlt1 := hrow.lt
      have hy2 := hy'.below hb2 (Nat.le_refl _)
      have hsx : (strip ((X ++ [0]).take (X.length + 1))).length = X.length := by
        rw [show (X ++ [0] : List Nat).take (X.length + 1) = X ++ [0] from List.take_of_length_le (by simp)]
        rw [← dig_val (okX.append (OK.cons (by decide) OK.nil)), val_snoc_zero, HX.out, HDX.out]
      have hvnew : Off w.heap.size ob := hy'.off_new (Nat.le_refl _) (fun e => hY0 (by rw [e]; rfl))
      have hvnew1 : Off w1.heap.size ob := (hy'.below hb1 (Nat.le_refl _)).off_new (Nat.le_refl _) (fun e => hY0 (by rw [e]; rfl))
      have hdv := divide_any w1.heap.size (X.length - Y.length + 1) (X.length - Y.length + 1) w.heap.size (X.length + 1) (X.length + 1) Y.length cb (List.replicate (X.length - Y.length + 1) 0) (X ++ [0]) Y ob _ rfl (by omega) hy2 okY (HT.out (fun e => hY0 (by rw [e]; rfl)))
        hvnew1 hvnew (by omega) hrq hrow2 (by simp) (Nat.le_refl _) (by simp) (Nat.le_refl _) (by simp; omega) (by simp; omega) (by omega) (by omega) (by rw [hsx]; omega) (by rw [hsx]; omega)
      rw [hsx] at hdv
      have HSX := hide hsx
      clear hsx
      go_wp2_with fail
      refine hdv.mono ?_
      rintro e w3 ⟨qs', us', rfl, rq, ru, ho, lq, lu, _, _, heq, hrlt⟩
      have lq' : qs'.length = X.length - Y.length + 1 := by rw [lq]; simp
      have lu' : us'.length = X.length + 1 := by rw [lu]; simp
      rw [show X.length + 1 - Y.length = X.length - Y.length + 1 from by omega] at heq
      have hfin := div_fin ru.2 rq.2 lq' (by omega) lu' heq hrlt okY
      rw [HX.out, HY.out] at hfin
      have HF := hide hfin
      have HL1 := hide lq'
      have HL2 := hide lu'
      clear hfin heq hrlt lq lu hdv
      have htl : (us'.take Y.length).length = Y.length := by rw [List.length_take]; omega
      have ht1 := trim_n (some ⟨w.heap.size, 0, none⟩) Y.length (X.length + 1) (us'.take Y.length) w3 htl (by omega) (by omega) (row_take ru (by omega))
      have hcut := Own.cut (Nat.le_refl w.heap.size) ru.drew (n := Y.length) (by omega)
      have hsl := strip_length_le (us'.take Y.length)
      rw [htl] at hsl
      have ht2 := trim_n (some ⟨w1.heap.size, 0, none⟩) (X.length - Y.length + 1) (X.length - Y.length + 1) qs' w3.drew lq' (by omega) (by omega) rq.drew.cells
      clear htl lq' lu'
      go_wp2_with fail
      refine ht1.mono ?_
      rintro e w' ⟨rfl, rfl⟩
      go_wp2_with fail
      go_region_with (go_at_call 88; refine ht2.mono ?_; rintro e w' ⟨rfl, rfl⟩)
      all_goals go_wp2
      all_goals go_ret3
      all_goals refine ⟨_, _, rfl, ?_, ?_, ?_, (hb2.trans (ho.below (B := w.heap.size) hb1.size (Nat.le_refl _))).drew⟩
      · have := Own.strip' hb1.size rq.drew HL1.out
        rw [← HF.out.1]; exact this
      · rw [← HF.out.2]; exact hcut
      · intro p q _ _ _ _ h1 h2
        cases h1
        cases h2
        exact Nat.ne_of_gt hlt1
      · have := Own.strip' hb1.size rq.drew HL1.out
        rw [← HF.out.1]; exact this
      · rw [← HF.out.2]; exact hcut
      · intro p q _ _ _ _ h1 h2
        cases h1
        cases h2
        exact Nat.ne_of_gt hlt1
theorem divMod_rd {w : World} {va vb : Value} {xs ys : List Nat} (hx : Rd w va xs) (hy : Rd w vb ys) (hxl : xs.length ≤ 1000000000) (hyl : ys.length ≤ 1000000000) :
    Calls Tryz.prog 71 #[va, vb] w fun e w' => ∃ v1 v2, e = .returned (.tuple #[v1, v2, .int .i64 (divI (val ys))]) ∧
      Own w' w.heap.size v1 (dig (val xs / val ys)) ∧ Own w' w.heap.size v2 (divR (val xs) (val ys)) ∧ Parted v1 v2 ∧ Below w.heap.size w w' := by
  obtain ⟨oa, ca, rfl, hca, okx, hcx⟩ := hx
  obtain ⟨ob, cb, rfl, hcb, oky, hcy⟩ := hy
  exact divMod_any oa ob ca cb xs ys w hxl hyl hca hcb okx oky hcx hcy
/-- DivMod by a number that is not 0. -/
theorem divMod_pos {w : World} {va vb : Value} {xs ys : List Nat} (hx : Rd w va xs) (hy : Rd w vb ys) (h0 : val ys ≠ 0) (hxl : xs.length ≤ 1000000000) (hyl : ys.length ≤ 1000000000) :
    Calls Tryz.prog 71 #[va, vb] w fun e w' => ∃ v1 v2, e = .returned (.tuple #[v1, v2, .int .i64 0]) ∧
      Own w' w.heap.size v1 (dig (val xs / val ys)) ∧ Own w' w.heap.size v2 (dig (val xs % val ys)) ∧ Parted v1 v2 ∧ Below w.heap.size w w' := by
  have h := divMod_rd hx hy hxl hyl
  rw [show divI (val ys) = 0 from if_neg h0, show divR (val xs) (val ys) = dig (val xs % val ys) from if_neg h0] at h
  exact h
end Go.Proofs.YtlomgfgedkkhkaaGreatDoor
