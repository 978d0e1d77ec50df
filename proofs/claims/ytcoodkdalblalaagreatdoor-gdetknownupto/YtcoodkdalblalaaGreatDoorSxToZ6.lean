/- Small laws of stripped digits, of a slice's end, of Norm at a length written otherwise. -/
import Derived.Test.YtcoodkdalblalaaGreatDoorD5
import Derived.OwnWalk
namespace Go.Proofs.YtcoodkdalblalaaGreatDoor
open Go.RowKit Dig
theorem strip_strip' (ds : List Nat) : strip (strip ds) = strip ds := by
  induction ds with
  | nil => rfl
  | cons d ds ih =>
    by_cases h : strip ds = [] ∧ d = 0
    · simp [strip, h]
    · simp [strip, h, ih]
/-- Two answered slices lie in no common block. -/
def Parted (v1 v2 : Value) : Prop := ∀ p q n c m d, v1 = .slice (some p) n c → v2 = .slice (some q) m d → p.block ≠ q.block
theorem div_fin {X Y us' qs' : List Nat} {m : Nat} (okU : OK us') (okQ : OK qs') (hq : qs'.length = m) (hn : Y.length ≤ us'.length) (hU : us'.length = X.length + 1)
    (heq : val (seg (X ++ [0]) 0 (X.length + 1)) = val (seg us' 0 (X.length + 1)) + val Y * val (seg qs' 0 m)) (hlt : val (seg us' 0 (X.length + 1)) < val Y) (okY : OK Y) :
    strip qs' = dig (val X / val Y) ∧ strip (us'.take Y.length) = dig (val X % val Y) := by
  have e1 : seg (X ++ [0]) 0 (X.length + 1) = X ++ [0] := by
    have := seg_all (X ++ [0]); rwa [List.length_append] at this
  have e2 : seg us' 0 (X.length + 1) = us' := by rw [← hU]; exact seg_all us'
  have e3 : seg qs' 0 m = qs' := by rw [← hq]; exact seg_all qs'
  rw [e1, e2, e3, val_snoc_zero] at heq
  rw [e2] at hlt
  have hY : 0 < val Y := by omega
  have hq : val X / val Y = val qs' := by
    rw [heq, Nat.add_mul_div_left _ _ hY, Nat.div_eq_of_lt hlt, Nat.zero_add]
  have hr : val X % val Y = val us' := by
    rw [heq, Nat.add_mul_mod_self_left, Nat.mod_eq_of_lt hlt]
  refine ⟨by rw [hq, dig_val okQ], ?_⟩
  have hs := val_split us' Y.length hn
  have hz : val (us'.drop Y.length) = 0 := by
    rcases Nat.eq_zero_or_pos (val (us'.drop Y.length)) with h | h
    · exact h
    · have h1 := val_lt okY
      have := Nat.le_mul_of_pos_right (pw Y.length) h
      omega
  rw [hz, Nat.mul_zero, Nat.add_zero] at hs
  rw [hr, hs, dig_val (okU.take _)]
def divI (n : Nat) : Int := if n = 0 then 5 else 0
def divR (m n : Nat) : List Nat := if n = 0 then [] else dig (m % n)
theorem row_take {w : World} {b n : Nat} {xs : List Nat} (h : Row w b xs) (hn : n ≤ xs.length) : Cells w (some ⟨b, 0, none⟩) (xs.take n) := by
  have := Cells.of_row (n := n) h (off := 0) (by omega)
  simpa using this
theorem Own.cut {w : World} {B b n : Nat} {xs : List Nat} (hB : B ≤ b) (hr : Row w b xs) (hn : n ≤ xs.length) : Own w B (.slice (some ⟨b, 0, none⟩) (Dig.strip (xs.take n)).length (Dig.strip (xs.take n)).length) (Dig.strip (xs.take n)) := by
  have h1 := strip_length_le (xs.take n)
  have h2 : (xs.take n).length = n := by simp; omega
  have := Own.row (off := 0) (n := (Dig.strip (xs.take n)).length) (cap := (Dig.strip (xs.take n)).length) hB hr (Nat.le_refl _) (by omega)
  have e : ((xs.drop 0).take (Dig.strip (xs.take n)).length) = Dig.strip (xs.take n) := by
    conv => rhs; rw [strip_take]
    rw [List.drop_zero, List.take_take, Nat.min_eq_left (by omega)]
  rwa [e] at this
set_option maxHeartbeats 1600000 in
set_option maxRecDepth 20000 in
theorem divMod_any (oa ob : Option Addr) (ca cb : Nat) (xs ys : List Nat) (w : World) (hxl : xs.length ≤ 1000000000) (hyl : ys.length ≤ 1000000000) (hxc : xs.length ≤ ca) (hyc : ys.length ≤ cb)
    (okx : OK xs) (oky : OK ys) (hx : Cells w oa xs) (hy : Cells w ob ys) :
    Calls Tryz.prog 102 #[.slice oa xs.length ca, .slice ob ys.length cb] w fun e w' => ∃ v1 v2, e = .returned (.tuple #[v1, v2, .int .i64 (divI (val ys))]) ∧
      Own w' w.heap.size v1 (dig (val xs / val ys)) ∧ Own w' w.heap.size v2 (divR (val xs) (val ys)) ∧ Parted v1 v2 ∧ Below w.heap.size w w' := by
  have h1 := strip_length_le xs
  have h2 := strip_length_le ys
  have hx' := hx.strip
  have hy' := hy.strip
  have ex := val_strip xs
  have ey := val_strip ys
  have okX := OK_strip okx
  have okY := OK_strip oky
  have dY := dig_val oky
  have dX := dig_val okx
  have topY := strip_top (ds := ys)
  have ssX := strip_strip' xs
  generalize val xs = m at *
  generalize val ys = n at *
  have HX := hide ex
  have HY := hide ey
  have HDX := hide dX
  have HDY := hide dY
  have HT := hide topY
  have HSS := hide ssX
  clear ex ey dX dY topY ssX
  by_cases hn : n = 0
  · have eI : divI n = 5 := if_pos hn
    have eR : divR m n = [] := if_pos hn
    have eQ : dig (m / n) = [] := by rw [hn, Nat.div_zero]; rfl
    rw [eI, eR, eQ]
    have HN := hide hn
    clear hn eI eR eQ
    go_enter Tryz.func102, Tryz.ntmps102
    go_wp2_with fail
    refine (trim_any oa ca xs _ (by omega) hxc hx).mono ?_
    rintro e w' ⟨rfl, rfl⟩
    go_wp2_with fail
    refine (trim_any ob cb ys _ (by omega) hyc hy).mono ?_
    rintro e w' ⟨rfl, rfl⟩
    generalize strip xs = X at *
    generalize strip ys = Y at *
    have hY0 : Y.length = 0 := by rw [← HDY.out, HN.out]; rfl
    have hb : ((Y.length : Int) == 0) = true := by rw [beq_iff_eq]; omega
    clear hY0
    go_wp2_with fail
    go_ret3
    exact ⟨_, _, rfl, Own.nil _ _ _, Own.nil _ _ _, fun _ _ _ _ _ _ h => by (cases h), Below.refl _ _⟩
  · have eI : divI n = 0 := if_neg hn
    have eR : divR m n = dig (m % n) := if_neg hn
    rw [eI, eR]
    have HN := hide hn
    clear hn eI eR
    go_enter Tryz.func102, Tryz.ntmps102
    go_wp2_with fail
    refine (trim_any oa ca xs _ (by omega) hxc hx).mono ?_
    rintro e w' ⟨rfl, rfl⟩
    go_wp2_with fail
    refine (trim_any ob cb ys _ (by omega) hyc hy).mono ?_
    rintro e w' ⟨rfl, rfl⟩
    generalize strip xs = X at *
    generalize strip ys = Y at *
    have hY0 : ¬ Y.length = 0 := fun h => HN.out (dig_eq_nil.1 (by rw [HDY.out]; exact List.length_eq_zero_iff.1 h))
    have hb : ((Y.length : Int) == 0) = false := by rw [beq_eq_false_iff_ne]; omega
    by_cases hlt : X.length < Y.length
    · have hmn : m < n := lt_of_length_lt (by rw [HDX.out, HDY.out]; exact hlt)
      have HMN := hide hmn
      clear hmn
      go_wp2_with fail
      refine (norm_any oa ca X w (by omega) (by omega) okX hx').mono ?_
      rintro e w1 ⟨rfl, hrow, hb1⟩
      rw [HSS.out] at hrow ⊢
      go_wp2_with fail
      go_ret3
      refine ⟨_, _, rfl, ?_, ?_, fun _ _ _ _ _ _ h => by (cases h), hb1⟩
      · rw [Nat.div_eq_of_lt HMN.out, dig_zero]; exact Own.nil _ _ _
      · rw [Nat.mod_eq_of_lt HMN.out, HDX.out]
        have := Own.row (off := 0) (n := X.length) (cap := X.length) (Nat.le_refl w.heap.size) hrow (Nat.le_refl _) (by omega)
        rwa [List.drop_zero, List.take_length] at this
    · go_wp2_with fail
      refine (widen_any oa ca X w (by omega) okX hx').mono ?_
      rintro e w1 ⟨rfl, hrow, hb1⟩
      have hmk := mk_run' ((X.length : Int) - (Y.length : Int) + 1) (X.length - Y.length + 1) (by omega) (by omega) w1
      have hb2 : Below w.heap.size w (w1.alloc (.cells (cs (List.replicate (X.length - Y.length + 1) 0)) 105)) := hb1.alloc hb1.size _
      have hrow2 := hrow.alloc (.cells (cs (List.replicate (X.length - Y.length + 1) 0)) 105)
      have hrq := Row.new w1 (List.replicate (X.length - Y.length + 1) 0) (OK.replicate _ (by decide))
      have hlt1 := hrow.lt
      have hy2 := hy'.below hb2 (Nat.le_refl _)
      have hsx : (strip ((X ++ [0]).take (X.length + 1))).length = X.length := by
        rw [show (X ++ [0] : List Nat).take (X.length + 1) = X ++ [0] from List.take_of_length_le (by simp)]
        rw [← dig_val (okX.append (OK.cons (by decide) OK.nil)), val_snoc_zero, HX.out, HDX.out]
      have hvnew : Off w.heap.size ob := hy'.off_new (Nat.le_refl _) (fun e => hY0 (by rw [e]; rfl))
      have hvnew1 : Off w1.heap.size ob := (hy'.below hb1 (Nat.le_refl _)).off_new (Nat.le_refl _) (fun e => hY0 (by rw [e]; rfl))
      have hdv := divide_any w1.heap.size (X.length - Y.length + 1) (X.length - Y.length + 1) w.heap.size (X.length + 1) (X.length + 1) Y.length cb (List.replicate (X.length - Y.length + 1) 0) (X ++ [0]) Y ob _ rfl (by omega) hy2 okY (HT.out (fun e => hY0 (by rw [e]; rfl)))
        hvnew1 hvnew (by omega) hrq hrow2 (by simp) (Nat.le_refl _) (by simp) (Nat.le_refl _) (by simp; omega) (by simp; omega) (by omega) (by omega) (by rw [hsx]; omega) (by rw [hsx]; omega)
      rw [hsx] at hdv
      have HSX := hide hsx
      clear hsx
      go_wp2_with fail
      refine hdv.mono ?_
      rintro e w3 ⟨qs', us', rfl, rq, ru, ho, lq, lu, _, _, heq, hrlt⟩
      have lq' : qs'.length = X.length - Y.length + 1 := by rw [lq]; simp
      have lu' : us'.length = X.length + 1 := by rw [lu]; simp
      rw [show X.length + 1 - Y.length = X.length - Y.length + 1 from by omega] at heq
      have hfin := div_fin ru.2 rq.2 lq' (by omega) lu' heq hrlt okY
      rw [HX.out, HY.out] at hfin
      have HF := hide hfin
      have HL1 := hide lq'
      have HL2 := hide lu'
      clear hfin heq hrlt lq lu hdv
      have htl : (us'.take Y.length).length = Y.length := by rw [List.length_take]; omega
      have ht1 := trim_n (some ⟨w.heap.size, 0, none⟩) Y.length (X.length + 1) (us'.take Y.length) w3 htl (by omega) (by omega) (row_take ru (by omega))
      have hcut := Own.cut (Nat.le_refl w.heap.size) ru.drew (n := Y.length) (by omega)
      have hsl := strip_length_le (us'.take Y.length)
      rw [htl] at hsl
      have ht2 := trim_n (some ⟨w1.heap.size, 0, none⟩) (X.length - Y.length + 1) (X.length - Y.length + 1) qs' w3.drew lq' (by omega) (by omega) rq.drew.cells
      clear htl lq' lu'
      go_wp2_with fail
      refine ht1.mono ?_
      rintro e w' ⟨rfl, rfl⟩
      go_wp2_with fail
      go_region_with (go_at_call 100; refine ht2.mono ?_; rintro e w' ⟨rfl, rfl⟩)
      all_goals go_wp2
      all_goals go_ret3
      all_goals refine ⟨_, _, rfl, ?_, ?_, ?_, (hb2.trans (ho.below (B := w.heap.size) hb1.size (Nat.le_refl _))).drew⟩
      · have := Own.strip' hb1.size rq.drew HL1.out
        rw [← HF.out.1]; exact this
      · rw [← HF.out.2]; exact hcut
      · intro p q _ _ _ _ h1 h2
        cases h1
        cases h2
        exact Nat.ne_of_gt hlt1
      · have := Own.strip' hb1.size rq.drew HL1.out
        rw [← HF.out.1]; exact this
      · rw [← HF.out.2]; exact hcut
      · intro p q _ _ _ _ h1 h2
        cases h1
        cases h2
        exact Nat.ne_of_gt hlt1
theorem gcd_turn {U V r q : Nat} (h : U = r + V * q) (hr : r < V) : Nat.gcd V r = Nat.gcd U V := by
  have e : U % V = r := by rw [h, Nat.add_mul_mod_self_left, Nat.mod_eq_of_lt hr]
  rw [Nat.gcd_comm U V, Nat.gcd_rec V U, e, Nat.gcd_comm]
theorem seg_take (xs : List Nat) (n : Nat) : seg xs 0 n = xs.take n := by simp [seg]
theorem take_val {ds : List Nat} (ok : OK ds) {k : Nat} (h : (strip ds).length ≤ k) : val (ds.take k) = val ds := by
  rcases Nat.lt_or_ge ds.length k with hk | hk
  · rw [List.take_of_length_le (by omega)]
  · have h1 := val_split ds k hk
    have h2 := val_lt (OK_strip ok)
    rw [val_strip] at h2
    have h3 := pw_mono h
    rcases Nat.eq_zero_or_pos (val (ds.drop k)) with h4 | h4
    · rw [h4, Nat.mul_zero, Nat.add_zero] at h1; exact h1.symm
    · have := Nat.le_mul_of_pos_right (pw k) h4
      omega
theorem strip_len {ds : List Nat} (ok : OK ds) : (strip ds).length = (dig (val ds)).length := by rw [dig_val ok]
set_option maxHeartbeats 1600000 in
set_option maxRecDepth 20000 in
theorem gcd_any (oa ob : Option Addr) (ca cb : Nat) (xs ys : List Nat) (w : World) (hxl : xs.length ≤ 1000000000) (hyl : ys.length ≤ 1000000000) (hxc : xs.length ≤ ca) (hyc : ys.length ≤ cb)
    (okx : OK xs) (oky : OK ys) (hx : Cells w oa xs) (hy : Cells w ob ys) :
    Calls Tryz.prog 122 #[.slice oa xs.length ca, .slice ob ys.length cb] w fun e w' => ∃ v, e = .returned v ∧ Own w' w.heap.size v (dig (Nat.gcd (val xs) (val ys))) ∧ Below w.heap.size w w' := by
  have h1 := strip_length_le xs
  have h2 := strip_length_le ys
  have hx' := hx.strip
  have hy' := hy.strip
  have ex := val_strip xs
  have ey := val_strip ys
  have okX := OK_strip okx
  have okY := OK_strip oky
  have ssX := strip_strip' xs
  have ssY := strip_strip' ys
  generalize val xs = m at *
  generalize val ys = n at *
  have HX := hide ex
  have HY := hide ey
  have HSX := hide ssX
  have HSY := hide ssY
  clear ex ey ssX ssY
  go_enter Tryz.func122, Tryz.ntmps122
  go_wp2_with fail
  refine (trim_any oa ca xs _ (by omega) hxc hx).mono ?_
  rintro e w' ⟨rfl, rfl⟩
  generalize strip xs = X at *
  go_wp2_with fail
  refine (widen_any oa ca X w (by omega) okX hx').mono ?_
  rintro e w1 ⟨rfl, hrow, hb1⟩
  go_wp2_with fail
  refine (trim_any ob cb ys _ (by omega) hyc (hy.below hb1 (Nat.le_refl _))).mono ?_
  rintro e w' ⟨rfl, rfl⟩
  generalize strip ys = Y at *
  go_wp2_with fail
  refine (widen_any ob cb Y w1 (by omega) okY (hy'.below hb1 (Nat.le_refl _))).mono ?_
  rintro e w2 ⟨rfl, hrow2, hb2⟩
  obtain ⟨M, hM⟩ : ∃ M : Nat, max (X.length : Int) (Y.length : Int) = (M : Int) := ⟨max X.length Y.length, by omega⟩
  have hXM : X.length ≤ M := by omega
  have hYM : Y.length ≤ M := by omega
  have hMb : M ≤ 1000000000 := by omega
  have hmk := mk_run' ((M : Int) + 1) (M + 1) (by omega) (by omega) w2
  have hlt0 : w.heap.size < w1.heap.size := hrow.lt
  have hlt1 : w1.heap.size < w2.heap.size := hrow2.lt
  have ruA : Row (w2.alloc (.cells (cs (List.replicate (M + 1) 0)) 105)) w.heap.size (X ++ [0]) := (hrow.below hb2 hlt0).alloc _
  have rvA : Row (w2.alloc (.cells (cs (List.replicate (M + 1) 0)) 105)) w1.heap.size (Y ++ [0]) := hrow2.alloc _
  have rqA : Row (w2.alloc (.cells (cs (List.replicate (M + 1) 0)) 105)) w2.heap.size (List.replicate (M + 1) 0) := Row.new w2 (List.replicate (M + 1) 0) (OK.replicate _ (by decide))
  have hbA : Below w.heap.size w (w2.alloc (.cells (cs (List.replicate (M + 1) 0)) 105)) := (hb1.trans (hb2.mono hb1.size)).alloc (Nat.le_trans hb1.size hb2.size) _
  clear hrow hrow2 hb1 hb2 hx hy hx' hy'
  go_wp2_with fail
  clear hmk
  generalize w2.alloc (.cells (cs (List.replicate (M + 1) 0)) 105) = wA at *
  have HLT := hide (And.intro hlt0 hlt1)
  have tX : (X ++ [0] : List Nat).take (X.length + 1) = X ++ [0] := List.take_of_length_le (by simp)
  have tY : (Y ++ [0] : List Nat).take (Y.length + 1) = Y ++ [0] := List.take_of_length_le (by simp)
  have lX : (strip (X ++ [0])).length = X.length := by rw [strip_len (okX.append (OK.cons (by decide) OK.nil)), val_snoc_zero, dig_val okX, HSX.out]
  have lY : (strip (Y ++ [0])).length = Y.length := by rw [strip_len (okY.append (OK.cons (by decide) OK.nil)), val_snoc_zero, dig_val okY, HSY.out]
  have T := hide (And.intro tX (And.intro tY (And.intro lX lY)))
  clear tX tY lX lY
  go_loopg [5, 6] n (fun k s5 s6 wr => ∃ (bu nu cu bv nv cv : Nat) (us vs qs : List Nat), s5 = .slice (some ⟨bu, 0, none⟩) nu cu ∧ s6 = .slice (some ⟨bv, 0, none⟩) nv cv ∧ Row wr bu us ∧ Row wr bv vs ∧ Row wr w2.heap.size qs ∧ Hid (qs.length = M + 1) ∧ Below w.heap.size w wr ∧
      w.heap.size ≤ bu ∧ bu < w2.heap.size ∧ w.heap.size ≤ bv ∧ bv < w2.heap.size ∧ bu ≠ bv ∧ nu ≤ cu ∧ cu ≤ us.length ∧ us.length ≤ M + 1 ∧ nv ≤ cv ∧ cv ≤ vs.length ∧ vs.length ≤ M + 1 ∧
      (strip (us.take nu)).length < nu ∧ (strip (vs.take nv)).length < nv ∧ Hid (val (vs.take nv) = k) ∧ Hid (Nat.gcd (val (us.take nu)) (val (vs.take nv)) = Nat.gcd m n))
  case atStart =>
    obtain ⟨t1, t2, t3, t4⟩ := T.out
    refine ⟨_, _, _, _, _, _, X ++ [0], Y ++ [0], _, rfl, rfl, ruA, rvA, rqA, hide (by simp), hbA, Nat.le_refl _, by omega, by omega, hlt1, by omega, Nat.le_refl _, by simp, by simp; omega, Nat.le_refl _, by simp, by simp; omega, ?_, ?_, hide ?_, hide ?_⟩
    · rw [t1, t3]; omega
    · rw [t2, t4]; omega
    · rw [t2, val_snoc_zero, HY.out]
    · rw [t1, t2, val_snoc_zero, val_snoc_zero, HX.out, HY.out]
  case round =>
    clear ruA rvA rqA hbA
    obtain ⟨bu, nu, cu, bv, nv, cv, us, vs, qs, rfl, rfl, ru, rv, rq, HQL, hb, k1, k2, k3, k4, k5, k6, k7, k8, k9, k10, k11, k12, k13, HV, HG⟩ := hrel
    have ltu : (us.take nu).length = nu := by rw [List.length_take]; omega
    have ltv : (vs.take nv).length = nv := by rw [List.length_take]; omega
    have ht := trim_n (some ⟨bv, 0, none⟩) nv cv (vs.take nv) wr ltv (by omega) k9 (row_take rv (by omega))
    have ht2 := trim_n (some ⟨bu, 0, none⟩) nu cu (us.take nu) wr ltu (by omega) k6 (row_take ru (by omega))
    have hcz := (row_take rv (n := nv) (by omega)).strip
    have okZ := OK_strip (rv.2.take nv)
    have hvz := val_strip (vs.take nv)
    have htz := strip_top (ds := vs.take nv)
    obtain ⟨Z, hZ⟩ : ∃ Z, strip (vs.take nv) = Z := ⟨_, rfl⟩
    rw [hZ] at ht hcz okZ k13 hvz htz
    have HZ := hide hZ
    have HVZ := hide hvz
    have HTZ := hide htz
    have HLU := hide ltu
    have HLV := hide ltv
    clear hZ hvz htz ltu ltv
    go_wp2_with fail
    refine ht.mono ?_
    rintro e w' ⟨rfl, rfl⟩
    by_cases h0 : Z.length = 0
    · have hbz : ((Z.length : Int) == 0) = true := by rw [beq_iff_eq]; omega
      have hg : Nat.gcd m n = val (us.take nu) := by
        have e0 : val (vs.take nv) = 0 := by
          have := HVZ.out
          rw [List.length_eq_zero_iff.1 h0] at this
          exact this.symm
        have := HG.out
        rw [e0, Nat.gcd_zero_right] at this
        exact this.symm
      have HGF := hide hg
      have hfin : Own wr w.heap.size (.slice (some ⟨bu, 0, none⟩) (strip (us.take nu)).length cu) (strip (us.take nu)) := by
        have := Own.row (off := 0) (n := (strip (us.take nu)).length) (cap := cu) k1 ru (by omega) (by omega)
        rw [List.drop_zero] at this
        have e : us.take (strip (us.take nu)).length = strip (us.take nu) := by
          conv => rhs; rw [strip_take]
          rw [List.take_take, Nat.min_eq_left (by omega)]
        rwa [e] at this
      clear hg h0 ht
      go_wp2_with fail
      refine ht2.mono ?_
      rintro e w' ⟨rfl, rfl⟩
      go_wp2
      go_ret
      exact ⟨_, rfl, by rw [HGF.out, dig_val (ru.2.take _)]; exact hfin, hb⟩
    · have hbz : ((Z.length : Int) == 0) = false := by rw [beq_eq_false_iff_ne]; omega
      have hdv := divide_any w2.heap.size (M + 1) (M + 1) bu nu cu Z.length cv qs us Z (some ⟨bv, 0, none⟩) wr rfl (by omega) hcz okZ (HTZ.out (fun e => h0 (by rw [e]; rfl)))
        (fun a ha => by cases ha; exact Nat.ne_of_lt k4) (fun a ha => by cases ha; exact Ne.symm k5) (by omega) rq ru (by have := HQL.out; omega) (Nat.le_refl _) (by omega) k6 (by have := HQL.out; omega) (by omega) (by omega) (by omega) k12 (by omega)
      clear ht ht2
      go_wp2_with fail
      refine hdv.mono ?_
      rintro e w4 ⟨qs', us', rfl, rq4, ru4, ho, lq, lu, hsame, _, heq, hrlt⟩
      clear hdv
      have rv4 : Row w4 bv vs := rv.only2 ho (by omega) (Ne.symm k5)
      have HF := hide (And.intro lq (And.intro lu (And.intro heq hrlt)))
      clear lq lu hsame heq hrlt
      go_wp2_with fail
      obtain ⟨lq, lu, heq, hrlt⟩ := HF.out
      rw [seg_take, seg_take] at heq
      rw [seg_take] at hrlt
      have okU4 := ru4.2.take nu
      have hkv : val (vs.take nv) = gk := HV.out
      have e1 : val (vs.take (Z.length + 1)) = val (vs.take nv) := by
        have := take_val (rv.2.take nv) (k := Z.length + 1) (by rw [HZ.out]; omega)
        rwa [List.take_take, Nat.min_eq_left (by omega)] at this
      have e2 : (strip (vs.take (Z.length + 1))).length = Z.length := by rw [strip_len (rv.2.take _), e1, dig_val (rv.2.take _), HZ.out]
      have hvz := HVZ.out
      go_roundg (val (us'.take nu))
      case rel =>
        refine ⟨bv, Z.length + 1, cv, bu, nu, cu, vs, us', qs', rfl, rfl, rv4, ru4, rq4, hide (by rw [lq]; exact HQL.out), hb.trans (ho.below (B := w.heap.size) (by omega) k1), k3, k4, k1, k2, Ne.symm k5, by omega, k10, k11, k6, by omega, by omega, ?_, ?_, hide rfl, hide ?_⟩
        · rw [e2]; omega
        · rw [strip_len okU4]
          rw [strip_len (ru.2.take nu)] at k12
          exact Nat.lt_of_le_of_lt (dig_length_mono (by omega)) k12
        · rw [e1, ← HG.out]
          rw [← hvz] 
          exact gcd_turn heq hrlt
      case measure => omega
theorem divMod_rd {w : World} {va vb : Value} {xs ys : List Nat} (hx : Rd w va xs) (hy : Rd w vb ys) (hxl : xs.length ≤ 1000000000) (hyl : ys.length ≤ 1000000000) :
    Calls Tryz.prog 102 #[va, vb] w fun e w' => ∃ v1 v2, e = .returned (.tuple #[v1, v2, .int .i64 (divI (val ys))]) ∧
      Own w' w.heap.size v1 (dig (val xs / val ys)) ∧ Own w' w.heap.size v2 (divR (val xs) (val ys)) ∧ Parted v1 v2 ∧ Below w.heap.size w w' := by
  obtain ⟨oa, ca, rfl, hca, okx, hcx⟩ := hx
  obtain ⟨ob, cb, rfl, hcb, oky, hcy⟩ := hy
  exact divMod_any oa ob ca cb xs ys w hxl hyl hca hcb okx oky hcx hcy
/-- DivMod by a number that is not 0. -/
theorem divMod_pos {w : World} {va vb : Value} {xs ys : List Nat} (hx : Rd w va xs) (hy : Rd w vb ys) (h0 : val ys ≠ 0) (hxl : xs.length ≤ 1000000000) (hyl : ys.length ≤ 1000000000) :
    Calls Tryz.prog 102 #[va, vb] w fun e w' => ∃ v1 v2, e = .returned (.tuple #[v1, v2, .int .i64 0]) ∧
      Own w' w.heap.size v1 (dig (val xs / val ys)) ∧ Own w' w.heap.size v2 (dig (val xs % val ys)) ∧ Parted v1 v2 ∧ Below w.heap.size w w' := by
  have h := divMod_rd hx hy hxl hyl
  rw [show divI (val ys) = 0 from if_neg h0, show divR (val xs) (val ys) = dig (val xs % val ys) from if_neg h0] at h
  exact h
theorem gcd_rd {w : World} {va vb : Value} {xs ys : List Nat} (hx : Rd w va xs) (hy : Rd w vb ys) (hxl : xs.length ≤ 1000000000) (hyl : ys.length ≤ 1000000000) :
    Calls Tryz.prog 122 #[va, vb] w fun e w' => ∃ v, e = .returned v ∧ Own w' w.heap.size v (dig (Nat.gcd (val xs) (val ys))) ∧ Below w.heap.size w w' := by
  obtain ⟨oa, ca, rfl, hca, okx, hcx⟩ := hx
  obtain ⟨ob, cb, rfl, hcb, oky, hcy⟩ := hy
  exact gcd_any oa ob ca cb xs ys w hxl hyl hca hcb okx oky hcx hcy
theorem floor_is {x y q r : Int} (h : x = q * y + r) (h1 : 0 < y → 0 ≤ r ∧ r < y) (h2 : y < 0 → y < r ∧ r ≤ 0) (h0 : y ≠ 0) : x.fdiv y = q ∧ x.fmod y = r := by
  rcases Int.lt_or_gt_of_ne h0 with hy | hy
  · exact (Int.fdiv_fmod_unique' hy).2 ⟨by rw [h, Int.mul_comm q y]; omega, (h2 hy).1, (h2 hy).2⟩
  · exact (Int.fdiv_fmod_unique hy).2 ⟨by rw [h, Int.mul_comm q y]; omega, (h1 hy).1, (h1 hy).2⟩
/-- The quotient of the amounts with its sign, and the rest with the first's. -/
def fq (na nb : Bool) (X Y : Nat) : Int := if (na != nb) = true then -((X / Y : Nat) : Int) else ((X / Y : Nat) : Int)
def fr (na : Bool) (X Y : Nat) : Int := if na = true then -((X % Y : Nat) : Int) else ((X % Y : Nat) : Int)
theorem zv_split (na nb : Bool) (xs ys : List Nat) : zv na xs = fq na nb (val xs) (val ys) * zv nb ys + fr na (val xs) (val ys) := by
  unfold fq fr zv
  have h : ((val xs : Nat) : Int) = ((val xs / val ys : Nat) : Int) * ((val ys : Nat) : Int) + ((val xs % val ys : Nat) : Int) := by
    have := Nat.div_add_mod (val xs) (val ys)
    rw [Nat.mul_comm] at this
    exact_mod_cast this.symm
  cases na <;> cases nb <;> simp only [bne_self_eq_false, Bool.false_eq_true, if_false, if_true, Bool.true_bne, Bool.false_bne, Bool.not_false, Int.neg_mul, Int.mul_neg, Int.neg_neg] <;> omega
theorem floor_plain {na nb : Bool} {xs ys : List Nat} (h0 : val ys ≠ 0) (h : val xs % val ys = 0 ∨ (na != nb) = false) :
    (zv na xs).fdiv (zv nb ys) = fq na nb (val xs) (val ys) ∧ (zv na xs).fmod (zv nb ys) = fr na (val xs) (val ys) := by
  have hlt := Nat.mod_lt (val xs) (Nat.pos_of_ne_zero h0)
  refine floor_is (zv_split na nb xs ys) ?_ ?_ ?_
  all_goals (try unfold fr); unfold zv; revert h; cases na <;> cases nb <;> simp <;> omega
theorem floor_turned {na nb : Bool} {xs ys : List Nat} (h0 : val ys ≠ 0) (hr : val xs % val ys ≠ 0) (hd : (na != nb) = true) :
    (zv na xs).fdiv (zv nb ys) = fq na nb (val xs) (val ys) - 1 ∧ (zv na xs).fmod (zv nb ys) = fr na (val xs) (val ys) + zv nb ys := by
  have hlt := Nat.mod_lt (val xs) (Nat.pos_of_ne_zero h0)
  refine floor_is (by rw [Int.sub_mul, Int.one_mul]; have := zv_split na nb xs ys; omega) ?_ ?_ ?_
  all_goals (try unfold fr); unfold zv; revert hd; cases na <;> cases nb <;> simp <;> omega
theorem fr_sign (na : Bool) {X Y : Nat} : (fr na X Y).sign = 0 ↔ X % Y = 0 := by
  rw [Int.sign_eq_zero_iff_zero]
  unfold fr; cases na <;> simp <;> omega
end Go.Proofs.YtcoodkdalblalaaGreatDoor
