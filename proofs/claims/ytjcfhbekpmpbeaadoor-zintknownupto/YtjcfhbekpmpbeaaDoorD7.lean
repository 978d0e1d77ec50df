/- nat.Gcd: Euclid by two rows that take turns. -/
import Derived.Test.YtjcfhbekpmpbeaaDoorD6
namespace Go.Proofs.YtjcfhbekpmpbeaaDoor
open Go.RowKit Dig

theorem gcd_turn {U V r q : Nat} (h : U = r + V * q) (hr : r < V) : Nat.gcd V r = Nat.gcd U V := by
  have e : U % V = r := by rw [h, Nat.add_mul_mod_self_left, Nat.mod_eq_of_lt hr]
  rw [Nat.gcd_comm U V, Nat.gcd_rec V U, e, Nat.gcd_comm]

theorem seg_take (xs : List Nat) (n : Nat) : seg xs 0 n = xs.take n := by simp [seg]

theorem take_val {ds : List Nat} (ok : OK ds) {k : Nat} (h : (strip ds).length ≤ k) : val (ds.take k) = val ds := by
  rcases Nat.lt_or_ge ds.length k with hk | hk
  · rw [List.take_of_length_le (by omega)]
  · have h1 := val_split ds k hk
    have h2 := val_lt (OK_strip ok)
    rw [val_strip] at h2
    have h3 := pw_mono h
    rcases Nat.eq_zero_or_pos (val (ds.drop k)) with h4 | h4
    · rw [h4, Nat.mul_zero, Nat.add_zero] at h1; exact h1.symm
    · have := Nat.le_mul_of_pos_right (pw k) h4
      omega

theorem strip_len {ds : List Nat} (ok : OK ds) : (strip ds).length = (dig (val ds)).length := by rw [dig_val ok]

set_option maxHeartbeats 1600000 in
set_option maxRecDepth 20000 in
theorem gcd_any (oa ob : Option Addr) (ca cb : Nat) (xs ys : List Nat) (w : World) (hxl : xs.length ≤ 1000000000) (hyl : ys.length ≤ 1000000000) (hxc : xs.length ≤ ca) (hyc : ys.length ≤ cb)
    (okx : OK xs) (oky : OK ys) (hx : Cells w oa xs) (hy : Cells w ob ys) :
    Calls Tryd.prog 10 #[.slice oa xs.length ca, .slice ob ys.length cb] w fun e w' => ∃ v, e = .returned v ∧ Own w' w.heap.size v (dig (Nat.gcd (val xs) (val ys))) ∧ Below w.heap.size w w' := by
  have h1 := strip_length_le xs
  have h2 := strip_length_le ys
  have hx' := hx.strip
  have hy' := hy.strip
  have ex := val_strip xs
  have ey := val_strip ys
  have okX := OK_strip okx
  have okY := OK_strip oky
  have ssX := strip_strip' xs
  have ssY := strip_strip' ys
  generalize val xs = m at *
  generalize val ys = n at *
  have HX := hide ex
  have HY := hide ey
  have HSX := hide ssX
  have HSY := hide ssY
  clear ex ey ssX ssY
  go_enter Tryd.func10, Tryd.ntmps10
  go_wp2_with fail
  refine (trim_any oa ca xs _ (by omega) hxc hx).mono ?_
  rintro e w' ⟨rfl, rfl⟩
  generalize strip xs = X at *
  go_wp2_with fail
  refine (widen_any oa ca X w (by omega) okX hx').mono ?_
  rintro e w1 ⟨rfl, hrow, hb1⟩
  go_wp2_with fail
  refine (trim_any ob cb ys _ (by omega) hyc (hy.below hb1 (Nat.le_refl _))).mono ?_
  rintro e w' ⟨rfl, rfl⟩
  generalize strip ys = Y at *
  go_wp2_with fail
  refine (widen_any ob cb Y w1 (by omega) okY (hy'.below hb1 (Nat.le_refl _))).mono ?_
  rintro e w2 ⟨rfl, hrow2, hb2⟩
  obtain ⟨M, hM⟩ : ∃ M : Nat, max (X.length : Int) (Y.length : Int) = (M : Int) := ⟨max X.length Y.length, by omega⟩
  have hXM : X.length ≤ M := by omega
  have hYM : Y.length ≤ M := by omega
  have hMb : M ≤ 1000000000 := by omega
  have hmk := mk_run' ((M : Int) + 1) (M + 1) (by omega) (by omega) w2
  have hlt0 : w.heap.size < w1.heap.size := hrow.lt
  have hlt1 : w1.heap.size < w2.heap.size := hrow2.lt
  have ruA : Row (w2.alloc (.cells (cs (List.replicate (M + 1) 0)) 24)) w.heap.size (X ++ [0]) := (hrow.below hb2 hlt0).alloc _
  have rvA : Row (w2.alloc (.cells (cs (List.replicate (M + 1) 0)) 24)) w1.heap.size (Y ++ [0]) := hrow2.alloc _
  have rqA : Row (w2.alloc (.cells (cs (List.replicate (M + 1) 0)) 24)) w2.heap.size (List.replicate (M + 1) 0) := Row.new w2 (List.replicate (M + 1) 0) (OK.replicate _ (by decide))
  have hbA : Below w.heap.size w (w2.alloc (.cells (cs (List.replicate (M + 1) 0)) 24)) := (hb1.trans (hb2.mono hb1.size)).alloc (Nat.le_trans hb1.size hb2.size) _
  clear hrow hrow2 hb1 hb2 hx hy hx' hy'
  go_wp2_with fail
  clear hmk
  generalize w2.alloc (.cells (cs (List.replicate (M + 1) 0)) 24) = wA at *
  have HLT := hide (And.intro hlt0 hlt1)
  have tX : (X ++ [0] : List Nat).take (X.length + 1) = X ++ [0] := List.take_of_length_le (by simp)
  have tY : (Y ++ [0] : List Nat).take (Y.length + 1) = Y ++ [0] := List.take_of_length_le (by simp)
  have lX : (strip (X ++ [0])).length = X.length := by rw [strip_len (okX.append (OK.cons (by decide) OK.nil)), val_snoc_zero, dig_val okX, HSX.out]
  have lY : (strip (Y ++ [0])).length = Y.length := by rw [strip_len (okY.append (OK.cons (by decide) OK.nil)), val_snoc_zero, dig_val okY, HSY.out]
  have T := hide (And.intro tX (And.intro tY (And.intro lX lY)))
  clear tX tY lX lY
  go_loopg [5, 6] n (fun k s5 s6 wr => ∃ (bu nu cu bv nv cv : Nat) (us vs qs : List Nat), s5 = .slice (some ⟨bu, 0, none⟩) nu cu ∧ s6 = .slice (some ⟨bv, 0, none⟩) nv cv ∧ Row wr bu us ∧ Row wr bv vs ∧ Row wr w2.heap.size qs ∧ Hid (qs.length = M + 1) ∧ Below w.heap.size w wr ∧
      w.heap.size ≤ bu ∧ bu < w2.heap.size ∧ w.heap.size ≤ bv ∧ bv < w2.heap.size ∧ bu ≠ bv ∧ nu ≤ cu ∧ cu ≤ us.length ∧ us.length ≤ M + 1 ∧ nv ≤ cv ∧ cv ≤ vs.length ∧ vs.length ≤ M + 1 ∧
      (strip (us.take nu)).length < nu ∧ (strip (vs.take nv)).length < nv ∧ Hid (val (vs.take nv) = k) ∧ Hid (Nat.gcd (val (us.take nu)) (val (vs.take nv)) = Nat.gcd m n))
  case atStart =>
    obtain ⟨t1, t2, t3, t4⟩ := T.out
    refine ⟨_, _, _, _, _, _, X ++ [0], Y ++ [0], _, rfl, rfl, ruA, rvA, rqA, hide (by simp), hbA, Nat.le_refl _, by omega, by omega, hlt1, by omega, Nat.le_refl _, by simp, by simp; omega, Nat.le_refl _, by simp, by simp; omega, ?_, ?_, hide ?_, hide ?_⟩
    · rw [t1, t3]; omega
    · rw [t2, t4]; omega
    · rw [t2, val_snoc_zero, HY.out]
    · rw [t1, t2, val_snoc_zero, val_snoc_zero, HX.out, HY.out]
  case round =>
    clear ruA rvA rqA hbA
    obtain ⟨bu, nu, cu, bv, nv, cv, us, vs, qs, rfl, rfl, ru, rv, rq, HQL, hb, k1, k2, k3, k4, k5, k6, k7, k8, k9, k10, k11, k12, k13, HV, HG⟩ := hrel
    have ltu : (us.take nu).length = nu := by rw [List.length_take]; omega
    have ltv : (vs.take nv).length = nv := by rw [List.length_take]; omega
    have ht := trim_n (some ⟨bv, 0, none⟩) nv cv (vs.take nv) wr ltv (by omega) k9 (row_take rv (by omega))
    have ht2 := trim_n (some ⟨bu, 0, none⟩) nu cu (us.take nu) wr ltu (by omega) k6 (row_take ru (by omega))
    have hcz := (row_take rv (n := nv) (by omega)).strip
    have okZ := OK_strip (rv.2.take nv)
    have hvz := val_strip (vs.take nv)
    have htz := strip_top (ds := vs.take nv)
    obtain ⟨Z, hZ⟩ : ∃ Z, strip (vs.take nv) = Z := ⟨_, rfl⟩
    rw [hZ] at ht hcz okZ k13 hvz htz
    have HZ := hide hZ
    have HVZ := hide hvz
    have HTZ := hide htz
    have HLU := hide ltu
    have HLV := hide ltv
    clear hZ hvz htz ltu ltv
    go_wp2_with fail
    refine ht.mono ?_
    rintro e w' ⟨rfl, rfl⟩
    by_cases h0 : Z.length = 0
    · have hbz : ((Z.length : Int) == 0) = true := by rw [beq_iff_eq]; omega
      have hg : Nat.gcd m n = val (us.take nu) := by
        have e0 : val (vs.take nv) = 0 := by
          have := HVZ.out
          rw [List.length_eq_zero_iff.1 h0] at this
          exact this.symm
        have := HG.out
        rw [e0, Nat.gcd_zero_right] at this
        exact this.symm
      have HGF := hide hg
      have hfin : Own wr w.heap.size (.slice (some ⟨bu, 0, none⟩) (strip (us.take nu)).length cu) (strip (us.take nu)) := by
        have := Own.row (off := 0) (n := (strip (us.take nu)).length) (cap := cu) k1 ru (by omega) (by omega)
        rw [List.drop_zero] at this
        have e : us.take (strip (us.take nu)).length = strip (us.take nu) := by
          conv => rhs; rw [strip_take]
          rw [List.take_take, Nat.min_eq_left (by omega)]
        rwa [e] at this
      clear hg h0 ht
      go_wp2_with fail
      refine ht2.mono ?_
      rintro e w' ⟨rfl, rfl⟩
      go_wp2
      go_ret
      exact ⟨_, rfl, by rw [HGF.out, dig_val (ru.2.take _)]; exact hfin, hb⟩
    · have hbz : ((Z.length : Int) == 0) = false := by rw [beq_eq_false_iff_ne]; omega
      have hdv := divide_any w2.heap.size (M + 1) (M + 1) bu nu cu Z.length cv qs us Z (some ⟨bv, 0, none⟩) wr rfl (by omega) hcz okZ (HTZ.out (fun e => h0 (by rw [e]; rfl)))
        (fun a ha => by cases ha; exact Nat.ne_of_lt k4) (fun a ha => by cases ha; exact Ne.symm k5) (by omega) rq ru (by have := HQL.out; omega) (Nat.le_refl _) (by omega) k6 (by have := HQL.out; omega) (by omega) (by omega) (by omega) k12 (by omega)
      clear ht ht2
      go_wp2_with fail
      refine hdv.mono ?_
      rintro e w4 ⟨qs', us', rfl, rq4, ru4, ho, lq, lu, hsame, _, heq, hrlt⟩
      clear hdv
      have rv4 : Row w4 bv vs := rv.only2 ho (by omega) (Ne.symm k5)
      have HF := hide (And.intro lq (And.intro lu (And.intro heq hrlt)))
      clear lq lu hsame heq hrlt
      go_wp2_with fail
      obtain ⟨lq, lu, heq, hrlt⟩ := HF.out
      rw [seg_take, seg_take] at heq
      rw [seg_take] at hrlt
      have okU4 := ru4.2.take nu
      have hkv : val (vs.take nv) = gk := HV.out
      have e1 : val (vs.take (Z.length + 1)) = val (vs.take nv) := by
        have := take_val (rv.2.take nv) (k := Z.length + 1) (by rw [HZ.out]; omega)
        rwa [List.take_take, Nat.min_eq_left (by omega)] at this
      have e2 : (strip (vs.take (Z.length + 1))).length = Z.length := by rw [strip_len (rv.2.take _), e1, dig_val (rv.2.take _), HZ.out]
      have hvz := HVZ.out
      go_roundg (val (us'.take nu))
      case rel =>
        refine ⟨bv, Z.length + 1, cv, bu, nu, cu, vs, us', qs', rfl, rfl, rv4, ru4, rq4, hide (by rw [lq]; exact HQL.out), hb.trans (ho.below (B := w.heap.size) (by omega) k1), k3, k4, k1, k2, Ne.symm k5, by omega, k10, k11, k6, by omega, by omega, ?_, ?_, hide rfl, hide ?_⟩
        · rw [e2]; omega
        · rw [strip_len okU4]
          rw [strip_len (ru.2.take nu)] at k12
          exact Nat.lt_of_le_of_lt (dig_length_mono (by omega)) k12
        · rw [e1, ← HG.out]
          rw [← hvz] 
          exact gcd_turn heq hrlt
      case measure => omega
end Go.Proofs.YtjcfhbekpmpbeaaDoor
