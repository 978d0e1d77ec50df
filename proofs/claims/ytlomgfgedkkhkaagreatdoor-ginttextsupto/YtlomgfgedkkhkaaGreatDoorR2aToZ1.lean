/- The reference's Same; the contracts of nat's calls over whatever slice reads as given digits; lists written out. -/
import Derived.Test.YtlomgfgedkkhkaaGreatDoorR1
import Derived.Lib.BitFns
import Derived.Lib.ItoaNum
import Derived.Handy
namespace Go.Proofs.YtlomgfgedkkhkaaGreatDoor
open Go.RowKit Dig
set_option maxHeartbeats 800000 in
set_option maxRecDepth 20000 in
/-- The reference's Same. -/
theorem same_any (oa ob : Option Addr) (ca cb : Nat) (xs ys : List Nat) (w : World) (hxl : xs.length ≤ 10000000000000) (hyl : ys.length ≤ 10000000000000) (hx : Cells w oa xs) (hy : Cells w ob ys) :
    Calls Tryz.prog 27 #[.slice oa xs.length ca, .slice ob ys.length cb] w fun e w' => e = .returned (.bool (decide (xs = ys))) ∧ Below w.heap.size w w' := by
  by_cases hlen : xs.length = ys.length
  · have hb : ((xs.length : Int) == (ys.length : Int)) = true := by rw [beq_iff_eq]; omega
    obtain ⟨r, Hr⟩ : ∃ r, Hid (decide (xs = ys) = r) := ⟨_, rfl⟩
    rw [Hr.out]
    have Hl := hide hlen
    clear hlen
    go_enter Tryz.func27, Tryz.ntmps27
    go_wp2_with fail
    go_loopw [5] (fun i wr => ∃ k : Nat, k ≤ xs.length ∧ i = .int .i64 (k : Int) ∧ (∀ j, j < k → xs[j]?.getD 0 = ys[j]?.getD 0) ∧ Below w.heap.size w wr) (fun i _ => xs.length - (intOf i).toNat)
    case atStart => exact ⟨0, Nat.zero_le _, rfl, fun _ h => by omega, Below.refl _ _⟩
    case round =>
      obtain ⟨k, hk, rfl, hall, hbel⟩ := hrel
      have Hall := hide hall
      clear hall
      by_cases hlt : k < xs.length
      · have hlt2 : k < ys.length := by have := Hl.out; omega
        obtain ⟨bx, ox, x, ho, gx, Hx⟩ := (hx.below hbel (Nat.le_refl _)).get hlt
        obtain ⟨by', oy, y, ho', gy, Hy⟩ := (hy.below hbel (Nat.le_refl _)).get hlt2
        subst ho
        subst ho'
        by_cases hd : x = y
        · subst hd
          have hd' : ((x : Int) == (x : Int)) = true := by simp
          go_wp2_with fail
          go_region
          all_goals go_wp2_with fail
          all_goals go_roundw
          case rel => exact ⟨k + 1, hlt, by go_num, fun j hj => by rcases Nat.eq_or_lt_of_le (Nat.le_of_lt_succ hj) with h | h; (· subst h; exact Hx.out.trans Hy.out.symm); (· exact Hall.out j h), hbel.drew⟩
          case measure => simp [intOf]; omega
        · have hd' : ((x : Int) == (y : Int)) = false := by rw [beq_eq_false_iff_ne]; omega
          have hr : r = false := by
            rw [← Hr.out, decide_eq_false_iff_not]
            intro e
            subst e
            exact hd (Hx.out.symm.trans Hy.out)
          have HR := hide hr
          clear hr
          go_wp2_with fail
          go_region
          all_goals go_wp2_with fail
          all_goals go_ret
          all_goals exact ⟨by rw [HR.out]; rfl, hbel.drew⟩
      · obtain rfl : k = xs.length := by omega
        have hr : r = true := by
          rw [← Hr.out, decide_eq_true_eq]
          apply List.ext_getElem?
          intro i
          have hl := Hl.out
          by_cases hi : i < xs.length
          · have := Hall.out i hi
            rw [List.getElem?_eq_getElem hi, List.getElem?_eq_getElem (by omega : i < ys.length)] at this ⊢
            simpa using this
          · rw [List.getElem?_eq_none (by omega), List.getElem?_eq_none (by omega)]
        have HR := hide hr
        clear hr
        go_wp2_with fail
        go_ret
        exact ⟨by rw [HR.out]; rfl, hbel⟩
  · have hb : ((xs.length : Int) == (ys.length : Int)) = false := by rw [beq_eq_false_iff_ne]; omega
    have hr : decide (xs = ys) = false := by
      rw [decide_eq_false_iff_not]
      intro e
      exact hlen (by rw [e])
    rw [hr]
    go_enter Tryz.func27, Tryz.ntmps27
    go_wp2_with fail
    go_ret
    exact ⟨rfl, Below.refl _ _⟩
theorem norm_rd {w : World} {va : Value} {xs : List Nat} (hx : Rd w va xs) (hl : xs.length ≤ 100000000000) :
    Calls Tryz.prog 78 #[va] w fun e w' => ∃ v, e = .returned v ∧ Own w' w.heap.size v (dig (val xs)) ∧ Below w.heap.size w w' := by
  obtain ⟨oa, ca, rfl, hca, okx, hcx⟩ := hx
  refine (norm_any oa ca xs w (by omega) hca okx hcx).mono ?_
  rintro e w1 ⟨rfl, hrow, hb⟩
  refine ⟨_, rfl, ?_, hb⟩
  have := Own.row (off := 0) (n := (strip xs).length) (cap := (strip xs).length) (Nat.le_refl w.heap.size) hrow (Nat.le_refl _) (by omega)
  rw [List.drop_zero, List.take_length] at this
  rw [dig_val okx]; exact this
theorem cmp_rd {w : World} {va vb : Value} {xs ys : List Nat} (hx : Rd w va xs) (hy : Rd w vb ys) (hxl : xs.length ≤ 100000000000) (hyl : ys.length ≤ 100000000000) :
    Calls Tryz.prog 65 #[va, vb] w fun e w' => e = .returned (.int .i64 (cmpI (val xs) (val ys))) ∧ Below w.heap.size w w' := by
  obtain ⟨oa, ca, rfl, hca, okx, hcx⟩ := hx
  obtain ⟨ob, cb, rfl, hcb, oky, hcy⟩ := hy
  exact cmp_any oa ob ca cb xs ys w (by omega) (by omega) hca hcb okx oky hcx hcy
theorem add_rd {w : World} {va vb : Value} {xs ys : List Nat} (hx : Rd w va xs) (hy : Rd w vb ys) (hxl : xs.length ≤ 100000000000) (hyl : ys.length ≤ 100000000000) :
    Calls Tryz.prog 64 #[va, vb] w fun e w' => ∃ v, e = .returned v ∧ Own w' w.heap.size v (dig (val xs + val ys)) ∧ Below w.heap.size w w' := by
  obtain ⟨oa, ca, rfl, hca, okx, hcx⟩ := hx
  obtain ⟨ob, cb, rfl, hcb, oky, hcy⟩ := hy
  exact add_any oa ob ca cb xs ys w (by omega) (by omega) hca hcb okx oky hcx hcy
theorem sub_rd {w : World} {va vb : Value} {xs ys : List Nat} (hx : Rd w va xs) (hy : Rd w vb ys) (hxl : xs.length ≤ 100000000000) (hyl : ys.length ≤ 100000000000) :
    Calls Tryz.prog 66 #[va, vb] w fun e w' => ∃ v, e = .returned (.tuple #[v, .int .i64 (subI (val xs) (val ys))]) ∧ Own w' w.heap.size v (if val xs < val ys then [] else dig (val xs - val ys)) ∧ Below w.heap.size w w' := by
  obtain ⟨oa, ca, rfl, hca, okx, hcx⟩ := hx
  obtain ⟨ob, cb, rfl, hcb, oky, hcy⟩ := hy
  exact sub_any oa ob ca cb xs ys w (by omega) (by omega) hca hcb okx oky hcx hcy
theorem mul_rd {w : World} {va vb : Value} {xs ys : List Nat} (hx : Rd w va xs) (hy : Rd w vb ys) (hxl : xs.length ≤ 100000000000) (hyl : ys.length ≤ 100000000000) :
    Calls Tryz.prog 67 #[va, vb] w fun e w' => ∃ v, e = .returned v ∧ Own w' w.heap.size v (dig (val xs * val ys)) ∧ Below w.heap.size w w' := by
  obtain ⟨oa, ca, rfl, hca, okx, hcx⟩ := hx
  obtain ⟨ob, cb, rfl, hcb, oky, hcy⟩ := hy
  exact mul_any oa ob ca cb xs ys w (by omega) (by omega) hca hcb okx oky hcx hcy
theorem text_rd {w : World} {va : Value} {xs : List Nat} (hx : Rd w va xs) (hl : xs.length ≤ 100000000000) (htab : Lib.TabIs Tryz.prog w p10 .u64 Lib.pow10Tab) :
    Calls Tryz.prog 76 #[va] w fun e w' => e = .returned (.string ⟨(Lib.decDigits (val xs)).toArray⟩) ∧ Below w.heap.size w w' := by
  obtain ⟨oa, ca, rfl, hca, okx, hcx⟩ := hx
  exact text_any oa ca xs w hl hca okx hcx htab
/-- A list of one, of two digits, written out. -/
theorem lit1 (w : World) (d : Nat) (h : d < 4294967296) : Rd (w.alloc (.cells #[.int .u32 (d : Int)] 56)) (.slice (some ⟨w.heap.size, 0, none⟩) 1 1) [d] := by
  have hr : Row (w.alloc (.cells #[.int .u32 (d : Int)] 56)) w.heap.size [d] := Row.new w [d] (OK.cons h OK.nil)
  exact ⟨_, 1, rfl, Nat.le_refl _, hr.2, hr.cells⟩
theorem lit2 (w : World) (d e : Nat) (h : d < 4294967296) (k : e < 4294967296) : Rd (w.alloc (.cells #[.int .u32 (d : Int), .int .u32 (e : Int)] 56)) (.slice (some ⟨w.heap.size, 0, none⟩) 2 2) [d, e] := by
  have hr : Row (w.alloc (.cells #[.int .u32 (d : Int), .int .u32 (e : Int)] 56)) w.heap.size [d, e] := Row.new w [d, e] (OK.cons h (OK.cons k OK.nil))
  exact ⟨_, 2, rfl, Nat.le_refl _, hr.2, hr.cells⟩
theorem rtrim_n (oa : Option Addr) (n cap : Nat) (ds : List Nat) (w : World) (e : ds.length = n) (hl : n ≤ 10000000000000) (hc : n ≤ cap) (ok : OK ds) (hcell : Cells w oa ds) :
    Calls Tryz.prog 68 #[.slice oa n cap] w fun e w' => ∃ v, e = .returned v ∧ Rd w' v (strip ds) ∧ Below w.heap.size w w' := by
  subst e; exact rtrim_any oa cap ds w hl hc ok hcell
theorem zero_above {ds : List Nat} {k j : Nat} (h : val ds < pw k) (hj : k ≤ j) : ds[j]?.getD 0 = 0 := by
  by_cases hl : j < ds.length
  · have h1 := val_split ds j (by omega)
    have h2 := drop_succ_val hl
    have h3 := pw_mono hj
    rcases Nat.eq_zero_or_pos (ds[j]?.getD 0) with h4 | h4
    · exact h4
    · have : pw j * 1 ≤ pw j * val (ds.drop j) := Nat.mul_le_mul_left _ (by omega)
      omega
  · simp [List.getElem?_eq_none (by omega : ds.length ≤ j)]
theorem mul_row {X Y P P' : List Nat} {i n L : Nat} (d : Nat) (hi : i < X.length) (hd : X[i]?.getD 0 = d) (hP : P.length = L) (hL : X.length + Y.length ≤ L) (hP' : P'.length = P.length) (hn : n = L - i)
    (hv : val P = val (X.take i) * val Y) (hout : ∀ j, j < i ∨ i + n ≤ j → P'[j]?.getD 0 = P[j]?.getD 0) (heq : val (seg P' i n) = val (seg P i n) + d * val Y) : val P' = val (X.take (i + 1)) * val Y := by
  have s1 := seg_split (xs := P) (off := 0) (k := i) (n := P.length) (by omega) (by omega)
  have s2 := seg_split (xs := P') (off := 0) (k := i) (n := P.length) (by omega) (by omega)
  rw [seg_all] at s1
  rw [← hP', seg_all] at s2
  rw [Nat.zero_add] at s1 s2
  have en : P.length - i = n := by omega
  have en' : P'.length - i = n := by omega
  rw [en] at s1
  rw [en'] at s2
  have ec : seg P' 0 i = seg P 0 i := seg_congr hP' (fun j _ h => hout j (.inl (by omega)))
  have tk := val_take_succ (xs := X) hi
  rw [hd] at tk
  rw [tk, Nat.add_mul, ← hv, Nat.mul_assoc, s1, s2, ec, heq, Nat.mul_add]
  omega
theorem take_mul_lt {X Y : List Nat} (okX : OK X) (okY : OK Y) {i : Nat} (hi : i ≤ X.length) : val (X.take i) * val Y < pw (i + Y.length) := by
  have h1 : val (X.take i) < pw i := by
    have := val_lt (okX.take i)
    rw [List.length_take, Nat.min_eq_left hi] at this; exact this
  rw [pw_add]
  exact Nat.mul_lt_mul_of_lt_of_le h1 (Nat.le_of_lt (val_lt okY)) (pw_pos _)
set_option maxHeartbeats 1000000 in
set_option maxRecDepth 20000 in
/-- The reference's Mul. -/
theorem rmul_any (oa ob : Option Addr) (ca cb : Nat) (X Y : List Nat) (w : World) (hxl : X.length ≤ 500000000000) (hyl : Y.length ≤ 500000000000) (okX : OK X) (okY : OK Y) (hx : Cells w oa X) (hy : Cells w ob Y) :
    Calls Tryz.prog 111 #[.slice oa X.length ca, .slice ob Y.length cb] w fun e w' => ∃ v, e = .returned v ∧ Rd w' v (dig (val X * val Y)) ∧ Below w.heap.size w w' := by
  have hmk := mk_run' ((X.length : Int) + (Y.length : Int) + 1) (X.length + Y.length + 1) (by omega) (by omega) w
  have hr0 := Row.new w (List.replicate (X.length + Y.length + 1) 0) (OK.replicate _ (by decide))
  have hb0 : Below w.heap.size w (w.alloc (.cells (cs (List.replicate (X.length + Y.length + 1) 0)) 56)) := (Below.refl _ _).alloc (Nat.le_refl _) _
  go_enter Tryz.func111, Tryz.ntmps111
  go_wp2_with fail
  go_loopw [6] (fun i wr => ∃ (k : Nat) (P : List Nat), k ≤ X.length ∧ i = .int .i64 (k : Int) ∧ Row wr w.heap.size P ∧ Below w.heap.size w wr ∧ P.length = X.length + Y.length + 1 ∧ val P = val (X.take k) * val Y) (fun i _ => X.length - (intOf i).toNat)
  case atStart => exact ⟨0, _, Nat.zero_le _, rfl, hr0, hb0, by simp, by rw [val_replicate_zero]; simp [val]⟩
  case round =>
    obtain ⟨i, P, hi, rfl, hr, hb, hPl, hv⟩ := hrel
    have HP := hide hPl
    have HV := hide hv
    clear hPl hv
    by_cases hlt : i < X.length
    · obtain ⟨bx, ox, x, ho, gx0, Hx⟩ := hx.get hlt
      have hxb : x < 4294967296 := by have := okX.get i; rw [Hx.out] at this; exact this
      subst ho
      have hbx : bx < w.heap.size := hx.lt_block (fun e => by rw [e] at hlt; simp at hlt)
      have HZ : Hid (∀ j, i + Y.length ≤ j → P[j]?.getD 0 = 0) := fun j hj => zero_above (by rw [HV.out]; exact take_mul_lt okX okY (by omega)) hj
      obtain ⟨W0, HW0⟩ : ∃ W0, Hid (W0 = wr) := ⟨_, rfl⟩
      go_wp2_with fail
      go_loopw [7, 8] (fun c jj wx => ∃ (j c0 : Nat) (ys : List Nat), c = .int .u64 (c0 : Int) ∧ jj = .int .i64 (j : Int) ∧ Row wx w.heap.size ys ∧ Below w.heap.size w wx ∧ ys.length = P.length ∧
        (∀ t, t < i ∨ i + j ≤ t → ys[t]?.getD 0 = P[t]?.getD 0) ∧ val (seg ys i j) + pw j * c0 = val (seg P i j) + x * val (Y.take j) ∧ c0 < 4294967296 ∧ (j ≤ Y.length ∨ (j = Y.length + 1 ∧ c0 = 0))) (fun _ jj _ => Y.length + 1 - (intOf jj).toNat)
      case atStart => exact ⟨0, 0, P, rfl, rfl, hr, hb, rfl, fun _ _ => rfl, by simp [seg_zero, val], by decide, .inl (Nat.zero_le _)⟩
      case round =>
        clear hr hb
        obtain ⟨j, c0, ys, rfl, rfl, hr, hb, hyl, hout, heq, hc0, hjl⟩ := hrel
        have Heq := hide heq
        have Hout := hide hout
        have Hyl := hide hyl
        have hPl := HP.out
        have hyb : ys.length = X.length + Y.length + 1 := hyl.trans hPl
        clear heq hout hyl hPl
        by_cases hj : j < Y.length
        · obtain ⟨by', oy, y, ho', gy0, Hy⟩ := hy.get hj
          have hyy : y < 4294967296 := by have := okY.get j; rw [Hy.out] at this; exact this
          subst ho'
          have hby : by' < w.heap.size := hy.lt_block (fun e => by rw [e] at hj; simp at hj)
          have gx := (hb.cell (p := ⟨bx, ox + i, none⟩) hbx).trans gx0
          have gy := (hb.cell (p := ⟨by', oy + j, none⟩) hby).trans gy0
          have gu := hr.cell (i := i + j) (by omega)
          have gf := hr.free (i + j)
          obtain ⟨z, Hz⟩ : ∃ z, Hid (ys[i + j]?.getD 0 = z) := ⟨_, rfl⟩
          rw [Hz.out] at gu
          have hzb : z < 4294967296 := by have := hr.2.get (i + j); rw [Hz.out] at this; exact this
          have hm : (x : Int) * (y : Int) ≤ 18446744065119617025 := by
            have : x * y ≤ 4294967295 * 4294967295 := Nat.mul_le_mul (by omega) (by omega)
            have h2 : ((x * y : Nat) : Int) ≤ 18446744065119617025 := by omega
            simpa using h2
          have hm0 : 0 ≤ (x : Int) * (y : Int) := by have := Int.natCast_nonneg (x * y); simpa using this
          have hs := carry_step (p := x * y) (t := c0 + (x * y + z)) (by omega) Hyl.out Heq.out (by have h1 := Hout.out (i + j) (by omega); have h2 := Hz.out; rw [← h1, h2])
          have ht : x * val (Y.take j) + pw j * (x * y) = x * val (Y.take (j + 1)) := by
            rw [val_take_succ hj, Hy.out, Nat.mul_add, Nat.mul_left_comm (pw j)]
          rw [ht] at hs
          have e0 : (z : Int) + (c0 : Int) + (x : Int) * (y : Int) = (((c0 + (x * y + z)) : Nat) : Int) := by simp; omega
          have e1 : ((z : Int) + (c0 : Int) + (x : Int) * (y : Int)) / 4294967296 = ((((c0 + (x * y + z)) / 4294967296) : Nat) : Int) := by rw [e0]; rfl
          have e2 : ((z : Int) + (c0 : Int) + (x : Int) * (y : Int)) % 4294967296 = ((((c0 + (x * y + z)) % 4294967296) : Nat) : Int) := by rw [e0]; rfl
          have hq : (c0 + (x * y + z)) / 4294967296 < 4294967296 := by
            have : x * y ≤ 4294967295 * 4294967295 := Nat.mul_le_mul (by omega) (by omega)
            omega
          have HS := hide hs
          have E1 := hide e1
          have E2 := hide e2
          have HYB := hide hyb
          have b1 : i + j < X.length + Y.length + 1 := by omega
          clear hs ht e0 e1 e2 hyb gx0 gy0
          go_wp2_with fail
          go_region
          all_goals go_wp2_with fail
          all_goals rw [E1.out, E2.out]
          all_goals go_roundw
          case rel =>
            exact ⟨j + 1, _, ys.set (i + j) ((c0 + (x * y + z)) % 4294967296), rfl, by go_num, (hr.drew).set _ (by omega), hb.drew.setCell (Nat.le_refl _) _, by simpa using Hyl.out,
              fun t ht => by rw [getD_set_other (by omega)]; exact Hout.out t (by omega), HS.out, hq, .inl hj⟩
          case measure => simp [intOf]; omega
        · have hz0 : ys[i + j]?.getD 0 = 0 := by rw [Hout.out (i + j) (by omega)]; exact HZ.out _ (by omega)
          have hYt : Y.take j = Y := List.take_of_length_le (by omega)
          by_cases hc : c0 = 0
          · subst hc
            have hfin : val ys = val (X.take (i + 1)) * val Y := by
              have h1 := Heq.out
              rw [hYt, Nat.mul_zero, Nat.add_zero] at h1
              have h2 := seg_ext (us := P) (ys := ys) (off := i) (k := j) (n := P.length - i) (by have := HP.out; omega) Hyl.out (by have := HP.out; omega) Hout.out
              exact mul_row x hlt Hx.out HP.out (by omega) Hyl.out (n := P.length - i) (by have := HP.out; omega) HV.out (fun t ht => Hout.out t (by rcases ht with h | h; (· exact .inl h); (· exact .inr (by have := HP.out; omega)))) (by omega)
            have HFin := hide hfin
            clear hfin hz0 hYt hyb
            go_wp2_with fail
            go_roundw
            case rel => exact ⟨i + 1, ys, hlt, by go_num, hr, hb, Hyl.out.trans HP.out, HFin.out⟩
            case measure => simp [intOf]; omega
          · have hjY : j = Y.length := by omega
            have hcp : 0 < c0 := by omega
            have gu := hr.cell (i := i + j) (by omega)
            have gf := hr.free (i + j)
            rw [hz0] at gu
            have hs := carry_step (p := 0) (t := c0) (by omega) Hyl.out Heq.out (by have h1 := Hout.out (i + j) (by omega); rw [← h1, hz0]; omega)
            have hq : c0 / 4294967296 = 0 := by omega
            have hg : c0 % 4294967296 = c0 := by omega
            rw [hq, hg, hYt] at hs
            have hs2 : val (seg (ys.set (i + j) c0) i (j + 1)) + pw (j + 1) * 0 = val (seg P i (j + 1)) + x * val (Y.take (j + 1)) := by
              rw [List.take_of_length_le (by omega : Y.length ≤ j + 1)]; simpa using hs
            have HS := hide hs2
            have b1 : i + j < X.length + Y.length + 1 := by omega
            have hq2 : (c0 : Int) / 4294967296 = 0 := by omega
            have hg2 : (c0 : Int) % 4294967296 = (c0 : Int) := by omega
            have hnl : ¬ (j : Int) < (Y.length : Int) := by omega
            have hnl2 : ¬ j < Y.length := hj
            have HJ := hide hjY
            clear hs hs2 hq hg hz0 hYt hyb hjY hjl
            go_wp2_with fail
            go_roundw
            case rel =>
              exact ⟨j + 1, 0, ys.set (i + j) c0, rfl, by go_num, hr.set _ hc0, hb.setCell (Nat.le_refl _) _, by simpa using Hyl.out,
                fun t ht => by rw [getD_set_other (by omega)]; exact Hout.out t (by omega), HS.out, by decide, .inr ⟨by have := HJ.out; omega, rfl⟩⟩
            case measure => have := HJ.out; simp [intOf]; omega
    · obtain rfl : i = X.length := by omega
      go_wp2_with fail
      refine (rtrim_n _ _ _ P wr HP.out (by omega) (Nat.le_refl _) hr.2 hr.cells).mono ?_
      rintro e w2 ⟨v, rfl, hrd, hb2⟩
      have hfin : strip P = dig (val X * val Y) := by
        rw [← dig_val hr.2, HV.out, List.take_length]
      rw [hfin] at hrd
      clear hfin
      go_wp2
      go_ret
      exact ⟨v, rfl, hrd, hb.trans (hb2.mono hb.size)⟩
theorem val_take_next (xs : List Nat) (k : Nat) : val (xs.take (k + 1)) = val (xs.take k) + pw k * xs[k]?.getD 0 := by
  by_cases h : k < xs.length
  · exact val_take_succ h
  · rw [List.take_of_length_le (by omega), List.take_of_length_le (by omega), List.getElem?_eq_none (by omega)]; simp
theorem seg_zeros (n off k : Nat) : val (seg (List.replicate n 0) off k) = 0 := by
  simp only [seg, List.drop_replicate, List.take_replicate]
  exact val_replicate_zero _
set_option maxHeartbeats 400000 in
set_option maxRecDepth 20000 in
theorem rat_any (oa : Option Addr) (ca : Nat) (xs : List Nat) (i : Nat) (w : World) (_hl : xs.length ≤ 10000000000000) (ok : OK xs) (hx : Cells w oa xs) :
    Calls Tryz.prog 122 #[.slice oa xs.length ca, .int .i64 (i : Int)] w fun e w' => e = .returned (.int .u64 (xs[i]?.getD 0 : Nat)) ∧ w = w' := by
  by_cases h : i < xs.length
  · obtain ⟨b, off, x, ho, gx, Hx⟩ := hx.get h
    subst ho
    have hxb : x < 4294967296 := by have := ok.get i; rw [Hx.out] at this; exact this
    rw [Hx.out]
    go_enter Tryz.func122, Tryz.ntmps122
    go_wp2
    go_ret
    exact ⟨rfl, rfl⟩
  · have e : xs[i]?.getD 0 = 0 := by rw [List.getElem?_eq_none (by omega)]; rfl
    rw [e]
    go_enter Tryz.func122, Tryz.ntmps122
    go_wp2
    go_ret
    exact ⟨rfl, rfl⟩
theorem rsum_fin {X Y us : List Nat} {n c : Nat} (okX : OK X) (okY : OK Y) (ok : OK us) (hx : X.length ≤ n) (hy : Y.length ≤ n) (h : us.length = n + 1)
    (heq : val (seg us 0 (n + 1)) + pw (n + 1) * c = val X + val Y) : strip us = dig (val X + val Y) := by
  have e1 : seg us 0 (n + 1) = us := by have := seg_all us; rw [h] at this; exact this
  rw [e1] at heq
  have h1 := Nat.lt_of_lt_of_le (val_lt okX) (pw_mono hx)
  have h2 := Nat.lt_of_lt_of_le (val_lt okY) (pw_mono hy)
  have hc : c = 0 := by
    rcases Nat.eq_zero_or_pos c with hc | hc
    · exact hc
    · have h4 : pw (n + 1) * 1 ≤ pw (n + 1) * c := Nat.mul_le_mul_left _ hc
      simp only [pw] at h4 heq
      omega
  subst hc
  rw [← dig_val ok]
  congr 1
set_option maxHeartbeats 800000 in
set_option maxRecDepth 20000 in
/-- The reference's Add, the longer one's length said. -/
theorem radd_any (oa ob : Option Addr) (ca cb : Nat) (X Y : List Nat) (w : World) (hxl : X.length ≤ 500000000000) (hyl : Y.length ≤ 500000000000) (okX : OK X) (okY : OK Y) (hx : Cells w oa X) (hy : Cells w ob Y) :
    Calls Tryz.prog 110 #[.slice oa X.length ca, .slice ob Y.length cb] w fun e w' => ∃ v, e = .returned v ∧ Rd w' v (dig (val X + val Y)) ∧ Below w.heap.size w w' := by
  obtain ⟨n, hn, hnx, hny, hn2⟩ : ∃ n, (n = X.length ∧ ¬ X.length < Y.length ∨ n = Y.length ∧ X.length < Y.length) ∧ X.length ≤ n ∧ Y.length ≤ n ∧ n ≤ 500000000000 := by
    by_cases h : X.length < Y.length
    · exact ⟨Y.length, .inr ⟨rfl, h⟩, by omega, by omega, hyl⟩
    · exact ⟨X.length, .inl ⟨rfl, h⟩, by omega, by omega, hxl⟩
  have hr0 := Row.new w (List.replicate (n + 1) 0) (OK.replicate _ (by decide))
  have hb0 : Below w.heap.size w (w.alloc (.cells (cs (List.replicate (n + 1) 0)) 56)) := (Below.refl _ _).alloc (Nat.le_refl _) _
  have hmk := mk_run' ((n : Int) + 1) (n + 1) (by omega) (by omega) w
  rcases hn with ⟨hn, hc⟩ | ⟨hn, hc⟩
  · subst hn
    generalize hN : (List.replicate (X.length + 1) 0 : List Nat) = Z at *
    have HN := hide hN
    clear hN
    go_enter Tryz.func110, Tryz.ntmps110
    go_wp2_with fail
    go_loopw [7, 8] (fun c i wr => ∃ (k c0 : Nat) (ys : List Nat), k ≤ X.length + 1 ∧ c = .int .u64 (c0 : Int) ∧ i = .int .i64 (k : Int) ∧ Row wr w.heap.size ys ∧ Below w.heap.size w wr ∧ ys.length = X.length + 1 ∧
      val (seg ys 0 k) + pw k * c0 = val (seg Z 0 k) + (val (X.take k) + val (Y.take k)) ∧ c0 ≤ 1) (fun _ i _ => X.length + 1 - (intOf i).toNat)
    case atStart => exact ⟨0, 0, Z, Nat.zero_le _, rfl, rfl, hr0, hb0, by rw [← HN.out]; simp, by simp [seg_zero, val], by decide⟩
    case round =>
      obtain ⟨k, c0, ys, hk, rfl, rfl, hr, hb, hyl, heq, hc0⟩ := hrel
      have Heq := hide heq
      clear heq
      by_cases hlt : k ≤ X.length
      · have gu := hr.cell (i := k) (by omega)
        have gf := hr.free k
        obtain ⟨x, Hx⟩ : ∃ x, Hid (X[k]?.getD 0 = x) := ⟨_, rfl⟩
        obtain ⟨y, Hy⟩ : ∃ y, Hid (Y[k]?.getD 0 = y) := ⟨_, rfl⟩
        have hxb : x < 4294967296 := by have := okX.get k; rw [Hx.out] at this; exact this
        have hyb : y < 4294967296 := by have := okY.get k; rw [Hy.out] at this; exact this
        have hzl : Z.length = X.length + 1 := by rw [← HN.out]; simp
        have hz0 : Z[k]?.getD 0 = 0 := by rw [← HN.out]; simp [show k < X.length + 1 by omega]
        have hs := carry_step (us := Z) (p := x + y) (t := c0 + (x + y)) (by omega) (by omega) Heq.out (by rw [Nat.zero_add, hz0]; omega)
        have ht : val (X.take k) + val (Y.take k) + pw k * (x + y) = val (X.take (k + 1)) + val (Y.take (k + 1)) := by
          rw [val_take_next, val_take_next, Hx.out, Hy.out, Nat.mul_add]; omega
        rw [ht, Nat.zero_add] at hs
        have e1 : ((x : Int) + (y : Int) + (c0 : Int)) / 4294967296 = (((c0 + (x + y)) / 4294967296 : Nat) : Int) := by omega
        have e2 : ((x : Int) + (y : Int) + (c0 : Int)) % 4294967296 = (((c0 + (x + y)) % 4294967296 : Nat) : Int) := by omega
        have HS := hide hs
        have E1 := hide e1
        have E2 := hide e2
        have HYL := hide hyl
        have hkb : k < X.length + 1 := by omega
        clear hs ht e1 e2 hzl hz0 hyl
        go_wp2_with fail
        refine (rat_any oa ca X k _ (by omega) okX (hx.below hb (Nat.le_refl _))).mono ?_
        rintro e w' ⟨rfl, rfl⟩
        rw [Hx.out]
        go_wp2_with fail
        refine (rat_any ob cb Y k _ (by omega) okY (hy.below hb (Nat.le_refl _))).mono ?_
        rintro e w' ⟨rfl, rfl⟩
        rw [Hy.out]
        go_wp2_with fail
        rw [E1.out, E2.out]
        go_roundw
        case rel => exact ⟨k + 1, _, ys.set k ((c0 + (x + y)) % 4294967296), by omega, rfl, by go_num, hr.set _ (by omega), hb.setCell (Nat.le_refl _) _, by simpa using HYL.out, HS.out, by omega⟩
        case measure => simp [intOf]; omega
      · obtain rfl : k = X.length + 1 := by omega
        have hfin := rsum_fin (c := c0) okX okY hr.2 hnx hny hyl (by
          have h1 := Heq.out
          rw [← HN.out, seg_zeros, List.take_of_length_le (by omega), List.take_of_length_le (by omega)] at h1
          omega)
        have HF := hide hfin
        clear hfin
        go_wp2_with fail
        refine (rtrim_n _ _ _ ys wr hyl (by omega) (Nat.le_refl _) hr.2 hr.cells).mono ?_
        rintro e w2 ⟨v, rfl, hrd, hb2⟩
        rw [HF.out] at hrd
        go_wp2
        go_ret
        exact ⟨v, rfl, hrd, hb.trans (hb2.mono hb.size)⟩
  · subst hn
    generalize hN : (List.replicate (Y.length + 1) 0 : List Nat) = Z at *
    have HN := hide hN
    clear hN
    go_enter Tryz.func110, Tryz.ntmps110
    go_wp2_with fail
    go_loopw [7, 8] (fun c i wr => ∃ (k c0 : Nat) (ys : List Nat), k ≤ Y.length + 1 ∧ c = .int .u64 (c0 : Int) ∧ i = .int .i64 (k : Int) ∧ Row wr w.heap.size ys ∧ Below w.heap.size w wr ∧ ys.length = Y.length + 1 ∧
      val (seg ys 0 k) + pw k * c0 = val (seg Z 0 k) + (val (X.take k) + val (Y.take k)) ∧ c0 ≤ 1) (fun _ i _ => Y.length + 1 - (intOf i).toNat)
    case atStart => exact ⟨0, 0, Z, Nat.zero_le _, rfl, rfl, hr0, hb0, by rw [← HN.out]; simp, by simp [seg_zero, val], by decide⟩
    case round =>
      obtain ⟨k, c0, ys, hk, rfl, rfl, hr, hb, hyl, heq, hc0⟩ := hrel
      have Heq := hide heq
      clear heq
      by_cases hlt : k ≤ Y.length
      · have gu := hr.cell (i := k) (by omega)
        have gf := hr.free k
        obtain ⟨x, Hx⟩ : ∃ x, Hid (X[k]?.getD 0 = x) := ⟨_, rfl⟩
        obtain ⟨y, Hy⟩ : ∃ y, Hid (Y[k]?.getD 0 = y) := ⟨_, rfl⟩
        have hxb : x < 4294967296 := by have := okX.get k; rw [Hx.out] at this; exact this
        have hyb : y < 4294967296 := by have := okY.get k; rw [Hy.out] at this; exact this
        have hzl : Z.length = Y.length + 1 := by rw [← HN.out]; simp
        have hz0 : Z[k]?.getD 0 = 0 := by rw [← HN.out]; simp [show k < Y.length + 1 by omega]
        have hs := carry_step (us := Z) (p := x + y) (t := c0 + (x + y)) (by omega) (by omega) Heq.out (by rw [Nat.zero_add, hz0]; omega)
        have ht : val (X.take k) + val (Y.take k) + pw k * (x + y) = val (X.take (k + 1)) + val (Y.take (k + 1)) := by
          rw [val_take_next, val_take_next, Hx.out, Hy.out, Nat.mul_add]; omega
        rw [ht, Nat.zero_add] at hs
        have e1 : ((x : Int) + (y : Int) + (c0 : Int)) / 4294967296 = (((c0 + (x + y)) / 4294967296 : Nat) : Int) := by omega
        have e2 : ((x : Int) + (y : Int) + (c0 : Int)) % 4294967296 = (((c0 + (x + y)) % 4294967296 : Nat) : Int) := by omega
        have HS := hide hs
        have E1 := hide e1
        have E2 := hide e2
        have HYL := hide hyl
        have hkb : k < Y.length + 1 := by omega
        clear hs ht e1 e2 hzl hz0 hyl
        go_wp2_with fail
        refine (rat_any oa ca X k _ (by omega) okX (hx.below hb (Nat.le_refl _))).mono ?_
        rintro e w' ⟨rfl, rfl⟩
        rw [Hx.out]
        go_wp2_with fail
        refine (rat_any ob cb Y k _ (by omega) okY (hy.below hb (Nat.le_refl _))).mono ?_
        rintro e w' ⟨rfl, rfl⟩
        rw [Hy.out]
        go_wp2_with fail
        rw [E1.out, E2.out]
        go_roundw
        case rel => exact ⟨k + 1, _, ys.set k ((c0 + (x + y)) % 4294967296), by omega, rfl, by go_num, hr.set _ (by omega), hb.setCell (Nat.le_refl _) _, by simpa using HYL.out, HS.out, by omega⟩
        case measure => simp [intOf]; omega
      · obtain rfl : k = Y.length + 1 := by omega
        have hfin := rsum_fin (c := c0) okX okY hr.2 hnx hny hyl (by
          have h1 := Heq.out
          rw [← HN.out, seg_zeros, List.take_of_length_le (by omega), List.take_of_length_le (by omega)] at h1
          omega)
        have HF := hide hfin
        clear hfin
        go_wp2_with fail
        refine (rtrim_n _ _ _ ys wr hyl (by omega) (Nat.le_refl _) hr.2 hr.cells).mono ?_
        rintro e w2 ⟨v, rfl, hrd, hb2⟩
        rw [HF.out] at hrd
        go_wp2
        go_ret
        exact ⟨v, rfl, hrd, hb.trans (hb2.mono hb.size)⟩
theorem rsub_fin {X Y us : List Nat} {c : Nat} (okX : OK X) (ok : OK us) (h : us.length = X.length) (hYX : val Y ≤ val X)
    (heq : val (seg us 0 X.length) + val (Y.take X.length) = val (seg X 0 X.length) + pw X.length * c) : strip us = dig (val X - val Y) := by
  have hY : val (Y.take X.length) = val Y := by
    by_cases hl : X.length ≤ Y.length
    · have h1 := val_split Y X.length hl
      have h2 := val_lt okX
      have hz : val (Y.drop X.length) = 0 := by
        rcases Nat.eq_zero_or_pos (val (Y.drop X.length)) with hz | hz
        · exact hz
        · have : pw X.length * 1 ≤ pw X.length * val (Y.drop X.length) := Nat.mul_le_mul_left _ hz
          omega
      rw [hz] at h1; omega
    · rw [List.take_of_length_le (by omega)]
  rw [hY] at heq
  refine sub_fin ok h hYX (c := c) ?_ okX
  omega
set_option maxHeartbeats 800000 in
set_option maxRecDepth 20000 in
theorem rsub_any (oa ob : Option Addr) (ca cb : Nat) (X Y : List Nat) (w : World) (hxl : X.length ≤ 500000000000) (hyl : Y.length ≤ 500000000000) (okX : OK X) (okY : OK Y) (hx : Cells w oa X) (hy : Cells w ob Y) (hYX : val Y ≤ val X) :
    Calls Tryz.prog 124 #[.slice oa X.length ca, .slice ob Y.length cb] w fun e w' => ∃ v, e = .returned v ∧ Rd w' v (dig (val X - val Y)) ∧ Below w.heap.size w w' := by
  have hr0 := Row.new w (List.replicate X.length 0) (OK.replicate _ (by decide))
  have hb0 : Below w.heap.size w (w.alloc (.cells (cs (List.replicate X.length 0)) 56)) := (Below.refl _ _).alloc (Nat.le_refl _) _
  have hmk := mk_run X.length (by omega) w
  generalize hN : (List.replicate X.length 0 : List Nat) = Z at *
  have HN := hide hN
  have HYX := hide hYX
  clear hN hYX
  go_enter Tryz.func124, Tryz.ntmps124
  go_wp2_with fail
  go_loopw [6, 7] (fun c i wr => ∃ (k c0 : Nat) (ys : List Nat), k ≤ X.length ∧ c = .int .u64 (c0 : Int) ∧ i = .int .i64 (k : Int) ∧ Row wr w.heap.size ys ∧ Below w.heap.size w wr ∧ ys.length = X.length ∧
    val (seg ys 0 k) + val (Y.take k) = val (seg X 0 k) + pw k * c0 ∧ c0 ≤ 1) (fun _ i _ => X.length - (intOf i).toNat)
  case atStart => exact ⟨0, 0, Z, Nat.zero_le _, rfl, rfl, hr0, hb0, by rw [← HN.out]; simp, by simp [seg_zero, val], by decide⟩
  case round =>
    obtain ⟨k, c0, ys, hk, rfl, rfl, hr, hb, hyl, heq, hc0⟩ := hrel
    have Heq := hide heq
    clear heq
    by_cases hlt : k < X.length
    · have gu := hr.cell (i := k) (by omega)
      have gf := hr.free k
      obtain ⟨x, Hx⟩ : ∃ x, Hid (X[k]?.getD 0 = x) := ⟨_, rfl⟩
      obtain ⟨y, Hy⟩ : ∃ y, Hid (Y[k]?.getD 0 = y) := ⟨_, rfl⟩
      have hxb : x < 4294967296 := by have := okX.get k; rw [Hx.out] at this; exact this
      have hyb : y < 4294967296 := by have := okY.get k; rw [Hy.out] at this; exact this
      have ht : val (Y.take k) + pw k * y = val (Y.take (k + 1)) := by rw [val_take_next, Hy.out]
      have HYL := hide hyl
      by_cases hlo : x < y + c0
      · have hs := borrow_step (us := X) (p := y) (g := x + 4294967296 - (y + c0)) (q := 1) (by omega) hyl Heq.out (by rw [Nat.zero_add, Hx.out]; omega)
        rw [ht, Nat.zero_add] at hs
        have HS := hide hs
        have hlo' : (x : Int) < (y : Int) + (c0 : Int) := by omega
        have e2 : (x : Int) + 4294967296 - ((y : Int) + (c0 : Int)) = ((x + 4294967296 - (y + c0) : Nat) : Int) := by omega
        have E2 := hide e2
        clear hs ht e2 hyl
        go_wp2_with fail
        refine (rat_any oa ca X k _ (by omega) okX (hx.below hb (Nat.le_refl _))).mono ?_
        rintro e w' ⟨rfl, rfl⟩
        rw [Hx.out]
        go_wp2_with fail
        refine (rat_any ob cb Y k _ (by omega) okY (hy.below hb (Nat.le_refl _))).mono ?_
        rintro e w' ⟨rfl, rfl⟩
        rw [Hy.out]
        go_wp2_with fail
        rw [E2.out]
        go_roundw
        case rel => exact ⟨k + 1, 1, ys.set k (x + 4294967296 - (y + c0)), by omega, rfl, by go_num, hr.set _ (by omega), hb.setCell (Nat.le_refl _) _, by simpa using HYL.out, HS.out, by omega⟩
        case measure => simp [intOf]; omega
      · have hs := borrow_step (us := X) (p := y) (g := x - (y + c0)) (q := 0) (by omega) hyl Heq.out (by rw [Nat.zero_add, Hx.out]; omega)
        rw [ht, Nat.zero_add] at hs
        have HS := hide hs
        have hlo' : ¬ (x : Int) < (y : Int) + (c0 : Int) := by omega
        have e2 : (x : Int) - ((y : Int) + (c0 : Int)) = ((x - (y + c0) : Nat) : Int) := by omega
        have E2 := hide e2
        clear hs ht e2 hyl
        go_wp2_with fail
        refine (rat_any oa ca X k _ (by omega) okX (hx.below hb (Nat.le_refl _))).mono ?_
        rintro e w' ⟨rfl, rfl⟩
        rw [Hx.out]
        go_wp2_with fail
        refine (rat_any ob cb Y k _ (by omega) okY (hy.below hb (Nat.le_refl _))).mono ?_
        rintro e w' ⟨rfl, rfl⟩
        rw [Hy.out]
        go_wp2_with fail
        rw [E2.out]
        go_roundw
        case rel => exact ⟨k + 1, 0, ys.set k (x - (y + c0)), by omega, rfl, by go_num, hr.set _ (by omega), hb.setCell (Nat.le_refl _) _, by simpa using HYL.out, HS.out, by omega⟩
        case measure => simp [intOf]; omega
    · obtain rfl : k = X.length := by omega
      have hfin := rsub_fin (c := c0) okX hr.2 hyl HYX.out Heq.out
      have HF := hide hfin
      clear hfin
      go_wp2_with fail
      refine (rtrim_n _ _ _ ys wr hyl (by omega) (Nat.le_refl _) hr.2 hr.cells).mono ?_
      rintro e w2 ⟨v, rfl, hrd, hb2⟩
      rw [HF.out] at hrd
      go_wp2
      go_ret
      exact ⟨v, rfl, hrd, hb.trans (hb2.mono hb.size)⟩
set_option maxHeartbeats 1200000 in
set_option maxRecDepth 20000 in
theorem rcmp_any (oa ob : Option Addr) (ca cb : Nat) (xs ys : List Nat) (w : World) (hxl : xs.length ≤ 500000000000) (hyl : ys.length ≤ 500000000000) (hxc : xs.length ≤ ca) (hyc : ys.length ≤ cb)
    (okx : OK xs) (oky : OK ys) (hx : Cells w oa xs) (hy : Cells w ob ys) :
    Calls Tryz.prog 123 #[.slice oa xs.length ca, .slice ob ys.length cb] w fun e w' => e = .returned (.int .i64 (cmpI (val xs) (val ys))) ∧ Below w.heap.size w w' := by
  have h1 := strip_length_le xs
  have h2 := strip_length_le ys
  have ex := dig_val okx
  have ey := dig_val oky
  generalize val xs = m at *
  generalize val ys = n at *
  have HX := hide ex
  have HY := hide ey
  clear ex ey
  obtain ⟨r, Hr⟩ : ∃ r, Hid (cmpI m n = r) := ⟨_, rfl⟩
  rw [Hr.out]
  go_enter Tryz.func123, Tryz.ntmps123
  go_wp2_with fail
  refine (rtrim_any oa ca xs _ (by omega) hxc okx hx).mono ?_
  rintro e w1 ⟨v1, rfl, hv1, hb1⟩
  go_wp2_with fail
  refine (rtrim_any ob cb ys _ (by omega) hyc oky (hy.below hb1 (Nat.le_refl _))).mono ?_
  rintro e w2 ⟨v2, rfl, hv2, hb2⟩
  have hv1 := hv1.below hb2 (Nat.le_refl _)
  have hb := hb1.trans (hb2.mono hb1.size)
  clear hb1 hb2
  obtain ⟨oc, cc, rfl, hcc, okX, hcX⟩ := hv1
  obtain ⟨od, cd, rfl, hcd, okY, hcY⟩ := hv2
  generalize strip xs = X at *
  generalize strip ys = Y at *
  by_cases hlen : X.length = Y.length
  · have hbq : ((X.length : Int) == (Y.length : Int)) = true := by rw [beq_iff_eq]; omega
    have Hl := hide hlen
    clear hlen
    go_wp2_with fail
    go_loopw [7] (fun i wr => ∃ k : Nat, k ≤ X.length ∧ i = .int .i64 ((k : Int) - 1) ∧ X.drop k = Y.drop k ∧ Below w2.heap.size w2 wr) (fun i _ => (intOf i + 1).toNat)
    case atStart => exact ⟨X.length, Nat.le_refl _, rfl, by rw [List.drop_eq_nil_of_le (Nat.le_refl _), List.drop_eq_nil_of_le (Nat.le_of_eq Hl.out.symm)], Below.refl _ _⟩
    case round =>
      obtain ⟨k, hk, rfl, hdr, hbel⟩ := hrel
      have Hdr := hide hdr
      clear hdr
      by_cases hk0 : 0 < k
      · obtain ⟨j, rfl⟩ : ∃ j, k = j + 1 := ⟨k - 1, by omega⟩
        have hl := Hl.out
        have b1 : j < X.length := by omega
        have b2 : j < Y.length := by omega
        obtain ⟨bx, ox, x, ho, gx, Hx⟩ := (hcX.below hbel (Nat.le_refl _)).get b1
        obtain ⟨by', oy, y, ho', gy, Hy⟩ := (hcY.below hbel (Nat.le_refl _)).get b2
        subst ho
        subst ho'
        rw [show ((j + 1 : Nat) : Int) - 1 = (j : Int) from by omega]
        clear hl
        have hlt1 : x < y → r = -1 := fun h => by
          have := val_lt_of_top okX Hl.out b1 Hdr.out (by have := Hx.out; have := Hy.out; omega)
          rw [← HX.out, ← HY.out, val_dig, val_dig] at this
          rw [← Hr.out]; unfold cmpI; rw [if_pos this]
        have hlt2 : y < x → r = 1 := fun h => by
          have := val_lt_of_top okY Hl.out.symm b2 Hdr.out.symm (by have := Hx.out; have := Hy.out; omega)
          rw [← HX.out, ← HY.out, val_dig, val_dig] at this
          rw [← Hr.out]; unfold cmpI; rw [if_neg (by omega), if_neg (by omega)]
        rcases Nat.lt_trichotomy x y with h | h | h
        · have hr := hide (hlt1 h)
          have hi : (x : Int) < (y : Int) := by omega
          clear hlt1 hlt2
          go_wp2_with fail
          go_region
          all_goals go_wp2_with fail
          all_goals go_ret
          all_goals exact ⟨congrArg (fun z : Int => Ending.returned (.int .i64 z)) hr.out.symm, hb.trans ((hbel.drew).mono hb.size)⟩
        · subst h
          clear hlt1 hlt2
          go_wp2_with fail
          go_region
          all_goals go_wp2_with fail
          all_goals go_region
          all_goals go_wp2_with fail
          all_goals go_roundw
          case rel => exact ⟨j, by omega, rfl, drop_eq_of_top Hl.out b1 Hdr.out (Hx.out.trans Hy.out.symm), hbel.drew.drew⟩
          case measure => simp [intOf]
        · have hr := hide (hlt2 h)
          have hi : (y : Int) < (x : Int) := by omega
          have hi2 : ¬ (x : Int) < (y : Int) := by omega
          clear hlt1 hlt2
          go_wp2_with fail
          go_region
          all_goals go_wp2_with fail
          all_goals go_region
          all_goals go_wp2_with fail
          all_goals go_ret
          all_goals exact ⟨congrArg (fun z : Int => Ending.returned (.int .i64 z)) hr.out.symm, hb.trans ((hbel.drew.drew).mono hb.size)⟩
      · obtain rfl : k = 0 := by omega
        have hdr := Hdr.out
        simp only [List.drop_zero] at hdr
        have hmn : m = n := dig_inj (HX.out.trans (hdr.trans HY.out.symm))
        have hz : r = 0 := by
          rw [← Hr.out]; unfold cmpI; rw [if_neg (by omega), if_pos hmn]
        have HZ := hide hz
        clear hdr hmn hz
        go_wp2
        go_ret
        exact ⟨congrArg (fun z : Int => Ending.returned (.int .i64 z)) HZ.out.symm, hb.trans (hbel.mono hb.size)⟩
  · have hbq : ((X.length : Int) == (Y.length : Int)) = false := by rw [beq_eq_false_iff_ne]; omega
    by_cases hlt : X.length < Y.length
    · have hr : r = -1 := by
        have := lt_of_length_lt (m := m) (n := n) (by rw [HX.out, HY.out]; exact hlt)
        rw [← Hr.out]; unfold cmpI; rw [if_pos this]
      have HR := hide hr
      clear hr
      go_wp2_with fail
      go_ret
      exact ⟨congrArg (fun z : Int => Ending.returned (.int .i64 z)) HR.out.symm, hb⟩
    · have hr : r = 1 := by
        have := lt_of_length_lt (m := n) (n := m) (by rw [HX.out, HY.out]; omega)
        rw [← Hr.out]; unfold cmpI; rw [if_neg (by omega), if_neg (by omega)]
      have HR := hide hr
      clear hr
      go_wp2_with fail
      go_ret
      exact ⟨congrArg (fun z : Int => Ending.returned (.int .i64 z)) HR.out.symm, hb⟩
/-- How many bits a number has. -/
def bitsN (n : Nat) : Nat := if n = 0 then 0 else Nat.log2 n + 1
theorem bitsN_lt (n : Nat) : n < 2 ^ bitsN n := by
  unfold bitsN; split
  · subst_vars; decide
  · exact Nat.lt_log2_self
theorem bitsN_le {n : Nat} (h : n ≠ 0) : 2 ^ (bitsN n - 1) ≤ n := by
  unfold bitsN; rw [if_neg h, Nat.add_sub_cancel]; exact Nat.log2_self_le h
theorem bitsN_unique {n k : Nat} (hk : 0 < k) (h1 : 2 ^ (k - 1) ≤ n) (h2 : n < 2 ^ k) : bitsN n = k := by
  have hn : n ≠ 0 := fun e => by subst e; have := Nat.pow_pos (n := k - 1) (show 0 < 2 by decide); omega
  have h3 := bitsN_lt n
  have h4 := bitsN_le hn
  have h5 : 0 < bitsN n := by unfold bitsN; rw [if_neg hn]; omega
  have a := (Nat.pow_lt_pow_iff_right (by decide : 1 < 2)).1 (Nat.lt_of_le_of_lt h1 h3)
  have b := (Nat.pow_lt_pow_iff_right (by decide : 1 < 2)).1 (Nat.lt_of_le_of_lt h4 h2)
  omega
theorem bitLen_bitsN (d : Nat) (h : d < 4294967296) : Lib.bitLen d = bitsN d := by
  by_cases hd : d = 0
  · subst hd; decide
  · have := Lib.bitLenAux_bounds 64 d (by omega) hd
    exact (bitsN_unique (by unfold Lib.bitLen; exact this.1) (by unfold Lib.bitLen; exact this.2.1) (by unfold Lib.bitLen; exact this.2.2)).symm
/-- The bits of canonical digits: 32 for each below the top one, and the top one's. -/
theorem bitsN_dig {n t : Nat} (_hn : n ≠ 0) (ht : (dig n).length = t + 1) : bitsN n = 32 * t + bitsN ((dig n)[t]?.getD 0) := by
  have ok := OK_dig n
  have hv := val_dig n
  have htop : (dig n)[t]?.getD 0 ≠ 0 := by
    have h1 := strip_dig n
    have := strip_top (ds := dig n) (by rw [h1]; intro e; rw [e] at ht; simp at ht)
    rw [h1, ht] at this; exact this
  have hs := val_split (dig n) t (by omega)
  rw [drop_succ_val (by omega), List.drop_eq_nil_of_le (by omega)] at hs
  have hlow : val ((dig n).take t) < pw t := by
    have := val_lt (ok.take t)
    rw [List.length_take, Nat.min_eq_left (by omega)] at this; exact this
  generalize hd : (dig n)[t]?.getD 0 = d at *
  rw [hv] at hs
  simp only [val, Nat.mul_zero, Nat.add_zero] at hs
  have h1 := bitsN_lt d
  have h2 := bitsN_le htop
  have h5 : 0 < bitsN d := by unfold bitsN; rw [if_neg htop]; omega
  rw [pw_eq] at hs hlow
  refine bitsN_unique (by omega) ?_ ?_
  · have e : 32 * t + bitsN d - 1 = 32 * t + (bitsN d - 1) := by omega
    rw [e, Nat.pow_add]
    have := Nat.mul_le_mul_left (2 ^ (32 * t)) h2
    omega
  · rw [Nat.pow_add]
    have : 2 ^ (32 * t) * (d + 1) ≤ 2 ^ (32 * t) * 2 ^ bitsN d := Nat.mul_le_mul_left _ h1
    rw [Nat.mul_add] at this
    omega
theorem bitsN_le_32 {d : Nat} (h : d < 4294967296) : bitsN d ≤ 32 := by
  by_cases hd : d = 0
  · subst hd; decide
  · have h1 := bitsN_le hd
    have h2 : 2 ^ (bitsN d - 1) < 2 ^ 32 := by omega
    have := (Nat.pow_lt_pow_iff_right (by decide : 1 < 2)).1 h2
    omega
set_option maxHeartbeats 800000 in
set_option maxRecDepth 20000 in
/-- nat.Bits. -/
theorem bits_any (oa : Option Addr) (ca : Nat) (xs : List Nat) (w : World) (hl : xs.length ≤ 500000000000) (hc : xs.length ≤ ca) (ok : OK xs) (hx : Cells w oa xs) :
    Calls Tryz.prog 77 #[.slice oa xs.length ca] w fun e w' => e = .returned (.int .i64 ((bitsN (val xs) : Nat) : Int)) ∧ Below w.heap.size w w' := by
  have hsl := strip_length_le xs
  have ex := dig_val ok
  have hx' := hx.strip
  obtain ⟨r, Hr⟩ : ∃ r, Hid (bitsN (val xs) = r) := ⟨_, rfl⟩
  rw [Hr.out]
  generalize val xs = m at *
  have HX := hide ex
  clear ex
  go_enter Tryz.func77, Tryz.ntmps77
  go_wp2_with fail
  refine (trim_any oa ca xs _ (by omega) hc hx).mono ?_
  rintro e w' ⟨rfl, rfl⟩
  generalize strip xs = X at *
  by_cases h0 : X.length = 0
  · have hm : m = 0 := dig_eq_nil.1 (by rw [HX.out]; exact List.length_eq_zero_iff.1 h0)
    have hr : r = 0 := by rw [← Hr.out, hm]; decide
    have HR := hide hr
    clear hr hm
    have hb : ((X.length : Int) == 0) = true := by rw [beq_iff_eq]; omega
    go_wp2_with fail
    go_ret
    exact ⟨congrArg (fun z : Nat => Ending.returned (.int .i64 (z : Int))) HR.out.symm, Below.refl _ _⟩
  · obtain ⟨t, ht⟩ : ∃ t, X.length = t + 1 := ⟨X.length - 1, by omega⟩
    have hb : (((t : Int) + 1) == 0) = false := by rw [beq_eq_false_iff_ne]; omega
    obtain ⟨b, off, d, ho, gx, Hx⟩ := hx'.get (i := t) (by omega)
    subst ho
    have hdb : d < 4294967296 := by
      have h1 := (OK_dig m).get t
      rw [HX.out, Hx.out] at h1; exact h1
    have hm : m ≠ 0 := fun e => by have := HX.out; rw [e, dig_zero] at this; rw [← this] at h0; simp at h0
    have hr : 32 * t + bitsN d = r := by
      rw [← Hr.out, bitsN_dig hm (t := t) (by rw [HX.out]; exact ht), HX.out, Hx.out]
    have h32 := bitsN_le_32 hdb
    have HR := hide hr
    have HT := hide ht
    have hbl := bitLen_bitsN d hdb
    have HBL := hide hbl
    have htb : t < 500000000000 := by omega
    rw [ht]
    clear hr hbl ht h0 hm
    go_wp2_with fail
    refine (Tryz.bits_Len32 (d : Int) w (by omega) (by omega)).mono ?_
    rintro e w' ⟨rfl, rfl⟩
    rw [Int.toNat_natCast, HBL.out]
    have hres : (t : Int) * 32 + ((bitsN d : Nat) : Int) = ((r : Nat) : Int) := by have := HR.out; omega
    have HRes := hide hres
    have h32' := h32
    generalize bitsN d = bd at *
    clear hres
    go_wp2
    go_ret
    exact ⟨congrArg (fun z : Int => Ending.returned (.int .i64 z)) HRes.out, Below.refl _ _⟩
/-- The number that a sign and digits stand for. -/
def zv (neg : Bool) (xs : List Nat) : Int := if neg then -(val xs : Int) else (val xs : Int)
theorem zv_abs (neg : Bool) (xs : List Nat) : (zv neg xs).natAbs = val xs := by
  unfold zv; cases neg <;> simp
/-- v is a whole number z, however laid; its digits are at most l. -/
def ZN (w : World) (v : Value) (z : Int) (l : Nat) : Prop := ∃ neg s xs, v = .agg #[.bool neg, s] ∧ Rd w s xs ∧ zv neg xs = z ∧ xs.length ≤ l
/-- v is z, canonical, its digits in memory from block B on. -/
def ZO (w : World) (B : Nat) (v : Value) (z : Int) : Prop := ∃ s, v = .agg #[.bool (decide (z < 0)), s] ∧ Own w B s (dig z.natAbs)
/-- v is z, canonical. -/
def ZC (w : World) (v : Value) (z : Int) : Prop := ∃ s, v = .agg #[.bool (decide (z < 0)), s] ∧ Rd w s (dig z.natAbs)
theorem ZN.below {w w' : World} {v : Value} {z : Int} {l : Nat} (h : ZN w v z l) {B : Nat} (hb : Below B w w') (hB : w.heap.size ≤ B) : ZN w' v z l := by
  obtain ⟨neg, s, xs, hv, hr, hz, hl⟩ := h
  exact ⟨neg, s, xs, hv, hr.below hb hB, hz, hl⟩
theorem ZN.alloc {w : World} {v : Value} {z : Int} {l : Nat} (h : ZN w v z l) (o : Obj) : ZN (w.alloc o) v z l := h.below ((Below.refl w.heap.size _).alloc (Nat.le_refl _) o) (Nat.le_refl _)
theorem ZN.drew {w : World} {v : Value} {z : Int} {l : Nat} (h : ZN w v z l) : ZN w.drew v z l := h.below ((Below.refl _ _).drew) (Nat.le_refl _)
theorem ZO.mono {w : World} {B C : Nat} {v : Value} {z : Int} (h : ZO w B v z) (hC : C ≤ B) : ZO w C v z := by
  obtain ⟨s, hv, hr⟩ := h
  exact ⟨s, hv, hr.mono hC⟩
theorem ZO.rd {w : World} {B : Nat} {v : Value} {z : Int} (h : ZO w B v z) : ZC w v z := by
  obtain ⟨s, hv, hr⟩ := h
  exact ⟨s, hv, hr.rd⟩
theorem zv_canon (z : Int) : zv (decide (z < 0)) (dig z.natAbs) = z := by
  unfold zv
  rw [val_dig]
  by_cases h : z < 0
  · rw [decide_eq_true h]; simp only [if_true]; omega
  · rw [decide_eq_false h]; simp only [Bool.false_eq_true, if_false]; omega
theorem ZC.zn {w : World} {v : Value} {z : Int} (h : ZC w v z) {l : Nat} (hl : (dig z.natAbs).length ≤ l) : ZN w v z l := by
  obtain ⟨s, hv, hr⟩ := h
  exact ⟨_, s, _, hv, hr, zv_canon z, hl⟩
theorem sign_of (neg : Bool) (n : Nat) : (neg && decide (0 < (dig n).length)) = decide ((if neg then -(n : Int) else (n : Int)) < 0) := by
  have h : (0 < (dig n).length) ↔ n ≠ 0 := by rw [List.length_pos_iff]; exact not_congr dig_eq_nil
  cases neg
  · simp
  · rw [Bool.true_and]; exact decide_eq_decide.2 (by rw [h]; simp; omega)
/-- Block b holds a struct Z. -/
def Bk (w : World) (b : Nat) (neg : Bool) (s : Value) : Prop := w.heap[b]? = some (.cells #[.bool neg, s] 26 (0, 0))
theorem Bk.new (w : World) (neg : Bool) (s : Value) : Bk (w.alloc (.cells #[.bool neg, s] 26)) w.heap.size neg s := by
  show (w.heap.push _)[w.heap.size]? = _
  simp
theorem Bk.size_alloc (w : World) (o : Obj) : (w.alloc o).heap.size = w.heap.size + 1 := by simp
theorem Bk.lt {w : World} {b : Nat} {neg : Bool} {s : Value} (h : Bk w b neg s) : b < w.heap.size := by
  rcases Nat.lt_or_ge b w.heap.size with hb | hb
  · exact hb
  · unfold Bk at h; rw [Array.getElem?_eq_none hb] at h; cases h
theorem Bk.below {w w' : World} {b : Nat} {neg : Bool} {s : Value} (h : Bk w b neg s) {B : Nat} (hb : Below B w w') (hB : w.heap.size ≤ B) : Bk w' b neg s := by
  unfold Bk; rw [hb.block b (Nat.lt_of_lt_of_le h.lt hB)]; exact h
theorem Bk.alloc {w : World} {b : Nat} {neg : Bool} {s : Value} (h : Bk w b neg s) (o : Obj) : Bk (w.alloc o) b neg s := h.below ((Below.refl w.heap.size _).alloc (Nat.le_refl _) o) (Nat.le_refl _)
theorem Bk.drew {w : World} {b : Nat} {neg : Bool} {s : Value} (h : Bk w b neg s) : Bk w.drew b neg s := h.below ((Below.refl w.heap.size _).drew) (Nat.le_refl _)
/-- What the walk reads of it. -/
theorem Bk.facts {w : World} {b : Nat} {neg : Bool} {s : Value} (h : Bk w b neg s) :
    w.cell? ⟨b, 0, none⟩ = some (.bool neg) ∧ w.cell? ⟨b, 1, none⟩ = some s ∧ w.frozen? ⟨b, 0, none⟩ = false ∧ w.frozen? ⟨b, 1, none⟩ = false := by
  unfold Bk at h
  exact ⟨by simp only [World.cell?, h]; rfl, by simp only [World.cell?, h]; rfl, by simp [World.frozen?, h], by simp [World.frozen?, h]⟩
theorem Bk.store {w : World} {b : Nat} {neg : Bool} {s : Value} (h : Bk w b neg s) (neg' : Bool) (s' : Value) : Bk ((w.setCell ⟨b, 0, none⟩ (.bool neg')).setCell ⟨b, 1, none⟩ s') b neg' s' := by
  unfold Bk at h ⊢
  simp only [World.setCell, Array.getElem?_modify, h]
  simp
theorem Bk.only (w : World) (b : Nat) (neg' : Bool) (s' : Value) : Only b w ((w.setCell ⟨b, 0, none⟩ (.bool neg')).setCell ⟨b, 1, none⟩ s') := ((Only.refl b w).setCell 0 _).setCell 1 _
theorem Bk.frame {w w' : World} {b c : Nat} {neg : Bool} {s : Value} (h : Bk w b neg s) (ho : Only c w w') (hne : b ≠ c) : Bk w' b neg s := by
  unfold Bk; rw [ho.block b hne]; exact h
theorem ZO.open2 {w : World} {B : Nat} {v : Value} {z : Int} (h : ZO w B v z) : ∃ sb oa n cap, v = .agg #[.bool sb, .slice oa n cap] := by
  obtain ⟨s, rfl, oa, cap, rfl, _⟩ := h
  exact ⟨_, oa, _, cap, rfl⟩
theorem Own.only {w w' : World} {B b : Nat} {v : Value} {ds : List Nat} (h : Own w B v ds) (ho : Only b w w') (hb : b < B) : Own w' B v ds := by
  obtain ⟨oa, cap, hv, hc, h0 | ⟨c, off, xs, hoa, hB', hr, hx, hd⟩⟩ := h
  · exact ⟨oa, cap, hv, hc, .inl h0⟩
  · exact ⟨oa, cap, hv, hc, .inr ⟨c, off, xs, hoa, hB', ho.row hr (by omega), hx, hd⟩⟩
theorem ZO.only {w w' : World} {B b : Nat} {v : Value} {z : Int} (h : ZO w B v z) (ho : Only b w w') (hb : b < B) : ZO w' B v z := by
  obtain ⟨s, hv, hr⟩ := h
  exact ⟨s, hv, hr.only ho hb⟩
set_option maxHeartbeats 400000 in
set_option maxRecDepth 20000 in
/-- signed: the canonical number of an amount. -/
theorem signed_any {w : World} {B : Nat} {s : Value} (neg : Bool) (n : Nat) (h : Own w B s (dig n)) :
    Calls Tryz.prog 63 #[.bool neg, s] w fun e w' => ∃ v, e = .returned v ∧ ZO w' B v (if neg then -(n : Int) else (n : Int)) ∧ Below w.heap.size w w' := by
  have HSG := hide (sign_of neg n)
  have h' := h
  obtain ⟨oa, cap, rfl, hcap, _⟩ := h
  have H' := hide h'
  clear h'
  have hbl : ∀ o, Below w.heap.size w (w.alloc o) := fun o => (Below.refl _ _).alloc (Nat.le_refl _) o
  have e1 : ((n : Int)).natAbs = n := by simp
  have e2 : (-(n : Int)).natAbs = n := by simp
  have E := hide (And.intro e1 e2)
  clear e1 e2
  cases neg
  · go_enter Tryz.func63, Tryz.ntmps63
    go_wp2
    go_returns
    refine ⟨_, rfl, ⟨_, ?_, by rw [E.out.1]; exact H'.out.below (hbl _) (Nat.le_refl _)⟩, hbl _⟩
    rw [decide_eq_false (by omega : ¬ (n : Int) < 0)]
  · go_enter Tryz.func63, Tryz.ntmps63
    go_wp2
    go_returns
    refine ⟨_, rfl, ⟨_, ?_, by rw [E.out.2]; exact H'.out.below (hbl _) (Nat.le_refl _)⟩, hbl _⟩
    have h3 := HSG.out
    simp only [Bool.true_and, if_true] at h3
    rw [h3]
/-- signed, of a number that is told. -/
theorem signed_z {w : World} {B : Nat} {s : Value} {neg : Bool} {n : Nat} (z : Int) (h : Own w B s (dig n)) (hz : (if neg then -(n : Int) else (n : Int)) = z) :
    Calls Tryz.prog 63 #[.bool neg, s] w fun e w' => ∃ v, e = .returned v ∧ ZO w' B v z ∧ Below w.heap.size w w' := by
  subst hz; exact signed_any neg n h
/-- turned: the other sign, the same digits. -/
theorem turned_any {w : World} {v : Value} {z : Int} {l : Nat} (h : ZN w v z l) :
    Calls Tryz.prog 87 #[v] w fun e w' => ∃ v', e = .returned v' ∧ ZN w' v' (-z) l ∧ Below w.heap.size w w' := by
  obtain ⟨neg, s, xs, rfl, hr, hz, hl⟩ := h
  have hbl : ∀ o, Below w.heap.size w (w.alloc o) := fun o => (Below.refl _ _).alloc (Nat.le_refl _) o
  have hb2 : ∀ o o', Below w.heap.size w ((w.alloc o).alloc o') := fun o o' => (hbl o).alloc (hbl o).size o'
  have HZ := hide (And.intro hz hl)
  have HR := hide hr
  obtain ⟨oa, cap, rfl, hcap, _⟩ := hr
  clear hz hl
  go_enter Tryz.func87, Tryz.ntmps87
  go_wp2
  go_returns
  refine ⟨_, rfl, ⟨!neg, _, xs, rfl, HR.out.below (hb2 _ _) (Nat.le_refl _), ?_, HZ.out.2⟩, hb2 _ _⟩
  rw [← HZ.out.1]
  unfold zv
  cases neg <;> simp
/-- A number's field of digits, opened. -/
theorem ZN.open_ {w : World} {v : Value} {z : Int} {l : Nat} (h : ZN w v z l) :
    ∃ neg oa cap xs, v = .agg #[.bool neg, .slice oa xs.length cap] ∧ xs.length ≤ cap ∧ Rd w (.slice oa xs.length cap) xs ∧ zv neg xs = z ∧ xs.length ≤ l := by
  obtain ⟨neg, s, xs, rfl, hr, hz, hl⟩ := h
  have hr' := hr
  obtain ⟨oa, cap, rfl, hcap, _⟩ := hr
  exact ⟨neg, oa, cap, xs, rfl, hcap, hr', hz, hl⟩
theorem bits_rd1 {w : World} {va : Value} {xs : List Nat} (hx : Rd w va xs) (hxl : xs.length ≤ 100000000000) :
    Calls Tryz.prog 77 #[va] w fun e w' => e = .returned (.int .i64 ((bitsN (val xs) : Nat) : Int)) ∧ Below w.heap.size w w' := by
  obtain ⟨oa, ca, rfl, hca, okx, hcx⟩ := hx
  exact bits_any oa ca xs w (by omega) hca okx hcx
set_option maxRecDepth 20000 in
/-- zint.Bits. -/
theorem zbits_any {w : World} {v : Value} {z : Int} {l : Nat} (h : ZN w v z l) (hl : l ≤ 1000000000) :
    Calls Tryz.prog 46 #[v] w fun e w' => e = .returned (.int .i64 ((bitsN z.natAbs : Nat) : Int)) ∧ Below w.heap.size w w' := by
  obtain ⟨neg, oa, cap, xs, rfl, hcap, hr, hz, hxl⟩ := h.open_
  have hv : val xs = z.natAbs := by rw [← hz, zv_abs]
  have HV := hide hv
  clear hz hv h
  go_enter Tryz.func46, Tryz.ntmps46
  have hb := Below.refl w.heap.size w
  replace hr := hr.alloc (.cells #[.bool neg, .slice oa xs.length cap] 26)
  replace hb := hb.alloc hb.size (.cells #[.bool neg, .slice oa xs.length cap] 26)
  go_wp2_with fail
  refine (bits_rd1 hr (by omega)).mono ?_
  rintro e w_1 ⟨rfl, hb_1⟩
  replace hr := hr.below hb_1 (Nat.le_refl _)
  replace hb := hb.trans (hb_1.mono hb.size)
  clear hb_1
  rw [HV.out]
  go_wp2
  go_ret
  exact ⟨rfl, hb⟩
theorem bitsN_zero {n : Nat} : bitsN n = 0 ↔ n = 0 := by
  constructor
  · intro h; unfold bitsN at h; split at h
    · assumption
    · omega
  · rintro rfl; decide
set_option maxRecDepth 20000 in
/-- zint.Sign. -/
theorem zsign_any {w : World} {v : Value} {z : Int} {l : Nat} (h : ZN w v z l) (hl : l ≤ 1000000000) :
    Calls Tryz.prog 35 #[v] w fun e w' => e = .returned (.int .i64 z.sign) ∧ Below w.heap.size w w' := by
  have hzn := h
  obtain ⟨neg, oa, cap, xs, rfl, hcap, hr, hz, hxl⟩ := h.open_
  have HZ := hide hz
  clear h hz
  obtain ⟨b, hb'⟩ : ∃ b, bitsN z.natAbs = b := ⟨_, rfl⟩
  have HB := hide hb'
  obtain ⟨g, hg⟩ : ∃ g, z.sign = g := ⟨_, rfl⟩
  rw [hg]
  by_cases h0 : z = 0
  · have e1 : b = 0 := by rw [← hb', h0]; decide
    have e2 : g = 0 := by rw [← hg, h0]; rfl
    subst e1
    rw [e2]
    have hq : (((0 : Nat) : Int) == 0) = true := rfl
    clear hb' hg h0
    go_enter Tryz.func35, Tryz.ntmps35
    have hb := Below.refl w.heap.size w
    replace hzn := hzn.alloc (.cells #[.bool neg, .slice oa xs.length cap] 26)
    replace hb := hb.alloc hb.size (.cells #[.bool neg, .slice oa xs.length cap] 26)
    go_wp2_with fail
    refine (zbits_any hzn hl).mono ?_
    rintro e w_1 ⟨rfl, hb_1⟩
    replace hzn := hzn.below hb_1 (Nat.le_refl _)
    replace hb := hb.trans (hb_1.mono hb.size)
    clear hb_1
    rw [HB.out]
    go_wp2
    go_ret
    exact ⟨rfl, hb⟩
  · have e1 : ((b : Int) == 0) = false := by
      rw [beq_eq_false_iff_ne]
      intro h
      have h3 : b = 0 := by omega
      rw [h3, bitsN_zero] at hb'
      omega
    have hg2 : g = if neg then -1 else 1 := by
      rw [← hg]
      have h3 := HZ.out
      unfold zv at h3
      cases neg
      · rw [if_neg (by simp)] at h3 ⊢
        exact Int.sign_eq_one_of_pos (by omega)
      · rw [if_pos rfl] at h3 ⊢
        exact Int.sign_eq_neg_one_of_neg (by omega)
    clear hb' hg h0
    cases neg
    · simp only [Bool.false_eq_true, if_false] at hg2
      rw [hg2]
      clear hg2
      go_enter Tryz.func35, Tryz.ntmps35
      have hb := Below.refl w.heap.size w
      have hp := Bk.new w false (.slice oa xs.length cap)
      replace hzn := hzn.alloc (.cells #[.bool false, (.slice oa xs.length cap)] 26)
      replace hb := hb.alloc hb.size (.cells #[.bool false, (.slice oa xs.length cap)] 26)
      go_wp2_with fail
      refine (zbits_any hzn hl).mono ?_
      rintro e w_1 ⟨rfl, hb_1⟩
      replace hzn := hzn.below hb_1 (Nat.le_refl _)
      replace hp := hp.below hb_1 (Nat.le_refl _)
      replace hb := hb.trans (hb_1.mono hb.size)
      clear hb_1
      rw [HB.out]
      have c0 := hp.facts
      go_wp2
      go_ret
      exact ⟨rfl, hb⟩
    · simp only [if_true] at hg2
      rw [hg2]
      clear hg2
      go_enter Tryz.func35, Tryz.ntmps35
      have hb := Below.refl w.heap.size w
      have hp := Bk.new w true (.slice oa xs.length cap)
      replace hzn := hzn.alloc (.cells #[.bool true, (.slice oa xs.length cap)] 26)
      replace hb := hb.alloc hb.size (.cells #[.bool true, (.slice oa xs.length cap)] 26)
      go_wp2_with fail
      refine (zbits_any hzn hl).mono ?_
      rintro e w_1 ⟨rfl, hb_1⟩
      replace hzn := hzn.below hb_1 (Nat.le_refl _)
      replace hp := hp.below hb_1 (Nat.le_refl _)
      replace hb := hb.trans (hb_1.mono hb.size)
      clear hb_1
      rw [HB.out]
      have c0 := hp.facts
      go_wp2
      go_ret
      exact ⟨rfl, hb⟩
end Go.Proofs.YtlomgfgedkkhkaaGreatDoor
