/- The reference's Same, the law's is and awake; the contracts of nat's calls over whatever slice reads as given digits. -/
import Derived.Test.YtdjfgpfeepbnaaaDoorR1
namespace Go.Proofs.YtdjfgpfeepbnaaaDoor
open Go.RowKit Dig

set_option maxHeartbeats 800000 in
/-- The reference's Same. -/
theorem same_any (oa ob : Option Addr) (ca cb : Nat) (xs ys : List Nat) (w : World) (hxl : xs.length ≤ 10000000000000) (hyl : ys.length ≤ 10000000000000) (hx : Cells w oa xs) (hy : Cells w ob ys) :
    Calls Tryd.prog 36 #[.slice oa xs.length ca, .slice ob ys.length cb] w fun e w' => e = .returned (.bool (decide (xs = ys))) ∧ Below w.heap.size w w' := by
  by_cases hlen : xs.length = ys.length
  · have hb : ((xs.length : Int) == (ys.length : Int)) = true := by rw [beq_iff_eq]; omega
    obtain ⟨r, Hr⟩ : ∃ r, Hid (decide (xs = ys) = r) := ⟨_, rfl⟩
    rw [Hr.out]
    have Hl := hide hlen
    clear hlen
    go_enter Tryd.func36, Tryd.ntmps36
    go_wp2_with fail
    go_loopw [5] (fun i wr => ∃ k : Nat, k ≤ xs.length ∧ i = .int .i64 (k : Int) ∧ (∀ j, j < k → xs[j]?.getD 0 = ys[j]?.getD 0) ∧ Below w.heap.size w wr) (fun i _ => xs.length - (intOf i).toNat)
    case atStart => exact ⟨0, Nat.zero_le _, rfl, fun _ h => by omega, Below.refl _ _⟩
    case round =>
      obtain ⟨k, hk, rfl, hall, hbel⟩ := hrel
      have Hall := hide hall
      clear hall
      by_cases hlt : k < xs.length
      · have hlt2 : k < ys.length := by have := Hl.out; omega
        obtain ⟨bx, ox, x, ho, gx, Hx⟩ := (hx.below hbel (Nat.le_refl _)).get hlt
        obtain ⟨by', oy, y, ho', gy, Hy⟩ := (hy.below hbel (Nat.le_refl _)).get hlt2
        subst ho
        subst ho'
        by_cases hd : x = y
        · subst hd
          have hd' : ((x : Int) == (x : Int)) = true := by simp
          go_wp2_with fail
          go_region
          all_goals go_wp2_with fail
          all_goals go_roundw
          case rel => exact ⟨k + 1, hlt, by go_num, fun j hj => by rcases Nat.eq_or_lt_of_le (Nat.le_of_lt_succ hj) with h | h; (· subst h; exact Hx.out.trans Hy.out.symm); (· exact Hall.out j h), hbel.drew⟩
          case measure => simp [intOf]; omega
        · have hd' : ((x : Int) == (y : Int)) = false := by rw [beq_eq_false_iff_ne]; omega
          have hr : r = false := by
            rw [← Hr.out, decide_eq_false_iff_not]
            intro e
            subst e
            exact hd (Hx.out.symm.trans Hy.out)
          have HR := hide hr
          clear hr
          go_wp2_with fail
          go_region
          all_goals go_wp2_with fail
          all_goals go_ret
          all_goals exact ⟨by rw [HR.out]; rfl, hbel.drew⟩
      · obtain rfl : k = xs.length := by omega
        have hr : r = true := by
          rw [← Hr.out, decide_eq_true_eq]
          apply List.ext_getElem?
          intro i
          have hl := Hl.out
          by_cases hi : i < xs.length
          · have := Hall.out i hi
            rw [List.getElem?_eq_getElem hi, List.getElem?_eq_getElem (by omega : i < ys.length)] at this ⊢
            simpa using this
          · rw [List.getElem?_eq_none (by omega), List.getElem?_eq_none (by omega)]
        have HR := hide hr
        clear hr
        go_wp2_with fail
        go_ret
        exact ⟨by rw [HR.out]; rfl, hbel⟩
  · have hb : ((xs.length : Int) == (ys.length : Int)) = false := by rw [beq_eq_false_iff_ne]; omega
    have hr : decide (xs = ys) = false := by
      rw [decide_eq_false_iff_not]
      intro e
      exact hlen (by rw [e])
    rw [hr]
    go_enter Tryd.func36, Tryd.ntmps36
    go_wp2_with fail
    go_ret
    exact ⟨rfl, Below.refl _ _⟩

set_option maxHeartbeats 400000 in
/-- is: an answer held against a number. -/
theorem is_any (va vb : Value) (xs ys : List Nat) (w : World) (hxl : xs.length ≤ 10000000000000) (hyl : ys.length ≤ 10000000000000) (hx : Rd w va xs) (hy : Rd w vb ys) :
    Calls Tryd.prog 11 #[va, vb] w fun e w' => e = .returned (.bool (decide (xs = strip ys))) ∧ Below w.heap.size w w' := by
  obtain ⟨oa, ca, rfl, hca, okx, hcx⟩ := hx
  obtain ⟨ob, cb, rfl, hcb, oky, hcy⟩ := hy
  have hsl := strip_length_le ys
  go_enter Tryd.func11, Tryd.ntmps11
  go_wp2_with fail
  refine (rtrim_any ob cb ys _ hyl hcb oky hcy).mono ?_
  rintro e w1 ⟨v, rfl, hv, hb1⟩
  obtain ⟨oc, cc, rfl, hcc, okc, hccx⟩ := hv
  go_wp2_with fail
  refine (same_any oa oc ca cc xs (strip ys) w1 hxl (by omega) (hcx.below hb1 (Nat.le_refl _)) hccx).mono ?_
  rintro e w2 ⟨rfl, hb2⟩
  go_wp2
  go_ret
  exact ⟨rfl, hb1.trans (hb2.mono hb1.size)⟩

theorem norm_rd {w : World} {va : Value} {xs : List Nat} (hx : Rd w va xs) (hl : xs.length ≤ 100000000000) :
    Calls Tryd.prog 12 #[va] w fun e w' => ∃ v, e = .returned v ∧ Own w' w.heap.size v (dig (val xs)) ∧ Below w.heap.size w w' := by
  obtain ⟨oa, ca, rfl, hca, okx, hcx⟩ := hx
  refine (norm_any oa ca xs w (by omega) hca okx hcx).mono ?_
  rintro e w1 ⟨rfl, hrow, hb⟩
  refine ⟨_, rfl, ?_, hb⟩
  have := Own.row (off := 0) (n := (strip xs).length) (cap := (strip xs).length) (Nat.le_refl w.heap.size) hrow (Nat.le_refl _) (by omega)
  rw [List.drop_zero, List.take_length] at this
  rw [dig_val okx]; exact this
theorem cmp_rd {w : World} {va vb : Value} {xs ys : List Nat} (hx : Rd w va xs) (hy : Rd w vb ys) (hxl : xs.length ≤ 100000000000) (hyl : ys.length ≤ 100000000000) :
    Calls Tryd.prog 13 #[va, vb] w fun e w' => e = .returned (.int .i64 (cmpI (val xs) (val ys))) ∧ Below w.heap.size w w' := by
  obtain ⟨oa, ca, rfl, hca, okx, hcx⟩ := hx
  obtain ⟨ob, cb, rfl, hcb, oky, hcy⟩ := hy
  exact cmp_any oa ob ca cb xs ys w (by omega) (by omega) hca hcb okx oky hcx hcy
theorem add_rd {w : World} {va vb : Value} {xs ys : List Nat} (hx : Rd w va xs) (hy : Rd w vb ys) (hxl : xs.length ≤ 100000000000) (hyl : ys.length ≤ 100000000000) :
    Calls Tryd.prog 33 #[va, vb] w fun e w' => ∃ v, e = .returned v ∧ Own w' w.heap.size v (dig (val xs + val ys)) ∧ Below w.heap.size w w' := by
  obtain ⟨oa, ca, rfl, hca, okx, hcx⟩ := hx
  obtain ⟨ob, cb, rfl, hcb, oky, hcy⟩ := hy
  exact add_any oa ob ca cb xs ys w (by omega) (by omega) hca hcb okx oky hcx hcy
theorem sub_rd {w : World} {va vb : Value} {xs ys : List Nat} (hx : Rd w va xs) (hy : Rd w vb ys) (hxl : xs.length ≤ 100000000000) (hyl : ys.length ≤ 100000000000) :
    Calls Tryd.prog 9 #[va, vb] w fun e w' => ∃ v, e = .returned (.tuple #[v, .int .i64 (subI (val xs) (val ys))]) ∧ Own w' w.heap.size v (if val xs < val ys then [] else dig (val xs - val ys)) ∧ Below w.heap.size w w' := by
  obtain ⟨oa, ca, rfl, hca, okx, hcx⟩ := hx
  obtain ⟨ob, cb, rfl, hcb, oky, hcy⟩ := hy
  exact sub_any oa ob ca cb xs ys w (by omega) (by omega) hca hcb okx oky hcx hcy
theorem mul_rd {w : World} {va vb : Value} {xs ys : List Nat} (hx : Rd w va xs) (hy : Rd w vb ys) (hxl : xs.length ≤ 100000000000) (hyl : ys.length ≤ 100000000000) :
    Calls Tryd.prog 16 #[va, vb] w fun e w' => ∃ v, e = .returned v ∧ Own w' w.heap.size v (dig (val xs * val ys)) ∧ Below w.heap.size w w' := by
  obtain ⟨oa, ca, rfl, hca, okx, hcx⟩ := hx
  obtain ⟨ob, cb, rfl, hcb, oky, hcy⟩ := hy
  exact mul_any oa ob ca cb xs ys w (by omega) (by omega) hca hcb okx oky hcx hcy
theorem text_rd {w : World} {va : Value} {xs : List Nat} (hx : Rd w va xs) (hl : xs.length ≤ 100000000000) (htab : Lib.TabIs Tryd.prog w p10 .u64 Lib.pow10Tab) :
    Calls Tryd.prog 23 #[va] w fun e w' => e = .returned (.string ⟨(Lib.decDigits (val xs)).toArray⟩) ∧ Below w.heap.size w w' := by
  obtain ⟨oa, ca, rfl, hca, okx, hcx⟩ := hx
  exact text_any oa ca xs w hl hca okx hcx htab

/-- A list of one, of two digits, written out. -/
theorem lit1 (w : World) (d : Nat) (h : d < 4294967296) : Rd (w.alloc (.cells #[.int .u32 (d : Int)] 26)) (.slice (some ⟨w.heap.size, 0, none⟩) 1 1) [d] := by
  have hr : Row (w.alloc (.cells #[.int .u32 (d : Int)] 26)) w.heap.size [d] := Row.new w [d] (OK.cons h OK.nil)
  exact ⟨_, 1, rfl, Nat.le_refl _, hr.2, hr.cells⟩
theorem lit2 (w : World) (d e : Nat) (h : d < 4294967296) (k : e < 4294967296) : Rd (w.alloc (.cells #[.int .u32 (d : Int), .int .u32 (e : Int)] 26)) (.slice (some ⟨w.heap.size, 0, none⟩) 2 2) [d, e] := by
  have hr : Row (w.alloc (.cells #[.int .u32 (d : Int), .int .u32 (e : Int)] 26)) w.heap.size [d, e] := Row.new w [d, e] (OK.cons h (OK.cons k OK.nil))
  exact ⟨_, 2, rfl, Nat.le_refl _, hr.2, hr.cells⟩

theorem dig_two32 : dig (val [4294967295] + val [1]) = [0, 1] := by
  have e : val [4294967295] + val [1] = val [0, 1] := by simp [val]
  rw [e, dig_val (OK.cons (by decide) (OK.cons (by decide) OK.nil))]
  simp [strip]
theorem val_two32 : val [4294967295] + val [1] = 4294967296 := by simp [val]
theorem text_two32 : Lib.decDigits 4294967296 = [52, 50, 57, 52, 57, 54, 55, 50, 57, 54] := by
  simp [Lib.decDigits]

set_option maxHeartbeats 400000 in
theorem awake_any (w : World) (htab : Lib.TabIs Tryd.prog w p10 .u64 Lib.pow10Tab) :
    Calls Tryd.prog 10 #[] w fun e w' => e = .returned (.bool true) ∧ Below w.heap.size w w' := by
  have htabs := Lib.tabBelow_of_tabIs htab
  have b0 : Below w.heap.size w ((w.alloc (.cells #[.int .u32 4294967295] 26)).alloc (.cells #[.int .u32 1] 26)) := ((Below.refl _ _).alloc (Nat.le_refl _) _).alloc (by simp) _
  have r1 : Rd ((w.alloc (.cells #[.int .u32 4294967295] 26)).alloc (.cells #[.int .u32 1] 26)) (.slice (some ⟨w.heap.size, 0, none⟩) 1 1) [4294967295] := (lit1 w 4294967295 (by decide)).alloc _
  have r2 : Rd ((w.alloc (.cells #[.int .u32 4294967295] 26)).alloc (.cells #[.int .u32 1] 26)) (.slice (some ⟨w.heap.size + 1, 0, none⟩) 1 1) [1] := by
    have := lit1 (w.alloc (.cells #[.int .u32 4294967295] 26)) 1 (by decide)
    simpa using this
  go_enter Tryd.func10, Tryd.ntmps10
  go_wp2_with fail
  refine (add_rd r1 r2 (by simp) (by simp)).mono ?_
  rintro e w1 ⟨v, rfl, hv, hb1⟩
  rw [dig_two32] at hv
  have hb := b0.trans (hb1.mono b0.size)
  have hv := hv.rd
  clear b0 hb1 r1 r2
  go_wp2_with fail
  have e1 : decide ([0, 1] = strip [0, 1]) = true := by decide
  refine (is_any _ _ [0, 1] [0, 1] _ (by simp) (by simp) (hv.alloc _) (lit2 w1 0 1 (by decide) (by decide))).mono ?_
  rintro e w2 ⟨rfl, hb2⟩
  rw [e1]
  have c1 : Below w1.heap.size w1 (w1.alloc (.cells #[.int .u32 0, .int .u32 1] 26)) := (Below.refl _ _).alloc (Nat.le_refl _) _
  have hb12 := c1.trans (hb2.mono c1.size)
  have hv2 := hv.below hb12 (Nat.le_refl _)
  have hb := hb.trans (hb12.mono hb.size)
  clear hb2 c1 hb12 hv
  go_wp2_with fail
  refine (cmp_rd (hv2.alloc _) (lit1 w2 5 (by decide)) (by simp) (by simp)).mono ?_
  rintro e w3 ⟨rfl, hb3⟩
  have e2 : cmpI (val [0, 1]) (val [5]) = 1 := by decide
  rw [e2]
  have c2 : Below w2.heap.size w2 (w2.alloc (.cells #[.int .u32 5] 26)) := (Below.refl _ _).alloc (Nat.le_refl _) _
  have hb23 := c2.trans (hb3.mono c2.size)
  have hv3 := hv2.below hb23 (Nat.le_refl _)
  have hb := hb.trans (hb23.mono hb.size)
  clear hb3 c2 hb23 hv2
  go_wp2_with fail
  have e3 : val [0, 1] = 4294967296 := by simp [val]
  refine (text_rd hv3 (by simp) (htabs _ hb)).mono ?_
  rintro e w4 ⟨rfl, hb4⟩
  rw [e3, text_two32]
  go_wp2_with fail
  go_ret
  exact ⟨rfl, hb.trans (hb4.mono hb.size)⟩
end Go.Proofs.YtdjfgpfeepbnaaaDoor
