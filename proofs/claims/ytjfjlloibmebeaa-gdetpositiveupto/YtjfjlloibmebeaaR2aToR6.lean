/- The reference's Same; the contracts of nat's calls over whatever slice reads as given digits; lists written out. -/
import Derived.Test.YtjfjlloibmebeaaR1
import Derived.Test.YtjfjlloibmebeaaSlToW5
import Derived.Test.YtjfjlloibmebeaaShelf
import Derived.Lib.BitFns
import Derived.Lib.ItoaNum

namespace Go.Proofs.Ytjfjlloibmebeaa
open Go.RowKit Dig
set_option maxHeartbeats 800000 in
set_option maxRecDepth 20000 in
/-- The reference's Same. -/
theorem same_any (oa ob : Option Addr) (ca cb : Nat) (xs ys : List Nat) (w : World) (hxl : xs.length ≤ 10000000000000) (hyl : ys.length ≤ 10000000000000) (hx : Cells w oa xs) (hy : Cells w ob ys) :
    Calls Try.prog 26 #[.slice oa xs.length ca, .slice ob ys.length cb] w fun e w' => e = .returned (.bool (decide (xs = ys))) ∧ Below w.heap.size w w' := by
  by_cases hlen : xs.length = ys.length
  · have hb : ((xs.length : Int) == (ys.length : Int)) = true := by rw [beq_iff_eq]; omega
    obtain ⟨r, Hr⟩ : ∃ r, Hid (decide (xs = ys) = r) := ⟨_, rfl⟩
    rw [Hr.out]
    have Hl := hide hlen
    clear hlen
    go_enter Try.func26, Try.ntmps26
    go_wp2_with fail
    go_loopw [5] (fun i wr => ∃ k : Nat, k ≤ xs.length ∧ i = .int .i64 (k : Int) ∧ (∀ j, j < k → xs[j]?.getD 0 = ys[j]?.getD 0) ∧ Below w.heap.size w wr) (fun i _ => xs.length - (intOf i).toNat)
    case atStart => exact ⟨0, Nat.zero_le _, rfl, fun _ h => by omega, Below.refl _ _⟩
    case round =>
      obtain ⟨k, hk, rfl, hall, hbel⟩ := hrel
      have Hall := hide hall
      clear hall
      by_cases hlt : k < xs.length
      · have hlt2 : k < ys.length := by have := Hl.out; omega
        obtain ⟨bx, ox, x, ho, gx, Hx⟩ := (hx.below hbel (Nat.le_refl _)).get hlt
        obtain ⟨by', oy, y, ho', gy, Hy⟩ := (hy.below hbel (Nat.le_refl _)).get hlt2
        subst ho
        subst ho'
        by_cases hd : x = y
        · subst hd
          have hd' : ((x : Int) == (x : Int)) = true := by simp
          go_wp2_with fail
          go_region
          all_goals go_wp2_with fail
          all_goals go_roundw
          case rel => exact ⟨k + 1, hlt, by go_num, fun j hj => by rcases Nat.eq_or_lt_of_le (Nat.le_of_lt_succ hj) with h | h; (· subst h; exact Hx.out.trans Hy.out.symm); (· exact Hall.out j h), hbel.drew⟩
          case measure => simp [intOf]; omega
        · have hd' : ((x : Int) == (y : Int)) = false := by rw [beq_eq_false_iff_ne]; omega
          have hr : r = false := by
            rw [← Hr.out, decide_eq_false_iff_not]
            intro e
            subst e
            exact hd (Hx.out.symm.trans Hy.out)
          have HR := hide hr
          clear hr
          go_wp2_with fail
          go_region
          all_goals go_wp2_with fail
          all_goals go_ret
          all_goals exact ⟨by rw [HR.out]; rfl, hbel.drew⟩
      · obtain rfl : k = xs.length := by omega
        have hr : r = true := by
          rw [← Hr.out, decide_eq_true_eq]
          apply List.ext_getElem?
          intro i
          have hl := Hl.out
          by_cases hi : i < xs.length
          · have := Hall.out i hi
            rw [List.getElem?_eq_getElem hi, List.getElem?_eq_getElem (by omega : i < ys.length)] at this ⊢
            simpa using this
          · rw [List.getElem?_eq_none (by omega), List.getElem?_eq_none (by omega)]
        have HR := hide hr
        clear hr
        go_wp2_with fail
        go_ret
        exact ⟨by rw [HR.out]; rfl, hbel⟩
  · have hb : ((xs.length : Int) == (ys.length : Int)) = false := by rw [beq_eq_false_iff_ne]; omega
    have hr : decide (xs = ys) = false := by
      rw [decide_eq_false_iff_not]
      intro e
      exact hlen (by rw [e])
    rw [hr]
    go_enter Try.func26, Try.ntmps26
    go_wp2_with fail
    go_ret
    exact ⟨rfl, Below.refl _ _⟩
theorem norm_rd {w : World} {va : Value} {xs : List Nat} (hx : Rd w va xs) (hl : xs.length ≤ 100000000000) :
    Calls Try.prog 46 #[va] w fun e w' => ∃ v, e = .returned v ∧ Own w' w.heap.size v (dig (val xs)) ∧ Below w.heap.size w w' := by
  obtain ⟨oa, ca, rfl, hca, okx, hcx⟩ := hx
  refine (norm_any oa ca xs w (by omega) hca okx hcx).mono ?_
  rintro e w1 ⟨rfl, hrow, hb⟩
  refine ⟨_, rfl, ?_, hb⟩
  have := Own.row (off := 0) (n := (strip xs).length) (cap := (strip xs).length) (Nat.le_refl w.heap.size) hrow (Nat.le_refl _) (by omega)
  rw [List.drop_zero, List.take_length] at this
  rw [dig_val okx]; exact this
theorem cmp_rd {w : World} {va vb : Value} {xs ys : List Nat} (hx : Rd w va xs) (hy : Rd w vb ys) (hxl : xs.length ≤ 100000000000) (hyl : ys.length ≤ 100000000000) :
    Calls Try.prog 30 #[va, vb] w fun e w' => e = .returned (.int .i64 (cmpI (val xs) (val ys))) ∧ Below w.heap.size w w' := by
  obtain ⟨oa, ca, rfl, hca, okx, hcx⟩ := hx
  obtain ⟨ob, cb, rfl, hcb, oky, hcy⟩ := hy
  exact cmp_any oa ob ca cb xs ys w (by omega) (by omega) hca hcb okx oky hcx hcy
theorem add_rd {w : World} {va vb : Value} {xs ys : List Nat} (hx : Rd w va xs) (hy : Rd w vb ys) (hxl : xs.length ≤ 100000000000) (hyl : ys.length ≤ 100000000000) :
    Calls Try.prog 58 #[va, vb] w fun e w' => ∃ v, e = .returned v ∧ Own w' w.heap.size v (dig (val xs + val ys)) ∧ Below w.heap.size w w' := by
  obtain ⟨oa, ca, rfl, hca, okx, hcx⟩ := hx
  obtain ⟨ob, cb, rfl, hcb, oky, hcy⟩ := hy
  exact add_any oa ob ca cb xs ys w (by omega) (by omega) hca hcb okx oky hcx hcy
theorem sub_rd {w : World} {va vb : Value} {xs ys : List Nat} (hx : Rd w va xs) (hy : Rd w vb ys) (hxl : xs.length ≤ 100000000000) (hyl : ys.length ≤ 100000000000) :
    Calls Try.prog 59 #[va, vb] w fun e w' => ∃ v, e = .returned (.tuple #[v, .int .i64 (subI (val xs) (val ys))]) ∧ Own w' w.heap.size v (if val xs < val ys then [] else dig (val xs - val ys)) ∧ Below w.heap.size w w' := by
  obtain ⟨oa, ca, rfl, hca, okx, hcx⟩ := hx
  obtain ⟨ob, cb, rfl, hcb, oky, hcy⟩ := hy
  exact sub_any oa ob ca cb xs ys w (by omega) (by omega) hca hcb okx oky hcx hcy
theorem mul_rd {w : World} {va vb : Value} {xs ys : List Nat} (hx : Rd w va xs) (hy : Rd w vb ys) (hxl : xs.length ≤ 100000000000) (hyl : ys.length ≤ 100000000000) :
    Calls Try.prog 66 #[va, vb] w fun e w' => ∃ v, e = .returned v ∧ Own w' w.heap.size v (dig (val xs * val ys)) ∧ Below w.heap.size w w' := by
  obtain ⟨oa, ca, rfl, hca, okx, hcx⟩ := hx
  obtain ⟨ob, cb, rfl, hcb, oky, hcy⟩ := hy
  exact mul_any oa ob ca cb xs ys w (by omega) (by omega) hca hcb okx oky hcx hcy
theorem lit2 (w : World) (d e : Nat) (h : d < 4294967296) (k : e < 4294967296) : Rd (w.alloc (.cells #[.int .u32 (d : Int), .int .u32 (e : Int)] 63)) (.slice (some ⟨w.heap.size, 0, none⟩) 2 2) [d, e] := by
  have hr : Row (w.alloc (.cells #[.int .u32 (d : Int), .int .u32 (e : Int)] 63)) w.heap.size [d, e] := Row.new w [d, e] (OK.cons h (OK.cons k OK.nil))
  exact ⟨_, 2, rfl, Nat.le_refl _, hr.2, hr.cells⟩
end Go.Proofs.Ytjfjlloibmebeaa


/- What an owned row tells of its cells, and one cell of it set. -/
namespace Go.Proofs.Ytjfjlloibmebeaa
open Go.RowKit Dig

theorem own_slice {w : World} {B : Nat} {e : TypeId} {v : Value} {n : Nat} {xs : List Value} (h : w.ownsRow B e 1 v n xs) : (v = .slice none 0 0 ∧ n = 0 ∧ xs = []) ∨
    ∃ g cap, v = .slice (some ⟨g, 0, none⟩) n cap ∧ B ≤ g ∧ n ≤ cap ∧ ∀ i, i < n → w.cell? ⟨g, i, none⟩ = xs[i]? := by
  rcases h.2 with ⟨h1, h2⟩ | ⟨g, cap, cur, hv, hg, hh, hn, hm, hs, ht⟩
  · exact .inl ⟨h1, h2, List.length_eq_zero_iff.1 (by have := h.1; omega)⟩
  · refine .inr ⟨g, cap, hv, hg, hn, fun i hi => ?_⟩
    rw [← ht, List.getElem?_take_of_lt (by omega)]
    simp [World.cell?, hh]
theorem own_frozen {w : World} {B g cap : Nat} {e : TypeId} {n : Nat} {xs : List Value} (h : w.ownsRow B e 1 (.slice (some ⟨g, 0, none⟩) n cap) n xs) (i : Nat) : w.frozen? ⟨g, i, none⟩ = false := by
  rcases h.2 with ⟨h1, h2⟩ | ⟨g', cap', cur, hv, hg, hh, hn, hm, hs, ht⟩
  · cases h1
  · cases hv
    simp [World.frozen?, hh]
theorem own_setCell {w : World} {B g cap : Nat} {e : TypeId} {n : Nat} {xs : List Value} (h : w.ownsRow B e 1 (.slice (some ⟨g, 0, none⟩) n cap) n xs) (i : Nat) (_hi : i < n) (u : Value) : (w.setCell ⟨g, i, none⟩ u).ownsRow B e 1 (.slice (some ⟨g, 0, none⟩) n cap) n (xs.set i u) := by
  obtain ⟨h0, h1⟩ := h
  refine ⟨by simpa using h0, ?_⟩
  rcases h1 with ⟨h1, h2⟩ | ⟨g', cap', cur, hv, hg, hh, hn, hm, hs, ht⟩
  · cases h1
  · cases hv
    refine .inr ⟨g, cap, cur.setIfInBounds i u, rfl, hg, ?_, hn, hm, by simpa using hs, ?_⟩
    · simp [World.setCell, Array.getElem?_modify, hh]
    · rw [← ht, Array.toList_setIfInBounds, List.take_set]
end Go.Proofs.Ytjfjlloibmebeaa


/- The reference's Mul answers the canonical digits of the product. -/
namespace Go.Proofs.Ytjfjlloibmebeaa
open Go.RowKit Dig

end Go.Proofs.Ytjfjlloibmebeaa


/- The reference's at, Add and Sub answer digits, canonical sums and differences. -/
namespace Go.Proofs.Ytjfjlloibmebeaa
open Go.RowKit Dig

end Go.Proofs.Ytjfjlloibmebeaa


/- The reference's Sub and Cmp answer the canonical difference and the order. -/
namespace Go.Proofs.Ytjfjlloibmebeaa
open Go.RowKit Dig

end Go.Proofs.Ytjfjlloibmebeaa


/- nat.Bits and the reference's Bits answer the number of bits. -/
namespace Go.Proofs.Ytjfjlloibmebeaa
open Go.RowKit Dig

/-- How many bits a number has. -/
def bitsN (n : Nat) : Nat := if n = 0 then 0 else Nat.log2 n + 1
theorem bitsN_lt (n : Nat) : n < 2 ^ bitsN n := by
  unfold bitsN; split
  · subst_vars; decide
  · exact Nat.lt_log2_self
theorem bitsN_le {n : Nat} (h : n ≠ 0) : 2 ^ (bitsN n - 1) ≤ n := by
  unfold bitsN; rw [if_neg h, Nat.add_sub_cancel]; exact Nat.log2_self_le h
theorem bitsN_unique {n k : Nat} (hk : 0 < k) (h1 : 2 ^ (k - 1) ≤ n) (h2 : n < 2 ^ k) : bitsN n = k := by
  have hn : n ≠ 0 := fun e => by subst e; have := Nat.pow_pos (n := k - 1) (show 0 < 2 by decide); omega
  have h3 := bitsN_lt n
  have h4 := bitsN_le hn
  have h5 : 0 < bitsN n := by unfold bitsN; rw [if_neg hn]; omega
  have a := (Nat.pow_lt_pow_iff_right (by decide : 1 < 2)).1 (Nat.lt_of_le_of_lt h1 h3)
  have b := (Nat.pow_lt_pow_iff_right (by decide : 1 < 2)).1 (Nat.lt_of_le_of_lt h4 h2)
  omega
theorem bitLen_bitsN (d : Nat) (h : d < 4294967296) : Lib.bitLen d = bitsN d := by
  by_cases hd : d = 0
  · subst hd; decide
  · have := Lib.bitLenAux_bounds 64 d (by omega) hd
    exact (bitsN_unique (by unfold Lib.bitLen; exact this.1) (by unfold Lib.bitLen; exact this.2.1) (by unfold Lib.bitLen; exact this.2.2)).symm
/-- The bits of canonical digits: 32 for each below the top one, and the top one's. -/
theorem bitsN_dig {n t : Nat} (_hn : n ≠ 0) (ht : (dig n).length = t + 1) : bitsN n = 32 * t + bitsN ((dig n)[t]?.getD 0) := by
  have ok := OK_dig n
  have hv := val_dig n
  have htop : (dig n)[t]?.getD 0 ≠ 0 := by
    have h1 := strip_dig n
    have := strip_top (ds := dig n) (by rw [h1]; intro e; rw [e] at ht; simp at ht)
    rw [h1, ht] at this; exact this
  have hs := val_split (dig n) t (by omega)
  rw [drop_succ_val (by omega), List.drop_eq_nil_of_le (by omega)] at hs
  have hlow : val ((dig n).take t) < pw t := by
    have := val_lt (ok.take t)
    rw [List.length_take, Nat.min_eq_left (by omega)] at this; exact this
  generalize hd : (dig n)[t]?.getD 0 = d at *
  rw [hv] at hs
  simp only [val, Nat.mul_zero, Nat.add_zero] at hs
  have h1 := bitsN_lt d
  have h2 := bitsN_le htop
  have h5 : 0 < bitsN d := by unfold bitsN; rw [if_neg htop]; omega
  rw [pw_eq] at hs hlow
  refine bitsN_unique (by omega) ?_ ?_
  · have e : 32 * t + bitsN d - 1 = 32 * t + (bitsN d - 1) := by omega
    rw [e, Nat.pow_add]
    have := Nat.mul_le_mul_left (2 ^ (32 * t)) h2
    omega
  · rw [Nat.pow_add]
    have : 2 ^ (32 * t) * (d + 1) ≤ 2 ^ (32 * t) * 2 ^ bitsN d := Nat.mul_le_mul_left _ h1
    rw [Nat.mul_add] at this
    omega
theorem bitsN_le_32 {d : Nat} (h : d < 4294967296) : bitsN d ≤ 32 := by
  by_cases hd : d = 0
  · subst hd; decide
  · have h1 := bitsN_le hd
    have h2 : 2 ^ (bitsN d - 1) < 2 ^ 32 := by omega
    have := (Nat.pow_lt_pow_iff_right (by decide : 1 < 2)).1 h2
    omega
set_option maxHeartbeats 800000 in
set_option maxRecDepth 20000 in
/-- nat.Bits. -/
theorem bits_any (oa : Option Addr) (ca : Nat) (xs : List Nat) (w : World) (hl : xs.length ≤ 500000000000) (hc : xs.length ≤ ca) (ok : OK xs) (hx : Cells w oa xs) :
    Calls Try.prog 54 #[.slice oa xs.length ca] w fun e w' => e = .returned (.int .i64 ((bitsN (val xs) : Nat) : Int)) ∧ Below w.heap.size w w' := by
  have hsl := strip_length_le xs
  have ex := dig_val ok
  have hx' := hx.strip
  obtain ⟨r, Hr⟩ : ∃ r, Hid (bitsN (val xs) = r) := ⟨_, rfl⟩
  rw [Hr.out]
  generalize val xs = m at *
  have HX := hide ex
  clear ex
  go_enter Try.func54, Try.ntmps54
  go_wp2_with fail
  refine (trim_any oa ca xs _ (by omega) hc hx).mono ?_
  rintro e w' ⟨rfl, rfl⟩
  generalize strip xs = X at *
  by_cases h0 : X.length = 0
  · have hm : m = 0 := dig_eq_nil.1 (by rw [HX.out]; exact List.length_eq_zero_iff.1 h0)
    have hr : r = 0 := by rw [← Hr.out, hm]; decide
    have HR := hide hr
    clear hr hm
    have hb : ((X.length : Int) == 0) = true := by rw [beq_iff_eq]; omega
    go_wp2_with fail
    go_ret
    exact ⟨congrArg (fun z : Nat => Ending.returned (.int .i64 (z : Int))) HR.out.symm, Below.refl _ _⟩
  · obtain ⟨t, ht⟩ : ∃ t, X.length = t + 1 := ⟨X.length - 1, by omega⟩
    have hb : (((t : Int) + 1) == 0) = false := by rw [beq_eq_false_iff_ne]; omega
    obtain ⟨b, off, d, ho, gx, Hx⟩ := hx'.get (i := t) (by omega)
    subst ho
    have hdb : d < 4294967296 := by
      have h1 := (OK_dig m).get t
      rw [HX.out, Hx.out] at h1; exact h1
    have hm : m ≠ 0 := fun e => by have := HX.out; rw [e, dig_zero] at this; rw [← this] at h0; simp at h0
    have hr : 32 * t + bitsN d = r := by
      rw [← Hr.out, bitsN_dig hm (t := t) (by rw [HX.out]; exact ht), HX.out, Hx.out]
    have h32 := bitsN_le_32 hdb
    have HR := hide hr
    have HT := hide ht
    have hbl := bitLen_bitsN d hdb
    have HBL := hide hbl
    have htb : t < 500000000000 := by omega
    rw [ht]
    clear hr hbl ht h0 hm
    go_wp2_with fail
    refine (Try.bits_Len32 (d : Int) w (by omega) (by omega)).mono ?_
    rintro e w' ⟨rfl, rfl⟩
    rw [Int.toNat_natCast, HBL.out]
    have hres : (t : Int) * 32 + ((bitsN d : Nat) : Int) = ((r : Nat) : Int) := by have := HR.out; omega
    have HRes := hide hres
    have h32' := h32
    generalize bitsN d = bd at *
    clear hres
    go_wp2
    go_ret
    exact ⟨congrArg (fun z : Int => Ending.returned (.int .i64 z)) HRes.out, Below.refl _ _⟩
end Go.Proofs.Ytjfjlloibmebeaa

