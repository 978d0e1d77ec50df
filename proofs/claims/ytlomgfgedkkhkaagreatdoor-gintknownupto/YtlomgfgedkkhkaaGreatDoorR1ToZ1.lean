/- The reference's Trim answers the digits without noughts at the top. -/
import Derived.Test.YtlomgfgedkkhkaaGreatDoorW8
import Derived.Lib.BitFns
import Derived.Lib.ItoaNum
import Derived.Handy
namespace Go.Proofs.YtlomgfgedkkhkaaGreatDoor
open Go.RowKit Dig
/-- The built-in append of nothing onto a nil slice. -/
theorem append_nothing (oa : Option Addr) (c ty : Nat) (w : World) : (Builtin.append_ #[24, 24] ty #[.slice none 0 0, .slice oa 0 c]).run Tryz.prog w = .ok (.slice none 0 0) w := by
  obtain ⟨i0, hi, _, _, _⟩ := info_parts info32
  have hl : ∀ (x : Addr), (loadCells x 0).run Tryz.prog w = .ok #[] w := fun x => by simpa using run_loadCells_list (P := Tryz.prog) w x [] (by simp)
  have hu : Tryz.prog.underlying 24 = some (.slice 56) := Tryz.underlying24
  cases oa <;> simp [Builtin.append_, run_underlying hu, sizeOf, typeInfo, hi, Builtin.lenOf, Builtin.firstCells, hl]
theorem wpList_append_nothing {w : World} {ops : Array Oper} {rest : List Oper} {o : Oper} {a : Act} {Q : Exit → Act → World → Prop} (hgd : o.guard = none) (s x : Operand)
    (ho : o.op = .call { callee := .builtin .append, args := #[s, x], argTypes := #[24, 24] }) (oa : Option Addr) (c : Nat) (hs : a.eval s = .slice none 0 0) (hx : a.eval x = .slice oa 0 c)
    (h : wpList Tryz.prog ops Q rest (a.put o.dst (.slice none 0 0)) w) : wpList Tryz.prog ops Q (o :: rest) a w := by
  refine wpList_plain hgd fun K hK => ?_
  unfold Oper.wp execOp
  simp only [ho, resolve, invoke, builtin, Sem.run_bind, Sem.run_pure, Result.andThen_ok, List.map_toArray, List.map_cons, List.map_nil, hs, hx, append_nothing]
  exact hK _ _ h
theorem Rd.of_owns {w : World} {B : Nat} {v : Value} {ds : List Nat} (ok : OK ds) (h : w.ownsRow B 56 1 v ds.length (ds.map dv)) : Rd w v ds := by
  obtain ⟨h1, h2⟩ := h
  rcases h2 with ⟨h2, h3⟩ | ⟨g, cap, cur, hv, hg, hh, hn, hm, hs, ht⟩
  · have : ds = [] := List.length_eq_zero_iff.1 h3
    subst this
    exact ⟨none, 0, h2, Nat.le_refl _, ok, .inl rfl⟩
  · refine ⟨_, cap, hv, hn, ok, .inr ⟨g, 0, rfl, fun i hi => ?_⟩⟩
    have e : cur[i]? = some (dv (ds[i]?.getD 0)) := by
      rw [← Array.getElem?_toList, ← List.getElem?_take_of_lt (show i < ds.length * 1 by omega), ht]
      simp [hi]
    simp [World.cell?, hh, e, dv]
set_option maxHeartbeats 800000 in
set_option maxRecDepth 20000 in
/-- The reference's Same. -/
theorem same_any (oa ob : Option Addr) (ca cb : Nat) (xs ys : List Nat) (w : World) (hxl : xs.length ≤ 10000000000000) (hyl : ys.length ≤ 10000000000000) (hx : Cells w oa xs) (hy : Cells w ob ys) :
    Calls Tryz.prog 27 #[.slice oa xs.length ca, .slice ob ys.length cb] w fun e w' => e = .returned (.bool (decide (xs = ys))) ∧ Below w.heap.size w w' := by
  by_cases hlen : xs.length = ys.length
  · have hb : ((xs.length : Int) == (ys.length : Int)) = true := by rw [beq_iff_eq]; omega
    obtain ⟨r, Hr⟩ : ∃ r, Hid (decide (xs = ys) = r) := ⟨_, rfl⟩
    rw [Hr.out]
    have Hl := hide hlen
    clear hlen
    go_enter Tryz.func27, Tryz.ntmps27
    go_wp2_with fail
    go_loopw [5] (fun i wr => ∃ k : Nat, k ≤ xs.length ∧ i = .int .i64 (k : Int) ∧ (∀ j, j < k → xs[j]?.getD 0 = ys[j]?.getD 0) ∧ Below w.heap.size w wr) (fun i _ => xs.length - (intOf i).toNat)
    case atStart => exact ⟨0, Nat.zero_le _, rfl, fun _ h => by omega, Below.refl _ _⟩
    case round =>
      obtain ⟨k, hk, rfl, hall, hbel⟩ := hrel
      have Hall := hide hall
      clear hall
      by_cases hlt : k < xs.length
      · have hlt2 : k < ys.length := by have := Hl.out; omega
        obtain ⟨bx, ox, x, ho, gx, Hx⟩ := (hx.below hbel (Nat.le_refl _)).get hlt
        obtain ⟨by', oy, y, ho', gy, Hy⟩ := (hy.below hbel (Nat.le_refl _)).get hlt2
        subst ho
        subst ho'
        by_cases hd : x = y
        · subst hd
          have hd' : ((x : Int) == (x : Int)) = true := by simp
          go_wp2_with fail
          go_region
          all_goals go_wp2_with fail
          all_goals go_roundw
          case rel => exact ⟨k + 1, hlt, by go_num, fun j hj => by rcases Nat.eq_or_lt_of_le (Nat.le_of_lt_succ hj) with h | h; (· subst h; exact Hx.out.trans Hy.out.symm); (· exact Hall.out j h), hbel.drew⟩
          case measure => simp [intOf]; omega
        · have hd' : ((x : Int) == (y : Int)) = false := by rw [beq_eq_false_iff_ne]; omega
          have hr : r = false := by
            rw [← Hr.out, decide_eq_false_iff_not]
            intro e
            subst e
            exact hd (Hx.out.symm.trans Hy.out)
          have HR := hide hr
          clear hr
          go_wp2_with fail
          go_region
          all_goals go_wp2_with fail
          all_goals go_ret
          all_goals exact ⟨by rw [HR.out]; rfl, hbel.drew⟩
      · obtain rfl : k = xs.length := by omega
        have hr : r = true := by
          rw [← Hr.out, decide_eq_true_eq]
          apply List.ext_getElem?
          intro i
          have hl := Hl.out
          by_cases hi : i < xs.length
          · have := Hall.out i hi
            rw [List.getElem?_eq_getElem hi, List.getElem?_eq_getElem (by omega : i < ys.length)] at this ⊢
            simpa using this
          · rw [List.getElem?_eq_none (by omega), List.getElem?_eq_none (by omega)]
        have HR := hide hr
        clear hr
        go_wp2_with fail
        go_ret
        exact ⟨by rw [HR.out]; rfl, hbel⟩
  · have hb : ((xs.length : Int) == (ys.length : Int)) = false := by rw [beq_eq_false_iff_ne]; omega
    have hr : decide (xs = ys) = false := by
      rw [decide_eq_false_iff_not]
      intro e
      exact hlen (by rw [e])
    rw [hr]
    go_enter Tryz.func27, Tryz.ntmps27
    go_wp2_with fail
    go_ret
    exact ⟨rfl, Below.refl _ _⟩
theorem norm_rd {w : World} {va : Value} {xs : List Nat} (hx : Rd w va xs) (hl : xs.length ≤ 100000000000) :
    Calls Tryz.prog 78 #[va] w fun e w' => ∃ v, e = .returned v ∧ Own w' w.heap.size v (dig (val xs)) ∧ Below w.heap.size w w' := by
  obtain ⟨oa, ca, rfl, hca, okx, hcx⟩ := hx
  refine (norm_any oa ca xs w (by omega) hca okx hcx).mono ?_
  rintro e w1 ⟨rfl, hrow, hb⟩
  refine ⟨_, rfl, ?_, hb⟩
  have := Own.row (off := 0) (n := (strip xs).length) (cap := (strip xs).length) (Nat.le_refl w.heap.size) hrow (Nat.le_refl _) (by omega)
  rw [List.drop_zero, List.take_length] at this
  rw [dig_val okx]; exact this
theorem cmp_rd {w : World} {va vb : Value} {xs ys : List Nat} (hx : Rd w va xs) (hy : Rd w vb ys) (hxl : xs.length ≤ 100000000000) (hyl : ys.length ≤ 100000000000) :
    Calls Tryz.prog 65 #[va, vb] w fun e w' => e = .returned (.int .i64 (cmpI (val xs) (val ys))) ∧ Below w.heap.size w w' := by
  obtain ⟨oa, ca, rfl, hca, okx, hcx⟩ := hx
  obtain ⟨ob, cb, rfl, hcb, oky, hcy⟩ := hy
  exact cmp_any oa ob ca cb xs ys w (by omega) (by omega) hca hcb okx oky hcx hcy
theorem add_rd {w : World} {va vb : Value} {xs ys : List Nat} (hx : Rd w va xs) (hy : Rd w vb ys) (hxl : xs.length ≤ 100000000000) (hyl : ys.length ≤ 100000000000) :
    Calls Tryz.prog 64 #[va, vb] w fun e w' => ∃ v, e = .returned v ∧ Own w' w.heap.size v (dig (val xs + val ys)) ∧ Below w.heap.size w w' := by
  obtain ⟨oa, ca, rfl, hca, okx, hcx⟩ := hx
  obtain ⟨ob, cb, rfl, hcb, oky, hcy⟩ := hy
  exact add_any oa ob ca cb xs ys w (by omega) (by omega) hca hcb okx oky hcx hcy
theorem sub_rd {w : World} {va vb : Value} {xs ys : List Nat} (hx : Rd w va xs) (hy : Rd w vb ys) (hxl : xs.length ≤ 100000000000) (hyl : ys.length ≤ 100000000000) :
    Calls Tryz.prog 66 #[va, vb] w fun e w' => ∃ v, e = .returned (.tuple #[v, .int .i64 (subI (val xs) (val ys))]) ∧ Own w' w.heap.size v (if val xs < val ys then [] else dig (val xs - val ys)) ∧ Below w.heap.size w w' := by
  obtain ⟨oa, ca, rfl, hca, okx, hcx⟩ := hx
  obtain ⟨ob, cb, rfl, hcb, oky, hcy⟩ := hy
  exact sub_any oa ob ca cb xs ys w (by omega) (by omega) hca hcb okx oky hcx hcy
theorem mul_rd {w : World} {va vb : Value} {xs ys : List Nat} (hx : Rd w va xs) (hy : Rd w vb ys) (hxl : xs.length ≤ 100000000000) (hyl : ys.length ≤ 100000000000) :
    Calls Tryz.prog 67 #[va, vb] w fun e w' => ∃ v, e = .returned v ∧ Own w' w.heap.size v (dig (val xs * val ys)) ∧ Below w.heap.size w w' := by
  obtain ⟨oa, ca, rfl, hca, okx, hcx⟩ := hx
  obtain ⟨ob, cb, rfl, hcb, oky, hcy⟩ := hy
  exact mul_any oa ob ca cb xs ys w (by omega) (by omega) hca hcb okx oky hcx hcy
theorem text_rd {w : World} {va : Value} {xs : List Nat} (hx : Rd w va xs) (hl : xs.length ≤ 100000000000) (htab : Lib.TabIs Tryz.prog w p10 .u64 Lib.pow10Tab) :
    Calls Tryz.prog 76 #[va] w fun e w' => e = .returned (.string ⟨(Lib.decDigits (val xs)).toArray⟩) ∧ Below w.heap.size w w' := by
  obtain ⟨oa, ca, rfl, hca, okx, hcx⟩ := hx
  exact text_any oa ca xs w hl hca okx hcx htab
theorem lit2 (w : World) (d e : Nat) (h : d < 4294967296) (k : e < 4294967296) : Rd (w.alloc (.cells #[.int .u32 (d : Int), .int .u32 (e : Int)] 56)) (.slice (some ⟨w.heap.size, 0, none⟩) 2 2) [d, e] := by
  have hr : Row (w.alloc (.cells #[.int .u32 (d : Int), .int .u32 (e : Int)] 56)) w.heap.size [d, e] := Row.new w [d, e] (OK.cons h (OK.cons k OK.nil))
  exact ⟨_, 2, rfl, Nat.le_refl _, hr.2, hr.cells⟩
theorem own_slice {w : World} {B : Nat} {e : TypeId} {v : Value} {n : Nat} {xs : List Value} (h : w.ownsRow B e 1 v n xs) : (v = .slice none 0 0 ∧ n = 0 ∧ xs = []) ∨
    ∃ g cap, v = .slice (some ⟨g, 0, none⟩) n cap ∧ B ≤ g ∧ n ≤ cap ∧ ∀ i, i < n → w.cell? ⟨g, i, none⟩ = xs[i]? := by
  rcases h.2 with ⟨h1, h2⟩ | ⟨g, cap, cur, hv, hg, hh, hn, hm, hs, ht⟩
  · exact .inl ⟨h1, h2, List.length_eq_zero_iff.1 (by have := h.1; omega)⟩
  · refine .inr ⟨g, cap, hv, hg, hn, fun i hi => ?_⟩
    rw [← ht, List.getElem?_take_of_lt (by omega)]
    simp [World.cell?, hh]
theorem own_frozen {w : World} {B g cap : Nat} {e : TypeId} {n : Nat} {xs : List Value} (h : w.ownsRow B e 1 (.slice (some ⟨g, 0, none⟩) n cap) n xs) (i : Nat) : w.frozen? ⟨g, i, none⟩ = false := by
  rcases h.2 with ⟨h1, h2⟩ | ⟨g', cap', cur, hv, hg, hh, hn, hm, hs, ht⟩
  · cases h1
  · cases hv
    simp [World.frozen?, hh]
theorem own_setCell {w : World} {B g cap : Nat} {e : TypeId} {n : Nat} {xs : List Value} (h : w.ownsRow B e 1 (.slice (some ⟨g, 0, none⟩) n cap) n xs) (i : Nat) (_hi : i < n) (u : Value) : (w.setCell ⟨g, i, none⟩ u).ownsRow B e 1 (.slice (some ⟨g, 0, none⟩) n cap) n (xs.set i u) := by
  obtain ⟨h0, h1⟩ := h
  refine ⟨by simpa using h0, ?_⟩
  rcases h1 with ⟨h1, h2⟩ | ⟨g', cap', cur, hv, hg, hh, hn, hm, hs, ht⟩
  · cases h1
  · cases hv
    refine .inr ⟨g, cap, cur.setIfInBounds i u, rfl, hg, ?_, hn, hm, by simpa using hs, ?_⟩
    · simp [World.setCell, Array.getElem?_modify, hh]
    · rw [← ht, Array.toList_setIfInBounds, List.take_set]
/-- How many bits a number has. -/
def bitsN (n : Nat) : Nat := if n = 0 then 0 else Nat.log2 n + 1
theorem bitsN_lt (n : Nat) : n < 2 ^ bitsN n := by
  unfold bitsN; split
  · subst_vars; decide
  · exact Nat.lt_log2_self
theorem bitsN_le {n : Nat} (h : n ≠ 0) : 2 ^ (bitsN n - 1) ≤ n := by
  unfold bitsN; rw [if_neg h, Nat.add_sub_cancel]; exact Nat.log2_self_le h
theorem bitsN_unique {n k : Nat} (hk : 0 < k) (h1 : 2 ^ (k - 1) ≤ n) (h2 : n < 2 ^ k) : bitsN n = k := by
  have hn : n ≠ 0 := fun e => by subst e; have := Nat.pow_pos (n := k - 1) (show 0 < 2 by decide); omega
  have h3 := bitsN_lt n
  have h4 := bitsN_le hn
  have h5 : 0 < bitsN n := by unfold bitsN; rw [if_neg hn]; omega
  have a := (Nat.pow_lt_pow_iff_right (by decide : 1 < 2)).1 (Nat.lt_of_le_of_lt h1 h3)
  have b := (Nat.pow_lt_pow_iff_right (by decide : 1 < 2)).1 (Nat.lt_of_le_of_lt h4 h2)
  omega
theorem bitLen_bitsN (d : Nat) (h : d < 4294967296) : Lib.bitLen d = bitsN d := by
  by_cases hd : d = 0
  · subst hd; decide
  · have := Lib.bitLenAux_bounds 64 d (by omega) hd
    exact (bitsN_unique (by unfold Lib.bitLen; exact this.1) (by unfold Lib.bitLen; exact this.2.1) (by unfold Lib.bitLen; exact this.2.2)).symm
/-- The bits of canonical digits: 32 for each below the top one, and the top one's. -/
theorem bitsN_dig {n t : Nat} (_hn : n ≠ 0) (ht : (dig n).length = t + 1) : bitsN n = 32 * t + bitsN ((dig n)[t]?.getD 0) := by
  have ok := OK_dig n
  have hv := val_dig n
  have htop : (dig n)[t]?.getD 0 ≠ 0 := by
    have h1 := strip_dig n
    have := strip_top (ds := dig n) (by rw [h1]; intro e; rw [e] at ht; simp at ht)
    rw [h1, ht] at this; exact this
  have hs := val_split (dig n) t (by omega)
  rw [drop_succ_val (by omega), List.drop_eq_nil_of_le (by omega)] at hs
  have hlow : val ((dig n).take t) < pw t := by
    have := val_lt (ok.take t)
    rw [List.length_take, Nat.min_eq_left (by omega)] at this; exact this
  generalize hd : (dig n)[t]?.getD 0 = d at *
  rw [hv] at hs
  simp only [val, Nat.mul_zero, Nat.add_zero] at hs
  have h1 := bitsN_lt d
  have h2 := bitsN_le htop
  have h5 : 0 < bitsN d := by unfold bitsN; rw [if_neg htop]; omega
  rw [pw_eq] at hs hlow
  refine bitsN_unique (by omega) ?_ ?_
  · have e : 32 * t + bitsN d - 1 = 32 * t + (bitsN d - 1) := by omega
    rw [e, Nat.pow_add]
    have := Nat.mul_le_mul_left (2 ^ (32 * t)) h2
    omega
  · rw [Nat.pow_add]
    have : 2 ^ (32 * t) * (d + 1) ≤ 2 ^ (32 * t) * 2 ^ bitsN d := Nat.mul_le_mul_left _ h1
    rw [Nat.mul_add] at this
    omega
theorem bitsN_le_32 {d : Nat} (h : d < 4294967296) : bitsN d ≤ 32 := by
  by_cases hd : d = 0
  · subst hd; decide
  · have h1 := bitsN_le hd
    have h2 : 2 ^ (bitsN d - 1) < 2 ^ 32 := by omega
    have := (Nat.pow_lt_pow_iff_right (by decide : 1 < 2)).1 h2
    omega
set_option maxHeartbeats 800000 in
set_option maxRecDepth 20000 in
/-- nat.Bits. -/
theorem bits_any (oa : Option Addr) (ca : Nat) (xs : List Nat) (w : World) (hl : xs.length ≤ 500000000000) (hc : xs.length ≤ ca) (ok : OK xs) (hx : Cells w oa xs) :
    Calls Tryz.prog 77 #[.slice oa xs.length ca] w fun e w' => e = .returned (.int .i64 ((bitsN (val xs) : Nat) : Int)) ∧ Below w.heap.size w w' := by
  have hsl := strip_length_le xs
  have ex := dig_val ok
  have hx' := hx.strip
  obtain ⟨r, Hr⟩ : ∃ r, Hid (bitsN (val xs) = r) := ⟨_, rfl⟩
  rw [Hr.out]
  generalize val xs = m at *
  have HX := hide ex
  clear ex
  go_enter Tryz.func77, Tryz.ntmps77
  go_wp2_with fail
  refine (trim_any oa ca xs _ (by omega) hc hx).mono ?_
  rintro e w' ⟨rfl, rfl⟩
  generalize strip xs = X at *
  by_cases h0 : X.length = 0
  · have hm : m = 0 := dig_eq_nil.1 (by rw [HX.out]; exact List.length_eq_zero_iff.1 h0)
    have hr : r = 0 := by rw [← Hr.out, hm]; decide
    have HR := hide hr
    clear hr hm
    have hb : ((X.length : Int) == 0) = true := by rw [beq_iff_eq]; omega
    go_wp2_with fail
    go_ret
    exact ⟨congrArg (fun z : Nat => Ending.returned (.int .i64 (z : Int))) HR.out.symm, Below.refl _ _⟩
  · obtain ⟨t, ht⟩ : ∃ t, X.length = t + 1 := ⟨X.length - 1, by omega⟩
    have hb : (((t : Int) + 1) == 0) = false := by rw [beq_eq_false_iff_ne]; omega
    obtain ⟨b, off, d, ho, gx, Hx⟩ := hx'.get (i := t) (by omega)
    subst ho
    have hdb : d < 4294967296 := by
      have h1 := (OK_dig m).get t
      rw [HX.out, Hx.out] at h1; exact h1
    have hm : m ≠ 0 := fun e => by have := HX.out; rw [e, dig_zero] at this; rw [← this] at h0; simp at h0
    have hr : 32 * t + bitsN d = r := by
      rw [← Hr.out, bitsN_dig hm (t := t) (by rw [HX.out]; exact ht), HX.out, Hx.out]
    have h32 := bitsN_le_32 hdb
    have HR := hide hr
    have HT := hide ht
    have hbl := bitLen_bitsN d hdb
    have HBL := hide hbl
    have htb : t < 500000000000 := by omega
    rw [ht]
    clear hr hbl ht h0 hm
    go_wp2_with fail
    refine (Tryz.bits_Len32 (d : Int) w (by omega) (by omega)).mono ?_
    rintro e w' ⟨rfl, rfl⟩
    rw [Int.toNat_natCast, HBL.out]
    have hres : (t : Int) * 32 + ((bitsN d : Nat) : Int) = ((r : Nat) : Int) := by have := HR.out; omega
    have HRes := hide hres
    have h32' := h32
    generalize bitsN d = bd at *
    clear hres
    go_wp2
    go_ret
    exact ⟨congrArg (fun z : Int => Ending.returned (.int .i64 z)) HRes.out, Below.refl _ _⟩
/-- The number that a sign and digits stand for. -/
def zv (neg : Bool) (xs : List Nat) : Int := if neg then -(val xs : Int) else (val xs : Int)
theorem zv_abs (neg : Bool) (xs : List Nat) : (zv neg xs).natAbs = val xs := by
  unfold zv; cases neg <;> simp
/-- v is a whole number z, however laid; its digits are at most l. -/
def ZN (w : World) (v : Value) (z : Int) (l : Nat) : Prop := ∃ neg s xs, v = .agg #[.bool neg, s] ∧ Rd w s xs ∧ zv neg xs = z ∧ xs.length ≤ l
/-- v is z, canonical, its digits in memory from block B on. -/
def ZO (w : World) (B : Nat) (v : Value) (z : Int) : Prop := ∃ s, v = .agg #[.bool (decide (z < 0)), s] ∧ Own w B s (dig z.natAbs)
/-- v is z, canonical. -/
def ZC (w : World) (v : Value) (z : Int) : Prop := ∃ s, v = .agg #[.bool (decide (z < 0)), s] ∧ Rd w s (dig z.natAbs)
theorem ZN.below {w w' : World} {v : Value} {z : Int} {l : Nat} (h : ZN w v z l) {B : Nat} (hb : Below B w w') (hB : w.heap.size ≤ B) : ZN w' v z l := by
  obtain ⟨neg, s, xs, hv, hr, hz, hl⟩ := h
  exact ⟨neg, s, xs, hv, hr.below hb hB, hz, hl⟩
theorem ZN.alloc {w : World} {v : Value} {z : Int} {l : Nat} (h : ZN w v z l) (o : Obj) : ZN (w.alloc o) v z l := h.below ((Below.refl w.heap.size _).alloc (Nat.le_refl _) o) (Nat.le_refl _)
theorem ZN.drew {w : World} {v : Value} {z : Int} {l : Nat} (h : ZN w v z l) : ZN w.drew v z l := h.below ((Below.refl _ _).drew) (Nat.le_refl _)
theorem ZN.mono {w : World} {v : Value} {z : Int} {l m : Nat} (h : ZN w v z l) (k : l ≤ m) : ZN w v z m := by
  obtain ⟨neg, s, xs, hv, hr, hz, hl⟩ := h
  exact ⟨neg, s, xs, hv, hr, hz, Nat.le_trans hl k⟩
theorem ZO.below {w w' : World} {B : Nat} {v : Value} {z : Int} (h : ZO w B v z) {C : Nat} (hb : Below C w w') (hB : w.heap.size ≤ C) : ZO w' B v z := by
  obtain ⟨s, hv, hr⟩ := h
  exact ⟨s, hv, hr.below hb hB⟩
theorem ZO.mono {w : World} {B C : Nat} {v : Value} {z : Int} (h : ZO w B v z) (hC : C ≤ B) : ZO w C v z := by
  obtain ⟨s, hv, hr⟩ := h
  exact ⟨s, hv, hr.mono hC⟩
theorem ZO.rd {w : World} {B : Nat} {v : Value} {z : Int} (h : ZO w B v z) : ZC w v z := by
  obtain ⟨s, hv, hr⟩ := h
  exact ⟨s, hv, hr.rd⟩
theorem zv_canon (z : Int) : zv (decide (z < 0)) (dig z.natAbs) = z := by
  unfold zv
  rw [val_dig]
  by_cases h : z < 0
  · rw [decide_eq_true h]; simp only [if_true]; omega
  · rw [decide_eq_false h]; simp only [Bool.false_eq_true, if_false]; omega
theorem ZC.zn {w : World} {v : Value} {z : Int} (h : ZC w v z) {l : Nat} (hl : (dig z.natAbs).length ≤ l) : ZN w v z l := by
  obtain ⟨s, hv, hr⟩ := h
  exact ⟨_, s, _, hv, hr, zv_canon z, hl⟩
theorem sign_of (neg : Bool) (n : Nat) : (neg && decide (0 < (dig n).length)) = decide ((if neg then -(n : Int) else (n : Int)) < 0) := by
  have h : (0 < (dig n).length) ↔ n ≠ 0 := by rw [List.length_pos_iff]; exact not_congr dig_eq_nil
  cases neg
  · simp
  · rw [Bool.true_and]; exact decide_eq_decide.2 (by rw [h]; simp; omega)
/-- Block b holds a struct Z. -/
def Bk (w : World) (b : Nat) (neg : Bool) (s : Value) : Prop := w.heap[b]? = some (.cells #[.bool neg, s] 26 (0, 0))
theorem Bk.new (w : World) (neg : Bool) (s : Value) : Bk (w.alloc (.cells #[.bool neg, s] 26)) w.heap.size neg s := by
  show (w.heap.push _)[w.heap.size]? = _
  simp
theorem Bk.size_alloc (w : World) (o : Obj) : (w.alloc o).heap.size = w.heap.size + 1 := by simp
theorem Bk.lt {w : World} {b : Nat} {neg : Bool} {s : Value} (h : Bk w b neg s) : b < w.heap.size := by
  rcases Nat.lt_or_ge b w.heap.size with hb | hb
  · exact hb
  · unfold Bk at h; rw [Array.getElem?_eq_none hb] at h; cases h
theorem Bk.below {w w' : World} {b : Nat} {neg : Bool} {s : Value} (h : Bk w b neg s) {B : Nat} (hb : Below B w w') (hB : w.heap.size ≤ B) : Bk w' b neg s := by
  unfold Bk; rw [hb.block b (Nat.lt_of_lt_of_le h.lt hB)]; exact h
theorem Bk.alloc {w : World} {b : Nat} {neg : Bool} {s : Value} (h : Bk w b neg s) (o : Obj) : Bk (w.alloc o) b neg s := h.below ((Below.refl w.heap.size _).alloc (Nat.le_refl _) o) (Nat.le_refl _)
theorem Bk.drew {w : World} {b : Nat} {neg : Bool} {s : Value} (h : Bk w b neg s) : Bk w.drew b neg s := h.below ((Below.refl w.heap.size _).drew) (Nat.le_refl _)
/-- What the walk reads of it. -/
theorem Bk.facts {w : World} {b : Nat} {neg : Bool} {s : Value} (h : Bk w b neg s) :
    w.cell? ⟨b, 0, none⟩ = some (.bool neg) ∧ w.cell? ⟨b, 1, none⟩ = some s ∧ w.frozen? ⟨b, 0, none⟩ = false ∧ w.frozen? ⟨b, 1, none⟩ = false := by
  unfold Bk at h
  exact ⟨by simp only [World.cell?, h]; rfl, by simp only [World.cell?, h]; rfl, by simp [World.frozen?, h], by simp [World.frozen?, h]⟩
theorem Bk.store {w : World} {b : Nat} {neg : Bool} {s : Value} (h : Bk w b neg s) (neg' : Bool) (s' : Value) : Bk ((w.setCell ⟨b, 0, none⟩ (.bool neg')).setCell ⟨b, 1, none⟩ s') b neg' s' := by
  unfold Bk at h ⊢
  simp only [World.setCell, Array.getElem?_modify, h]
  simp
theorem Bk.only (w : World) (b : Nat) (neg' : Bool) (s' : Value) : Only b w ((w.setCell ⟨b, 0, none⟩ (.bool neg')).setCell ⟨b, 1, none⟩ s') := ((Only.refl b w).setCell 0 _).setCell 1 _
theorem Bk.frame {w w' : World} {b c : Nat} {neg : Bool} {s : Value} (h : Bk w b neg s) (ho : Only c w w') (hne : b ≠ c) : Bk w' b neg s := by
  unfold Bk; rw [ho.block b hne]; exact h
theorem ZO.open2 {w : World} {B : Nat} {v : Value} {z : Int} (h : ZO w B v z) : ∃ sb oa n cap, v = .agg #[.bool sb, .slice oa n cap] := by
  obtain ⟨s, rfl, oa, cap, rfl, _⟩ := h
  exact ⟨_, oa, _, cap, rfl⟩
theorem Own.only {w w' : World} {B b : Nat} {v : Value} {ds : List Nat} (h : Own w B v ds) (ho : Only b w w') (hb : b < B) : Own w' B v ds := by
  obtain ⟨oa, cap, hv, hc, h0 | ⟨c, off, xs, hoa, hB', hr, hx, hd⟩⟩ := h
  · exact ⟨oa, cap, hv, hc, .inl h0⟩
  · exact ⟨oa, cap, hv, hc, .inr ⟨c, off, xs, hoa, hB', ho.row hr (by omega), hx, hd⟩⟩
theorem ZO.only {w w' : World} {B b : Nat} {v : Value} {z : Int} (h : ZO w B v z) (ho : Only b w w') (hb : b < B) : ZO w' B v z := by
  obtain ⟨s, hv, hr⟩ := h
  exact ⟨s, hv, hr.only ho hb⟩
set_option maxHeartbeats 400000 in
set_option maxRecDepth 20000 in
/-- signed: the canonical number of an amount. -/
theorem signed_any {w : World} {B : Nat} {s : Value} (neg : Bool) (n : Nat) (h : Own w B s (dig n)) :
    Calls Tryz.prog 63 #[.bool neg, s] w fun e w' => ∃ v, e = .returned v ∧ ZO w' B v (if neg then -(n : Int) else (n : Int)) ∧ Below w.heap.size w w' := by
  have HSG := hide (sign_of neg n)
  have h' := h
  obtain ⟨oa, cap, rfl, hcap, _⟩ := h
  have H' := hide h'
  clear h'
  have hbl : ∀ o, Below w.heap.size w (w.alloc o) := fun o => (Below.refl _ _).alloc (Nat.le_refl _) o
  have e1 : ((n : Int)).natAbs = n := by simp
  have e2 : (-(n : Int)).natAbs = n := by simp
  have E := hide (And.intro e1 e2)
  clear e1 e2
  cases neg
  · go_enter Tryz.func63, Tryz.ntmps63
    go_wp2
    go_returns
    refine ⟨_, rfl, ⟨_, ?_, by rw [E.out.1]; exact H'.out.below (hbl _) (Nat.le_refl _)⟩, hbl _⟩
    rw [decide_eq_false (by omega : ¬ (n : Int) < 0)]
  · go_enter Tryz.func63, Tryz.ntmps63
    go_wp2
    go_returns
    refine ⟨_, rfl, ⟨_, ?_, by rw [E.out.2]; exact H'.out.below (hbl _) (Nat.le_refl _)⟩, hbl _⟩
    have h3 := HSG.out
    simp only [Bool.true_and, if_true] at h3
    rw [h3]
/-- signed, of a number that is told. -/
theorem signed_z {w : World} {B : Nat} {s : Value} {neg : Bool} {n : Nat} (z : Int) (h : Own w B s (dig n)) (hz : (if neg then -(n : Int) else (n : Int)) = z) :
    Calls Tryz.prog 63 #[.bool neg, s] w fun e w' => ∃ v, e = .returned v ∧ ZO w' B v z ∧ Below w.heap.size w w' := by
  subst hz; exact signed_any neg n h
/-- turned: the other sign, the same digits. -/
theorem turned_any {w : World} {v : Value} {z : Int} {l : Nat} (h : ZN w v z l) :
    Calls Tryz.prog 87 #[v] w fun e w' => ∃ v', e = .returned v' ∧ ZN w' v' (-z) l ∧ Below w.heap.size w w' := by
  obtain ⟨neg, s, xs, rfl, hr, hz, hl⟩ := h
  have hbl : ∀ o, Below w.heap.size w (w.alloc o) := fun o => (Below.refl _ _).alloc (Nat.le_refl _) o
  have hb2 : ∀ o o', Below w.heap.size w ((w.alloc o).alloc o') := fun o o' => (hbl o).alloc (hbl o).size o'
  have HZ := hide (And.intro hz hl)
  have HR := hide hr
  obtain ⟨oa, cap, rfl, hcap, _⟩ := hr
  clear hz hl
  go_enter Tryz.func87, Tryz.ntmps87
  go_wp2
  go_returns
  refine ⟨_, rfl, ⟨!neg, _, xs, rfl, HR.out.below (hb2 _ _) (Nat.le_refl _), ?_, HZ.out.2⟩, hb2 _ _⟩
  rw [← HZ.out.1]
  unfold zv
  cases neg <;> simp
/-- A number's field of digits, opened. -/
theorem ZN.open_ {w : World} {v : Value} {z : Int} {l : Nat} (h : ZN w v z l) :
    ∃ neg oa cap xs, v = .agg #[.bool neg, .slice oa xs.length cap] ∧ xs.length ≤ cap ∧ Rd w (.slice oa xs.length cap) xs ∧ zv neg xs = z ∧ xs.length ≤ l := by
  obtain ⟨neg, s, xs, rfl, hr, hz, hl⟩ := h
  have hr' := hr
  obtain ⟨oa, cap, rfl, hcap, _⟩ := hr
  exact ⟨neg, oa, cap, xs, rfl, hcap, hr', hz, hl⟩
theorem bits_rd1 {w : World} {va : Value} {xs : List Nat} (hx : Rd w va xs) (hxl : xs.length ≤ 100000000000) :
    Calls Tryz.prog 77 #[va] w fun e w' => e = .returned (.int .i64 ((bitsN (val xs) : Nat) : Int)) ∧ Below w.heap.size w w' := by
  obtain ⟨oa, ca, rfl, hca, okx, hcx⟩ := hx
  exact bits_any oa ca xs w (by omega) hca okx hcx
set_option maxRecDepth 20000 in
/-- zint.Bits. -/
theorem zbits_any {w : World} {v : Value} {z : Int} {l : Nat} (h : ZN w v z l) (hl : l ≤ 1000000000) :
    Calls Tryz.prog 46 #[v] w fun e w' => e = .returned (.int .i64 ((bitsN z.natAbs : Nat) : Int)) ∧ Below w.heap.size w w' := by
  obtain ⟨neg, oa, cap, xs, rfl, hcap, hr, hz, hxl⟩ := h.open_
  have hv : val xs = z.natAbs := by rw [← hz, zv_abs]
  have HV := hide hv
  clear hz hv h
  go_enter Tryz.func46, Tryz.ntmps46
  have hb := Below.refl w.heap.size w
  replace hr := hr.alloc (.cells #[.bool neg, .slice oa xs.length cap] 26)
  replace hb := hb.alloc hb.size (.cells #[.bool neg, .slice oa xs.length cap] 26)
  go_wp2_with fail
  refine (bits_rd1 hr (by omega)).mono ?_
  rintro e w_1 ⟨rfl, hb_1⟩
  replace hr := hr.below hb_1 (Nat.le_refl _)
  replace hb := hb.trans (hb_1.mono hb.size)
  clear hb_1
  rw [HV.out]
  go_wp2
  go_ret
  exact ⟨rfl, hb⟩
theorem bitsN_zero {n : Nat} : bitsN n = 0 ↔ n = 0 := by
  constructor
  · intro h; unfold bitsN at h; split at h
    · assumption
    · omega
  · rintro rfl; decide
theorem zv_zero {neg : Bool} {xs : List Nat} : zv neg xs = 0 ↔ val xs = 0 := by
  rw [← Int.natAbs_eq_zero, zv_abs]
set_option maxRecDepth 20000 in
/-- zint.Sign. -/
theorem zsign_any {w : World} {v : Value} {z : Int} {l : Nat} (h : ZN w v z l) (hl : l ≤ 1000000000) :
    Calls Tryz.prog 35 #[v] w fun e w' => e = .returned (.int .i64 z.sign) ∧ Below w.heap.size w w' := by
  have hzn := h
  obtain ⟨neg, oa, cap, xs, rfl, hcap, hr, hz, hxl⟩ := h.open_
  have HZ := hide hz
  clear h hz
  obtain ⟨b, hb'⟩ : ∃ b, bitsN z.natAbs = b := ⟨_, rfl⟩
  have HB := hide hb'
  obtain ⟨g, hg⟩ : ∃ g, z.sign = g := ⟨_, rfl⟩
  rw [hg]
  by_cases h0 : z = 0
  · have e1 : b = 0 := by rw [← hb', h0]; decide
    have e2 : g = 0 := by rw [← hg, h0]; rfl
    subst e1
    rw [e2]
    have hq : (((0 : Nat) : Int) == 0) = true := rfl
    clear hb' hg h0
    go_enter Tryz.func35, Tryz.ntmps35
    have hb := Below.refl w.heap.size w
    replace hzn := hzn.alloc (.cells #[.bool neg, .slice oa xs.length cap] 26)
    replace hb := hb.alloc hb.size (.cells #[.bool neg, .slice oa xs.length cap] 26)
    go_wp2_with fail
    refine (zbits_any hzn hl).mono ?_
    rintro e w_1 ⟨rfl, hb_1⟩
    replace hzn := hzn.below hb_1 (Nat.le_refl _)
    replace hb := hb.trans (hb_1.mono hb.size)
    clear hb_1
    rw [HB.out]
    go_wp2
    go_ret
    exact ⟨rfl, hb⟩
  · have e1 : ((b : Int) == 0) = false := by
      rw [beq_eq_false_iff_ne]
      intro h
      have h3 : b = 0 := by omega
      rw [h3, bitsN_zero] at hb'
      omega
    have hg2 : g = if neg then -1 else 1 := by
      rw [← hg]
      have h3 := HZ.out
      unfold zv at h3
      cases neg
      · rw [if_neg (by simp)] at h3 ⊢
        exact Int.sign_eq_one_of_pos (by omega)
      · rw [if_pos rfl] at h3 ⊢
        exact Int.sign_eq_neg_one_of_neg (by omega)
    clear hb' hg h0
    cases neg
    · simp only [Bool.false_eq_true, if_false] at hg2
      rw [hg2]
      clear hg2
      go_enter Tryz.func35, Tryz.ntmps35
      have hb := Below.refl w.heap.size w
      have hp := Bk.new w false (.slice oa xs.length cap)
      replace hzn := hzn.alloc (.cells #[.bool false, (.slice oa xs.length cap)] 26)
      replace hb := hb.alloc hb.size (.cells #[.bool false, (.slice oa xs.length cap)] 26)
      go_wp2_with fail
      refine (zbits_any hzn hl).mono ?_
      rintro e w_1 ⟨rfl, hb_1⟩
      replace hzn := hzn.below hb_1 (Nat.le_refl _)
      replace hp := hp.below hb_1 (Nat.le_refl _)
      replace hb := hb.trans (hb_1.mono hb.size)
      clear hb_1
      rw [HB.out]
      have c0 := hp.facts
      go_wp2
      go_ret
      exact ⟨rfl, hb⟩
    · simp only [if_true] at hg2
      rw [hg2]
      clear hg2
      go_enter Tryz.func35, Tryz.ntmps35
      have hb := Below.refl w.heap.size w
      have hp := Bk.new w true (.slice oa xs.length cap)
      replace hzn := hzn.alloc (.cells #[.bool true, (.slice oa xs.length cap)] 26)
      replace hb := hb.alloc hb.size (.cells #[.bool true, (.slice oa xs.length cap)] 26)
      go_wp2_with fail
      refine (zbits_any hzn hl).mono ?_
      rintro e w_1 ⟨rfl, hb_1⟩
      replace hzn := hzn.below hb_1 (Nat.le_refl _)
      replace hp := hp.below hb_1 (Nat.le_refl _)
      replace hb := hb.trans (hb_1.mono hb.size)
      clear hb_1
      rw [HB.out]
      have c0 := hp.facts
      go_wp2
      go_ret
      exact ⟨rfl, hb⟩
end Go.Proofs.YtlomgfgedkkhkaaGreatDoor
