/- The reference's Same; the contracts of nat's calls over whatever slice reads as given digits; lists written out. -/
import Derived.Test.YtajmgjgobgchjaaR1
import Derived.Test.YtajmgjgobgchjaaSlToW5
import Derived.Test.YtajmgjgobgchjaaShelf
import Derived.Lib.BitFns
import Derived.Lib.ItoaNum

namespace Go.Proofs.Ytajmgjgobgchjaa
open Go.RowKit Dig
set_option maxHeartbeats 800000 in
set_option maxRecDepth 20000 in
/-- The reference's Same. -/
theorem same_any (oa ob : Option Addr) (ca cb : Nat) (xs ys : List Nat) (w : World) (hxl : xs.length ≤ 10000000000000) (hyl : ys.length ≤ 10000000000000) (hx : Cells w oa xs) (hy : Cells w ob ys) :
    Calls Try.prog 88 #[.slice oa xs.length ca, .slice ob ys.length cb] w fun e w' => e = .returned (.bool (decide (xs = ys))) ∧ Below w.heap.size w w' := by
  by_cases hlen : xs.length = ys.length
  · have hb : ((xs.length : Int) == (ys.length : Int)) = true := by rw [beq_iff_eq]; omega
    obtain ⟨r, Hr⟩ : ∃ r, Hid (decide (xs = ys) = r) := ⟨_, rfl⟩
    rw [Hr.out]
    have Hl := hide hlen
    clear hlen
    go_enter Try.func88, Try.ntmps88
    go_wp2_with fail
    go_loopw [5] (fun i wr => ∃ k : Nat, k ≤ xs.length ∧ i = .int .i64 (k : Int) ∧ (∀ j, j < k → xs[j]?.getD 0 = ys[j]?.getD 0) ∧ Below w.heap.size w wr) (fun i _ => xs.length - (intOf i).toNat)
    case atStart => exact ⟨0, Nat.zero_le _, rfl, fun _ h => by omega, Below.refl _ _⟩
    case round =>
      obtain ⟨k, hk, rfl, hall, hbel⟩ := hrel
      have Hall := hide hall
      clear hall
      by_cases hlt : k < xs.length
      · have hlt2 : k < ys.length := by have := Hl.out; omega
        obtain ⟨bx, ox, x, ho, gx, Hx⟩ := (hx.below hbel (Nat.le_refl _)).get hlt
        obtain ⟨by', oy, y, ho', gy, Hy⟩ := (hy.below hbel (Nat.le_refl _)).get hlt2
        subst ho
        subst ho'
        by_cases hd : x = y
        · subst hd
          have hd' : ((x : Int) == (x : Int)) = true := by simp
          go_wp2_with fail
          go_region
          all_goals go_wp2_with fail
          all_goals go_roundw
          case rel => exact ⟨k + 1, hlt, by go_num, fun j hj => by rcases Nat.eq_or_lt_of_le (Nat.le_of_lt_succ hj) with h | h; (· subst h; exact Hx.out.trans Hy.out.symm); (· exact Hall.out j h), hbel.drew⟩
          case measure => simp [intOf]; omega
        · have hd' : ((x : Int) == (y : Int)) = false := by rw [beq_eq_false_iff_ne]; omega
          have hr : r = false := by
            rw [← Hr.out, decide_eq_false_iff_not]
            intro e
            subst e
            exact hd (Hx.out.symm.trans Hy.out)
          have HR := hide hr
          clear hr
          go_wp2_with fail
          go_region
          all_goals go_wp2_with fail
          all_goals go_ret
          all_goals exact ⟨by rw [HR.out]; rfl, hbel.drew⟩
      · obtain rfl : k = xs.length := by omega
        have hr : r = true := by
          rw [← Hr.out, decide_eq_true_eq]
          apply List.ext_getElem?
          intro i
          have hl := Hl.out
          by_cases hi : i < xs.length
          · have := Hall.out i hi
            rw [List.getElem?_eq_getElem hi, List.getElem?_eq_getElem (by omega : i < ys.length)] at this ⊢
            simpa using this
          · rw [List.getElem?_eq_none (by omega), List.getElem?_eq_none (by omega)]
        have HR := hide hr
        clear hr
        go_wp2_with fail
        go_ret
        exact ⟨by rw [HR.out]; rfl, hbel⟩
  · have hb : ((xs.length : Int) == (ys.length : Int)) = false := by rw [beq_eq_false_iff_ne]; omega
    have hr : decide (xs = ys) = false := by
      rw [decide_eq_false_iff_not]
      intro e
      exact hlen (by rw [e])
    rw [hr]
    go_enter Try.func88, Try.ntmps88
    go_wp2_with fail
    go_ret
    exact ⟨rfl, Below.refl _ _⟩
theorem norm_rd {w : World} {va : Value} {xs : List Nat} (hx : Rd w va xs) (hl : xs.length ≤ 100000000000) :
    Calls Try.prog 126 #[va] w fun e w' => ∃ v, e = .returned v ∧ Own w' w.heap.size v (dig (val xs)) ∧ Below w.heap.size w w' := by
  obtain ⟨oa, ca, rfl, hca, okx, hcx⟩ := hx
  refine (norm_any oa ca xs w (by omega) hca okx hcx).mono ?_
  rintro e w1 ⟨rfl, hrow, hb⟩
  refine ⟨_, rfl, ?_, hb⟩
  have := Own.row (off := 0) (n := (strip xs).length) (cap := (strip xs).length) (Nat.le_refl w.heap.size) hrow (Nat.le_refl _) (by omega)
  rw [List.drop_zero, List.take_length] at this
  rw [dig_val okx]; exact this
theorem cmp_rd {w : World} {va vb : Value} {xs ys : List Nat} (hx : Rd w va xs) (hy : Rd w vb ys) (hxl : xs.length ≤ 100000000000) (hyl : ys.length ≤ 100000000000) :
    Calls Try.prog 118 #[va, vb] w fun e w' => e = .returned (.int .i64 (cmpI (val xs) (val ys))) ∧ Below w.heap.size w w' := by
  obtain ⟨oa, ca, rfl, hca, okx, hcx⟩ := hx
  obtain ⟨ob, cb, rfl, hcb, oky, hcy⟩ := hy
  exact cmp_any oa ob ca cb xs ys w (by omega) (by omega) hca hcb okx oky hcx hcy
theorem add_rd {w : World} {va vb : Value} {xs ys : List Nat} (hx : Rd w va xs) (hy : Rd w vb ys) (hxl : xs.length ≤ 100000000000) (hyl : ys.length ≤ 100000000000) :
    Calls Try.prog 117 #[va, vb] w fun e w' => ∃ v, e = .returned v ∧ Own w' w.heap.size v (dig (val xs + val ys)) ∧ Below w.heap.size w w' := by
  obtain ⟨oa, ca, rfl, hca, okx, hcx⟩ := hx
  obtain ⟨ob, cb, rfl, hcb, oky, hcy⟩ := hy
  exact add_any oa ob ca cb xs ys w (by omega) (by omega) hca hcb okx oky hcx hcy
theorem sub_rd {w : World} {va vb : Value} {xs ys : List Nat} (hx : Rd w va xs) (hy : Rd w vb ys) (hxl : xs.length ≤ 100000000000) (hyl : ys.length ≤ 100000000000) :
    Calls Try.prog 119 #[va, vb] w fun e w' => ∃ v, e = .returned (.tuple #[v, .int .i64 (subI (val xs) (val ys))]) ∧ Own w' w.heap.size v (if val xs < val ys then [] else dig (val xs - val ys)) ∧ Below w.heap.size w w' := by
  obtain ⟨oa, ca, rfl, hca, okx, hcx⟩ := hx
  obtain ⟨ob, cb, rfl, hcb, oky, hcy⟩ := hy
  exact sub_any oa ob ca cb xs ys w (by omega) (by omega) hca hcb okx oky hcx hcy
theorem mul_rd {w : World} {va vb : Value} {xs ys : List Nat} (hx : Rd w va xs) (hy : Rd w vb ys) (hxl : xs.length ≤ 100000000000) (hyl : ys.length ≤ 100000000000) :
    Calls Try.prog 130 #[va, vb] w fun e w' => ∃ v, e = .returned v ∧ Own w' w.heap.size v (dig (val xs * val ys)) ∧ Below w.heap.size w w' := by
  obtain ⟨oa, ca, rfl, hca, okx, hcx⟩ := hx
  obtain ⟨ob, cb, rfl, hcb, oky, hcy⟩ := hy
  exact mul_any oa ob ca cb xs ys w (by omega) (by omega) hca hcb okx oky hcx hcy
theorem lit2 (w : World) (d e : Nat) (h : d < 4294967296) (k : e < 4294967296) : Rd (w.alloc (.cells #[.int .u32 (d : Int), .int .u32 (e : Int)] 72)) (.slice (some ⟨w.heap.size, 0, none⟩) 2 2) [d, e] := by
  have hr : Row (w.alloc (.cells #[.int .u32 (d : Int), .int .u32 (e : Int)] 72)) w.heap.size [d, e] := Row.new w [d, e] (OK.cons h (OK.cons k OK.nil))
  exact ⟨_, 2, rfl, Nat.le_refl _, hr.2, hr.cells⟩
end Go.Proofs.Ytajmgjgobgchjaa


/- What an owned row tells of its cells, and one cell of it set. -/
namespace Go.Proofs.Ytajmgjgobgchjaa
open Go.RowKit Dig

end Go.Proofs.Ytajmgjgobgchjaa


/- The reference's Mul answers the canonical digits of the product. -/
namespace Go.Proofs.Ytajmgjgobgchjaa
open Go.RowKit Dig

end Go.Proofs.Ytajmgjgobgchjaa


/- The reference's at, Add and Sub answer digits, canonical sums and differences. -/
namespace Go.Proofs.Ytajmgjgobgchjaa
open Go.RowKit Dig

end Go.Proofs.Ytajmgjgobgchjaa


/- The reference's Sub and Cmp answer the canonical difference and the order. -/
namespace Go.Proofs.Ytajmgjgobgchjaa
open Go.RowKit Dig

end Go.Proofs.Ytajmgjgobgchjaa


/- nat.Bits and the reference's Bits answer the number of bits. -/
namespace Go.Proofs.Ytajmgjgobgchjaa
open Go.RowKit Dig

end Go.Proofs.Ytajmgjgobgchjaa

