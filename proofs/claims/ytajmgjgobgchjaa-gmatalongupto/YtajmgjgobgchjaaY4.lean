/- zint's reference: Sub, Sign. -/
import Derived.Test.YtajmgjgobgchjaaY3
namespace Go.Proofs.Ytajmgjgobgchjaa
open Go.RowKit Dig

theorem ZW.open_ {w : World} {B : Nat} {v : Value} {z : Int} (h : ZW w B v z) :
    ∃ oa cap, v = .agg #[.bool (decide (z < 0)), .slice oa (dig z.natAbs).length cap] := by
  obtain ⟨s, rfl, ⟨oa, cap, rfl, _⟩, _⟩ := h
  exact ⟨oa, cap, rfl⟩
theorem ZN.len {w : World} {v : Value} {z : Int} {l : Nat} (h : ZN w v z l) : (dig z.natAbs).length ≤ l := by
  obtain ⟨neg, s, xs, rfl, hr, hz, hl⟩ := h
  rw [← hz, zv_abs]
  exact Nat.le_trans (dig_length_le (val_lt hr.ok)) hl
set_option maxHeartbeats 1000000 in
set_option maxRecDepth 20000 in
/-- tesselref2.Sign. -/
theorem rzsign_any {w : World} {v : Value} {z : Int} {l : Nat} (h : ZN w v z l) (hl : l ≤ 1000000000) :
    Calls Try.prog 49 #[v] w fun e w' => e = .returned (.int .i64 z.sign) ∧ Below w.heap.size w w' := by
  have hdl : (dig z.natAbs).length = 0 ↔ z = 0 := by rw [List.length_eq_zero_iff, dig_eq_nil, Int.natAbs_eq_zero]
  have hzn := h
  obtain ⟨neg, oa, cap, xs, rfl, hcap, _, _, _⟩ := h.open_
  clear h
  rcases (show z = 0 ∨ z < 0 ∨ 0 < z by omega) with h0 | h0 | h0
  · have E := hide (And.intro (decide_eq_false (show ¬ z < 0 by omega)) (hdl.2 h0))
    have e3 : z.sign = 0 := by rw [h0]; rfl
    rw [e3]
    clear h0 hdl e3
    go_enter Try.func49, Try.ntmps49
    have hb := Below.refl w.heap.size w
    have hp := Bk.new w neg (.slice oa xs.length cap)
    replace hzn := hzn.alloc (.cells #[.bool neg, (.slice oa xs.length cap)] 41)
    replace hb := hb.alloc hb.size (.cells #[.bool neg, (.slice oa xs.length cap)] 41)
    go_wp2_with fail
    refine (rnorm_any hzn hl).mono ?_
    rintro e w_1 ⟨v, rfl, hv, hb_1⟩
    replace hzn := hzn.below hb_1 (Nat.le_refl _)
    replace hp := hp.below hb_1 (Nat.le_refl _)
    replace hb := hb.trans (hb_1.mono hb.size)
    clear hb_1
    obtain ⟨o5, c5, rfl⟩ := hv.open_
    rw [E.out.1, E.out.2]
    have d := (Bk.new w_1 false (.slice o5 0 c5)).facts
    go_wp2
    go_ret
    exact ⟨rfl, hb.alloc hb.size _⟩
  · obtain ⟨n, hn⟩ : ∃ n, (dig z.natAbs).length = n := ⟨_, rfl⟩
    have hn0 : n ≠ 0 := fun h => by have := hdl.1 (hn.trans h); omega
    have hnq : ((n : Int) == 0) = false := by rw [beq_eq_false_iff_ne]; omega
    have E := hide (And.intro (decide_eq_true h0) hn)
    have e3 : z.sign = -1 := Int.sign_eq_neg_one_of_neg h0
    clear hn hn0
    rw [e3]
    clear h0 hdl e3
    go_enter Try.func49, Try.ntmps49
    have hb := Below.refl w.heap.size w
    have hp := Bk.new w neg (.slice oa xs.length cap)
    replace hzn := hzn.alloc (.cells #[.bool neg, (.slice oa xs.length cap)] 41)
    replace hb := hb.alloc hb.size (.cells #[.bool neg, (.slice oa xs.length cap)] 41)
    go_wp2_with fail
    refine (rnorm_any hzn hl).mono ?_
    rintro e w_1 ⟨v, rfl, hv, hb_1⟩
    replace hzn := hzn.below hb_1 (Nat.le_refl _)
    replace hp := hp.below hb_1 (Nat.le_refl _)
    replace hb := hb.trans (hb_1.mono hb.size)
    clear hb_1
    obtain ⟨o5, c5, rfl⟩ := hv.open_
    rw [E.out.1, E.out.2]
    have d := (Bk.new w_1 true (.slice o5 n c5)).facts
    go_wp2
    go_ret
    exact ⟨rfl, hb.alloc hb.size _⟩
  · obtain ⟨n, hn⟩ : ∃ n, (dig z.natAbs).length = n := ⟨_, rfl⟩
    have hn0 : n ≠ 0 := fun h => by have := hdl.1 (hn.trans h); omega
    have hnq : ((n : Int) == 0) = false := by rw [beq_eq_false_iff_ne]; omega
    have E := hide (And.intro (decide_eq_false (show ¬ z < 0 by omega)) hn)
    have e3 : z.sign = 1 := Int.sign_eq_one_of_pos h0
    clear hn hn0
    rw [e3]
    clear h0 hdl e3
    go_enter Try.func49, Try.ntmps49
    have hb := Below.refl w.heap.size w
    have hp := Bk.new w neg (.slice oa xs.length cap)
    replace hzn := hzn.alloc (.cells #[.bool neg, (.slice oa xs.length cap)] 41)
    replace hb := hb.alloc hb.size (.cells #[.bool neg, (.slice oa xs.length cap)] 41)
    go_wp2_with fail
    refine (rnorm_any hzn hl).mono ?_
    rintro e w_1 ⟨v, rfl, hv, hb_1⟩
    replace hzn := hzn.below hb_1 (Nat.le_refl _)
    replace hp := hp.below hb_1 (Nat.le_refl _)
    replace hb := hb.trans (hb_1.mono hb.size)
    clear hb_1
    obtain ⟨o5, c5, rfl⟩ := hv.open_
    rw [E.out.1, E.out.2]
    have d := (Bk.new w_1 false (.slice o5 n c5)).facts
    go_wp2
    go_ret
    exact ⟨rfl, hb.alloc hb.size _⟩
end Go.Proofs.Ytajmgjgobgchjaa

