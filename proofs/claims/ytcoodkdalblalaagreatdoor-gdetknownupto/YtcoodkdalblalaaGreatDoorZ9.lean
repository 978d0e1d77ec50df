/- zint.Gcd, factorOfFirst. -/
import Derived.Test.YtcoodkdalblalaaGreatDoorZ8
import Derived.Deep.LoopGhost
namespace Go.Proofs.YtcoodkdalblalaaGreatDoor
open Go.RowKit Dig

set_option maxHeartbeats 2000000 in
set_option maxRecDepth 20000 in
/-- zint.Gcd. -/
theorem zgcd_any {w : World} {va vb : Value} {x y : Int} {l m : Nat} (ha : ZN w va x l) (hb' : ZN w vb y m) (hl : l ≤ 400000000) (hm : m ≤ 400000000) :
    Calls Tryz.prog 109 #[va, vb] w fun e w' => ∃ v', e = .returned v' ∧ ZO w' w.heap.size v' (Int.gcd x y) ∧ Below w.heap.size w w' := by
  obtain ⟨na, oa, ca, xs, rfl, hca, hx, hzx, hxl⟩ := ha.open_
  obtain ⟨nb, ob, cb, ys, rfl, hcb, hy, hzy, hyl⟩ := hb'.open_
  have E1 := hide (show (if false = true then -((Nat.gcd (val xs) (val ys) : Nat) : Int) else ((Nat.gcd (val xs) (val ys) : Nat) : Int)) = Int.gcd x y by
    unfold Int.gcd; rw [← hzx, ← hzy, zv_abs, zv_abs]; rfl)
  clear ha hb' hzx hzy
  go_enter Tryz.func109, Tryz.ntmps109
  have hb := Below.refl w.heap.size w
  have hp := Bk.new w na (.slice oa xs.length ca)
  replace hx := hx.alloc (.cells #[.bool na, (.slice oa xs.length ca)] 24)
  replace hy := hy.alloc (.cells #[.bool na, (.slice oa xs.length ca)] 24)
  replace hb := hb.alloc hb.size (.cells #[.bool na, (.slice oa xs.length ca)] 24)
  have hq := Bk.new (w.alloc (.cells #[.bool na, (.slice oa xs.length ca)] 24)) nb (.slice ob ys.length cb)
  simp only [Bk.size_alloc] at hq
  replace hx := hx.alloc (.cells #[.bool nb, (.slice ob ys.length cb)] 24)
  replace hy := hy.alloc (.cells #[.bool nb, (.slice ob ys.length cb)] 24)
  replace hp := hp.alloc (.cells #[.bool nb, (.slice ob ys.length cb)] 24)
  replace hb := hb.alloc hb.size (.cells #[.bool nb, (.slice ob ys.length cb)] 24)
  have hz := Bk.new ((w.alloc (.cells #[.bool na, (.slice oa xs.length ca)] 24)).alloc (.cells #[.bool nb, (.slice ob ys.length cb)] 24)) false (.slice none 0 0)
  simp only [Bk.size_alloc] at hz
  replace hx := hx.alloc (.cells #[.bool false, (.slice none 0 0)] 24)
  replace hy := hy.alloc (.cells #[.bool false, (.slice none 0 0)] 24)
  replace hp := hp.alloc (.cells #[.bool false, (.slice none 0 0)] 24)
  replace hq := hq.alloc (.cells #[.bool false, (.slice none 0 0)] 24)
  replace hb := hb.alloc hb.size (.cells #[.bool false, (.slice none 0 0)] 24)
  have f_hp := hp.facts
  have f_hq := hq.facts
  go_wp2_with fail
  refine (gcd_rd hx hy (by omega) (by omega)).mono ?_
  rintro e w_1 ⟨s1, rfl, h1, hb_1⟩
  replace hx := hx.below hb_1 (Nat.le_refl _)
  replace hy := hy.below hb_1 (Nat.le_refl _)
  replace hp := hp.below hb_1 (Nat.le_refl _)
  replace hq := hq.below hb_1 (Nat.le_refl _)
  replace hz := hz.below hb_1 (Nat.le_refl _)
  replace hb := hb.trans (hb_1.mono hb.size)
  clear hb_1
  clear f_hp f_hq
  go_wp2_with fail
  refine (signed_z _ h1 E1.out).mono ?_
  rintro e w_2 ⟨v1, rfl, g1, hb_2⟩
  replace hx := hx.below hb_2 (Nat.le_refl _)
  replace hy := hy.below hb_2 (Nat.le_refl _)
  replace hp := hp.below hb_2 (Nat.le_refl _)
  replace hq := hq.below hb_2 (Nat.le_refl _)
  replace hz := hz.below hb_2 (Nat.le_refl _)
  replace h1 := h1.below hb_2 (Nat.le_refl _)
  replace hb := hb.trans (hb_2.mono hb.size)
  clear hb_2
  clear h1
  obtain ⟨sb_hz, o_hz, n_hz, c_hz, rfl⟩ := g1.open2
  have f_hz := hz.facts
  have ho := Bk.only w_2 (w.heap.size + 1 + 1) sb_hz (.slice o_hz n_hz c_hz)
  have hbx_ := hz.bx
  replace hx := hx.frame hbx_ ho
  replace hy := hy.frame hbx_ ho
  replace hp := hp.frame ho (by first | assumption | (apply Ne.symm; assumption) | (simp; done) | omega)
  replace hq := hq.frame ho (by first | assumption | (apply Ne.symm; assumption) | (simp; done) | omega)
  replace g1 := g1.frame hbx_ ho
  replace hz := hz.store sb_hz (.slice o_hz n_hz c_hz)
  replace hb := (hb.setCell (p := ⟨w.heap.size + 1 + 1, 0, none⟩) (show w.heap.size ≤ w.heap.size + 1 + 1 by first | assumption | (simp; done) | omega) (.bool sb_hz)).setCell (p := ⟨w.heap.size + 1 + 1, 1, none⟩) (show w.heap.size ≤ w.heap.size + 1 + 1 by first | assumption | (simp; done) | omega) (.slice o_hz n_hz c_hz)
  clear ho hbx_
  obtain ⟨w_3, hw_3⟩ : ∃ v, ((w_2.setCell ⟨w.heap.size + 1 + 1, 0, none⟩ (.bool sb_hz)).setCell ⟨w.heap.size + 1 + 1, 1, none⟩ (.slice o_hz n_hz c_hz)) = v := ⟨_, rfl⟩
  rw [hw_3] at hx hy hp hq hz g1 hb
  have f1 := hz.facts
  go_wp2
  refine bodyPost_ret (v := .agg #[.bool sb_hz, .slice o_hz n_hz c_hz]) (by simp [results, Tryz.results109, go_sem, f1.1, f1.2.1]) rfl ?_
  exact ⟨_, rfl, g1.mono (by simp; omega), hb⟩
theorem len_le {n m l : Nat} (h : n ≤ m) (hm : (dig m).length ≤ l) : (dig n).length ≤ l :=
  dig_length_le (Nat.lt_of_le_of_lt h (Nat.lt_of_lt_of_le (lt_pw_dig m) (pw_mono hm)))
theorem zo_zero (w : World) (B : Nat) : ZO w B (.agg #[.bool false, .slice none 0 0]) 0 := ⟨_, rfl, by rw [show dig (Int.natAbs 0) = [] from dig_eq_nil.2 rfl]; exact Own.nil w B none⟩
end Go.Proofs.YtcoodkdalblalaaGreatDoor

