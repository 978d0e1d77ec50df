/- zint.Inverse. -/
import Derived.Test.YtjcfhbekpmpbeaaDoorZ11
namespace Go.Proofs.YtjcfhbekpmpbeaaDoor
open Go.RowKit Dig

set_option maxHeartbeats 2000000 in
set_option maxRecDepth 20000 in
/-- zint.Inverse by 0. -/
theorem zinv_zero {w : World} {va vb : Value} {x : Int} {l m : Nat} (ha : ZN w va x l) (hb' : ZN w vb 0 m) (hm : m ≤ 20000000) :
    Calls Tryd.prog 51 #[va, vb] w fun e w' => e = .returned (.tuple #[.agg #[.bool false, .slice none 0 0], .int .i64 5]) ∧ Below w.heap.size w w' := by
  have e0 : ((0 : Int) == 0) = true := rfl
  obtain ⟨na, oa, ca, xs, rfl, hca, _, _, hxl⟩ := ha.open_
  obtain ⟨nb, ob, cb, ys, rfl, hcb, _, _, hyl⟩ := hb'.open_
  go_enter Tryd.func51, Tryd.ntmps51
  have hb := Below.refl w.heap.size w
  have hp := Bk.new w na (.slice oa xs.length ca)
  replace hb' := hb'.alloc (.cells #[.bool na, (.slice oa xs.length ca)] 36)
  replace hb := hb.alloc hb.size (.cells #[.bool na, (.slice oa xs.length ca)] 36)
  have hq := Bk.new (w.alloc (.cells #[.bool na, (.slice oa xs.length ca)] 36)) nb (.slice ob ys.length cb)
  simp only [Bk.size_alloc] at hq
  replace hb' := hb'.alloc (.cells #[.bool nb, (.slice ob ys.length cb)] 36)
  replace hp := hp.alloc (.cells #[.bool nb, (.slice ob ys.length cb)] 36)
  replace hb := hb.alloc hb.size (.cells #[.bool nb, (.slice ob ys.length cb)] 36)
  have hz := Bk.new ((w.alloc (.cells #[.bool na, (.slice oa xs.length ca)] 36)).alloc (.cells #[.bool nb, (.slice ob ys.length cb)] 36)) false (.slice none 0 0)
  simp only [Bk.size_alloc] at hz
  replace hb' := hb'.alloc (.cells #[.bool false, (.slice none 0 0)] 36)
  replace hp := hp.alloc (.cells #[.bool false, (.slice none 0 0)] 36)
  replace hq := hq.alloc (.cells #[.bool false, (.slice none 0 0)] 36)
  replace hb := hb.alloc hb.size (.cells #[.bool false, (.slice none 0 0)] 36)
  have f_hq := hq.facts
  go_wp2_with fail
  refine (zsign_any hb' (by omega)).mono ?_
  rintro e w_1 ⟨rfl, hb_1⟩
  replace hb' := hb'.below hb_1 (Nat.le_refl _)
  replace hp := hp.below hb_1 (Nat.le_refl _)
  replace hq := hq.below hb_1 (Nat.le_refl _)
  replace hz := hz.below hb_1 (Nat.le_refl _)
  replace hb := hb.trans (hb_1.mono hb.size)
  clear hb_1
  clear f_hq
  have f_hz := hz.facts
  have ho := Bk.only w_1 (w.heap.size + 1 + 1) false (.slice none 0 0)
  have hbx_ := hz.bx
  replace hb' := hb'.frame hbx_ ho
  replace hp := hp.frame ho (by first | assumption | (apply Ne.symm; assumption) | (simp; done) | omega)
  replace hq := hq.frame ho (by first | assumption | (apply Ne.symm; assumption) | (simp; done) | omega)
  replace hz := hz.store false (.slice none 0 0)
  replace hb := (hb.setCell (p := ⟨w.heap.size + 1 + 1, 0, none⟩) (show w.heap.size ≤ w.heap.size + 1 + 1 by first | assumption | (simp; done) | omega) (.bool false)).setCell (p := ⟨w.heap.size + 1 + 1, 1, none⟩) (show w.heap.size ≤ w.heap.size + 1 + 1 by first | assumption | (simp; done) | omega) (.slice none 0 0)
  clear ho hbx_
  obtain ⟨w_2, hw_2⟩ : ∃ v, ((w_1.setCell ⟨w.heap.size + 1 + 1, 0, none⟩ (.bool false)).setCell ⟨w.heap.size + 1 + 1, 1, none⟩ (.slice none 0 0)) = v := ⟨_, rfl⟩
  rw [hw_2] at hb' hp hq hz hb
  have f1 := hz.facts
  go_wp2
  refine bodyPost_ret (v := .tuple #[.agg #[.bool false, .slice none 0 0], .int .i64 5]) (by simp [results, Tryd.results51, go_sem, f1.1, f1.2.1]) rfl ?_
  exact ⟨rfl, hb⟩

set_option maxHeartbeats 4000000 in
set_option maxRecDepth 20000 in
/-- zint.Inverse where there is none. -/
theorem zinv_none {w : World} {va vb : Value} {x y : Int} {l m : Nat} (ha : ZN w va x l) (hb' : ZN w vb y m) (hl : l ≤ 20000000) (hm : m ≤ 20000000) (h0 : y ≠ 0) (hg : Int.gcd x y ≠ 1) :
    Calls Tryd.prog 51 #[va, vb] w fun e w' => e = .returned (.tuple #[.agg #[.bool false, .slice none 0 0], .int .i64 10]) ∧ Below w.heap.size w w' := by
  obtain ⟨S, hS⟩ : ∃ S, y.sign = S := ⟨_, rfl⟩
  have hS0 : (S == 0) = false := by rw [beq_eq_false_iff_ne, ← hS]; exact fun h => h0 (Int.sign_eq_zero_iff_zero.1 h)
  have HS := hide hS
  have H0 := hide h0
  have LG := hide (show (dig ((Int.gcd x y : Int)).natAbs).length ≤ m from len_le (gcd_le h0) hb'.len)
  have L1 := hide (show (dig (1 : Int).natAbs).length ≤ 2 from zlen_i 1 (by decide) (by decide))
  obtain ⟨D, hD⟩ : ∃ D, zcmp (Int.gcd x y : Int) 1 = D := ⟨_, rfl⟩
  have HD := hide hD
  have hD0 : (D == 0) = false := by
    rw [beq_eq_false_iff_ne, ← hD]
    unfold zcmp
    split
    · omega
    · split <;> omega
  have hDn : (D != 0) = true := by rw [bne, hD0]; rfl
  clear h0 hS hg hD
  obtain ⟨na, oa, ca, xs, rfl, hca, _, _, hxl⟩ := ha.open_
  obtain ⟨nb, ob, cb, ys, rfl, hcb, _, _, hyl⟩ := hb'.open_
  go_enter Tryd.func51, Tryd.ntmps51
  have hb := Below.refl w.heap.size w
  have hp := Bk.new w na (.slice oa xs.length ca)
  replace ha := ha.alloc (.cells #[.bool na, (.slice oa xs.length ca)] 36)
  replace hb' := hb'.alloc (.cells #[.bool na, (.slice oa xs.length ca)] 36)
  replace hb := hb.alloc hb.size (.cells #[.bool na, (.slice oa xs.length ca)] 36)
  have hq := Bk.new (w.alloc (.cells #[.bool na, (.slice oa xs.length ca)] 36)) nb (.slice ob ys.length cb)
  simp only [Bk.size_alloc] at hq
  replace ha := ha.alloc (.cells #[.bool nb, (.slice ob ys.length cb)] 36)
  replace hb' := hb'.alloc (.cells #[.bool nb, (.slice ob ys.length cb)] 36)
  replace hp := hp.alloc (.cells #[.bool nb, (.slice ob ys.length cb)] 36)
  replace hb := hb.alloc hb.size (.cells #[.bool nb, (.slice ob ys.length cb)] 36)
  have hz := Bk.new ((w.alloc (.cells #[.bool na, (.slice oa xs.length ca)] 36)).alloc (.cells #[.bool nb, (.slice ob ys.length cb)] 36)) false (.slice none 0 0)
  simp only [Bk.size_alloc] at hz
  replace ha := ha.alloc (.cells #[.bool false, (.slice none 0 0)] 36)
  replace hb' := hb'.alloc (.cells #[.bool false, (.slice none 0 0)] 36)
  replace hp := hp.alloc (.cells #[.bool false, (.slice none 0 0)] 36)
  replace hq := hq.alloc (.cells #[.bool false, (.slice none 0 0)] 36)
  replace hb := hb.alloc hb.size (.cells #[.bool false, (.slice none 0 0)] 36)
  have f_hq := hq.facts
  go_wp2_with fail
  refine (zsign_any hb' (by omega)).mono ?_
  rintro e w_1 ⟨rfl, hb_1⟩
  replace ha := ha.below hb_1 (Nat.le_refl _)
  replace hb' := hb'.below hb_1 (Nat.le_refl _)
  replace hp := hp.below hb_1 (Nat.le_refl _)
  replace hq := hq.below hb_1 (Nat.le_refl _)
  replace hz := hz.below hb_1 (Nat.le_refl _)
  replace hb := hb.trans (hb_1.mono hb.size)
  clear hb_1
  rw [HS.out]
  clear f_hq
  have f_hp := hp.facts
  have f_hq := hq.facts
  go_wp2_with fail
  refine (xgcd_any ha hb' (by omega) (by omega) H0.out).mono ?_
  rintro e w_2 ⟨v1, v2, v3, rfl, ⟨c, hxg, g1, g2, g3⟩, hb_2⟩
  replace ha := ha.below hb_2 (Nat.le_refl _)
  replace hb' := hb'.below hb_2 (Nat.le_refl _)
  replace hp := hp.below hb_2 (Nat.le_refl _)
  replace hq := hq.below hb_2 (Nat.le_refl _)
  replace hz := hz.below hb_2 (Nat.le_refl _)
  replace hb := hb.trans (hb_2.mono hb.size)
  clear hb_2
  replace hxg := hide hxg
  clear f_hp f_hq
  have kb_h6 := hb.size
  have ne_hp_h6 : w.heap.size ≠ w_2.heap.size := by have := hp.lt; (try simp only [Bk.size_alloc] at this); omega
  have ne_hq_h6 : w.heap.size + 1 ≠ w_2.heap.size := by have := hq.lt; (try simp only [Bk.size_alloc] at this); omega
  have ne_hz_h6 : w.heap.size + 1 + 1 ≠ w_2.heap.size := by have := hz.lt; (try simp only [Bk.size_alloc] at this); omega
  have h6 := Bk.new w_2 false (.slice none 0 0)
  replace ha := ha.alloc (.cells #[.bool false, (.slice none 0 0)] 36)
  replace hb' := hb'.alloc (.cells #[.bool false, (.slice none 0 0)] 36)
  replace hp := hp.alloc (.cells #[.bool false, (.slice none 0 0)] 36)
  replace hq := hq.alloc (.cells #[.bool false, (.slice none 0 0)] 36)
  replace hz := hz.alloc (.cells #[.bool false, (.slice none 0 0)] 36)
  replace g1 := g1.alloc (.cells #[.bool false, (.slice none 0 0)] 36)
  replace g2 := g2.alloc (.cells #[.bool false, (.slice none 0 0)] 36)
  replace g3 := g3.alloc (.cells #[.bool false, (.slice none 0 0)] 36)
  replace hb := hb.alloc hb.size (.cells #[.bool false, (.slice none 0 0)] 36)
  obtain ⟨w_3, hw_3⟩ : ∃ v, (w_2.alloc (.cells #[.bool false, (.slice none 0 0)] 36)) = v := ⟨_, rfl⟩
  rw [hw_3] at ha hb' hp hq hz g1 g2 g3 h6 hb
  have kb_h7 := hb.size
  have ne_hp_h7 : w.heap.size ≠ w_3.heap.size := by have := hp.lt; (try simp only [Bk.size_alloc] at this); omega
  have ne_hq_h7 : w.heap.size + 1 ≠ w_3.heap.size := by have := hq.lt; (try simp only [Bk.size_alloc] at this); omega
  have ne_hz_h7 : w.heap.size + 1 + 1 ≠ w_3.heap.size := by have := hz.lt; (try simp only [Bk.size_alloc] at this); omega
  have ne_h6_h7 : w_2.heap.size ≠ w_3.heap.size := by have := h6.lt; (try simp only [Bk.size_alloc] at this); omega
  have h7 := Bk.new w_3 false (.slice none 0 0)
  replace ha := ha.alloc (.cells #[.bool false, (.slice none 0 0)] 36)
  replace hb' := hb'.alloc (.cells #[.bool false, (.slice none 0 0)] 36)
  replace hp := hp.alloc (.cells #[.bool false, (.slice none 0 0)] 36)
  replace hq := hq.alloc (.cells #[.bool false, (.slice none 0 0)] 36)
  replace hz := hz.alloc (.cells #[.bool false, (.slice none 0 0)] 36)
  replace g1 := g1.alloc (.cells #[.bool false, (.slice none 0 0)] 36)
  replace g2 := g2.alloc (.cells #[.bool false, (.slice none 0 0)] 36)
  replace g3 := g3.alloc (.cells #[.bool false, (.slice none 0 0)] 36)
  replace h6 := h6.alloc (.cells #[.bool false, (.slice none 0 0)] 36)
  replace hb := hb.alloc hb.size (.cells #[.bool false, (.slice none 0 0)] 36)
  obtain ⟨w_4, hw_4⟩ : ∃ v, (w_3.alloc (.cells #[.bool false, (.slice none 0 0)] 36)) = v := ⟨_, rfl⟩
  rw [hw_4] at ha hb' hp hq hz g1 g2 g3 h6 h7 hb
  have kb_h8 := hb.size
  have ne_hp_h8 : w.heap.size ≠ w_4.heap.size := by have := hp.lt; (try simp only [Bk.size_alloc] at this); omega
  have ne_hq_h8 : w.heap.size + 1 ≠ w_4.heap.size := by have := hq.lt; (try simp only [Bk.size_alloc] at this); omega
  have ne_hz_h8 : w.heap.size + 1 + 1 ≠ w_4.heap.size := by have := hz.lt; (try simp only [Bk.size_alloc] at this); omega
  have ne_h6_h8 : w_2.heap.size ≠ w_4.heap.size := by have := h6.lt; (try simp only [Bk.size_alloc] at this); omega
  have ne_h7_h8 : w_3.heap.size ≠ w_4.heap.size := by have := h7.lt; (try simp only [Bk.size_alloc] at this); omega
  have h8 := Bk.new w_4 false (.slice none 0 0)
  replace ha := ha.alloc (.cells #[.bool false, (.slice none 0 0)] 36)
  replace hb' := hb'.alloc (.cells #[.bool false, (.slice none 0 0)] 36)
  replace hp := hp.alloc (.cells #[.bool false, (.slice none 0 0)] 36)
  replace hq := hq.alloc (.cells #[.bool false, (.slice none 0 0)] 36)
  replace hz := hz.alloc (.cells #[.bool false, (.slice none 0 0)] 36)
  replace g1 := g1.alloc (.cells #[.bool false, (.slice none 0 0)] 36)
  replace g2 := g2.alloc (.cells #[.bool false, (.slice none 0 0)] 36)
  replace g3 := g3.alloc (.cells #[.bool false, (.slice none 0 0)] 36)
  replace h6 := h6.alloc (.cells #[.bool false, (.slice none 0 0)] 36)
  replace h7 := h7.alloc (.cells #[.bool false, (.slice none 0 0)] 36)
  replace hb := hb.alloc hb.size (.cells #[.bool false, (.slice none 0 0)] 36)
  obtain ⟨w_5, hw_5⟩ : ∃ v, (w_4.alloc (.cells #[.bool false, (.slice none 0 0)] 36)) = v := ⟨_, rfl⟩
  rw [hw_5] at ha hb' hp hq hz g1 g2 g3 h6 h7 h8 hb
  obtain ⟨sb_h6, o_h6, n_h6, c_h6, rfl⟩ := g1.open2
  have f_h6 := h6.facts
  have ho := Bk.only w_5 (w_2.heap.size) sb_h6 (.slice o_h6 n_h6 c_h6)
  have hbx_ := h6.bx
  replace ha := ha.frame hbx_ ho
  replace hb' := hb'.frame hbx_ ho
  replace hp := hp.frame ho (by first | assumption | (apply Ne.symm; assumption) | (simp; done) | omega)
  replace hq := hq.frame ho (by first | assumption | (apply Ne.symm; assumption) | (simp; done) | omega)
  replace hz := hz.frame ho (by first | assumption | (apply Ne.symm; assumption) | (simp; done) | omega)
  replace g1 := g1.frame hbx_ ho
  replace g2 := g2.frame hbx_ ho
  replace g3 := g3.frame hbx_ ho
  replace h7 := h7.frame ho (by first | assumption | (apply Ne.symm; assumption) | (simp; done) | omega)
  replace h8 := h8.frame ho (by first | assumption | (apply Ne.symm; assumption) | (simp; done) | omega)
  replace h6 := h6.store sb_h6 (.slice o_h6 n_h6 c_h6)
  replace hb := (hb.setCell (p := ⟨w_2.heap.size, 0, none⟩) (show w.heap.size ≤ w_2.heap.size by first | assumption | (simp; done) | omega) (.bool sb_h6)).setCell (p := ⟨w_2.heap.size, 1, none⟩) (show w.heap.size ≤ w_2.heap.size by first | assumption | (simp; done) | omega) (.slice o_h6 n_h6 c_h6)
  clear ho hbx_
  obtain ⟨w_6, hw_6⟩ : ∃ v, ((w_5.setCell ⟨w_2.heap.size, 0, none⟩ (.bool sb_h6)).setCell ⟨w_2.heap.size, 1, none⟩ (.slice o_h6 n_h6 c_h6)) = v := ⟨_, rfl⟩
  rw [hw_6] at ha hb' hp hq hz g1 g2 g3 h6 h7 h8 hb
  obtain ⟨sb_h7, o_h7, n_h7, c_h7, rfl⟩ := g2.open2
  have f_h7 := h7.facts
  have ho := Bk.only w_6 (w_3.heap.size) sb_h7 (.slice o_h7 n_h7 c_h7)
  have hbx_ := h7.bx
  replace ha := ha.frame hbx_ ho
  replace hb' := hb'.frame hbx_ ho
  replace hp := hp.frame ho (by first | assumption | (apply Ne.symm; assumption) | (simp; done) | omega)
  replace hq := hq.frame ho (by first | assumption | (apply Ne.symm; assumption) | (simp; done) | omega)
  replace hz := hz.frame ho (by first | assumption | (apply Ne.symm; assumption) | (simp; done) | omega)
  replace g1 := g1.frame hbx_ ho
  replace g2 := g2.frame hbx_ ho
  replace g3 := g3.frame hbx_ ho
  replace h6 := h6.frame ho (by first | assumption | (apply Ne.symm; assumption) | (simp; done) | omega)
  replace h8 := h8.frame ho (by first | assumption | (apply Ne.symm; assumption) | (simp; done) | omega)
  replace h7 := h7.store sb_h7 (.slice o_h7 n_h7 c_h7)
  replace hb := (hb.setCell (p := ⟨w_3.heap.size, 0, none⟩) (show w.heap.size ≤ w_3.heap.size by first | assumption | (simp; done) | omega) (.bool sb_h7)).setCell (p := ⟨w_3.heap.size, 1, none⟩) (show w.heap.size ≤ w_3.heap.size by first | assumption | (simp; done) | omega) (.slice o_h7 n_h7 c_h7)
  clear ho hbx_
  obtain ⟨w_7, hw_7⟩ : ∃ v, ((w_6.setCell ⟨w_3.heap.size, 0, none⟩ (.bool sb_h7)).setCell ⟨w_3.heap.size, 1, none⟩ (.slice o_h7 n_h7 c_h7)) = v := ⟨_, rfl⟩
  rw [hw_7] at ha hb' hp hq hz g1 g2 g3 h6 h7 h8 hb
  obtain ⟨sb_h8, o_h8, n_h8, c_h8, rfl⟩ := g3.open2
  have f_h8 := h8.facts
  have ho := Bk.only w_7 (w_4.heap.size) sb_h8 (.slice o_h8 n_h8 c_h8)
  have hbx_ := h8.bx
  replace ha := ha.frame hbx_ ho
  replace hb' := hb'.frame hbx_ ho
  replace hp := hp.frame ho (by first | assumption | (apply Ne.symm; assumption) | (simp; done) | omega)
  replace hq := hq.frame ho (by first | assumption | (apply Ne.symm; assumption) | (simp; done) | omega)
  replace hz := hz.frame ho (by first | assumption | (apply Ne.symm; assumption) | (simp; done) | omega)
  replace g1 := g1.frame hbx_ ho
  replace g2 := g2.frame hbx_ ho
  replace g3 := g3.frame hbx_ ho
  replace h6 := h6.frame ho (by first | assumption | (apply Ne.symm; assumption) | (simp; done) | omega)
  replace h7 := h7.frame ho (by first | assumption | (apply Ne.symm; assumption) | (simp; done) | omega)
  replace h8 := h8.store sb_h8 (.slice o_h8 n_h8 c_h8)
  replace hb := (hb.setCell (p := ⟨w_4.heap.size, 0, none⟩) (show w.heap.size ≤ w_4.heap.size by first | assumption | (simp; done) | omega) (.bool sb_h8)).setCell (p := ⟨w_4.heap.size, 1, none⟩) (show w.heap.size ≤ w_4.heap.size by first | assumption | (simp; done) | omega) (.slice o_h8 n_h8 c_h8)
  clear ho hbx_
  obtain ⟨w_8, hw_8⟩ : ∃ v, ((w_7.setCell ⟨w_4.heap.size, 0, none⟩ (.bool sb_h8)).setCell ⟨w_4.heap.size, 1, none⟩ (.slice o_h8 n_h8 c_h8)) = v := ⟨_, rfl⟩
  rw [hw_8] at ha hb' hp hq hz g1 g2 g3 h6 h7 h8 hb
  replace ha := ha.drew
  replace hb' := hb'.drew
  replace hp := hp.drew
  replace hq := hq.drew
  replace hz := hz.drew
  replace g1 := g1.drew
  replace g2 := g2.drew
  replace g3 := g3.drew
  replace h6 := h6.drew
  replace h7 := h7.drew
  replace h8 := h8.drew
  replace hb := hb.drew
  go_wp2_with fail
  refine wp_region_pl [(0, false), (1, true), (2, true), (3, false)] (fun w' => w'.cell? ⟨w.heap.size, 0, none⟩ = some (.bool na) ∧ w'.cell? ⟨w.heap.size, 1, none⟩ = some (.slice oa xs.length ca) ∧ w'.cell? ⟨w.heap.size + 1, 0, none⟩ = some (.bool nb) ∧ w'.cell? ⟨w.heap.size + 1, 1, none⟩ = some (.slice ob ys.length cb) ∧ w'.cell? ⟨w_2.heap.size, 0, none⟩ = some (.bool sb_h6) ∧ w'.cell? ⟨w_2.heap.size, 1, none⟩ = some (.slice o_h6 n_h6 c_h6) ∧ w'.cell? ⟨w_3.heap.size, 0, none⟩ = some (.bool sb_h7) ∧ w'.cell? ⟨w_3.heap.size, 1, none⟩ = some (.slice o_h7 n_h7 c_h7) ∧ w'.cell? ⟨w_4.heap.size, 0, none⟩ = some (.bool sb_h8) ∧ w'.cell? ⟨w_4.heap.size, 1, none⟩ = some (.slice o_h8 n_h8 c_h8)) (by kernel_rfl) (by kernel_rfl) (by kernel_rfl) (by kernel_rfl) ⟨hp.facts.1, hp.facts.2.1, hq.facts.1, hq.facts.2.1, h6.facts.1, h6.facts.2.1, h7.facts.1, h7.facts.2.1, h8.facts.1, h8.facts.2.1⟩ ?_
  clear f_h6 f_h7 f_h8
  apply wpPl_ld
  case hi => rfl
  case h1 => intro w' hC K hK; obtain ⟨c0, c1, c2, c3, c4, c5, c6, c7, c8, c9⟩ := hC; (first | go_big_move | go_big_op); exact hK
  case hw => kernel_rfl
  case hv => kernel_rfl
  case hb => kernel_rfl
  case hp => kernel_rfl
  apply wpPl_call
  case hi => rfl
  case hw => kernel_rfl
  case h =>
  intro K hK
  have kz_9 := hz.lt
  have kb_9 := hb.size
  go_big_op
  go_fit (from_any (1 : Int) _ (by decide) (by decide))
  rintro e w_9 ⟨v4, rfl, g4, hb_9⟩
  replace ha := ha.below hb_9 (Nat.le_refl _)
  replace hb' := hb'.below hb_9 (Nat.le_refl _)
  replace hp := hp.below hb_9 (Nat.le_refl _)
  replace hq := hq.below hb_9 (Nat.le_refl _)
  replace hz := hz.below hb_9 (Nat.le_refl _)
  replace g1 := g1.below hb_9 (Nat.le_refl _)
  replace g2 := g2.below hb_9 (Nat.le_refl _)
  replace g3 := g3.below hb_9 (Nat.le_refl _)
  replace h6 := h6.below hb_9 (Nat.le_refl _)
  replace h7 := h7.below hb_9 (Nat.le_refl _)
  replace h8 := h8.below hb_9 (Nat.le_refl _)
  replace hb := hb.trans (hb_9.mono hb.size)
  refine hK _ _ rfl ⟨hp.facts.1, hp.facts.2.1, hq.facts.1, hq.facts.2.1, h6.facts.1, h6.facts.2.1, h7.facts.1, h7.facts.2.1, h8.facts.1, h8.facts.2.1⟩ ?_
  clear hK K hb_9
  apply wpPl_call
  case hi => rfl
  case hw => kernel_rfl
  case h =>
  intro K hK
  have kz_10 := hz.lt
  have kb_10 := hb.size
  go_big_op
  go_fit (zcmp_any (g1.zn LG.out) (g4.zn L1.out) (by omega) (by omega))
  rintro e w_10 ⟨rfl, hb_10⟩
  replace ha := ha.below hb_10 (Nat.le_refl _)
  replace hb' := hb'.below hb_10 (Nat.le_refl _)
  replace hp := hp.below hb_10 (Nat.le_refl _)
  replace hq := hq.below hb_10 (Nat.le_refl _)
  replace hz := hz.below hb_10 (Nat.le_refl _)
  replace g1 := g1.below hb_10 (Nat.le_refl _)
  replace g2 := g2.below hb_10 (Nat.le_refl _)
  replace g3 := g3.below hb_10 (Nat.le_refl _)
  replace h6 := h6.below hb_10 (Nat.le_refl _)
  replace h7 := h7.below hb_10 (Nat.le_refl _)
  replace h8 := h8.below hb_10 (Nat.le_refl _)
  replace g4 := g4.below hb_10 (Nat.le_refl _)
  replace hb := hb.trans (hb_10.mono hb.size)
  refine hK _ _ rfl ⟨hp.facts.1, hp.facts.2.1, hq.facts.1, hq.facts.2.1, h6.facts.1, h6.facts.2.1, h7.facts.1, h7.facts.2.1, h8.facts.1, h8.facts.2.1⟩ ?_
  clear hK K hb_10
  rw [HD.out]
  clear g4
  apply wpPl_ld
  case hi => rfl
  case h1 => intro w' hC K hK; obtain ⟨c0, c1, c2, c3, c4, c5, c6, c7, c8, c9⟩ := hC; (first | go_big_move | go_big_op); exact hK
  case hw => kernel_rfl
  case hv => kernel_rfl
  case hb => kernel_rfl
  case hp => kernel_rfl
  apply wpPl_end
  have f_hz := hz.facts
  have ho := Bk.only w_10 (w.heap.size + 1 + 1) false (.slice none 0 0)
  have hbx_ := hz.bx
  replace ha := ha.frame hbx_ ho
  replace hb' := hb'.frame hbx_ ho
  replace hp := hp.frame ho (by first | assumption | (apply Ne.symm; assumption) | (simp; done) | omega)
  replace hq := hq.frame ho (by first | assumption | (apply Ne.symm; assumption) | (simp; done) | omega)
  replace g1 := g1.frame hbx_ ho
  replace g2 := g2.frame hbx_ ho
  replace g3 := g3.frame hbx_ ho
  replace h6 := h6.frame ho (by first | assumption | (apply Ne.symm; assumption) | (simp; done) | omega)
  replace h7 := h7.frame ho (by first | assumption | (apply Ne.symm; assumption) | (simp; done) | omega)
  replace h8 := h8.frame ho (by first | assumption | (apply Ne.symm; assumption) | (simp; done) | omega)
  replace hz := hz.store false (.slice none 0 0)
  replace hb := (hb.setCell (p := ⟨w.heap.size + 1 + 1, 0, none⟩) (show w.heap.size ≤ w.heap.size + 1 + 1 by first | assumption | (simp; done) | omega) (.bool false)).setCell (p := ⟨w.heap.size + 1 + 1, 1, none⟩) (show w.heap.size ≤ w.heap.size + 1 + 1 by first | assumption | (simp; done) | omega) (.slice none 0 0)
  clear ho hbx_
  obtain ⟨w_11, hw_11⟩ : ∃ v, ((w_10.setCell ⟨w.heap.size + 1 + 1, 0, none⟩ (.bool false)).setCell ⟨w.heap.size + 1 + 1, 1, none⟩ (.slice none 0 0)) = v := ⟨_, rfl⟩
  rw [hw_11] at ha hb' hp hq hz g1 g2 g3 h6 h7 h8 hb
  have f1 := hz.facts
  go_wp2
  refine bodyPost_ret (v := .tuple #[.agg #[.bool false, .slice none 0 0], .int .i64 10]) (by simp [results, Tryd.results51, go_sem, f1.1, f1.2.1]) rfl ?_
  exact ⟨rfl, hb⟩

set_option maxHeartbeats 4000000 in
set_option maxRecDepth 20000 in
/-- zint.Inverse where there is one. -/
theorem zinv_any {w : World} {va vb : Value} {x y : Int} {l m : Nat} (ha : ZN w va x l) (hb' : ZN w vb y m) (hl : l ≤ 20000000) (hm : m ≤ 20000000) (h0 : y ≠ 0) (hg : Int.gcd x y = 1) :
    Calls Tryd.prog 51 #[va, vb] w fun e w' => ∃ v, e = .returned (.tuple #[v, .int .i64 0]) ∧ (∃ c : Int, XG x y c ∧ ZO w' w.heap.size v c) ∧ Below w.heap.size w w' := by
  obtain ⟨S, hS⟩ : ∃ S, y.sign = S := ⟨_, rfl⟩
  have hS0 : (S == 0) = false := by rw [beq_eq_false_iff_ne, ← hS]; exact fun h => h0 (Int.sign_eq_zero_iff_zero.1 h)
  have HS := hide hS
  have H0 := hide h0
  have LG := hide (show (dig ((Int.gcd x y : Int)).natAbs).length ≤ m from len_le (gcd_le h0) hb'.len)
  have L1 := hide (show (dig (1 : Int).natAbs).length ≤ 2 from zlen_i 1 (by decide) (by decide))
  have HD := hide (show zcmp (Int.gcd x y : Int) 1 = 0 from zcmp_eq (by rw [hg]; rfl))
  have e0 : ((0 : Int) != 0) = false := rfl
  clear h0 hS hg
  obtain ⟨na, oa, ca, xs, rfl, hca, _, _, hxl⟩ := ha.open_
  obtain ⟨nb, ob, cb, ys, rfl, hcb, _, _, hyl⟩ := hb'.open_
  go_enter Tryd.func51, Tryd.ntmps51
  have hb := Below.refl w.heap.size w
  have hp := Bk.new w na (.slice oa xs.length ca)
  replace ha := ha.alloc (.cells #[.bool na, (.slice oa xs.length ca)] 36)
  replace hb' := hb'.alloc (.cells #[.bool na, (.slice oa xs.length ca)] 36)
  replace hb := hb.alloc hb.size (.cells #[.bool na, (.slice oa xs.length ca)] 36)
  have hq := Bk.new (w.alloc (.cells #[.bool na, (.slice oa xs.length ca)] 36)) nb (.slice ob ys.length cb)
  simp only [Bk.size_alloc] at hq
  replace ha := ha.alloc (.cells #[.bool nb, (.slice ob ys.length cb)] 36)
  replace hb' := hb'.alloc (.cells #[.bool nb, (.slice ob ys.length cb)] 36)
  replace hp := hp.alloc (.cells #[.bool nb, (.slice ob ys.length cb)] 36)
  replace hb := hb.alloc hb.size (.cells #[.bool nb, (.slice ob ys.length cb)] 36)
  have hz := Bk.new ((w.alloc (.cells #[.bool na, (.slice oa xs.length ca)] 36)).alloc (.cells #[.bool nb, (.slice ob ys.length cb)] 36)) false (.slice none 0 0)
  simp only [Bk.size_alloc] at hz
  replace ha := ha.alloc (.cells #[.bool false, (.slice none 0 0)] 36)
  replace hb' := hb'.alloc (.cells #[.bool false, (.slice none 0 0)] 36)
  replace hp := hp.alloc (.cells #[.bool false, (.slice none 0 0)] 36)
  replace hq := hq.alloc (.cells #[.bool false, (.slice none 0 0)] 36)
  replace hb := hb.alloc hb.size (.cells #[.bool false, (.slice none 0 0)] 36)
  have f_hq := hq.facts
  go_wp2_with fail
  refine (zsign_any hb' (by omega)).mono ?_
  rintro e w_1 ⟨rfl, hb_1⟩
  replace ha := ha.below hb_1 (Nat.le_refl _)
  replace hb' := hb'.below hb_1 (Nat.le_refl _)
  replace hp := hp.below hb_1 (Nat.le_refl _)
  replace hq := hq.below hb_1 (Nat.le_refl _)
  replace hz := hz.below hb_1 (Nat.le_refl _)
  replace hb := hb.trans (hb_1.mono hb.size)
  clear hb_1
  rw [HS.out]
  clear f_hq
  have f_hp := hp.facts
  have f_hq := hq.facts
  go_wp2_with fail
  refine (xgcd_any ha hb' (by omega) (by omega) H0.out).mono ?_
  rintro e w_2 ⟨v1, v2, v3, rfl, ⟨c, hxg, g1, g2, g3⟩, hb_2⟩
  replace ha := ha.below hb_2 (Nat.le_refl _)
  replace hb' := hb'.below hb_2 (Nat.le_refl _)
  replace hp := hp.below hb_2 (Nat.le_refl _)
  replace hq := hq.below hb_2 (Nat.le_refl _)
  replace hz := hz.below hb_2 (Nat.le_refl _)
  have kk1 := hb.size
  replace hb := hb.trans (hb_2.mono hb.size)
  clear hb_2
  replace hxg := hide hxg
  clear f_hp f_hq
  have kb_h6 := hb.size
  have ne_hp_h6 : w.heap.size ≠ w_2.heap.size := by have := hp.lt; (try simp only [Bk.size_alloc] at this); omega
  have ne_hq_h6 : w.heap.size + 1 ≠ w_2.heap.size := by have := hq.lt; (try simp only [Bk.size_alloc] at this); omega
  have ne_hz_h6 : w.heap.size + 1 + 1 ≠ w_2.heap.size := by have := hz.lt; (try simp only [Bk.size_alloc] at this); omega
  have h6 := Bk.new w_2 false (.slice none 0 0)
  replace ha := ha.alloc (.cells #[.bool false, (.slice none 0 0)] 36)
  replace hb' := hb'.alloc (.cells #[.bool false, (.slice none 0 0)] 36)
  replace hp := hp.alloc (.cells #[.bool false, (.slice none 0 0)] 36)
  replace hq := hq.alloc (.cells #[.bool false, (.slice none 0 0)] 36)
  replace hz := hz.alloc (.cells #[.bool false, (.slice none 0 0)] 36)
  replace g1 := g1.alloc (.cells #[.bool false, (.slice none 0 0)] 36)
  replace g2 := g2.alloc (.cells #[.bool false, (.slice none 0 0)] 36)
  replace g3 := g3.alloc (.cells #[.bool false, (.slice none 0 0)] 36)
  replace hb := hb.alloc hb.size (.cells #[.bool false, (.slice none 0 0)] 36)
  obtain ⟨w_3, hw_3⟩ : ∃ v, (w_2.alloc (.cells #[.bool false, (.slice none 0 0)] 36)) = v := ⟨_, rfl⟩
  rw [hw_3] at ha hb' hp hq hz g1 g2 g3 h6 hb
  have kb_h7 := hb.size
  have ne_hp_h7 : w.heap.size ≠ w_3.heap.size := by have := hp.lt; (try simp only [Bk.size_alloc] at this); omega
  have ne_hq_h7 : w.heap.size + 1 ≠ w_3.heap.size := by have := hq.lt; (try simp only [Bk.size_alloc] at this); omega
  have ne_hz_h7 : w.heap.size + 1 + 1 ≠ w_3.heap.size := by have := hz.lt; (try simp only [Bk.size_alloc] at this); omega
  have ne_h6_h7 : w_2.heap.size ≠ w_3.heap.size := by have := h6.lt; (try simp only [Bk.size_alloc] at this); omega
  have h7 := Bk.new w_3 false (.slice none 0 0)
  replace ha := ha.alloc (.cells #[.bool false, (.slice none 0 0)] 36)
  replace hb' := hb'.alloc (.cells #[.bool false, (.slice none 0 0)] 36)
  replace hp := hp.alloc (.cells #[.bool false, (.slice none 0 0)] 36)
  replace hq := hq.alloc (.cells #[.bool false, (.slice none 0 0)] 36)
  replace hz := hz.alloc (.cells #[.bool false, (.slice none 0 0)] 36)
  replace g1 := g1.alloc (.cells #[.bool false, (.slice none 0 0)] 36)
  replace g2 := g2.alloc (.cells #[.bool false, (.slice none 0 0)] 36)
  replace g3 := g3.alloc (.cells #[.bool false, (.slice none 0 0)] 36)
  replace h6 := h6.alloc (.cells #[.bool false, (.slice none 0 0)] 36)
  replace hb := hb.alloc hb.size (.cells #[.bool false, (.slice none 0 0)] 36)
  obtain ⟨w_4, hw_4⟩ : ∃ v, (w_3.alloc (.cells #[.bool false, (.slice none 0 0)] 36)) = v := ⟨_, rfl⟩
  rw [hw_4] at ha hb' hp hq hz g1 g2 g3 h6 h7 hb
  have kb_h8 := hb.size
  have ne_hp_h8 : w.heap.size ≠ w_4.heap.size := by have := hp.lt; (try simp only [Bk.size_alloc] at this); omega
  have ne_hq_h8 : w.heap.size + 1 ≠ w_4.heap.size := by have := hq.lt; (try simp only [Bk.size_alloc] at this); omega
  have ne_hz_h8 : w.heap.size + 1 + 1 ≠ w_4.heap.size := by have := hz.lt; (try simp only [Bk.size_alloc] at this); omega
  have ne_h6_h8 : w_2.heap.size ≠ w_4.heap.size := by have := h6.lt; (try simp only [Bk.size_alloc] at this); omega
  have ne_h7_h8 : w_3.heap.size ≠ w_4.heap.size := by have := h7.lt; (try simp only [Bk.size_alloc] at this); omega
  have h8 := Bk.new w_4 false (.slice none 0 0)
  replace ha := ha.alloc (.cells #[.bool false, (.slice none 0 0)] 36)
  replace hb' := hb'.alloc (.cells #[.bool false, (.slice none 0 0)] 36)
  replace hp := hp.alloc (.cells #[.bool false, (.slice none 0 0)] 36)
  replace hq := hq.alloc (.cells #[.bool false, (.slice none 0 0)] 36)
  replace hz := hz.alloc (.cells #[.bool false, (.slice none 0 0)] 36)
  replace g1 := g1.alloc (.cells #[.bool false, (.slice none 0 0)] 36)
  replace g2 := g2.alloc (.cells #[.bool false, (.slice none 0 0)] 36)
  replace g3 := g3.alloc (.cells #[.bool false, (.slice none 0 0)] 36)
  replace h6 := h6.alloc (.cells #[.bool false, (.slice none 0 0)] 36)
  replace h7 := h7.alloc (.cells #[.bool false, (.slice none 0 0)] 36)
  replace hb := hb.alloc hb.size (.cells #[.bool false, (.slice none 0 0)] 36)
  obtain ⟨w_5, hw_5⟩ : ∃ v, (w_4.alloc (.cells #[.bool false, (.slice none 0 0)] 36)) = v := ⟨_, rfl⟩
  rw [hw_5] at ha hb' hp hq hz g1 g2 g3 h6 h7 h8 hb
  obtain ⟨sb_h6, o_h6, n_h6, c_h6, rfl⟩ := g1.open2
  have f_h6 := h6.facts
  have ho := Bk.only w_5 (w_2.heap.size) sb_h6 (.slice o_h6 n_h6 c_h6)
  have hbx_ := h6.bx
  replace ha := ha.frame hbx_ ho
  replace hb' := hb'.frame hbx_ ho
  replace hp := hp.frame ho (by first | assumption | (apply Ne.symm; assumption) | (simp; done) | omega)
  replace hq := hq.frame ho (by first | assumption | (apply Ne.symm; assumption) | (simp; done) | omega)
  replace hz := hz.frame ho (by first | assumption | (apply Ne.symm; assumption) | (simp; done) | omega)
  replace g1 := g1.frame hbx_ ho
  replace g2 := g2.frame hbx_ ho
  replace g3 := g3.frame hbx_ ho
  replace h7 := h7.frame ho (by first | assumption | (apply Ne.symm; assumption) | (simp; done) | omega)
  replace h8 := h8.frame ho (by first | assumption | (apply Ne.symm; assumption) | (simp; done) | omega)
  replace h6 := h6.store sb_h6 (.slice o_h6 n_h6 c_h6)
  replace hb := (hb.setCell (p := ⟨w_2.heap.size, 0, none⟩) (show w.heap.size ≤ w_2.heap.size by first | assumption | (simp; done) | omega) (.bool sb_h6)).setCell (p := ⟨w_2.heap.size, 1, none⟩) (show w.heap.size ≤ w_2.heap.size by first | assumption | (simp; done) | omega) (.slice o_h6 n_h6 c_h6)
  clear ho hbx_
  obtain ⟨w_6, hw_6⟩ : ∃ v, ((w_5.setCell ⟨w_2.heap.size, 0, none⟩ (.bool sb_h6)).setCell ⟨w_2.heap.size, 1, none⟩ (.slice o_h6 n_h6 c_h6)) = v := ⟨_, rfl⟩
  rw [hw_6] at ha hb' hp hq hz g1 g2 g3 h6 h7 h8 hb
  obtain ⟨sb_h7, o_h7, n_h7, c_h7, rfl⟩ := g2.open2
  have f_h7 := h7.facts
  have ho := Bk.only w_6 (w_3.heap.size) sb_h7 (.slice o_h7 n_h7 c_h7)
  have hbx_ := h7.bx
  replace ha := ha.frame hbx_ ho
  replace hb' := hb'.frame hbx_ ho
  replace hp := hp.frame ho (by first | assumption | (apply Ne.symm; assumption) | (simp; done) | omega)
  replace hq := hq.frame ho (by first | assumption | (apply Ne.symm; assumption) | (simp; done) | omega)
  replace hz := hz.frame ho (by first | assumption | (apply Ne.symm; assumption) | (simp; done) | omega)
  replace g1 := g1.frame hbx_ ho
  replace g2 := g2.frame hbx_ ho
  replace g3 := g3.frame hbx_ ho
  replace h6 := h6.frame ho (by first | assumption | (apply Ne.symm; assumption) | (simp; done) | omega)
  replace h8 := h8.frame ho (by first | assumption | (apply Ne.symm; assumption) | (simp; done) | omega)
  replace h7 := h7.store sb_h7 (.slice o_h7 n_h7 c_h7)
  replace hb := (hb.setCell (p := ⟨w_3.heap.size, 0, none⟩) (show w.heap.size ≤ w_3.heap.size by first | assumption | (simp; done) | omega) (.bool sb_h7)).setCell (p := ⟨w_3.heap.size, 1, none⟩) (show w.heap.size ≤ w_3.heap.size by first | assumption | (simp; done) | omega) (.slice o_h7 n_h7 c_h7)
  clear ho hbx_
  obtain ⟨w_7, hw_7⟩ : ∃ v, ((w_6.setCell ⟨w_3.heap.size, 0, none⟩ (.bool sb_h7)).setCell ⟨w_3.heap.size, 1, none⟩ (.slice o_h7 n_h7 c_h7)) = v := ⟨_, rfl⟩
  rw [hw_7] at ha hb' hp hq hz g1 g2 g3 h6 h7 h8 hb
  obtain ⟨sb_h8, o_h8, n_h8, c_h8, rfl⟩ := g3.open2
  have f_h8 := h8.facts
  have ho := Bk.only w_7 (w_4.heap.size) sb_h8 (.slice o_h8 n_h8 c_h8)
  have hbx_ := h8.bx
  replace ha := ha.frame hbx_ ho
  replace hb' := hb'.frame hbx_ ho
  replace hp := hp.frame ho (by first | assumption | (apply Ne.symm; assumption) | (simp; done) | omega)
  replace hq := hq.frame ho (by first | assumption | (apply Ne.symm; assumption) | (simp; done) | omega)
  replace hz := hz.frame ho (by first | assumption | (apply Ne.symm; assumption) | (simp; done) | omega)
  replace g1 := g1.frame hbx_ ho
  replace g2 := g2.frame hbx_ ho
  replace g3 := g3.frame hbx_ ho
  replace h6 := h6.frame ho (by first | assumption | (apply Ne.symm; assumption) | (simp; done) | omega)
  replace h7 := h7.frame ho (by first | assumption | (apply Ne.symm; assumption) | (simp; done) | omega)
  replace h8 := h8.store sb_h8 (.slice o_h8 n_h8 c_h8)
  replace hb := (hb.setCell (p := ⟨w_4.heap.size, 0, none⟩) (show w.heap.size ≤ w_4.heap.size by first | assumption | (simp; done) | omega) (.bool sb_h8)).setCell (p := ⟨w_4.heap.size, 1, none⟩) (show w.heap.size ≤ w_4.heap.size by first | assumption | (simp; done) | omega) (.slice o_h8 n_h8 c_h8)
  clear ho hbx_
  obtain ⟨w_8, hw_8⟩ : ∃ v, ((w_7.setCell ⟨w_4.heap.size, 0, none⟩ (.bool sb_h8)).setCell ⟨w_4.heap.size, 1, none⟩ (.slice o_h8 n_h8 c_h8)) = v := ⟨_, rfl⟩
  rw [hw_8] at ha hb' hp hq hz g1 g2 g3 h6 h7 h8 hb
  replace ha := ha.drew
  replace hb' := hb'.drew
  replace hp := hp.drew
  replace hq := hq.drew
  replace hz := hz.drew
  replace g1 := g1.drew
  replace g2 := g2.drew
  replace g3 := g3.drew
  replace h6 := h6.drew
  replace h7 := h7.drew
  replace h8 := h8.drew
  replace hb := hb.drew
  go_wp2_with fail
  refine wp_region_pl [(0, false), (1, true), (2, true), (3, false)] (fun w' => w'.cell? ⟨w.heap.size, 0, none⟩ = some (.bool na) ∧ w'.cell? ⟨w.heap.size, 1, none⟩ = some (.slice oa xs.length ca) ∧ w'.cell? ⟨w.heap.size + 1, 0, none⟩ = some (.bool nb) ∧ w'.cell? ⟨w.heap.size + 1, 1, none⟩ = some (.slice ob ys.length cb) ∧ w'.cell? ⟨w_2.heap.size, 0, none⟩ = some (.bool sb_h6) ∧ w'.cell? ⟨w_2.heap.size, 1, none⟩ = some (.slice o_h6 n_h6 c_h6) ∧ w'.cell? ⟨w_3.heap.size, 0, none⟩ = some (.bool sb_h7) ∧ w'.cell? ⟨w_3.heap.size, 1, none⟩ = some (.slice o_h7 n_h7 c_h7) ∧ w'.cell? ⟨w_4.heap.size, 0, none⟩ = some (.bool sb_h8) ∧ w'.cell? ⟨w_4.heap.size, 1, none⟩ = some (.slice o_h8 n_h8 c_h8)) (by kernel_rfl) (by kernel_rfl) (by kernel_rfl) (by kernel_rfl) ⟨hp.facts.1, hp.facts.2.1, hq.facts.1, hq.facts.2.1, h6.facts.1, h6.facts.2.1, h7.facts.1, h7.facts.2.1, h8.facts.1, h8.facts.2.1⟩ ?_
  clear f_h6 f_h7 f_h8
  apply wpPl_ld
  case hi => rfl
  case h1 => intro w' hC K hK; obtain ⟨c0, c1, c2, c3, c4, c5, c6, c7, c8, c9⟩ := hC; (first | go_big_move | go_big_op); exact hK
  case hw => kernel_rfl
  case hv => kernel_rfl
  case hb => kernel_rfl
  case hp => kernel_rfl
  apply wpPl_call
  case hi => rfl
  case hw => kernel_rfl
  case h =>
  intro K hK
  have kz_9 := hz.lt
  have kb_9 := hb.size
  go_big_op
  go_fit (from_any (1 : Int) _ (by decide) (by decide))
  rintro e w_9 ⟨v4, rfl, g4, hb_9⟩
  replace ha := ha.below hb_9 (Nat.le_refl _)
  replace hb' := hb'.below hb_9 (Nat.le_refl _)
  replace hp := hp.below hb_9 (Nat.le_refl _)
  replace hq := hq.below hb_9 (Nat.le_refl _)
  replace hz := hz.below hb_9 (Nat.le_refl _)
  replace g1 := g1.below hb_9 (Nat.le_refl _)
  replace g2 := g2.below hb_9 (Nat.le_refl _)
  replace g3 := g3.below hb_9 (Nat.le_refl _)
  replace h6 := h6.below hb_9 (Nat.le_refl _)
  replace h7 := h7.below hb_9 (Nat.le_refl _)
  replace h8 := h8.below hb_9 (Nat.le_refl _)
  replace hb := hb.trans (hb_9.mono hb.size)
  refine hK _ _ rfl ⟨hp.facts.1, hp.facts.2.1, hq.facts.1, hq.facts.2.1, h6.facts.1, h6.facts.2.1, h7.facts.1, h7.facts.2.1, h8.facts.1, h8.facts.2.1⟩ ?_
  clear hK K hb_9
  apply wpPl_call
  case hi => rfl
  case hw => kernel_rfl
  case h =>
  intro K hK
  have kz_10 := hz.lt
  have kb_10 := hb.size
  go_big_op
  go_fit (zcmp_any (g1.zn LG.out) (g4.zn L1.out) (by omega) (by omega))
  rintro e w_10 ⟨rfl, hb_10⟩
  replace ha := ha.below hb_10 (Nat.le_refl _)
  replace hb' := hb'.below hb_10 (Nat.le_refl _)
  replace hp := hp.below hb_10 (Nat.le_refl _)
  replace hq := hq.below hb_10 (Nat.le_refl _)
  replace hz := hz.below hb_10 (Nat.le_refl _)
  replace g1 := g1.below hb_10 (Nat.le_refl _)
  replace g2 := g2.below hb_10 (Nat.le_refl _)
  replace g3 := g3.below hb_10 (Nat.le_refl _)
  replace h6 := h6.below hb_10 (Nat.le_refl _)
  replace h7 := h7.below hb_10 (Nat.le_refl _)
  replace h8 := h8.below hb_10 (Nat.le_refl _)
  replace g4 := g4.below hb_10 (Nat.le_refl _)
  replace hb := hb.trans (hb_10.mono hb.size)
  refine hK _ _ rfl ⟨hp.facts.1, hp.facts.2.1, hq.facts.1, hq.facts.2.1, h6.facts.1, h6.facts.2.1, h7.facts.1, h7.facts.2.1, h8.facts.1, h8.facts.2.1⟩ ?_
  clear hK K hb_10
  rw [HD.out]
  clear g4
  apply wpPl_ld
  case hi => rfl
  case h1 => intro w' hC K hK; obtain ⟨c0, c1, c2, c3, c4, c5, c6, c7, c8, c9⟩ := hC; (first | go_big_move | go_big_op); exact hK
  case hw => kernel_rfl
  case hv => kernel_rfl
  case hb => kernel_rfl
  case hp => kernel_rfl
  apply wpPl_end
  have f_h7 := h7.facts
  have f_hz := hz.facts
  have ho := Bk.only w_10 (w.heap.size + 1 + 1) sb_h7 (.slice o_h7 n_h7 c_h7)
  have hbx_ := hz.bx
  replace ha := ha.frame hbx_ ho
  replace hb' := hb'.frame hbx_ ho
  replace hp := hp.frame ho (by first | assumption | (apply Ne.symm; assumption) | (simp; done) | omega)
  replace hq := hq.frame ho (by first | assumption | (apply Ne.symm; assumption) | (simp; done) | omega)
  replace g1 := g1.frame hbx_ ho
  replace g2 := g2.frame hbx_ ho
  replace g3 := g3.frame hbx_ ho
  replace h6 := h6.frame ho (by first | assumption | (apply Ne.symm; assumption) | (simp; done) | omega)
  replace h7 := h7.frame ho (by first | assumption | (apply Ne.symm; assumption) | (simp; done) | omega)
  replace h8 := h8.frame ho (by first | assumption | (apply Ne.symm; assumption) | (simp; done) | omega)
  replace hz := hz.store sb_h7 (.slice o_h7 n_h7 c_h7)
  replace hb := (hb.setCell (p := ⟨w.heap.size + 1 + 1, 0, none⟩) (show w.heap.size ≤ w.heap.size + 1 + 1 by first | assumption | (simp; done) | omega) (.bool sb_h7)).setCell (p := ⟨w.heap.size + 1 + 1, 1, none⟩) (show w.heap.size ≤ w.heap.size + 1 + 1 by first | assumption | (simp; done) | omega) (.slice o_h7 n_h7 c_h7)
  clear ho hbx_
  obtain ⟨w_11, hw_11⟩ : ∃ v, ((w_10.setCell ⟨w.heap.size + 1 + 1, 0, none⟩ (.bool sb_h7)).setCell ⟨w.heap.size + 1 + 1, 1, none⟩ (.slice o_h7 n_h7 c_h7)) = v := ⟨_, rfl⟩
  rw [hw_11] at ha hb' hp hq hz g1 g2 g3 h6 h7 h8 hb
  have f1 := hz.facts
  go_wp2
  refine bodyPost_ret (v := .tuple #[.agg #[.bool sb_h7, .slice o_h7 n_h7 c_h7], .int .i64 0]) (by simp [results, Tryd.results51, go_sem, f1.1, f1.2.1]) rfl ?_
  exact ⟨_, rfl, ⟨c, hxg.out, g2.mono (by omega)⟩, hb⟩
end Go.Proofs.YtjcfhbekpmpbeaaDoor
