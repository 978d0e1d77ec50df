/- zint's reference: Cmp, Same. -/
import Derived.Test.YtjcfhbekpmpbeaaDoorY4
namespace Go.Proofs.YtjcfhbekpmpbeaaDoor
open Go.RowKit Dig

theorem zlen_add {x y : Int} {l m : Nat} (hx : (dig x.natAbs).length ≤ l) (hy : (dig y.natAbs).length ≤ m) : (dig (x + y).natAbs).length ≤ l + m + 1 := by
  refine dig_length_le ?_
  have h1 := Nat.lt_of_lt_of_le (lt_pw_dig x.natAbs) (pw_mono (Nat.le_trans hx (Nat.le_add_right l m)))
  have h2 := Nat.lt_of_lt_of_le (lt_pw_dig y.natAbs) (pw_mono (Nat.le_trans hy (Nat.le_add_left m l)))
  have h3 : (x + y).natAbs ≤ x.natAbs + y.natAbs := Int.natAbs_add_le x y
  simp only [pw]; omega
theorem zlen_sub {x y : Int} {l m : Nat} (hx : (dig x.natAbs).length ≤ l) (hy : (dig y.natAbs).length ≤ m) : (dig (x - y).natAbs).length ≤ l + m + 1 := by
  rw [Int.sub_eq_add_neg]
  exact zlen_add hx (by rw [Int.natAbs_neg]; exact hy)

theorem same_rz {w : World} {va vb : Value} {ds : List Nat} (hx : Rd w va ds) (hy : Rd w vb ds) (hl : ds.length ≤ 1000000000) :
    Calls Tryd.prog 55 #[va, vb] w fun e w' => e = .returned (.bool true) ∧ Below w.heap.size w w' := by
  obtain ⟨oa, ca, rfl, hca, okx, hcx⟩ := hx
  obtain ⟨ob, cb, rfl, hcb, oky, hcy⟩ := hy
  refine (same_any oa ob ca cb ds ds w (by omega) (by omega) hcx hcy).mono ?_
  rintro e w1 ⟨rfl, h⟩
  exact ⟨by simp, h⟩

set_option maxHeartbeats 1000000 in
set_option maxRecDepth 20000 in
/-- tesselref2.Same of two canonical forms of one number. -/
theorem rsame_zz {w : World} {va vb : Value} {z : Int} {l : Nat} (ha : ZC w va z) (hw : ZN w vb z l) (hl : l ≤ 1000000000) :
    Calls Tryd.prog 47 #[va, vb] w fun e w' => e = .returned (.bool true) ∧ Below w.heap.size w w' := by
  have hlen := Nat.le_trans hw.len hl
  obtain ⟨sa, rfl, hx⟩ := ha
  have hx' := hx
  obtain ⟨oa, ca, rfl, _, _⟩ := hx'
  have hwn := hw
  obtain ⟨nb, ob, cb, ys, rfl, _, _, _, _⟩ := hw.open_
  obtain ⟨sb, hsb⟩ : ∃ sb, decide (z < 0) = sb := ⟨_, rfl⟩
  obtain ⟨n, hn⟩ : ∃ n, (dig z.natAbs).length = n := ⟨_, rfl⟩
  rw [hn] at hx hlen ⊢
  rw [hsb]
  have HSB := hide (And.intro hsb hn)
  have HLEN := hide hlen
  clear hsb hn hlen hw
  have hbq : (sb == sb) = true := by simp
  go_enter Tryd.func47, Tryd.ntmps47
  have hb := Below.refl w.heap.size w
  have hp := Bk.new w sb (.slice oa n ca)
  replace hx := hx.alloc (.cells #[.bool sb, (.slice oa n ca)] 36)
  replace hwn := hwn.alloc (.cells #[.bool sb, (.slice oa n ca)] 36)
  replace hb := hb.alloc hb.size (.cells #[.bool sb, (.slice oa n ca)] 36)
  have hq := Bk.new (w.alloc (.cells #[.bool sb, (.slice oa n ca)] 36)) nb (.slice ob ys.length cb)
  simp only [Bk.size_alloc] at hq
  replace hx := hx.alloc (.cells #[.bool nb, (.slice ob ys.length cb)] 36)
  replace hwn := hwn.alloc (.cells #[.bool nb, (.slice ob ys.length cb)] 36)
  replace hp := hp.alloc (.cells #[.bool nb, (.slice ob ys.length cb)] 36)
  replace hb := hb.alloc hb.size (.cells #[.bool nb, (.slice ob ys.length cb)] 36)
  go_wp2_with fail
  refine (rnorm_any hwn hl).mono ?_
  rintro e w_1 ⟨v, rfl, hv, hb_1⟩
  replace hx := hx.below hb_1 (Nat.le_refl _)
  replace hwn := hwn.below hb_1 (Nat.le_refl _)
  replace hp := hp.below hb_1 (Nat.le_refl _)
  replace hq := hq.below hb_1 (Nat.le_refl _)
  replace hb := hb.trans (hb_1.mono hb.size)
  clear hb_1
  obtain ⟨sv, rfl, hy, _⟩ := hv
  have hy' := hy
  obtain ⟨o5, c5, rfl, _, _⟩ := hy'
  rw [HSB.out.2] at hy ⊢
  rw [HSB.out.1]
  have hn' := (Bk.new w_1 sb (.slice o5 n c5)).facts
  replace hx := hx.alloc (.cells #[.bool sb, .slice o5 n c5] 36)
  replace hwn := hwn.alloc (.cells #[.bool sb, .slice o5 n c5] 36)
  replace hp := hp.alloc (.cells #[.bool sb, .slice o5 n c5] 36)
  replace hq := hq.alloc (.cells #[.bool sb, .slice o5 n c5] 36)
  replace hy := hy.alloc (.cells #[.bool sb, .slice o5 n c5] 36)
  replace hb := hb.alloc hb.size (.cells #[.bool sb, .slice o5 n c5] 36)
  have c0 := hp.facts
  go_wp2_with fail
  refine (same_rz hx hy (by rw [HSB.out.2]; exact HLEN.out)).mono ?_
  rintro e w_2 ⟨rfl, hb_2⟩
  replace hx := hx.below hb_2 (Nat.le_refl _)
  replace hwn := hwn.below hb_2 (Nat.le_refl _)
  replace hp := hp.below hb_2 (Nat.le_refl _)
  replace hq := hq.below hb_2 (Nat.le_refl _)
  replace hy := hy.below hb_2 (Nat.le_refl _)
  replace hb := hb.trans (hb_2.mono hb.size)
  clear hb_2
  go_wp2
  go_ret
  exact ⟨rfl, hb⟩

set_option maxHeartbeats 1000000 in
set_option maxRecDepth 20000 in
/-- The law's own 'is', of two canonical forms of one number. -/
theorem is_zz {w : World} {va vb : Value} {z : Int} {l : Nat} (ha : ZC w va z) (hw : ZN w vb z l) (hl : l ≤ 1000000000) :
    Calls Tryd.prog 18 #[va, vb] w fun e w' => e = .returned (.bool true) ∧ Below w.heap.size w w' := by
  have ha' := ha
  obtain ⟨oa, ca, rfl⟩ := ha'.open_
  obtain ⟨nb, ob, cb, ys, rfl, _, _, _, _⟩ := hw.open_
  obtain ⟨sb, hsb⟩ : ∃ sb, decide (z < 0) = sb := ⟨_, rfl⟩
  obtain ⟨n, hn⟩ : ∃ n, (dig z.natAbs).length = n := ⟨_, rfl⟩
  rw [hn, hsb] at ha ⊢
  clear hn hsb ha'
  go_enter Tryd.func18, Tryd.ntmps18
  have hb := Below.refl w.heap.size w
  have hp := Bk.new w sb (.slice oa n ca)
  replace ha := ha.alloc (.cells #[.bool sb, (.slice oa n ca)] 36)
  replace hw := hw.alloc (.cells #[.bool sb, (.slice oa n ca)] 36)
  replace hb := hb.alloc hb.size (.cells #[.bool sb, (.slice oa n ca)] 36)
  have hq := Bk.new (w.alloc (.cells #[.bool sb, (.slice oa n ca)] 36)) nb (.slice ob ys.length cb)
  simp only [Bk.size_alloc] at hq
  replace ha := ha.alloc (.cells #[.bool nb, (.slice ob ys.length cb)] 36)
  replace hw := hw.alloc (.cells #[.bool nb, (.slice ob ys.length cb)] 36)
  replace hp := hp.alloc (.cells #[.bool nb, (.slice ob ys.length cb)] 36)
  replace hb := hb.alloc hb.size (.cells #[.bool nb, (.slice ob ys.length cb)] 36)
  go_wp2_with fail
  refine (rsame_zz ha hw hl).mono ?_
  rintro e w_1 ⟨rfl, hb_1⟩
  replace ha := ha.below hb_1 (Nat.le_refl _)
  replace hw := hw.below hb_1 (Nat.le_refl _)
  replace hp := hp.below hb_1 (Nat.le_refl _)
  replace hq := hq.below hb_1 (Nat.le_refl _)
  replace hb := hb.trans (hb_1.mono hb.size)
  clear hb_1
  go_wp2
  go_ret
  exact ⟨rfl, hb⟩
end Go.Proofs.YtjcfhbekpmpbeaaDoor
