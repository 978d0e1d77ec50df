/- zint: Text; awake. -/
import Derived.Test.YtabmffenbkdgkaaDoorY6
namespace Go.Proofs.YtabmffenbkdgkaaDoor
open Go.RowKit Dig

set_option maxHeartbeats 1000000 in
set_option maxRecDepth 20000 in
/-- zint.Text of a number below 0. -/
theorem ztext_neg {w : World} {v : Value} {z : Int} {l : Nat} (h : ZN w v z l) (hl : l ≤ 1000000000) (hz0 : z < 0) (hsl : (Lib.decDigits z.natAbs).length ≤ 1000000000000000) (htab : Lib.TabIs Tryd.prog w p10 .u64 Lib.pow10Tab) :
    Calls Tryd.prog 18 #[v] w fun e w' => e = .returned (.string ⟨((45 : UInt8) :: Lib.decDigits z.natAbs).toArray⟩) ∧ Below w.heap.size w w' := by
  have htabs := Lib.tabBelow_of_tabIs htab
  have hzn := h
  obtain ⟨neg, oa, cap, xs, rfl, hcap, hr, hz, hxl⟩ := h.open_
  have hv : val xs = z.natAbs := by rw [← hz, zv_abs]
  have hsg : z.sign = -1 := Int.sign_eq_neg_one_of_neg hz0
  have HV := hide (And.intro hv hsg)
  obtain ⟨S, hS⟩ : ∃ S, Lib.decDigits z.natAbs = S := ⟨_, rfl⟩
  have HS := hide hS
  rw [hS] at hsl ⊢
  have hno : ¬ 9223372036854775807 < 1 + S.length := by omega
  clear hz hv h hz0 hS hsg
  go_enter Tryd.func18, Tryd.ntmps18
  have hb := Below.refl w.heap.size w
  have hp := Bk.new w neg (.slice oa xs.length cap)
  replace hr := hr.alloc (.cells #[.bool neg, (.slice oa xs.length cap)] 24)
  replace hzn := hzn.alloc (.cells #[.bool neg, (.slice oa xs.length cap)] 24)
  replace hb := hb.alloc hb.size (.cells #[.bool neg, (.slice oa xs.length cap)] 24)
  go_wp2_with fail
  refine (text_rd hr (by omega) (htabs _ hb)).mono ?_
  rintro e w_1 ⟨rfl, hb_1⟩
  replace hr := hr.below hb_1 (Nat.le_refl _)
  replace hzn := hzn.below hb_1 (Nat.le_refl _)
  replace hp := hp.below hb_1 (Nat.le_refl _)
  replace hb := hb.trans (hb_1.mono hb.size)
  clear hb_1
  rw [HV.out.1, HS.out]
  have c0 := hp.facts
  go_wp2_with fail
  refine (zsign_any hzn hl).mono ?_
  rintro e w_2 ⟨rfl, hb_2⟩
  replace hr := hr.below hb_2 (Nat.le_refl _)
  replace hzn := hzn.below hb_2 (Nat.le_refl _)
  replace hp := hp.below hb_2 (Nat.le_refl _)
  replace hb := hb.trans (hb_2.mono hb.size)
  clear hb_2
  rw [HV.out.2]
  go_wp2
  go_ret
  refine ⟨?_, hb⟩
  congr 2

set_option maxHeartbeats 1000000 in
set_option maxRecDepth 20000 in
/-- The law's awake. -/
theorem zawake_any (w : World) (htab : Lib.TabIs Tryd.prog w p10 .u64 Lib.pow10Tab) :
    Calls Tryd.prog 15 #[] w fun e w' => e = .returned (.bool true) ∧ Below w.heap.size w w' := by
  have htabs := Lib.tabBelow_of_tabIs htab
  have e9 := zlen_i (7 : Int) (by decide) (by decide)
  have e8 := zlen_i (9 : Int) (by decide) (by decide)
  have e7 := zlen_i (-2 : Int) (by decide) (by decide)
  have h2 : (7 : Int) - 9 = -2 := by decide
  have s2 : (-2 : Int).sign = -1 := by decide
  have hd : Lib.decDigits (-2 : Int).natAbs = [50] := by
    show Lib.decDigits 2 = [50]
    rw [Lib.decDigits, dif_pos (by decide)]
    rfl
  have E := hide (And.intro e9 (And.intro e8 (And.intro e7 (And.intro h2 (And.intro s2 hd)))))
  clear e9 e8 e7 h2 s2 hd
  go_enter Tryd.func15, Tryd.ntmps15
  have hb := Below.refl w.heap.size w
  go_wp2_with fail
  refine (i_any 7 _ (by decide) (by decide)).mono ?_
  rintro e w_1 ⟨v1, rfl, h1, hb_1⟩
  replace hb := hb.trans (hb_1.mono hb.size)
  clear hb_1
  replace h1 := h1.rd
  go_wp2_with fail
  refine (i_any 9 _ (by decide) (by decide)).mono ?_
  rintro e w_2 ⟨v2, rfl, h2, hb_2⟩
  replace h1 := h1.below hb_2 (Nat.le_refl _)
  replace hb := hb.trans (hb_2.mono hb.size)
  clear hb_2
  replace h2 := h2.rd
  go_wp2_with fail
  refine (zsub_any (h1.zn E.out.1) (h2.zn E.out.2.1) (by decide) (by decide)).mono ?_
  rintro e w_3 ⟨v3, rfl, h3, hb_3⟩
  replace h1 := h1.below hb_3 (Nat.le_refl _)
  replace h2 := h2.below hb_3 (Nat.le_refl _)
  replace hb := hb.trans (hb_3.mono hb.size)
  clear hb_3
  rw [E.out.2.2.2.1] at h3
  replace h3 := h3.rd
  have h3' := h3
  obtain ⟨o5, c5, rfl⟩ := h3'.open_
  obtain ⟨n, hn⟩ : ∃ n, (dig (-2 : Int).natAbs).length = n := ⟨_, rfl⟩
  rw [hn, decide_eq_true (by decide : (-2 : Int) < 0)] at h3 ⊢
  clear h3' hn
  have hq := Bk.new w_3 true (.slice o5 n c5)
  replace h1 := h1.alloc (.cells #[.bool true, (.slice o5 n c5)] 24)
  replace h2 := h2.alloc (.cells #[.bool true, (.slice o5 n c5)] 24)
  replace h3 := h3.alloc (.cells #[.bool true, (.slice o5 n c5)] 24)
  replace hb := hb.alloc hb.size (.cells #[.bool true, (.slice o5 n c5)] 24)
  go_wp2_with fail
  refine (small_zz (-2) h3 (by decide) (by decide)).mono ?_
  rintro e w_4 ⟨rfl, hb_4⟩
  replace h1 := h1.below hb_4 (Nat.le_refl _)
  replace h2 := h2.below hb_4 (Nat.le_refl _)
  replace h3 := h3.below hb_4 (Nat.le_refl _)
  replace hq := hq.below hb_4 (Nat.le_refl _)
  replace hb := hb.trans (hb_4.mono hb.size)
  clear hb_4
  have c0 := hq.facts
  go_wp2_with fail
  refine (zsign_any (h3.zn E.out.2.2.1) (by decide)).mono ?_
  rintro e w_5 ⟨rfl, hb_5⟩
  replace h1 := h1.below hb_5 (Nat.le_refl _)
  replace h2 := h2.below hb_5 (Nat.le_refl _)
  replace h3 := h3.below hb_5 (Nat.le_refl _)
  replace hq := hq.below hb_5 (Nat.le_refl _)
  replace hb := hb.trans (hb_5.mono hb.size)
  clear hb_5
  rw [E.out.2.2.2.2.1]
  have c0 := hq.facts
  go_wp2_with fail
  refine (ztext_neg (h3.zn E.out.2.2.1) (by decide) (by decide) (by rw [E.out.2.2.2.2.2]; decide) (htabs _ hb)).mono ?_
  rintro e w_6 ⟨rfl, hb_6⟩
  replace h1 := h1.below hb_6 (Nat.le_refl _)
  replace h2 := h2.below hb_6 (Nat.le_refl _)
  replace h3 := h3.below hb_6 (Nat.le_refl _)
  replace hq := hq.below hb_6 (Nat.le_refl _)
  replace hb := hb.trans (hb_6.mono hb.size)
  clear hb_6
  rw [E.out.2.2.2.2.2]
  go_wp2
  go_ret
  exact ⟨rfl, hb⟩
end Go.Proofs.YtabmffenbkdgkaaDoor
