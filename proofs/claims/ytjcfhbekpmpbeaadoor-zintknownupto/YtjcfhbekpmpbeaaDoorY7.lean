/- zint: Text; awake. -/
import Derived.Test.YtjcfhbekpmpbeaaDoorY6
namespace Go.Proofs.YtjcfhbekpmpbeaaDoor
open Go.RowKit Dig

set_option maxHeartbeats 1000000 in
set_option maxRecDepth 20000 in
/-- zint.Text of a number below 0. -/
theorem ztext_neg {w : World} {v : Value} {z : Int} {l : Nat} (h : ZN w v z l) (hl : l ≤ 1000000000) (hz0 : z < 0) (hsl : (Lib.decDigits z.natAbs).length ≤ 1000000000000000) (htab : Lib.TabIs Tryd.prog w p10 .u64 Lib.pow10Tab) :
    Calls Tryd.prog 20 #[v] w fun e w' => e = .returned (.string ⟨((45 : UInt8) :: Lib.decDigits z.natAbs).toArray⟩) ∧ Below w.heap.size w w' := by
  have htabs := Lib.tabBelow_of_tabIs htab
  have hzn := h
  obtain ⟨neg, oa, cap, xs, rfl, hcap, hr, hz, hxl⟩ := h.open_
  have hv : val xs = z.natAbs := by rw [← hz, zv_abs]
  have hsg : z.sign = -1 := Int.sign_eq_neg_one_of_neg hz0
  have HV := hide (And.intro hv hsg)
  obtain ⟨S, hS⟩ : ∃ S, Lib.decDigits z.natAbs = S := ⟨_, rfl⟩
  have HS := hide hS
  rw [hS] at hsl ⊢
  have hno : ¬ 9223372036854775807 < 1 + S.length := by omega
  clear hz hv h hz0 hS hsg
  go_enter Tryd.func20, Tryd.ntmps20
  have hb := Below.refl w.heap.size w
  have hp := Bk.new w neg (.slice oa xs.length cap)
  replace hr := hr.alloc (.cells #[.bool neg, (.slice oa xs.length cap)] 36)
  replace hzn := hzn.alloc (.cells #[.bool neg, (.slice oa xs.length cap)] 36)
  replace hb := hb.alloc hb.size (.cells #[.bool neg, (.slice oa xs.length cap)] 36)
  go_wp2_with fail
  refine (text_rd hr (by omega) (htabs _ hb)).mono ?_
  rintro e w_1 ⟨rfl, hb_1⟩
  replace hr := hr.below hb_1 (Nat.le_refl _)
  replace hzn := hzn.below hb_1 (Nat.le_refl _)
  replace hp := hp.below hb_1 (Nat.le_refl _)
  replace hb := hb.trans (hb_1.mono hb.size)
  clear hb_1
  rw [HV.out.1, HS.out]
  have c0 := hp.facts
  go_wp2_with fail
  refine (zsign_any hzn hl).mono ?_
  rintro e w_2 ⟨rfl, hb_2⟩
  replace hr := hr.below hb_2 (Nat.le_refl _)
  replace hzn := hzn.below hb_2 (Nat.le_refl _)
  replace hp := hp.below hb_2 (Nat.le_refl _)
  replace hb := hb.trans (hb_2.mono hb.size)
  clear hb_2
  rw [HV.out.2]
  go_wp2
  go_ret
  refine ⟨?_, hb⟩
  congr 2

end Go.Proofs.YtjcfhbekpmpbeaaDoor
