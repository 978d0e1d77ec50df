/- The law's is and awake. -/
import Derived.Test.YtdjfgpfeepbnaaaDoorR2a
namespace Go.Proofs.YtdjfgpfeepbnaaaDoor
open Go.RowKit Dig
set_option maxHeartbeats 400000 in
set_option maxRecDepth 20000 in
/-- is: an answer held against a number. -/
theorem is_any (va vb : Value) (xs ys : List Nat) (w : World) (hxl : xs.length ≤ 10000000000000) (hyl : ys.length ≤ 10000000000000) (hx : Rd w va xs) (hy : Rd w vb ys) :
    Calls Tryd.prog 11 #[va, vb] w fun e w' => e = .returned (.bool (decide (xs = strip ys))) ∧ Below w.heap.size w w' := by
  obtain ⟨oa, ca, rfl, hca, okx, hcx⟩ := hx
  obtain ⟨ob, cb, rfl, hcb, oky, hcy⟩ := hy
  have hsl := strip_length_le ys
  go_enter Tryd.func11, Tryd.ntmps11
  go_wp2_with fail
  refine (rtrim_any ob cb ys _ hyl hcb oky hcy).mono ?_
  rintro e w1 ⟨v, rfl, hv, hb1⟩
  obtain ⟨oc, cc, rfl, hcc, okc, hccx⟩ := hv
  go_wp2_with fail
  refine (same_any oa oc ca cc xs (strip ys) w1 hxl (by omega) (hcx.below hb1 (Nat.le_refl _)) hccx).mono ?_
  rintro e w2 ⟨rfl, hb2⟩
  go_wp2
  go_ret
  exact ⟨rfl, hb1.trans (hb2.mono hb1.size)⟩

set_option maxHeartbeats 400000 in
set_option maxRecDepth 20000 in
theorem awake_any (w : World) (htab : Lib.TabIs Tryd.prog w p10 .u64 Lib.pow10Tab) :
    Calls Tryd.prog 10 #[] w fun e w' => e = .returned (.bool true) ∧ Below w.heap.size w w' := by
  have htabs := Lib.tabBelow_of_tabIs htab
  have b0 : Below w.heap.size w ((w.alloc (.cells #[.int .u32 4294967295] 26)).alloc (.cells #[.int .u32 1] 26)) := ((Below.refl _ _).alloc (Nat.le_refl _) _).alloc (by simp) _
  have r1 : Rd ((w.alloc (.cells #[.int .u32 4294967295] 26)).alloc (.cells #[.int .u32 1] 26)) (.slice (some ⟨w.heap.size, 0, none⟩) 1 1) [4294967295] := (lit1 w 4294967295 (by decide)).alloc _
  have r2 : Rd ((w.alloc (.cells #[.int .u32 4294967295] 26)).alloc (.cells #[.int .u32 1] 26)) (.slice (some ⟨w.heap.size + 1, 0, none⟩) 1 1) [1] := by
    have := lit1 (w.alloc (.cells #[.int .u32 4294967295] 26)) 1 (by decide)
    simpa using this
  go_enter Tryd.func10, Tryd.ntmps10
  go_wp2_with fail
  refine (add_rd r1 r2 (by simp) (by simp)).mono ?_
  rintro e w1 ⟨v, rfl, hv, hb1⟩
  rw [dig_two32] at hv
  have hb := b0.trans (hb1.mono b0.size)
  have hv := hv.rd
  clear b0 hb1 r1 r2
  go_wp2_with fail
  have e1 : decide ([0, 1] = strip [0, 1]) = true := by decide
  refine (is_any _ _ [0, 1] [0, 1] _ (by simp) (by simp) (hv.alloc _) (lit2 w1 0 1 (by decide) (by decide))).mono ?_
  rintro e w2 ⟨rfl, hb2⟩
  rw [e1]
  have c1 : Below w1.heap.size w1 (w1.alloc (.cells #[.int .u32 0, .int .u32 1] 26)) := (Below.refl _ _).alloc (Nat.le_refl _) _
  have hb12 := c1.trans (hb2.mono c1.size)
  have hv2 := hv.below hb12 (Nat.le_refl _)
  have hb := hb.trans (hb12.mono hb.size)
  clear hb2 c1 hb12 hv
  go_wp2_with fail
  refine (cmp_rd (hv2.alloc _) (lit1 w2 5 (by decide)) (by simp) (by simp)).mono ?_
  rintro e w3 ⟨rfl, hb3⟩
  have e2 : cmpI (val [0, 1]) (val [5]) = 1 := by decide
  rw [e2]
  have c2 : Below w2.heap.size w2 (w2.alloc (.cells #[.int .u32 5] 26)) := (Below.refl _ _).alloc (Nat.le_refl _) _
  have hb23 := c2.trans (hb3.mono c2.size)
  have hv3 := hv2.below hb23 (Nat.le_refl _)
  have hb := hb.trans (hb23.mono hb.size)
  clear hb3 c2 hb23 hv2
  go_wp2_with fail
  have e3 : val [0, 1] = 4294967296 := by simp [val]
  refine (text_rd hv3 (by simp) (htabs _ hb)).mono ?_
  rintro e w4 ⟨rfl, hb4⟩
  rw [e3, text_two32]
  go_wp2_with fail
  go_ret
  exact ⟨rfl, hb.trans (hb4.mono hb.size)⟩
end Go.Proofs.YtdjfgpfeepbnaaaDoor
