/- ZintTexts: the law's walk. -/
import Derived.Test.YtabmffenbkdgkaaDoorT1ToT2
import Derived.Test.YtabmffenbkdgkaaDoorY8
namespace Go.Proofs.YtabmffenbkdgkaaDoor
open Go.RowKit Dig

/-- What Text answers. -/
def ztext (z : Int) : ByteArray := if z < 0 then ⟨((45 : UInt8) :: Lib.decDigits z.natAbs).toArray⟩ else ⟨(Lib.decDigits z.natAbs).toArray⟩
theorem ztext_any {w : World} {v : Value} {z : Int} (h : ZN w v z 1048576) (htab : Lib.TabIs Tryd.prog w p10 .u64 Lib.pow10Tab) :
    Calls Tryd.prog 18 #[v] w fun e w' => e = .returned (.string (ztext z)) ∧ Below w.heap.size w w' := by
  unfold ztext
  by_cases h0 : z < 0
  · rw [if_pos h0]
    exact ztext_neg h (by decide) h0 (Nat.le_trans (dec_len' (L := 1048576) (Nat.lt_of_lt_of_le (lt_pw_dig _) (pw_mono h.len)) (by decide)) (by decide)) htab
  · rw [if_neg h0]
    exact ztext_pos h (by decide) (by omega) htab
theorem rztext_any {w : World} {v : Value} {z : Int} (h : ZN w v z 1048576) :
    Calls Tryd.prog 52 #[v] w fun e w' => e = .returned (.string (ztext z)) ∧ Below w.heap.size w w' := by
  unfold ztext
  by_cases h0 : z < 0
  · rw [if_pos h0]
    exact rztext_neg h (by decide) h0 (Nat.le_trans (dec_len' (L := 1048576) (Nat.lt_of_lt_of_le (lt_pw_dig _) (pw_mono h.len)) (by decide)) (by decide))
  · rw [if_neg h0]
    exact rztext_pos h (by decide) (by omega)

set_option maxHeartbeats 2000000 in
set_option maxRecDepth 20000 in
theorem texts_long {w : World} {va : Value} {x : Int} (s : ByteArray) (ha : ZN w va x 1048576) (hs2 : s.size ≤ 1048576) (hl : 65536 < s.size) (htab : Lib.TabIs Tryd.prog w p10 .u64 Lib.pow10Tab) :
    Calls Tryd.prog 9 #[va, .string s] w fun e w' => e = .returned (.bool true) ∧ Below w.heap.size w w' := by
  have htabs := Lib.tabBelow_of_tabIs htab
  obtain ⟨T, hT⟩ : ∃ T, ztext x = T := ⟨_, rfl⟩
  have HT := hide hT
  have qT : (T.toList == T.toList) = true := by simp
  clear hT
  obtain ⟨na, oa, ca, xs, rfl, hca, _, _, hxl⟩ := ha.open_
  go_enter Tryd.func9, Tryd.ntmps9
  have hb := Below.refl w.heap.size w
  have hp := Bk.new w na (.slice oa xs.length ca)
  replace ha := ha.alloc (.cells #[.bool na, (.slice oa xs.length ca)] 24)
  replace hb := hb.alloc hb.size (.cells #[.bool na, (.slice oa xs.length ca)] 24)
  go_wp2_with fail
  refine (zparse_long s _ hl hs2).mono ?_
  rintro e w_1 ⟨rfl, hb_1⟩
  replace ha := ha.below hb_1 (Nat.le_refl _)
  replace hp := hp.below hb_1 (Nat.le_refl _)
  replace hb := hb.trans (hb_1.mono hb.size)
  clear hb_1
  have kb_h5 := hb.size
  have ne_hp_h5 : w.heap.size ≠ w_1.heap.size := by have := hp.lt; (try simp only [Bk.size_alloc] at this); omega
  have h5 := Bk.new w_1 false (.slice none 0 0)
  replace ha := ha.alloc (.cells #[.bool false, (.slice none 0 0)] 24)
  replace hp := hp.alloc (.cells #[.bool false, (.slice none 0 0)] 24)
  replace hb := hb.alloc hb.size (.cells #[.bool false, (.slice none 0 0)] 24)
  obtain ⟨w_2, hw_2⟩ : ∃ v, (w_1.alloc (.cells #[.bool false, (.slice none 0 0)] 24)) = v := ⟨_, rfl⟩
  rw [hw_2] at ha hp h5 hb
  have f_h5 := h5.facts
  have ho := Bk.only w_2 (w_1.heap.size) false (.slice none 0 0)
  have hbx_ := h5.bx
  replace ha := ha.frame hbx_ ho
  replace hp := hp.frame ho (by first | assumption | (apply Ne.symm; assumption) | (simp; done) | omega)
  replace h5 := h5.store false (.slice none 0 0)
  replace hb := (hb.setCell (p := ⟨w_1.heap.size, 0, none⟩) (show w.heap.size ≤ w_1.heap.size by first | assumption | (simp; done) | omega) (.bool false)).setCell (p := ⟨w_1.heap.size, 1, none⟩) (show w.heap.size ≤ w_1.heap.size by first | assumption | (simp; done) | omega) (.slice none 0 0)
  clear ho hbx_
  obtain ⟨w_3, hw_3⟩ : ∃ v, ((w_2.setCell ⟨w_1.heap.size, 0, none⟩ (.bool false)).setCell ⟨w_1.heap.size, 1, none⟩ (.slice none 0 0)) = v := ⟨_, rfl⟩
  rw [hw_3] at ha hp h5 hb
  replace ha := ha.drew
  replace hp := hp.drew
  replace h5 := h5.drew
  replace hb := hb.drew
  go_wp2_with fail
  refine wp_region_pl [(0, true), (1, false), (2, false), (3, false), (5, false), (4, true), (6, true), (7, false), (8, false)] (fun w' => w'.cell? ⟨w.heap.size, 0, none⟩ = some (.bool na) ∧ w'.cell? ⟨w.heap.size, 1, none⟩ = some (.slice oa xs.length ca) ∧ w'.cell? ⟨w_1.heap.size, 0, none⟩ = some (.bool false) ∧ w'.cell? ⟨w_1.heap.size, 1, none⟩ = some (.slice none 0 0)) (by kernel_rfl) (by kernel_rfl) (by kernel_rfl) (by kernel_rfl) ⟨hp.facts.1, hp.facts.2.1, h5.facts.1, h5.facts.2.1⟩ ?_
  clear f_h5
  apply wpPl_call
  case hi => rfl
  case hw => kernel_rfl
  case h =>
  intro K hK
  have kb_4 := hb.size
  go_big_op
  go_fit (zawake_any _ (htabs _ hb))
  rintro e w_4 ⟨rfl, hb_4⟩
  replace ha := ha.below hb_4 (Nat.le_refl _)
  replace hp := hp.below hb_4 (Nat.le_refl _)
  replace h5 := h5.below hb_4 (Nat.le_refl _)
  replace hb := hb.trans (hb_4.mono hb.size)
  refine hK _ _ rfl ⟨hp.facts.1, hp.facts.2.1, h5.facts.1, h5.facts.2.1⟩ ?_
  clear hK K hb_4
  apply wpPl_ld
  case hi => rfl
  case h1 => intro w' hC K hK; obtain ⟨c0, c1, c2, c3⟩ := hC; (first | go_big_move | go_big_op); exact hK
  case hw => kernel_rfl
  case hv => kernel_rfl
  case hb => kernel_rfl
  case hp => kernel_rfl
  apply wpPl_ld
  case hi => rfl
  case h1 => intro w' hC K hK; obtain ⟨c0, c1, c2, c3⟩ := hC; (first | go_big_move | go_big_op); exact hK
  case hw => kernel_rfl
  case hv => kernel_rfl
  case hb => kernel_rfl
  case hp => kernel_rfl
  apply wpPl_ld
  case hi => rfl
  case h1 => intro w' hC K hK; obtain ⟨c0, c1, c2, c3⟩ := hC; (first | go_big_move | go_big_op); exact hK
  case hw => kernel_rfl
  case hv => kernel_rfl
  case hb => kernel_rfl
  case hp => kernel_rfl
  apply wpPl_ld
  case hi => rfl
  case h1 => intro w' hC K hK; obtain ⟨c0, c1, c2, c3⟩ := hC; (first | go_big_move | go_big_op); exact hK
  case hw => kernel_rfl
  case hv => kernel_rfl
  case hb => kernel_rfl
  case hp => kernel_rfl
  apply wpPl_call
  case hi => rfl
  case hw => kernel_rfl
  case h =>
  intro K hK
  have kb_5 := hb.size
  go_big_op
  go_fit (ztext_any ha (htabs _ hb))
  rintro e w_5 ⟨rfl, hb_5⟩
  replace ha := ha.below hb_5 (Nat.le_refl _)
  replace hp := hp.below hb_5 (Nat.le_refl _)
  replace h5 := h5.below hb_5 (Nat.le_refl _)
  replace hb := hb.trans (hb_5.mono hb.size)
  refine hK _ _ rfl ⟨hp.facts.1, hp.facts.2.1, h5.facts.1, h5.facts.2.1⟩ ?_
  clear hK K hb_5
  rw [HT.out]
  apply wpPl_call
  case hi => rfl
  case hw => kernel_rfl
  case h =>
  intro K hK
  have kb_6 := hb.size
  go_big_op
  go_fit (rztext_any ha)
  rintro e w_6 ⟨rfl, hb_6⟩
  replace ha := ha.below hb_6 (Nat.le_refl _)
  replace hp := hp.below hb_6 (Nat.le_refl _)
  replace h5 := h5.below hb_6 (Nat.le_refl _)
  replace hb := hb.trans (hb_6.mono hb.size)
  refine hK _ _ rfl ⟨hp.facts.1, hp.facts.2.1, h5.facts.1, h5.facts.2.1⟩ ?_
  clear hK K hb_6
  rw [HT.out]
  apply wpPl_ld
  case hi => rfl
  case h1 => intro w' hC K hK; obtain ⟨c0, c1, c2, c3⟩ := hC; (first | go_big_move | go_big_op); exact hK
  case hw => kernel_rfl
  case hv => kernel_rfl
  case hb => kernel_rfl
  case hp => kernel_rfl
  apply wpPl_ld
  case hi => rfl
  case h1 => intro w' hC K hK; obtain ⟨c0, c1, c2, c3⟩ := hC; (first | go_big_move | go_big_op); exact hK
  case hw => kernel_rfl
  case hv => kernel_rfl
  case hb => kernel_rfl
  case hp => kernel_rfl
  apply wpPl_end
  have f_h5 := h5.facts
  go_wp2_with fail
  refine (rzero_any _).mono ?_
  rintro e w_7 ⟨rfl, hb_7⟩
  replace ha := ha.below hb_7 (Nat.le_refl _)
  replace hp := hp.below hb_7 (Nat.le_refl _)
  replace h5 := h5.below hb_7 (Nat.le_refl _)
  replace hb := hb.trans (hb_7.mono hb.size)
  clear hb_7
  clear f_h5
  go_wp2
  go_ret
  exact ⟨rfl, hb⟩

set_option maxHeartbeats 2000000 in
set_option maxRecDepth 20000 in
theorem texts_bad {w : World} {va : Value} {x : Int} (s : ByteArray) (ha : ZN w va x 1048576) (hs2 : s.size ≤ 1048576) (hl : s.size ≤ 65536) (d : ByteArray) (m : Bool) (hcut : ∀ w, Calls Tryd.prog 79 #[.string s, .string ⟨#[45]⟩] w fun e w' => e = .returned (.tuple #[.string d, .bool m]) ∧ w' = w) (hds : d.size ≤ 65536) (hd : digitsB d.data.toList = false) (his : ∀ w, Calls Tryd.prog 53 #[.string s] w fun e w' => e = .returned (.bool (digitsB d.data.toList)) ∧ w' = w) (htab : Lib.TabIs Tryd.prog w p10 .u64 Lib.pow10Tab) :
    Calls Tryd.prog 9 #[va, .string s] w fun e w' => e = .returned (.bool true) ∧ Below w.heap.size w w' := by
  have htabs := Lib.tabBelow_of_tabIs htab
  obtain ⟨T, hT⟩ : ∃ T, ztext x = T := ⟨_, rfl⟩
  have HT := hide hT
  have qT : (T.toList == T.toList) = true := by simp
  clear hT
  have HP := hide (fun w => zparse_bad s w hl d m hcut hds hd)
  rw [hd] at his
  have HI := hide his
  clear hcut his hd
  obtain ⟨na, oa, ca, xs, rfl, hca, _, _, hxl⟩ := ha.open_
  go_enter Tryd.func9, Tryd.ntmps9
  have hb := Below.refl w.heap.size w
  have hp := Bk.new w na (.slice oa xs.length ca)
  replace ha := ha.alloc (.cells #[.bool na, (.slice oa xs.length ca)] 24)
  replace hb := hb.alloc hb.size (.cells #[.bool na, (.slice oa xs.length ca)] 24)
  go_wp2_with fail
  refine (HP.out _).mono ?_
  rintro e w_1 ⟨rfl, hb_1⟩
  replace ha := ha.below hb_1 (Nat.le_refl _)
  replace hp := hp.below hb_1 (Nat.le_refl _)
  replace hb := hb.trans (hb_1.mono hb.size)
  clear hb_1
  have kb_h5 := hb.size
  have ne_hp_h5 : w.heap.size ≠ w_1.heap.size := by have := hp.lt; (try simp only [Bk.size_alloc] at this); omega
  have h5 := Bk.new w_1 false (.slice none 0 0)
  replace ha := ha.alloc (.cells #[.bool false, (.slice none 0 0)] 24)
  replace hp := hp.alloc (.cells #[.bool false, (.slice none 0 0)] 24)
  replace hb := hb.alloc hb.size (.cells #[.bool false, (.slice none 0 0)] 24)
  obtain ⟨w_2, hw_2⟩ : ∃ v, (w_1.alloc (.cells #[.bool false, (.slice none 0 0)] 24)) = v := ⟨_, rfl⟩
  rw [hw_2] at ha hp h5 hb
  have f_h5 := h5.facts
  have ho := Bk.only w_2 (w_1.heap.size) false (.slice none 0 0)
  have hbx_ := h5.bx
  replace ha := ha.frame hbx_ ho
  replace hp := hp.frame ho (by first | assumption | (apply Ne.symm; assumption) | (simp; done) | omega)
  replace h5 := h5.store false (.slice none 0 0)
  replace hb := (hb.setCell (p := ⟨w_1.heap.size, 0, none⟩) (show w.heap.size ≤ w_1.heap.size by first | assumption | (simp; done) | omega) (.bool false)).setCell (p := ⟨w_1.heap.size, 1, none⟩) (show w.heap.size ≤ w_1.heap.size by first | assumption | (simp; done) | omega) (.slice none 0 0)
  clear ho hbx_
  obtain ⟨w_3, hw_3⟩ : ∃ v, ((w_2.setCell ⟨w_1.heap.size, 0, none⟩ (.bool false)).setCell ⟨w_1.heap.size, 1, none⟩ (.slice none 0 0)) = v := ⟨_, rfl⟩
  rw [hw_3] at ha hp h5 hb
  replace ha := ha.drew
  replace hp := hp.drew
  replace h5 := h5.drew
  replace hb := hb.drew
  go_wp2_with fail
  refine wp_region_pl [(0, true), (1, false), (2, false), (3, false), (5, false), (4, true), (6, true), (7, false), (8, false)] (fun w' => w'.cell? ⟨w.heap.size, 0, none⟩ = some (.bool na) ∧ w'.cell? ⟨w.heap.size, 1, none⟩ = some (.slice oa xs.length ca) ∧ w'.cell? ⟨w_1.heap.size, 0, none⟩ = some (.bool false) ∧ w'.cell? ⟨w_1.heap.size, 1, none⟩ = some (.slice none 0 0)) (by kernel_rfl) (by kernel_rfl) (by kernel_rfl) (by kernel_rfl) ⟨hp.facts.1, hp.facts.2.1, h5.facts.1, h5.facts.2.1⟩ ?_
  clear f_h5
  apply wpPl_call
  case hi => rfl
  case hw => kernel_rfl
  case h =>
  intro K hK
  have kb_4 := hb.size
  go_big_op
  go_fit (zawake_any _ (htabs _ hb))
  rintro e w_4 ⟨rfl, hb_4⟩
  replace ha := ha.below hb_4 (Nat.le_refl _)
  replace hp := hp.below hb_4 (Nat.le_refl _)
  replace h5 := h5.below hb_4 (Nat.le_refl _)
  replace hb := hb.trans (hb_4.mono hb.size)
  refine hK _ _ rfl ⟨hp.facts.1, hp.facts.2.1, h5.facts.1, h5.facts.2.1⟩ ?_
  clear hK K hb_4
  apply wpPl_ld
  case hi => rfl
  case h1 => intro w' hC K hK; obtain ⟨c0, c1, c2, c3⟩ := hC; (first | go_big_move | go_big_op); exact hK
  case hw => kernel_rfl
  case hv => kernel_rfl
  case hb => kernel_rfl
  case hp => kernel_rfl
  apply wpPl_ld
  case hi => rfl
  case h1 => intro w' hC K hK; obtain ⟨c0, c1, c2, c3⟩ := hC; (first | go_big_move | go_big_op); exact hK
  case hw => kernel_rfl
  case hv => kernel_rfl
  case hb => kernel_rfl
  case hp => kernel_rfl
  apply wpPl_ld
  case hi => rfl
  case h1 => intro w' hC K hK; obtain ⟨c0, c1, c2, c3⟩ := hC; (first | go_big_move | go_big_op); exact hK
  case hw => kernel_rfl
  case hv => kernel_rfl
  case hb => kernel_rfl
  case hp => kernel_rfl
  apply wpPl_ld
  case hi => rfl
  case h1 => intro w' hC K hK; obtain ⟨c0, c1, c2, c3⟩ := hC; (first | go_big_move | go_big_op); exact hK
  case hw => kernel_rfl
  case hv => kernel_rfl
  case hb => kernel_rfl
  case hp => kernel_rfl
  apply wpPl_call
  case hi => rfl
  case hw => kernel_rfl
  case h =>
  intro K hK
  have kb_5 := hb.size
  go_big_op
  go_fit (ztext_any ha (htabs _ hb))
  rintro e w_5 ⟨rfl, hb_5⟩
  replace ha := ha.below hb_5 (Nat.le_refl _)
  replace hp := hp.below hb_5 (Nat.le_refl _)
  replace h5 := h5.below hb_5 (Nat.le_refl _)
  replace hb := hb.trans (hb_5.mono hb.size)
  refine hK _ _ rfl ⟨hp.facts.1, hp.facts.2.1, h5.facts.1, h5.facts.2.1⟩ ?_
  clear hK K hb_5
  rw [HT.out]
  apply wpPl_call
  case hi => rfl
  case hw => kernel_rfl
  case h =>
  intro K hK
  have kb_6 := hb.size
  go_big_op
  go_fit (rztext_any ha)
  rintro e w_6 ⟨rfl, hb_6⟩
  replace ha := ha.below hb_6 (Nat.le_refl _)
  replace hp := hp.below hb_6 (Nat.le_refl _)
  replace h5 := h5.below hb_6 (Nat.le_refl _)
  replace hb := hb.trans (hb_6.mono hb.size)
  refine hK _ _ rfl ⟨hp.facts.1, hp.facts.2.1, h5.facts.1, h5.facts.2.1⟩ ?_
  clear hK K hb_6
  rw [HT.out]
  apply wpPl_ld
  case hi => rfl
  case h1 => intro w' hC K hK; obtain ⟨c0, c1, c2, c3⟩ := hC; (first | go_big_move | go_big_op); exact hK
  case hw => kernel_rfl
  case hv => kernel_rfl
  case hb => kernel_rfl
  case hp => kernel_rfl
  apply wpPl_ld
  case hi => rfl
  case h1 => intro w' hC K hK; obtain ⟨c0, c1, c2, c3⟩ := hC; (first | go_big_move | go_big_op); exact hK
  case hw => kernel_rfl
  case hv => kernel_rfl
  case hb => kernel_rfl
  case hp => kernel_rfl
  apply wpPl_end
  go_wp2_with fail
  refine (HI.out _).mono ?_
  rintro e w' ⟨rfl, rfl⟩
  have f_h5 := h5.facts
  go_wp2_with fail
  refine (rzero_any _).mono ?_
  rintro e w_7 ⟨rfl, hb_7⟩
  replace ha := ha.below hb_7 (Nat.le_refl _)
  replace hp := hp.below hb_7 (Nat.le_refl _)
  replace h5 := h5.below hb_7 (Nat.le_refl _)
  replace hb := hb.trans (hb_7.mono hb.size)
  clear hb_7
  clear f_h5
  go_wp2
  go_ret
  exact ⟨rfl, hb⟩

set_option maxHeartbeats 2000000 in
set_option maxRecDepth 20000 in
theorem texts_good {w : World} {va : Value} {x : Int} (s : ByteArray) (ha : ZN w va x 1048576) (hs2 : s.size ≤ 1048576) (hl : s.size ≤ 65536) (d : ByteArray) (m : Bool) (z : Int) (hcut : ∀ w, Calls Tryd.prog 79 #[.string s, .string ⟨#[45]⟩] w fun e w' => e = .returned (.tuple #[.string d, .bool m]) ∧ w' = w) (hds : d.size ≤ 65536) (hd : digitsB d.data.toList = true) (his : ∀ w, Calls Tryd.prog 53 #[.string s] w fun e w' => e = .returned (.bool (digitsB d.data.toList)) ∧ w' = w) (hz' : (if m then -((pval d.data.toList : Nat) : Int) else ((pval d.data.toList : Nat) : Int)) = z) (hlz : (dig z.natAbs).length ≤ 8192) (hrp : ∀ w, Calls Tryd.prog 54 #[.string s] w fun e w' => ∃ v, e = .returned v ∧ ZC w' v z ∧ Below w.heap.size w w') (htab : Lib.TabIs Tryd.prog w p10 .u64 Lib.pow10Tab) :
    Calls Tryd.prog 9 #[va, .string s] w fun e w' => e = .returned (.bool true) ∧ Below w.heap.size w w' := by
  have htabs := Lib.tabBelow_of_tabIs htab
  obtain ⟨T, hT⟩ : ∃ T, ztext x = T := ⟨_, rfl⟩
  have HT := hide hT
  have qT : (T.toList == T.toList) = true := by simp
  clear hT
  have HP := hide (fun w => zparse_good s w hl d m z hcut hds hd hz')
  rw [hd] at his
  have HI := hide his
  have HR := hide hrp
  have HL := hide hlz
  clear hcut his hd hrp hz' hlz
  obtain ⟨na, oa, ca, xs, rfl, hca, _, _, hxl⟩ := ha.open_
  go_enter Tryd.func9, Tryd.ntmps9
  have hb := Below.refl w.heap.size w
  have hp := Bk.new w na (.slice oa xs.length ca)
  replace ha := ha.alloc (.cells #[.bool na, (.slice oa xs.length ca)] 24)
  replace hb := hb.alloc hb.size (.cells #[.bool na, (.slice oa xs.length ca)] 24)
  go_wp2_with fail
  refine (HP.out _).mono ?_
  rintro e w_1 ⟨v1, rfl, g1, hb_1⟩
  replace ha := ha.below hb_1 (Nat.le_refl _)
  replace hp := hp.below hb_1 (Nat.le_refl _)
  replace hb := hb.trans (hb_1.mono hb.size)
  clear hb_1
  have kb_h5 := hb.size
  have ne_hp_h5 : w.heap.size ≠ w_1.heap.size := by have := hp.lt; (try simp only [Bk.size_alloc] at this); omega
  have h5 := Bk.new w_1 false (.slice none 0 0)
  replace ha := ha.alloc (.cells #[.bool false, (.slice none 0 0)] 24)
  replace hp := hp.alloc (.cells #[.bool false, (.slice none 0 0)] 24)
  replace g1 := g1.alloc (.cells #[.bool false, (.slice none 0 0)] 24)
  replace hb := hb.alloc hb.size (.cells #[.bool false, (.slice none 0 0)] 24)
  obtain ⟨w_2, hw_2⟩ : ∃ v, (w_1.alloc (.cells #[.bool false, (.slice none 0 0)] 24)) = v := ⟨_, rfl⟩
  rw [hw_2] at ha hp g1 h5 hb
  obtain ⟨sb_h5, o_h5, n_h5, c_h5, rfl⟩ := g1.open2
  have f_h5 := h5.facts
  have ho := Bk.only w_2 (w_1.heap.size) sb_h5 (.slice o_h5 n_h5 c_h5)
  have hbx_ := h5.bx
  replace ha := ha.frame hbx_ ho
  replace hp := hp.frame ho (by first | assumption | (apply Ne.symm; assumption) | (simp; done) | omega)
  replace g1 := g1.frame hbx_ ho
  replace h5 := h5.store sb_h5 (.slice o_h5 n_h5 c_h5)
  replace hb := (hb.setCell (p := ⟨w_1.heap.size, 0, none⟩) (show w.heap.size ≤ w_1.heap.size by first | assumption | (simp; done) | omega) (.bool sb_h5)).setCell (p := ⟨w_1.heap.size, 1, none⟩) (show w.heap.size ≤ w_1.heap.size by first | assumption | (simp; done) | omega) (.slice o_h5 n_h5 c_h5)
  clear ho hbx_
  obtain ⟨w_3, hw_3⟩ : ∃ v, ((w_2.setCell ⟨w_1.heap.size, 0, none⟩ (.bool sb_h5)).setCell ⟨w_1.heap.size, 1, none⟩ (.slice o_h5 n_h5 c_h5)) = v := ⟨_, rfl⟩
  rw [hw_3] at ha hp g1 h5 hb
  replace ha := ha.drew
  replace hp := hp.drew
  replace g1 := g1.drew
  replace h5 := h5.drew
  replace hb := hb.drew
  go_wp2_with fail
  refine wp_region_pl [(0, true), (1, false), (2, false), (3, false), (5, false), (4, true), (6, true), (7, false), (8, false)] (fun w' => w'.cell? ⟨w.heap.size, 0, none⟩ = some (.bool na) ∧ w'.cell? ⟨w.heap.size, 1, none⟩ = some (.slice oa xs.length ca) ∧ w'.cell? ⟨w_1.heap.size, 0, none⟩ = some (.bool sb_h5) ∧ w'.cell? ⟨w_1.heap.size, 1, none⟩ = some (.slice o_h5 n_h5 c_h5)) (by kernel_rfl) (by kernel_rfl) (by kernel_rfl) (by kernel_rfl) ⟨hp.facts.1, hp.facts.2.1, h5.facts.1, h5.facts.2.1⟩ ?_
  clear f_h5
  apply wpPl_call
  case hi => rfl
  case hw => kernel_rfl
  case h =>
  intro K hK
  have kb_4 := hb.size
  go_big_op
  go_fit (zawake_any _ (htabs _ hb))
  rintro e w_4 ⟨rfl, hb_4⟩
  replace ha := ha.below hb_4 (Nat.le_refl _)
  replace hp := hp.below hb_4 (Nat.le_refl _)
  replace g1 := g1.below hb_4 (Nat.le_refl _)
  replace h5 := h5.below hb_4 (Nat.le_refl _)
  replace hb := hb.trans (hb_4.mono hb.size)
  refine hK _ _ rfl ⟨hp.facts.1, hp.facts.2.1, h5.facts.1, h5.facts.2.1⟩ ?_
  clear hK K hb_4
  apply wpPl_ld
  case hi => rfl
  case h1 => intro w' hC K hK; obtain ⟨c0, c1, c2, c3⟩ := hC; (first | go_big_move | go_big_op); exact hK
  case hw => kernel_rfl
  case hv => kernel_rfl
  case hb => kernel_rfl
  case hp => kernel_rfl
  apply wpPl_ld
  case hi => rfl
  case h1 => intro w' hC K hK; obtain ⟨c0, c1, c2, c3⟩ := hC; (first | go_big_move | go_big_op); exact hK
  case hw => kernel_rfl
  case hv => kernel_rfl
  case hb => kernel_rfl
  case hp => kernel_rfl
  apply wpPl_ld
  case hi => rfl
  case h1 => intro w' hC K hK; obtain ⟨c0, c1, c2, c3⟩ := hC; (first | go_big_move | go_big_op); exact hK
  case hw => kernel_rfl
  case hv => kernel_rfl
  case hb => kernel_rfl
  case hp => kernel_rfl
  apply wpPl_ld
  case hi => rfl
  case h1 => intro w' hC K hK; obtain ⟨c0, c1, c2, c3⟩ := hC; (first | go_big_move | go_big_op); exact hK
  case hw => kernel_rfl
  case hv => kernel_rfl
  case hb => kernel_rfl
  case hp => kernel_rfl
  apply wpPl_call
  case hi => rfl
  case hw => kernel_rfl
  case h =>
  intro K hK
  have kb_5 := hb.size
  go_big_op
  go_fit (ztext_any ha (htabs _ hb))
  rintro e w_5 ⟨rfl, hb_5⟩
  replace ha := ha.below hb_5 (Nat.le_refl _)
  replace hp := hp.below hb_5 (Nat.le_refl _)
  replace g1 := g1.below hb_5 (Nat.le_refl _)
  replace h5 := h5.below hb_5 (Nat.le_refl _)
  replace hb := hb.trans (hb_5.mono hb.size)
  refine hK _ _ rfl ⟨hp.facts.1, hp.facts.2.1, h5.facts.1, h5.facts.2.1⟩ ?_
  clear hK K hb_5
  rw [HT.out]
  apply wpPl_call
  case hi => rfl
  case hw => kernel_rfl
  case h =>
  intro K hK
  have kb_6 := hb.size
  go_big_op
  go_fit (rztext_any ha)
  rintro e w_6 ⟨rfl, hb_6⟩
  replace ha := ha.below hb_6 (Nat.le_refl _)
  replace hp := hp.below hb_6 (Nat.le_refl _)
  replace g1 := g1.below hb_6 (Nat.le_refl _)
  replace h5 := h5.below hb_6 (Nat.le_refl _)
  replace hb := hb.trans (hb_6.mono hb.size)
  refine hK _ _ rfl ⟨hp.facts.1, hp.facts.2.1, h5.facts.1, h5.facts.2.1⟩ ?_
  clear hK K hb_6
  rw [HT.out]
  apply wpPl_ld
  case hi => rfl
  case h1 => intro w' hC K hK; obtain ⟨c0, c1, c2, c3⟩ := hC; (first | go_big_move | go_big_op); exact hK
  case hw => kernel_rfl
  case hv => kernel_rfl
  case hb => kernel_rfl
  case hp => kernel_rfl
  apply wpPl_ld
  case hi => rfl
  case h1 => intro w' hC K hK; obtain ⟨c0, c1, c2, c3⟩ := hC; (first | go_big_move | go_big_op); exact hK
  case hw => kernel_rfl
  case hv => kernel_rfl
  case hb => kernel_rfl
  case hp => kernel_rfl
  apply wpPl_end
  go_wp2_with fail
  refine (HI.out _).mono ?_
  rintro e w' ⟨rfl, rfl⟩
  replace ha := ha.drew
  replace hp := hp.drew
  replace g1 := g1.drew
  replace h5 := h5.drew
  replace hb := hb.drew
  go_wp2_with fail
  refine wp_region_pl [(0, false), (1, false), (2, false), (3, false), (4, false), (5, true), (6, true), (7, false), (8, false)] (fun w' => w'.cell? ⟨w.heap.size, 0, none⟩ = some (.bool na) ∧ w'.cell? ⟨w.heap.size, 1, none⟩ = some (.slice oa xs.length ca) ∧ w'.cell? ⟨w_1.heap.size, 0, none⟩ = some (.bool sb_h5) ∧ w'.cell? ⟨w_1.heap.size, 1, none⟩ = some (.slice o_h5 n_h5 c_h5)) (by kernel_rfl) (by kernel_rfl) (by kernel_rfl) (by kernel_rfl) ⟨hp.facts.1, hp.facts.2.1, h5.facts.1, h5.facts.2.1⟩ ?_
  apply wpPl_ld
  case hi => rfl
  case h1 => intro w' hC K hK; obtain ⟨c0, c1, c2, c3⟩ := hC; (first | go_big_move | go_big_op); exact hK
  case hw => kernel_rfl
  case hv => kernel_rfl
  case hb => kernel_rfl
  case hp => kernel_rfl
  apply wpPl_ld
  case hi => rfl
  case h1 => intro w' hC K hK; obtain ⟨c0, c1, c2, c3⟩ := hC; (first | go_big_move | go_big_op); exact hK
  case hw => kernel_rfl
  case hv => kernel_rfl
  case hb => kernel_rfl
  case hp => kernel_rfl
  apply wpPl_ld
  case hi => rfl
  case h1 => intro w' hC K hK; obtain ⟨c0, c1, c2, c3⟩ := hC; (first | go_big_move | go_big_op); exact hK
  case hw => kernel_rfl
  case hv => kernel_rfl
  case hb => kernel_rfl
  case hp => kernel_rfl
  apply wpPl_ld
  case hi => rfl
  case h1 => intro w' hC K hK; obtain ⟨c0, c1, c2, c3⟩ := hC; (first | go_big_move | go_big_op); exact hK
  case hw => kernel_rfl
  case hv => kernel_rfl
  case hb => kernel_rfl
  case hp => kernel_rfl
  apply wpPl_ld
  case hi => rfl
  case h1 => intro w' hC K hK; obtain ⟨c0, c1, c2, c3⟩ := hC; (first | go_big_move | go_big_op); exact hK
  case hw => kernel_rfl
  case hv => kernel_rfl
  case hb => kernel_rfl
  case hp => kernel_rfl
  apply wpPl_call
  case hi => rfl
  case hw => kernel_rfl
  case h =>
  intro K hK
  have kb_7 := hb.size
  go_big_op
  go_fit (HR.out _)
  rintro e w_7 ⟨v2, rfl, g2, hb_7⟩
  replace ha := ha.below hb_7 (Nat.le_refl _)
  replace hp := hp.below hb_7 (Nat.le_refl _)
  replace g1 := g1.below hb_7 (Nat.le_refl _)
  replace h5 := h5.below hb_7 (Nat.le_refl _)
  replace hb := hb.trans (hb_7.mono hb.size)
  refine hK _ _ rfl ⟨hp.facts.1, hp.facts.2.1, h5.facts.1, h5.facts.2.1⟩ ?_
  clear hK K hb_7
  apply wpPl_call
  case hi => rfl
  case hw => kernel_rfl
  case h =>
  intro K hK
  have kb_8 := hb.size
  go_big_op
  go_fit (is_zz g1 (g2.zn HL.out) (by decide))
  rintro e w_8 ⟨rfl, hb_8⟩
  replace ha := ha.below hb_8 (Nat.le_refl _)
  replace hp := hp.below hb_8 (Nat.le_refl _)
  replace g1 := g1.below hb_8 (Nat.le_refl _)
  replace h5 := h5.below hb_8 (Nat.le_refl _)
  replace g2 := g2.below hb_8 (Nat.le_refl _)
  replace hb := hb.trans (hb_8.mono hb.size)
  refine hK _ _ rfl ⟨hp.facts.1, hp.facts.2.1, h5.facts.1, h5.facts.2.1⟩ ?_
  clear hK K hb_8
  apply wpPl_ld
  case hi => rfl
  case h1 => intro w' hC K hK; obtain ⟨c0, c1, c2, c3⟩ := hC; (first | go_big_move | go_big_op); exact hK
  case hw => kernel_rfl
  case hv => kernel_rfl
  case hb => kernel_rfl
  case hp => kernel_rfl
  apply wpPl_ld
  case hi => rfl
  case h1 => intro w' hC K hK; obtain ⟨c0, c1, c2, c3⟩ := hC; (first | go_big_move | go_big_op); exact hK
  case hw => kernel_rfl
  case hv => kernel_rfl
  case hb => kernel_rfl
  case hp => kernel_rfl
  apply wpPl_end
  go_wp2
  go_ret
  exact ⟨rfl, hb⟩

theorem digits_all {l : List UInt8} (h : digitsB l = true) : l.all isD = true := by unfold digitsB at h; rw [Bool.and_eq_true] at h; exact h.1
theorem walk_ZintTexts (w : World) (na : Bool) (sa : Value) (xs : List Nat) (hx : Rd w sa xs) (hxl : xs.length ≤ 1048576) (s : ByteArray) (hs : s.size ≤ 1048576) (htab : Lib.TabIs Tryd.prog w p10 .u64 Lib.pow10Tab) :
    Calls Tryd.prog 9 #[.agg #[.bool na, sa], .string s] w fun e w' => e = .returned (.bool true) ∧ Below w.heap.size w w' := by
  have ha : ZN w (.agg #[.bool na, sa]) (zv na xs) 1048576 := ⟨na, sa, xs, rfl, hx, rfl, hxl⟩
  rcases Nat.lt_or_ge 65536 s.size with hl | hl
  · exact texts_long s ha hs hl htab
  · cases hm : minusB s with
    | true =>
      have hr := rest_size (s := s)
      cases hd : digitsB (s.extract 1 s.size).data.toList with
      | false => exact texts_bad s ha hs hl _ true (fun w => scut1 s w hs hm) (by omega) hd (fun w => ris_minus s w hl hm) htab
      | true =>
        have hall := digits_all hd
        have hlen := pval_dig_length hall (by rw [← Lib.size_eq]; omega)
        exact texts_good s ha hs hl _ true _ (fun w => scut1 s w hs hm) (by omega) hd (fun w => ris_minus s w hl hm) rfl (by rw [if_pos rfl, Int.natAbs_neg, Int.natAbs_natCast]; exact hlen) (fun w => rzparse_minus s w hl hm hall) htab
    | false =>
      cases hd : digitsB s.data.toList with
      | false => exact texts_bad s ha hs hl _ false (fun w => scut0 s w hm) hl hd (fun w => ris_plain s w hl hm) htab
      | true =>
        have hall := digits_all hd
        have hlen := pval_dig_length hall (by rw [← Lib.size_eq]; omega)
        have h0 : 0 < s.size := by
          rcases Nat.eq_zero_or_pos s.size with h | h
          · rw [Lib.size_eq, List.length_eq_zero_iff] at h
            rw [h] at hd
            exact absurd hd (by decide)
          · exact h
        exact texts_good s ha hs hl _ false _ (fun w => scut0 s w hm) hl hd (fun w => ris_plain s w hl hm) rfl (by rw [if_neg Bool.false_ne_true, Int.natAbs_natCast]; exact hlen) (fun w => rzparse_plain s w hl hm h0 hall) htab
end Go.Proofs.YtabmffenbkdgkaaDoor
