/- Texts with a sign: CutPrefix, the references Is and Parse. -/
import Derived.Test.YtkgbfnmlpajblaaGreatDoorZ13ToR10
import Derived.Test.YtkgbfnmlpajblaaGreatDoorR11
import Derived.Test.YtkgbfnmlpajblaaGreatDoorR12
import Derived.Test.YtkgbfnmlpajblaaGreatDoorQ5
import Derived.Test.YtkgbfnmlpajblaaGreatDoorShelf
import Derived.Lib.IndexLaws

namespace Go.Proofs.YtkgbfnmlpajblaaGreatDoor
open Go.RowKit Dig

/-- Does a text begin with a -? -/
def minusB (s : ByteArray) : Bool := decide (1 ≤ s.size) && ((s.extract 0 1).toList == [45])
set_option maxHeartbeats 1000000 in
set_option maxRecDepth 20000 in
theorem hasPrefix_any (s : ByteArray) (w : World) :
    Calls Tryz.prog 151 #[.string s, .string ⟨#[45]⟩] w fun e w' => e = .returned (.bool (minusB s)) ∧ w' = w := by
  by_cases h : 1 ≤ s.size
  · have hm : minusB s = ((s.extract 0 1).toList == [45]) := by unfold minusB; rw [decide_eq_true h, Bool.true_and]
    rw [hm]
    clear hm
    go_enter Tryz.func151, Tryz.ntmps151
    go_wp2
    go_ret
    exact ⟨rfl, rfl⟩
  · have hm : minusB s = false := by unfold minusB; rw [decide_eq_false h, Bool.false_and]
    rw [hm]
    clear hm
    go_enter Tryz.func151, Tryz.ntmps151
    go_wp2
    go_ret
    exact ⟨rfl, rfl⟩
set_option maxHeartbeats 1000000 in
set_option maxRecDepth 20000 in
theorem cutPrefix0 (s : ByteArray) (w : World) (hm : minusB s = false) :
    Calls Tryz.prog 147 #[.string s, .string ⟨#[45]⟩] w fun e w' => e = .returned (.tuple #[.string s, .bool false]) ∧ w' = w := by
  go_enter Tryz.func147, Tryz.ntmps147
  go_wp2_with fail
  refine (hasPrefix_any s w).mono ?_
  rintro e w' ⟨rfl, rfl⟩
  rw [hm]
  go_wp2
  go_ret2
  exact ⟨rfl, rfl⟩
set_option maxHeartbeats 1000000 in
set_option maxRecDepth 20000 in
theorem cutPrefix1 (s : ByteArray) (w : World) (hs : s.size ≤ 1048576) (hm : minusB s = true) :
    Calls Tryz.prog 147 #[.string s, .string ⟨#[45]⟩] w fun e w' => e = .returned (.tuple #[.string (s.extract 1 s.size), .bool true]) ∧ w' = w := by
  have h1 : 1 ≤ s.size := by unfold minusB at hm; rw [Bool.and_eq_true] at hm; exact of_decide_eq_true hm.1
  go_enter Tryz.func147, Tryz.ntmps147
  go_wp2_with fail
  refine (hasPrefix_any s w).mono ?_
  rintro e w' ⟨rfl, rfl⟩
  rw [hm]
  clear hm
  go_wp2
  go_ret2
  exact ⟨rfl, rfl⟩
set_option maxHeartbeats 1000000 in
set_option maxRecDepth 20000 in
theorem scut0 (s : ByteArray) (w : World) (hm : minusB s = false) :
    Calls Tryz.prog 126 #[.string s, .string ⟨#[45]⟩] w fun e w' => e = .returned (.tuple #[.string s, .bool false]) ∧ w' = w := by
  go_enter Tryz.func126, Tryz.ntmps126
  go_wp2_with fail
  refine (cutPrefix0 s w hm).mono ?_
  rintro e w' ⟨rfl, rfl⟩
  go_wp2
  go_ret2
  exact ⟨rfl, rfl⟩
set_option maxHeartbeats 1000000 in
set_option maxRecDepth 20000 in
theorem scut1 (s : ByteArray) (w : World) (hs : s.size ≤ 1048576) (hm : minusB s = true) :
    Calls Tryz.prog 126 #[.string s, .string ⟨#[45]⟩] w fun e w' => e = .returned (.tuple #[.string (s.extract 1 s.size), .bool true]) ∧ w' = w := by
  go_enter Tryz.func126, Tryz.ntmps126
  go_wp2_with fail
  refine (cutPrefix1 s w hs hm).mono ?_
  rintro e w' ⟨rfl, rfl⟩
  go_wp2
  go_ret2
  exact ⟨rfl, rfl⟩
theorem rest_size {s : ByteArray} : (s.extract 1 s.size).size = s.size - 1 := by
  rw [Lib.size_eq, Lib.extract_data, List.length_take, List.length_drop, ← Lib.size_eq]; omega
end Go.Proofs.YtkgbfnmlpajblaaGreatDoor

/- zint.Parse, Text; the reference's Text. -/
namespace Go.Proofs.YtkgbfnmlpajblaaGreatDoor
open Go.RowKit Dig

set_option maxHeartbeats 400000 in
set_option maxRecDepth 20000 in
/-- signed, of digits that are read. -/
theorem signed_rd {w : World} {s : Value} (neg : Bool) (n : Nat) (z : Int) (h : Rd w s (dig n)) (hz : (if neg then -(n : Int) else (n : Int)) = z) :
    Calls Tryz.prog 102 #[.bool neg, s] w fun e w' => ∃ v, e = .returned v ∧ ZC w' v z ∧ Below w.heap.size w w' := by
  subst hz
  have HSG := hide (sign_of neg n)
  have h' := h
  obtain ⟨oa, cap, rfl, hcap, _⟩ := h
  have H' := hide h'
  clear h'
  have hbl : ∀ o, Below w.heap.size w (w.alloc o) := fun o => (Below.refl _ _).alloc (Nat.le_refl _) o
  have e1 : ((n : Int)).natAbs = n := by simp
  have e2 : (-(n : Int)).natAbs = n := by simp
  have E := hide (And.intro e1 e2)
  clear e1 e2
  cases neg
  · go_enter Tryz.func102, Tryz.ntmps102
    go_wp2
    go_returns
    refine ⟨_, rfl, ⟨_, ?_, by rw [E.out.1]; exact H'.out.below (hbl _) (Nat.le_refl _)⟩, hbl _⟩
    rw [decide_eq_false (by omega : ¬ (n : Int) < 0)]
  · go_enter Tryz.func102, Tryz.ntmps102
    go_wp2
    go_returns
    refine ⟨_, rfl, ⟨_, ?_, by rw [E.out.2]; exact H'.out.below (hbl _) (Nat.le_refl _)⟩, hbl _⟩
    have h3 := HSG.out
    simp only [Bool.true_and, if_true] at h3
    rw [h3]
set_option maxHeartbeats 1000000 in
set_option maxRecDepth 20000 in
/-- zint.Parse of what is no number. -/
theorem zparse_bad (s : ByteArray) (w : World) (hs : s.size ≤ 65536) (d : ByteArray) (m : Bool)
    (hcut : ∀ w, Calls Tryz.prog 126 #[.string s, .string ⟨#[45]⟩] w fun e w' => e = .returned (.tuple #[.string d, .bool m]) ∧ w' = w) (hds : d.size ≤ 65536) (hd : digitsB d.data.toList = false) :
    Calls Tryz.prog 94 #[.string s] w fun e w' => e = .returned (.tuple #[.agg #[.bool false, .slice none 0 0], .int .i64 7]) ∧ Below w.heap.size w w' := by
  have e1 : parseI d = 7 := by unfold parseI; rw [if_neg (by omega), if_neg (by rw [hd]; exact Bool.false_ne_true)]
  have HP := hide (fun w => parse_any d w (by omega))
  rw [e1] at HP
  have HC := hide hcut
  have e7 : ((7 : Int) == 0) = false := rfl
  clear e1 hcut hd
  go_enter Tryz.func94, Tryz.ntmps94
  have hb := Below.refl w.heap.size w
  have hz := Bk.new w false (.slice none 0 0)
  replace hb := hb.alloc hb.size (.cells #[.bool false, (.slice none 0 0)] 24)
  go_wp2_with fail
  refine (HC.out _).mono ?_
  rintro e w' ⟨rfl, rfl⟩
  go_wp2_with fail
  refine (HP.out _).mono ?_
  rintro e w_1 ⟨v1, rfl, -, hb_1⟩
  replace hz := hz.below hb_1 (Nat.le_refl _)
  replace hb := hb.trans (hb_1.mono hb.size)
  clear hb_1
  have f_hz := hz.facts
  have ho := Bk.only w_1 (w.heap.size) false (.slice none 0 0)
  have hbx_ := hz.bx
  replace hz := hz.store false (.slice none 0 0)
  replace hb := (hb.setCell (p := ⟨w.heap.size, 0, none⟩) (show w.heap.size ≤ w.heap.size by first | assumption | (simp; done) | omega) (.bool false)).setCell (p := ⟨w.heap.size, 1, none⟩) (show w.heap.size ≤ w.heap.size by first | assumption | (simp; done) | omega) (.slice none 0 0)
  clear ho hbx_
  obtain ⟨w_2, hw_2⟩ : ∃ v, ((w_1.setCell ⟨w.heap.size, 0, none⟩ (.bool false)).setCell ⟨w.heap.size, 1, none⟩ (.slice none 0 0)) = v := ⟨_, rfl⟩
  rw [hw_2] at hz hb
  have f1 := hz.facts
  go_wp2
  refine bodyPost_ret (v := .tuple #[.agg #[.bool false, .slice none 0 0], .int .i64 7]) (by simp [results, Tryz.results94, go_sem, f1.1, f1.2.1]) rfl ?_
  exact ⟨rfl, hb⟩
set_option maxHeartbeats 1000000 in
set_option maxRecDepth 20000 in
/-- zint.Parse of a number. -/
theorem zparse_good (s : ByteArray) (w : World) (hs : s.size ≤ 65536) (d : ByteArray) (m : Bool) (z : Int)
    (hcut : ∀ w, Calls Tryz.prog 126 #[.string s, .string ⟨#[45]⟩] w fun e w' => e = .returned (.tuple #[.string d, .bool m]) ∧ w' = w) (hds : d.size ≤ 65536) (hd : digitsB d.data.toList = true)
    (hz' : (if m then -((pval d.data.toList : Nat) : Int) else ((pval d.data.toList : Nat) : Int)) = z) :
    Calls Tryz.prog 94 #[.string s] w fun e w' => ∃ v, e = .returned (.tuple #[v, .int .i64 0]) ∧ ZC w' v z ∧ Below w.heap.size w w' := by
  have e1 : parseI d = 0 := by unfold parseI; rw [if_neg (by omega), if_pos hd]
  have e2 : parseD d = dig (pval d.data.toList) := by unfold parseD; rw [if_neg (by omega), if_pos hd]
  have HP := hide (fun w => parse_any d w (by omega))
  rw [e1, e2] at HP
  have HC := hide hcut
  have HZ := hide hz'
  have e0 : ((0 : Int) == 0) = true := rfl
  clear e1 e2 hcut hd hz'
  go_enter Tryz.func94, Tryz.ntmps94
  have hb := Below.refl w.heap.size w
  have hz := Bk.new w false (.slice none 0 0)
  replace hb := hb.alloc hb.size (.cells #[.bool false, (.slice none 0 0)] 24)
  go_wp2_with fail
  refine (HC.out _).mono ?_
  rintro e w' ⟨rfl, rfl⟩
  go_wp2_with fail
  refine (HP.out _).mono ?_
  rintro e w_1 ⟨v1, rfl, g1, hb_1⟩
  replace hz := hz.below hb_1 (Nat.le_refl _)
  replace hb := hb.trans (hb_1.mono hb.size)
  clear hb_1
  go_wp2_with fail
  refine (signed_rd m _ z g1 HZ.out).mono ?_
  rintro e w_2 ⟨v2, rfl, g2, hb_2⟩
  replace hz := hz.below hb_2 (Nat.le_refl _)
  replace g1 := g1.below hb_2 (Nat.le_refl _)
  replace hb := hb.trans (hb_2.mono hb.size)
  clear hb_2
  clear g1
  obtain ⟨sb_hz, o_hz, n_hz, c_hz, rfl⟩ := g2.open2
  have f_hz := hz.facts
  have ho := Bk.only w_2 (w.heap.size) sb_hz (.slice o_hz n_hz c_hz)
  have hbx_ := hz.bx
  replace g2 := g2.frame hbx_ ho
  replace hz := hz.store sb_hz (.slice o_hz n_hz c_hz)
  replace hb := (hb.setCell (p := ⟨w.heap.size, 0, none⟩) (show w.heap.size ≤ w.heap.size by first | assumption | (simp; done) | omega) (.bool sb_hz)).setCell (p := ⟨w.heap.size, 1, none⟩) (show w.heap.size ≤ w.heap.size by first | assumption | (simp; done) | omega) (.slice o_hz n_hz c_hz)
  clear ho hbx_
  obtain ⟨w_3, hw_3⟩ : ∃ v, ((w_2.setCell ⟨w.heap.size, 0, none⟩ (.bool sb_hz)).setCell ⟨w.heap.size, 1, none⟩ (.slice o_hz n_hz c_hz)) = v := ⟨_, rfl⟩
  rw [hw_3] at hz g2 hb
  have f1 := hz.facts
  go_wp2
  refine bodyPost_ret (v := .tuple #[.agg #[.bool sb_hz, .slice o_hz n_hz c_hz], .int .i64 0]) (by simp [results, Tryz.results94, go_sem, f1.1, f1.2.1]) rfl ?_
  exact ⟨_, rfl, g2, hb⟩
set_option maxHeartbeats 1000000 in
set_option maxRecDepth 20000 in
/-- zint.Text of a number not below 0. -/
theorem ztext_pos {w : World} {v : Value} {z : Int} {l : Nat} (h : ZN w v z l) (hl : l ≤ 1000000000) (hz0 : 0 ≤ z) (htab : Lib.TabIs Tryz.prog w p10 .u64 Lib.pow10Tab) :
    Calls Tryz.prog 74 #[v] w fun e w' => e = .returned (.string ⟨(Lib.decDigits z.natAbs).toArray⟩) ∧ Below w.heap.size w w' := by
  have htabs := Lib.tabBelow_of_tabIs htab
  have hzn := h
  obtain ⟨neg, oa, cap, xs, rfl, hcap, hr, hz, hxl⟩ := h.open_
  have hv : val xs = z.natAbs := by rw [← hz, zv_abs]
  obtain ⟨G, hG⟩ : ∃ G, z.sign = G := ⟨_, rfl⟩
  have hG0 : 0 ≤ G := by rw [← hG]; rcases Int.lt_or_eq_of_le hz0 with h1 | h1; rw [Int.sign_eq_one_of_pos h1]; omega; rw [← h1]; decide
  have hG1 : (G < 0) = False := eq_false (by omega)
  have HV := hide (And.intro hv hG)
  obtain ⟨S, hS⟩ : ∃ S, Lib.decDigits z.natAbs = S := ⟨_, rfl⟩
  have HS := hide hS
  rw [hS]
  clear hz hv h hz0 hS hG
  go_enter Tryz.func74, Tryz.ntmps74
  have hb := Below.refl w.heap.size w
  have hp := Bk.new w neg (.slice oa xs.length cap)
  replace hr := hr.alloc (.cells #[.bool neg, (.slice oa xs.length cap)] 24)
  replace hzn := hzn.alloc (.cells #[.bool neg, (.slice oa xs.length cap)] 24)
  replace hb := hb.alloc hb.size (.cells #[.bool neg, (.slice oa xs.length cap)] 24)
  have f_hp := hp.facts
  go_wp2_with fail
  refine (text_rd hr (by omega) (htabs _ hb)).mono ?_
  rintro e w_1 ⟨rfl, hb_1⟩
  replace hr := hr.below hb_1 (Nat.le_refl _)
  replace hzn := hzn.below hb_1 (Nat.le_refl _)
  replace hp := hp.below hb_1 (Nat.le_refl _)
  replace hb := hb.trans (hb_1.mono hb.size)
  clear hb_1
  rw [HV.out.1, HS.out]
  clear f_hp
  have f_hp := hp.facts
  go_wp2_with fail
  refine (zsign_any hzn hl).mono ?_
  rintro e w_2 ⟨rfl, hb_2⟩
  replace hr := hr.below hb_2 (Nat.le_refl _)
  replace hzn := hzn.below hb_2 (Nat.le_refl _)
  replace hp := hp.below hb_2 (Nat.le_refl _)
  replace hb := hb.trans (hb_2.mono hb.size)
  clear hb_2
  rw [HV.out.2]
  go_wp2
  go_ret
  exact ⟨rfl, hb⟩
end Go.Proofs.YtkgbfnmlpajblaaGreatDoor

/- Texts of rationals; the law's own small numbers, its first look. -/
namespace Go.Proofs.YtkgbfnmlpajblaaGreatDoor
open Go Go.RowKit Dig
set_option linter.unusedVariables false

/-- A whole number's text. -/
def ztx (z : Int) : List UInt8 := if z < 0 then (45 : UInt8) :: Lib.decDigits z.natAbs else Lib.decDigits z.natAbs
def zts (z : Int) : ByteArray := ⟨(ztx z).toArray⟩
theorem dec_le {z : Int} {l : Nat} (h : (dig z.natAbs).length ≤ l) : (Lib.decDigits z.natAbs).length ≤ 10 * (l + 1) :=
  dec_len' (L := l + 1) (Nat.lt_of_lt_of_le (lt_pw_dig _) (pw_mono (by omega))) (by omega)
theorem zts_size {z : Int} {l : Nat} (h : (dig z.natAbs).length ≤ l) : (zts z).size ≤ 10 * l + 11 := by
  have := dec_le h
  unfold zts ztx
  show (List.toArray _).size ≤ _
  split <;> simp <;> omega
theorem ztext_s {w : World} {v : Value} {z : Int} {l : Nat} (h : ZN w v z l) (hl : l ≤ 1000000000) (htab : Lib.TabIs Tryz.prog w p10 .u64 Lib.pow10Tab) :
    Calls Tryz.prog 74 #[v] w fun e w' => e = .returned (.string (zts z)) ∧ Below w.heap.size w w' := by
  by_cases h0 : z < 0
  · unfold zts ztx; rw [if_pos h0]
    exact ztext_neg h hl h0 (Nat.le_trans (dec_le h.len) (by omega)) htab
  · unfold zts ztx; rw [if_neg h0]
    exact ztext_pos h hl (by omega) htab
/-- A rational's text. -/
def qts (x y : Int) : ByteArray := if qD x y = 1 then zts (qN x y) else zts (qN x y) ++ (⟨#[47]⟩ ++ zts (qD x y))
section
variable {w : World} {va vb : Value} {x y u v : Int} {l m k n : Nat}
set_option maxHeartbeats 4000000 in
set_option maxRecDepth 20000 in
theorem fText_one (ha : PN w va x l y m) (hl : l ≤ 10000000) (hm : m ≤ 10000000) (h0 : y ≠ 0) (h1 : qD x y = 1) (htab : Lib.TabIs Tryz.prog w p10 .u64 Lib.pow10Tab) :
    Calls Tryz.prog 27 #[va] w fun e w' => e = .returned (.tuple #[.string (zts (qN x y)), .int .i64 0]) ∧ Below w.heap.size w w' := by
  have htabs := Lib.tabBelow_of_tabIs htab
  have H0 := hide h0
  have H1 := hide (show zcmp (qD x y) 1 = 0 from zcmp_eq h1)
  obtain ⟨S, hS⟩ : ∃ S, zts (qN x y) = S := ⟨_, rfl⟩
  have HS := hide hS
  rw [hS]
  clear h0 h1 hS
  obtain ⟨n_0a, o_0a, k_0a, c_0a, n_0b, o_0b, k_0b, c_0b, rfl, ha1, ha2⟩ := ha
  go_enter Tryz.func27, Tryz.ntmps27
  have hb := Below.refl w.heap.size w
  refine wp_seq_k ?_
  intro K1 hK1
  refine wp_region_sq [0, 1, 2] (by kernel_rfl) ?_
  refine wpSq_call rfl (by kernel_rfl) fun K hK => ?_
  go_big_op
  obtain ⟨p_b1, w_1, eP, eW, x_b1, hn, kb_b1⟩ := newBox w #[.bool n_0a, .slice o_0a k_0a c_0a, .bool n_0b, .slice o_0b k_0b c_0b] 26 hb.size
  rw [eW, eP]
  clear eW eP
  replace ha1 := ha1.bl hn; replace ha2 := ha2.bl hn; replace hb := hb.trans (hn.mono hb.size)
  refine hK _ _ rfl ?_; clear hK K hn
  refine wpSq_call rfl (by kernel_rfl) fun K hK => ?_
  go_big_move; refine hK _ _ rfl ?_; clear hK K
  refine wpSq_call rfl (by kernel_rfl) fun K hK => ?_
  go_big_move; refine hK _ _ rfl ?_; clear hK K
  apply wpSq_end
  refine hK1 _ _ ?_
  refine wp_seq_k ?_
  intro K2 hK2
  refine wp_region_sq [0, 1, 2, 3, 4, 5, 6, 7, 8, 9, 10] (by kernel_rfl) ?_
  refine wpSq_call rfl (by kernel_rfl) fun K hK => ?_
  go_big_op; refine hK _ _ rfl ?_; clear hK K
  refine wpSq_call rfl (by kernel_rfl) fun K hK => ?_
  obtain ⟨d0, d1, d2, d3⟩ := x_b1.f4
  go_big_op; refine hK _ _ rfl ?_; clear hK K d0 d1 d2 d3
  refine wpSq_call rfl (by kernel_rfl) fun K hK => ?_
  go_big_op; refine hK _ _ rfl ?_; clear hK K
  refine wpSq_call rfl (by kernel_rfl) fun K hK => ?_
  obtain ⟨d0, d1, d2, d3⟩ := x_b1.f4
  go_big_op; refine hK _ _ rfl ?_; clear hK K d0 d1 d2 d3
  refine wpSq_call rfl (by kernel_rfl) fun K hK => ?_
  go_big_op
  go_fit (fmake_any ha1 ha2 (by omega) (by omega) H0.out)
  rintro e w_2 ⟨_, rfl, ⟨n_ga, o_ga, k_ga, c_ga, n_gb, o_gb, k_gb, c_gb, rfl, g1, g2⟩, hb_2⟩
  clear x_b1
  replace ha1 := ha1.bl hb_2; replace ha2 := ha2.bl hb_2; replace hb := hb.trans (hb_2.mono hb.size)
  have Lg1 := hide (g1.lenOf (qN_len (H0.out) (ha1.len)))
  have Lg2 := hide (g2.lenOf (qD_len (H0.out) (ha2.len)))
  refine hK _ _ rfl ?_
  clear hK K hb_2
  refine wpSq_call rfl (by kernel_rfl) fun K hK => ?_
  go_big_move; refine hK _ _ rfl ?_; clear hK K
  refine wpSq_call rfl (by kernel_rfl) fun K hK => ?_
  go_big_op; refine hK _ _ rfl ?_; clear hK K
  refine wpSq_call rfl (by kernel_rfl) fun K hK => ?_
  go_big_op; refine hK _ _ rfl ?_; clear hK K
  refine wpSq_call rfl (by kernel_rfl) fun K hK => ?_
  go_big_op
  clear ha1 ha2
  obtain ⟨p_b2, w_3, eP, eW, x_b2, hn, kb_b2⟩ := newBox w_2 #[.bool false, .slice none 0 0, .bool false, .slice none 0 0] 26 hb.size
  rw [eW, eP]
  clear eW eP
  replace g1 := g1.bl hn; replace g2 := g2.bl hn; replace hb := hb.trans (hn.mono hb.size)
  refine hK _ _ rfl ?_; clear hK K hn
  refine wpSq_call rfl (by kernel_rfl) fun K hK => ?_
  obtain ⟨d0, d1, d2, d3⟩ := x_b2.f4
  have f0 := x_b2.free 0; have f1 := x_b2.free 1; have f2 := x_b2.free 2; have f3 := x_b2.free 3
  go_big_op
  have hnd := x_b2.nod rfl rfl
  obtain ⟨w_4, eW, x_b2', ho⟩ : ∃ w', ((((w_3.setCell ⟨p_b2, 0, none⟩ (.bool n_ga)).setCell ⟨p_b2, 1, none⟩ (.slice o_ga k_ga c_ga)).setCell ⟨p_b2, 2, none⟩ (.bool n_gb)).setCell ⟨p_b2, 3, none⟩ (.slice o_gb k_gb c_gb)) = w' ∧ Bs w' p_b2 #[.bool n_ga, .slice o_ga k_ga c_ga, .bool n_gb, .slice o_gb k_gb c_gb] 26 ∧ Only p_b2 w_3 w' := x_b2.setN [(0, .bool n_ga), (1, .slice o_ga k_ga c_ga), (2, .bool n_gb), (3, .slice o_gb k_gb c_gb)]
  rw [eW]; clear eW d0 d1 d2 d3 f0 f1 f2 f3 x_b2
  have x_b2 := x_b2'; clear x_b2'
  replace g1 := g1.fr hnd ho; replace g2 := g2.fr hnd ho; replace hb := belowOnly hb ho kb_b2
  refine hK _ _ rfl ?_; clear hK K ho hnd
  refine wpSq_call rfl (by kernel_rfl) fun K hK => ?_
  go_big_move; refine hK _ _ rfl ?_; clear hK K
  apply wpSq_end
  refine hK2 _ _ ?_
  refine wp_seq_k ?_
  intro K3 hK3
  refine wp_seq_k ?_
  intro K4 hK4
  refine wp_region_sq [0, 1] (by kernel_rfl) ?_
  refine wpSq_call rfl (by kernel_rfl) fun K hK => ?_
  go_big_move; refine hK _ _ rfl ?_; clear hK K
  refine wpSq_call rfl (by kernel_rfl) fun K hK => ?_
  go_big_op; refine hK _ _ rfl ?_; clear hK K
  apply wpSq_end
  refine hK4 _ _ ?_
  refine wp_cond_false (congrArg Value.bool (show _ = false from (by first | rfl | assumption | (simp; done) | omega))) ?_
  refine wp_skip ?_
  refine hK3 _ _ ?_
  refine wp_seq_k ?_
  intro K5 hK5
  refine wp_region_sq [0, 1, 2, 3] (by kernel_rfl) ?_
  refine wpSq_call rfl (by kernel_rfl) fun K hK => ?_
  go_big_op; refine hK _ _ rfl ?_; clear hK K
  refine wpSq_call rfl (by kernel_rfl) fun K hK => ?_
  obtain ⟨d0, d1, d2, d3⟩ := x_b2.f4
  go_big_op; refine hK _ _ rfl ?_; clear hK K d0 d1 d2 d3
  refine wpSq_call rfl (by kernel_rfl) fun K hK => ?_
  go_big_op
  go_fit (ztext_s (g1.zn Lg1.out) (by omega) (htabs _ hb))
  rintro e w_5 ⟨rfl, hb_5⟩
  replace g1 := g1.bl hb_5; replace g2 := g2.bl hb_5; replace x_b2 := x_b2.bl hb_5; replace hb := hb.trans (hb_5.mono hb.size)
  rw [HS.out]
  refine hK _ _ rfl ?_
  clear hK K hb_5
  refine wpSq_call rfl (by kernel_rfl) fun K hK => ?_
  go_big_move; refine hK _ _ rfl ?_; clear hK K
  apply wpSq_end
  refine hK5 _ _ ?_
  refine wp_seq_k ?_
  intro K6 hK6
  refine wp_seq_k ?_
  intro K7 hK7
  refine wp_region_fl2 [(0, false), (1, false), (2, true), (3, true), (4, false)] [] [] (fun _ => default) [99, 0, 99, 99, 99] [] (fun w' => w'.cell? ⟨p_b2, 0, none⟩ = some (.bool n_ga) ∧ w'.cell? ⟨p_b2, 1, none⟩ = some (.slice o_ga k_ga c_ga) ∧ w'.cell? ⟨p_b2, 2, none⟩ = some (.bool n_gb) ∧ w'.cell? ⟨p_b2, 3, none⟩ = some (.slice o_gb k_gb c_gb)) [fun w' => w'.cell? ⟨p_b2, 0, none⟩ = some (.bool n_ga) ∧ w'.cell? ⟨p_b2, 1, none⟩ = some (.slice o_ga k_ga c_ga) ∧ w'.cell? ⟨p_b2, 2, none⟩ = some (.bool n_gb) ∧ w'.cell? ⟨p_b2, 3, none⟩ = some (.slice o_gb k_gb c_gb)] (by kernel_rfl) (by kernel_rfl) (by kernel_rfl) (by kernel_rfl) (by kernel_rfl) (by kernel_rfl) (by kernel_rfl) (by kernel_rfl) (by decide) (by intro j hj; cases hj) (by intro w' o hC; obtain ⟨c0, c1, c2, c3⟩ := hC; exact ⟨cell_alloc c0 o, cell_alloc c1 o, cell_alloc c2 o, cell_alloc c3 o⟩) (by intro w' hC G hG; obtain ⟨c0, c1, c2, c3⟩ := hC; simp only [List.mem_cons, List.not_mem_nil, or_false] at hG; rcases hG with rfl <;> first | exact ⟨c0, c1, c2, c3⟩) ?_
  have lt_b2 := x_b2.lt
  intro w_6 hn
  replace lt_b2 := Nat.lt_of_lt_of_le lt_b2 hn.size
  replace g1 := g1.bl hn; replace g2 := g2.bl hn; replace x_b2 := x_b2.bl hn; replace hb := hb.trans (hn.mono hb.size)
  clear hn
  have kb0 := hb.size
  refine ⟨⟨x_b2.cell 0 rfl, x_b2.cell 1 rfl, x_b2.cell 2 rfl, x_b2.cell 3 rfl⟩, ?_⟩
  apply wpFl_ld rfl rfl; (case h1 => intro w' hC K hK; go_big_op; exact hK); iterate 4 kernel_rfl
  apply wpFl_ld rfl rfl; (case h1 => intro w' hC K hK; obtain ⟨c0, c1, c2, c3⟩ := hC; go_big_op; exact hK); iterate 4 kernel_rfl
  refine wpFl_call rfl (by kernel_rfl) fun w_7 hn hC => ?_; clear hC
  replace g1 := g1.bl hn; replace g2 := g2.bl hn; replace x_b2 := x_b2.bl hn; replace hb := hb.trans (hn.mono hb.size)
  clear hn; intro K hK
  go_big_op
  go_fit (from_any (1 : Int) _ (by decide) (by decide))
  rintro e w_8 ⟨v_g3, rfl, g3, hb_8⟩
  replace g1 := g1.bl hb_8; replace g2 := g2.bl hb_8; replace x_b2 := x_b2.bl hb_8; replace hb := hb.trans (hb_8.mono hb.size)
  replace g3 := g3.rd
  obtain ⟨n_g3, o_g3, k_g3, c_g3, rfl⟩ := g3.open2
  have Lg3 := hide (g3.lenOf (zlen_i (1 : Int) (by decide) (by decide)))
  refine hK _ _ rfl hb_8 ⟨x_b2.cell 0 rfl, x_b2.cell 1 rfl, x_b2.cell 2 rfl, x_b2.cell 3 rfl⟩ ?_
  clear hK K hb_8
  refine wpFl_call rfl (by kernel_rfl) fun w_9 hn hC => ?_; clear hC
  replace g1 := g1.bl hn; replace g2 := g2.bl hn; replace x_b2 := x_b2.bl hn; replace g3 := g3.bl hn; replace hb := hb.trans (hn.mono hb.size)
  clear hn; intro K hK
  go_big_op
  go_fit (zcmp_any (g2.zn Lg2.out) (g3.zn Lg3.out) (by omega) (by omega) )
  rintro e w_10 ⟨rfl, hb_10⟩
  replace g1 := g1.bl hb_10; replace g2 := g2.bl hb_10; replace x_b2 := x_b2.bl hb_10; replace g3 := g3.bl hb_10; replace hb := hb.trans (hb_10.mono hb.size)
  rw [H1.out]
  refine hK _ _ rfl hb_10 ⟨x_b2.cell 0 rfl, x_b2.cell 1 rfl, x_b2.cell 2 rfl, x_b2.cell 3 rfl⟩ ?_
  clear hK K hb_10
  apply wpFl_ld rfl rfl; (case h1 => intro w' hC K hK; go_big_op; exact hK); iterate 4 kernel_rfl
  apply wpFl_end
  case ha => intro pt; simp only [putF]; rfl
  case h =>
  intro w_11 pt hn hC hF hD
  clear hC
  clear g3
  replace g1 := g1.bl hn; replace g2 := g2.bl hn; replace x_b2 := x_b2.bl hn; replace hb := hb.trans (hn.mono hb.size)
  clear hn
  clear hF hD
  clear pt
  clear kb0 lt_b2
  apply wpTail_end
  refine hK7 _ _ ?_
  refine wp_cond_false (congrArg Value.bool (show _ = false from (by first | rfl | assumption | (simp; done) | omega))) ?_
  refine wp_skip ?_
  refine hK6 _ _ ?_
  refine wp_seq_k ?_
  intro K8 hK8
  refine wp_region_sq [0, 1, 2] (by kernel_rfl) ?_
  refine wpSq_call rfl (by kernel_rfl) fun K hK => ?_
  go_big_move; refine hK _ _ rfl ?_; clear hK K
  refine wpSq_call rfl (by kernel_rfl) fun K hK => ?_
  go_big_move; refine hK _ _ rfl ?_; clear hK K
  refine wpSq_call rfl (by kernel_rfl) fun K hK => ?_
  go_big_move; refine hK _ _ rfl ?_; clear hK K
  apply wpSq_end
  refine hK8 _ _ ?_
  refine wp_ret ?_
  try dsimp only [Exit.then, Exit.inBlock]
  refine bodyPost_ret (v := (.tuple #[(.string S), (.int .i64 0)])) (by simp [results, Tryz.results27, go_sem]) rfl ?_
  exact ⟨rfl, hb⟩
set_option maxHeartbeats 4000000 in
set_option maxRecDepth 20000 in
theorem fText_two (ha : PN w va x l y m) (hl : l ≤ 10000000) (hm : m ≤ 10000000) (h0 : y ≠ 0) (h1 : qD x y ≠ 1) (htab : Lib.TabIs Tryz.prog w p10 .u64 Lib.pow10Tab) :
    Calls Tryz.prog 27 #[va] w fun e w' => e = .returned (.tuple #[.string (zts (qN x y) ++ (⟨#[47]⟩ ++ zts (qD x y))), .int .i64 0]) ∧ Below w.heap.size w w' := by
  have htabs := Lib.tabBelow_of_tabIs htab
  have H0 := hide h0
  have H1 := hide (show zcmp (qD x y) 1 = 1 from zcmp_gt (by have := qD_pos (x := x) h0; omega))
  have hs := zts_size (qN_len h0 ha.len1)
  have ht := zts_size (qD_len (x := x) h0 ha.len2)
  obtain ⟨S, hS⟩ : ∃ S, zts (qN x y) = S := ⟨_, rfl⟩
  obtain ⟨T, hT⟩ : ∃ T, zts (qD x y) = T := ⟨_, rfl⟩
  have HS := hide hS
  have HT := hide hT
  rw [hS] at hs ⊢
  rw [hT] at ht ⊢
  clear h0 h1 hS hT
  obtain ⟨n_0a, o_0a, k_0a, c_0a, n_0b, o_0b, k_0b, c_0b, rfl, ha1, ha2⟩ := ha
  go_enter Tryz.func27, Tryz.ntmps27
  have hb := Below.refl w.heap.size w
  refine wp_seq_k ?_
  intro K1 hK1
  refine wp_region_sq [0, 1, 2] (by kernel_rfl) ?_
  refine wpSq_call rfl (by kernel_rfl) fun K hK => ?_
  go_big_op
  obtain ⟨p_b1, w_1, eP, eW, x_b1, hn, kb_b1⟩ := newBox w #[.bool n_0a, .slice o_0a k_0a c_0a, .bool n_0b, .slice o_0b k_0b c_0b] 26 hb.size
  rw [eW, eP]
  clear eW eP
  replace ha1 := ha1.bl hn; replace ha2 := ha2.bl hn; replace hb := hb.trans (hn.mono hb.size)
  refine hK _ _ rfl ?_; clear hK K hn
  refine wpSq_call rfl (by kernel_rfl) fun K hK => ?_
  go_big_move; refine hK _ _ rfl ?_; clear hK K
  refine wpSq_call rfl (by kernel_rfl) fun K hK => ?_
  go_big_move; refine hK _ _ rfl ?_; clear hK K
  apply wpSq_end
  refine hK1 _ _ ?_
  refine wp_seq_k ?_
  intro K2 hK2
  refine wp_region_sq [0, 1, 2, 3, 4, 5, 6, 7, 8, 9, 10] (by kernel_rfl) ?_
  refine wpSq_call rfl (by kernel_rfl) fun K hK => ?_
  go_big_op; refine hK _ _ rfl ?_; clear hK K
  refine wpSq_call rfl (by kernel_rfl) fun K hK => ?_
  obtain ⟨d0, d1, d2, d3⟩ := x_b1.f4
  go_big_op; refine hK _ _ rfl ?_; clear hK K d0 d1 d2 d3
  refine wpSq_call rfl (by kernel_rfl) fun K hK => ?_
  go_big_op; refine hK _ _ rfl ?_; clear hK K
  refine wpSq_call rfl (by kernel_rfl) fun K hK => ?_
  obtain ⟨d0, d1, d2, d3⟩ := x_b1.f4
  go_big_op; refine hK _ _ rfl ?_; clear hK K d0 d1 d2 d3
  refine wpSq_call rfl (by kernel_rfl) fun K hK => ?_
  go_big_op
  go_fit (fmake_any ha1 ha2 (by omega) (by omega) H0.out)
  rintro e w_2 ⟨_, rfl, ⟨n_ga, o_ga, k_ga, c_ga, n_gb, o_gb, k_gb, c_gb, rfl, g1, g2⟩, hb_2⟩
  clear x_b1
  replace ha1 := ha1.bl hb_2; replace ha2 := ha2.bl hb_2; replace hb := hb.trans (hb_2.mono hb.size)
  have Lg1 := hide (g1.lenOf (qN_len (H0.out) (ha1.len)))
  have Lg2 := hide (g2.lenOf (qD_len (H0.out) (ha2.len)))
  refine hK _ _ rfl ?_
  clear hK K hb_2
  refine wpSq_call rfl (by kernel_rfl) fun K hK => ?_
  go_big_move; refine hK _ _ rfl ?_; clear hK K
  refine wpSq_call rfl (by kernel_rfl) fun K hK => ?_
  go_big_op; refine hK _ _ rfl ?_; clear hK K
  refine wpSq_call rfl (by kernel_rfl) fun K hK => ?_
  go_big_op; refine hK _ _ rfl ?_; clear hK K
  refine wpSq_call rfl (by kernel_rfl) fun K hK => ?_
  go_big_op
  clear ha1 ha2
  obtain ⟨p_b2, w_3, eP, eW, x_b2, hn, kb_b2⟩ := newBox w_2 #[.bool false, .slice none 0 0, .bool false, .slice none 0 0] 26 hb.size
  rw [eW, eP]
  clear eW eP
  replace g1 := g1.bl hn; replace g2 := g2.bl hn; replace hb := hb.trans (hn.mono hb.size)
  refine hK _ _ rfl ?_; clear hK K hn
  refine wpSq_call rfl (by kernel_rfl) fun K hK => ?_
  obtain ⟨d0, d1, d2, d3⟩ := x_b2.f4
  have f0 := x_b2.free 0; have f1 := x_b2.free 1; have f2 := x_b2.free 2; have f3 := x_b2.free 3
  go_big_op
  have hnd := x_b2.nod rfl rfl
  obtain ⟨w_4, eW, x_b2', ho⟩ : ∃ w', ((((w_3.setCell ⟨p_b2, 0, none⟩ (.bool n_ga)).setCell ⟨p_b2, 1, none⟩ (.slice o_ga k_ga c_ga)).setCell ⟨p_b2, 2, none⟩ (.bool n_gb)).setCell ⟨p_b2, 3, none⟩ (.slice o_gb k_gb c_gb)) = w' ∧ Bs w' p_b2 #[.bool n_ga, .slice o_ga k_ga c_ga, .bool n_gb, .slice o_gb k_gb c_gb] 26 ∧ Only p_b2 w_3 w' := x_b2.setN [(0, .bool n_ga), (1, .slice o_ga k_ga c_ga), (2, .bool n_gb), (3, .slice o_gb k_gb c_gb)]
  rw [eW]; clear eW d0 d1 d2 d3 f0 f1 f2 f3 x_b2
  have x_b2 := x_b2'; clear x_b2'
  replace g1 := g1.fr hnd ho; replace g2 := g2.fr hnd ho; replace hb := belowOnly hb ho kb_b2
  refine hK _ _ rfl ?_; clear hK K ho hnd
  refine wpSq_call rfl (by kernel_rfl) fun K hK => ?_
  go_big_move; refine hK _ _ rfl ?_; clear hK K
  apply wpSq_end
  refine hK2 _ _ ?_
  refine wp_seq_k ?_
  intro K3 hK3
  refine wp_seq_k ?_
  intro K4 hK4
  refine wp_region_sq [0, 1] (by kernel_rfl) ?_
  refine wpSq_call rfl (by kernel_rfl) fun K hK => ?_
  go_big_move; refine hK _ _ rfl ?_; clear hK K
  refine wpSq_call rfl (by kernel_rfl) fun K hK => ?_
  go_big_op; refine hK _ _ rfl ?_; clear hK K
  apply wpSq_end
  refine hK4 _ _ ?_
  refine wp_cond_false (congrArg Value.bool (show _ = false from (by first | rfl | assumption | (simp; done) | omega))) ?_
  refine wp_skip ?_
  refine hK3 _ _ ?_
  refine wp_seq_k ?_
  intro K5 hK5
  refine wp_region_sq [0, 1, 2, 3] (by kernel_rfl) ?_
  refine wpSq_call rfl (by kernel_rfl) fun K hK => ?_
  go_big_op; refine hK _ _ rfl ?_; clear hK K
  refine wpSq_call rfl (by kernel_rfl) fun K hK => ?_
  obtain ⟨d0, d1, d2, d3⟩ := x_b2.f4
  go_big_op; refine hK _ _ rfl ?_; clear hK K d0 d1 d2 d3
  refine wpSq_call rfl (by kernel_rfl) fun K hK => ?_
  go_big_op
  go_fit (ztext_s (g1.zn Lg1.out) (by omega) (htabs _ hb))
  rintro e w_5 ⟨rfl, hb_5⟩
  replace g1 := g1.bl hb_5; replace g2 := g2.bl hb_5; replace x_b2 := x_b2.bl hb_5; replace hb := hb.trans (hb_5.mono hb.size)
  rw [HS.out]
  refine hK _ _ rfl ?_
  clear hK K hb_5
  refine wpSq_call rfl (by kernel_rfl) fun K hK => ?_
  go_big_move; refine hK _ _ rfl ?_; clear hK K
  apply wpSq_end
  refine hK5 _ _ ?_
  refine wp_seq_k ?_
  intro K6 hK6
  refine wp_seq_k ?_
  intro K7 hK7
  refine wp_region_fl2 [(0, false), (1, false), (2, true), (3, true), (4, false)] [] [] (fun _ => default) [99, 0, 99, 99, 99] [] (fun w' => w'.cell? ⟨p_b2, 0, none⟩ = some (.bool n_ga) ∧ w'.cell? ⟨p_b2, 1, none⟩ = some (.slice o_ga k_ga c_ga) ∧ w'.cell? ⟨p_b2, 2, none⟩ = some (.bool n_gb) ∧ w'.cell? ⟨p_b2, 3, none⟩ = some (.slice o_gb k_gb c_gb)) [fun w' => w'.cell? ⟨p_b2, 0, none⟩ = some (.bool n_ga) ∧ w'.cell? ⟨p_b2, 1, none⟩ = some (.slice o_ga k_ga c_ga) ∧ w'.cell? ⟨p_b2, 2, none⟩ = some (.bool n_gb) ∧ w'.cell? ⟨p_b2, 3, none⟩ = some (.slice o_gb k_gb c_gb)] (by kernel_rfl) (by kernel_rfl) (by kernel_rfl) (by kernel_rfl) (by kernel_rfl) (by kernel_rfl) (by kernel_rfl) (by kernel_rfl) (by decide) (by intro j hj; cases hj) (by intro w' o hC; obtain ⟨c0, c1, c2, c3⟩ := hC; exact ⟨cell_alloc c0 o, cell_alloc c1 o, cell_alloc c2 o, cell_alloc c3 o⟩) (by intro w' hC G hG; obtain ⟨c0, c1, c2, c3⟩ := hC; simp only [List.mem_cons, List.not_mem_nil, or_false] at hG; rcases hG with rfl <;> first | exact ⟨c0, c1, c2, c3⟩) ?_
  have lt_b2 := x_b2.lt
  intro w_6 hn
  replace lt_b2 := Nat.lt_of_lt_of_le lt_b2 hn.size
  replace g1 := g1.bl hn; replace g2 := g2.bl hn; replace x_b2 := x_b2.bl hn; replace hb := hb.trans (hn.mono hb.size)
  clear hn
  have kb0 := hb.size
  refine ⟨⟨x_b2.cell 0 rfl, x_b2.cell 1 rfl, x_b2.cell 2 rfl, x_b2.cell 3 rfl⟩, ?_⟩
  apply wpFl_ld rfl rfl; (case h1 => intro w' hC K hK; go_big_op; exact hK); iterate 4 kernel_rfl
  apply wpFl_ld rfl rfl; (case h1 => intro w' hC K hK; obtain ⟨c0, c1, c2, c3⟩ := hC; go_big_op; exact hK); iterate 4 kernel_rfl
  refine wpFl_call rfl (by kernel_rfl) fun w_7 hn hC => ?_; clear hC
  replace g1 := g1.bl hn; replace g2 := g2.bl hn; replace x_b2 := x_b2.bl hn; replace hb := hb.trans (hn.mono hb.size)
  clear hn; intro K hK
  go_big_op
  go_fit (from_any (1 : Int) _ (by decide) (by decide))
  rintro e w_8 ⟨v_g3, rfl, g3, hb_8⟩
  replace g1 := g1.bl hb_8; replace g2 := g2.bl hb_8; replace x_b2 := x_b2.bl hb_8; replace hb := hb.trans (hb_8.mono hb.size)
  replace g3 := g3.rd
  obtain ⟨n_g3, o_g3, k_g3, c_g3, rfl⟩ := g3.open2
  have Lg3 := hide (g3.lenOf (zlen_i (1 : Int) (by decide) (by decide)))
  refine hK _ _ rfl hb_8 ⟨x_b2.cell 0 rfl, x_b2.cell 1 rfl, x_b2.cell 2 rfl, x_b2.cell 3 rfl⟩ ?_
  clear hK K hb_8
  refine wpFl_call rfl (by kernel_rfl) fun w_9 hn hC => ?_; clear hC
  replace g1 := g1.bl hn; replace g2 := g2.bl hn; replace x_b2 := x_b2.bl hn; replace g3 := g3.bl hn; replace hb := hb.trans (hn.mono hb.size)
  clear hn; intro K hK
  go_big_op
  go_fit (zcmp_any (g2.zn Lg2.out) (g3.zn Lg3.out) (by omega) (by omega) )
  rintro e w_10 ⟨rfl, hb_10⟩
  replace g1 := g1.bl hb_10; replace g2 := g2.bl hb_10; replace x_b2 := x_b2.bl hb_10; replace g3 := g3.bl hb_10; replace hb := hb.trans (hb_10.mono hb.size)
  rw [H1.out]
  refine hK _ _ rfl hb_10 ⟨x_b2.cell 0 rfl, x_b2.cell 1 rfl, x_b2.cell 2 rfl, x_b2.cell 3 rfl⟩ ?_
  clear hK K hb_10
  apply wpFl_ld rfl rfl; (case h1 => intro w' hC K hK; go_big_op; exact hK); iterate 4 kernel_rfl
  apply wpFl_end
  case ha => intro pt; simp only [putF]; rfl
  case h =>
  intro w_11 pt hn hC hF hD
  clear hC
  clear g3
  replace g1 := g1.bl hn; replace g2 := g2.bl hn; replace x_b2 := x_b2.bl hn; replace hb := hb.trans (hn.mono hb.size)
  clear hn
  clear hF hD
  clear pt
  clear kb0 lt_b2
  apply wpTail_end
  refine hK7 _ _ ?_
  refine wp_cond_true (congrArg Value.bool (show _ = true from (by first | rfl | assumption | (simp; done) | omega))) ?_
  refine wp_region_sq [0, 1, 2, 3, 4, 5, 6] (by kernel_rfl) ?_
  refine wpSq_call rfl (by kernel_rfl) fun K hK => ?_
  go_big_move; refine hK _ _ rfl ?_; clear hK K
  refine wpSq_call rfl (by kernel_rfl) fun K hK => ?_
  go_big_op; refine hK _ _ rfl ?_; clear hK K
  refine wpSq_call rfl (by kernel_rfl) fun K hK => ?_
  obtain ⟨d0, d1, d2, d3⟩ := x_b2.f4
  go_big_op; refine hK _ _ rfl ?_; clear hK K d0 d1 d2 d3
  refine wpSq_call rfl (by kernel_rfl) fun K hK => ?_
  go_big_op
  go_fit (ztext_s (g2.zn Lg2.out) (by omega) (htabs _ hb))
  rintro e w_12 ⟨rfl, hb_12⟩
  clear g1 x_b2
  replace g2 := g2.bl hb_12; replace hb := hb.trans (hb_12.mono hb.size)
  rw [HT.out]
  refine hK _ _ rfl ?_
  clear hK K hb_12
  refine wpSq_call rfl (by kernel_rfl) fun K hK => ?_
  go_big_op; refine hK _ _ rfl ?_; clear hK K
  refine wpSq_call rfl (by kernel_rfl) fun K hK => ?_
  go_big_op; refine hK _ _ rfl ?_; clear hK K
  refine wpSq_call rfl (by kernel_rfl) fun K hK => ?_
  go_big_move; refine hK _ _ rfl ?_; clear hK K
  apply wpSq_end
  refine hK6 _ _ ?_
  refine wp_seq_k ?_
  intro K8 hK8
  refine wp_region_sq [0, 1, 2] (by kernel_rfl) ?_
  refine wpSq_call rfl (by kernel_rfl) fun K hK => ?_
  go_big_move; refine hK _ _ rfl ?_; clear hK K
  refine wpSq_call rfl (by kernel_rfl) fun K hK => ?_
  go_big_move; refine hK _ _ rfl ?_; clear hK K
  refine wpSq_call rfl (by kernel_rfl) fun K hK => ?_
  go_big_move; refine hK _ _ rfl ?_; clear hK K
  apply wpSq_end
  refine hK8 _ _ ?_
  refine wp_ret ?_
  try dsimp only [Exit.then, Exit.inBlock]
  refine bodyPost_ret (v := (.tuple #[.string (S ++ (⟨#[47]⟩ ++ T)), .int .i64 0])) (by simp [results, Tryz.results27, go_sem]) rfl ?_
  exact ⟨rfl, hb⟩
theorem fText_any (ha : PN w va x l y m) (hl : l ≤ 10000000) (hm : m ≤ 10000000) (h0 : y ≠ 0) (htab : Lib.TabIs Tryz.prog w p10 .u64 Lib.pow10Tab) :
    Calls Tryz.prog 27 #[va] w fun e w' => e = .returned (.tuple #[.string (qts x y), .int .i64 0]) ∧ Below w.heap.size w w' := by
  by_cases h1 : qD x y = 1
  · unfold qts; rw [if_pos h1]; exact fText_one ha hl hm h0 h1 htab
  · unfold qts; rw [if_neg h1]; exact fText_two ha hl hm h0 h1 htab
set_option maxHeartbeats 4000000 in
set_option maxRecDepth 20000 in
theorem fis_any (ha : PC w va (qN u v) (qD u v)) (hq : PN w vb u l v m) (hl : l ≤ 40000000) (hm : m ≤ 40000000) (h0 : v ≠ 0) :
    Calls Tryz.prog 51 #[va, vb] w fun e w' => e = .returned (.bool true) ∧ Below w.heap.size w w' := by
  have H0 := hide h0
  clear h0
  obtain ⟨n_0a, o_0a, k_0a, c_0a, n_0b, o_0b, k_0b, c_0b, rfl, ha1, ha2⟩ := ha
  obtain ⟨n_1a, o_1a, k_1a, c_1a, n_1b, o_1b, k_1b, c_1b, rfl, hq1, hq2⟩ := hq
  go_enter Tryz.func51, Tryz.ntmps51
  have hb := Below.refl w.heap.size w
  refine wp_seq_k ?_
  intro K1 hK1
  refine wp_region_sq [0, 1, 2] (by kernel_rfl) ?_
  refine wpSq_call rfl (by kernel_rfl) fun K hK => ?_
  go_big_op
  obtain ⟨p_b1, w_1, eP, eW, x_b1, hn, kb_b1⟩ := newBox w #[.bool n_0a, .slice o_0a k_0a c_0a, .bool n_0b, .slice o_0b k_0b c_0b] 26 hb.size
  rw [eW, eP]
  clear eW eP
  replace ha1 := ha1.bl hn; replace ha2 := ha2.bl hn; replace hq1 := hq1.bl hn; replace hq2 := hq2.bl hn; replace hb := hb.trans (hn.mono hb.size)
  refine hK _ _ rfl ?_; clear hK K hn
  refine wpSq_call rfl (by kernel_rfl) fun K hK => ?_
  go_big_op
  have lt_b1 := x_b1.lt
  obtain ⟨p_b2, w_2, eP, eW, x_b2, hn, kb_b2⟩ := newBox w_1 #[.bool n_1a, .slice o_1a k_1a c_1a, .bool n_1b, .slice o_1b k_1b c_1b] 26 hb.size
  have ne_b1_b2 : Hid (p_b1 ≠ p_b2) := Nat.ne_of_lt (eP ▸ lt_b1)
  rw [eW, eP]
  clear eW eP lt_b1
  replace ha1 := ha1.bl hn; replace ha2 := ha2.bl hn; replace hq1 := hq1.bl hn; replace hq2 := hq2.bl hn; replace x_b1 := x_b1.bl hn; replace hb := hb.trans (hn.mono hb.size)
  refine hK _ _ rfl ?_; clear hK K hn
  refine wpSq_call rfl (by kernel_rfl) fun K hK => ?_
  go_big_move; refine hK _ _ rfl ?_; clear hK K
  apply wpSq_end
  refine hK1 _ _ ?_
  refine wp_seq_k ?_
  intro K2 hK2
  refine wp_region_sq [0, 1, 2, 3] (by kernel_rfl) ?_
  refine wpSq_call rfl (by kernel_rfl) fun K hK => ?_
  obtain ⟨d0, d1, d2, d3⟩ := x_b1.f4
  go_big_op; refine hK _ _ rfl ?_; clear hK K d0 d1 d2 d3
  refine wpSq_call rfl (by kernel_rfl) fun K hK => ?_
  obtain ⟨d0, d1, d2, d3⟩ := x_b2.f4
  go_big_op; refine hK _ _ rfl ?_; clear hK K d0 d1 d2 d3
  refine wpSq_call rfl (by kernel_rfl) fun K hK => ?_
  go_big_op
  go_fit (rfsame_any (PC.mk' ha1 ha2) (PN.mk' hq1 hq2) (by omega) (by omega) H0.out)
  rintro e w_3 ⟨rfl, hb_3⟩
  clear x_b1 x_b2
  replace ha1 := ha1.bl hb_3; replace ha2 := ha2.bl hb_3; replace hq1 := hq1.bl hb_3; replace hq2 := hq2.bl hb_3; replace hb := hb.trans (hb_3.mono hb.size)
  refine hK _ _ rfl ?_
  clear hK K hb_3
  refine wpSq_call rfl (by kernel_rfl) fun K hK => ?_
  go_big_move; refine hK _ _ rfl ?_; clear hK K
  apply wpSq_end
  refine hK2 _ _ ?_
  refine wp_ret ?_
  try dsimp only [Exit.then, Exit.inBlock]
  refine bodyPost_ret (v := (.bool true)) (by simp [results, Tryz.results51, go_sem]) rfl ?_
  exact ⟨rfl, hb⟩
set_option maxHeartbeats 4000000 in
set_option maxRecDepth 20000 in
theorem fq_any (a b : Int) (w : World) (h1 : -9223372036854775808 ≤ a) (h2 : a ≤ 9223372036854775807) (h3 : -9223372036854775808 ≤ b) (h4 : b ≤ 9223372036854775807) :
    Calls Tryz.prog 15 #[.int .i64 a, .int .i64 b] w fun e w' => ∃ r, e = .returned r ∧ PC w' r a b ∧ Below w.heap.size w w' := by
  go_enter Tryz.func15, Tryz.ntmps15
  have hb := Below.refl w.heap.size w
  refine wp_seq_k ?_
  intro K1 hK1
  refine wp_region_sq [0] (by kernel_rfl) ?_
  refine wpSq_call rfl (by kernel_rfl) fun K hK => ?_
  go_big_op
  obtain ⟨p_b1, w_1, eP, eW, x_b1, hn, kb_b1⟩ := newBox w #[.bool false, .slice none 0 0, .bool false, .slice none 0 0] 26 hb.size
  rw [eW, eP]
  clear eW eP
  replace hb := hb.trans (hn.mono hb.size)
  refine hK _ _ rfl ?_; clear hK K hn
  apply wpSq_end
  refine hK1 _ _ ?_
  refine wp_seq_k ?_
  intro K2 hK2
  refine wp_region_sq [0, 1, 2, 3, 4, 5] (by kernel_rfl) ?_
  refine wpSq_call rfl (by kernel_rfl) fun K hK => ?_
  go_big_move; refine hK _ _ rfl ?_; clear hK K
  refine wpSq_call rfl (by kernel_rfl) fun K hK => ?_
  go_big_op
  go_fit (ri_any a _ h1 h2)
  rintro e w_2 ⟨v_g1, rfl, g1, hb_2⟩
  replace x_b1 := x_b1.bl hb_2; replace hb := hb.trans (hb_2.mono hb.size)
  replace g1 := g1.rd
  obtain ⟨n_g1, o_g1, k_g1, c_g1, rfl⟩ := g1.open2
  refine hK _ _ rfl ?_
  clear hK K hb_2
  refine wpSq_call rfl (by kernel_rfl) fun K hK => ?_
  go_big_move; refine hK _ _ rfl ?_; clear hK K
  refine wpSq_call rfl (by kernel_rfl) fun K hK => ?_
  go_big_op
  go_fit (ri_any b _ h3 h4)
  rintro e w_3 ⟨v_g2, rfl, g2, hb_3⟩
  replace x_b1 := x_b1.bl hb_3; replace g1 := g1.bl hb_3; replace hb := hb.trans (hb_3.mono hb.size)
  replace g2 := g2.rd
  obtain ⟨n_g2, o_g2, k_g2, c_g2, rfl⟩ := g2.open2
  refine hK _ _ rfl ?_
  clear hK K hb_3
  refine wpSq_call rfl (by kernel_rfl) fun K hK => ?_
  go_big_op; refine hK _ _ rfl ?_; clear hK K
  refine wpSq_call rfl (by kernel_rfl) fun K hK => ?_
  obtain ⟨d0, d1, d2, d3⟩ := x_b1.f4
  have f0 := x_b1.free 0; have f1 := x_b1.free 1; have f2 := x_b1.free 2; have f3 := x_b1.free 3
  go_big_op
  have hnd := x_b1.nod rfl rfl
  obtain ⟨w_4, eW, x_b1', ho⟩ : ∃ w', ((((w_3.setCell ⟨p_b1, 0, none⟩ (.bool n_g1)).setCell ⟨p_b1, 1, none⟩ (.slice o_g1 k_g1 c_g1)).setCell ⟨p_b1, 2, none⟩ (.bool n_g2)).setCell ⟨p_b1, 3, none⟩ (.slice o_g2 k_g2 c_g2)) = w' ∧ Bs w' p_b1 #[.bool n_g1, .slice o_g1 k_g1 c_g1, .bool n_g2, .slice o_g2 k_g2 c_g2] 26 ∧ Only p_b1 w_3 w' := x_b1.setN [(0, .bool n_g1), (1, .slice o_g1 k_g1 c_g1), (2, .bool n_g2), (3, .slice o_g2 k_g2 c_g2)]
  rw [eW]; clear eW d0 d1 d2 d3 f0 f1 f2 f3 x_b1
  have x_b1 := x_b1'; clear x_b1'
  replace g1 := g1.fr hnd ho; replace g2 := g2.fr hnd ho; replace hb := belowOnly hb ho kb_b1
  refine hK _ _ rfl ?_; clear hK K ho hnd
  apply wpSq_end
  refine hK2 _ _ ?_
  refine wp_ret ?_
  try dsimp only [Exit.then, Exit.inBlock]
  obtain ⟨r0_0, r0_1, r0_2, r0_3⟩ := x_b1.f4
  refine bodyPost_ret (v := (.agg #[.bool n_g1, .slice o_g1 k_g1 c_g1, .bool n_g2, .slice o_g2 k_g2 c_g2])) (by simp [results, Tryz.results15, go_sem, r0_0, r0_1, r0_2, r0_3]) rfl ?_
  exact ⟨_, rfl, .mk' g1 g2, hb⟩
end
end Go.Proofs.YtkgbfnmlpajblaaGreatDoor

/- The law's first look and its 'told'; the reference's Floor, Round, Sub, Cmp, Bad. -/
namespace Go.Proofs.YtkgbfnmlpajblaaGreatDoor
open Go Go.RowKit Dig
set_option linter.unusedVariables false

theorem dec1 (n : Nat) (h : n < 10) : Lib.decDigits n = [UInt8.ofNat (48 + n)] := by
  rw [Lib.decDigits, dif_pos h]
theorem qts_4 : qts 4 (-6) = ⟨#[45, 50, 47, 51]⟩ := by
  have h1 : qN 4 (-6) = -2 := by decide
  have h2 : qD 4 (-6) = 3 := by decide
  unfold qts
  rw [h1, h2, if_neg (by decide)]
  unfold zts ztx
  rw [if_pos (by decide), if_neg (by decide), show Int.natAbs (-2) = 2 from rfl, show Int.natAbs 3 = 3 from rfl, dec1 2 (by decide), dec1 3 (by decide)]
  rfl
/-- One fraction, one form in lowest terms. -/
theorem low_unique {a b c d : Int} (h : low a b) (k : low c d) (e : a * d = c * b) : a = c ∧ b = d := by
  have cop : ∀ {a b d : Int}, Int.gcd a b = 1 → b ∣ a * d → b ∣ d := by
    intro a b d hg hd
    have h1 : b.natAbs ∣ a.natAbs * d.natAbs := by rw [← Int.natAbs_mul]; exact Int.natAbs_dvd_natAbs.2 hd
    have hc : Nat.Coprime b.natAbs a.natAbs := by
      rw [Nat.coprime_comm]; exact hg
    exact Int.natAbs_dvd_natAbs.1 (hc.dvd_of_dvd_mul_left h1)
  have h1 : b ∣ d := cop h.2 ⟨c, by rw [e, Int.mul_comm]⟩
  have h2 : d ∣ b := cop k.2 ⟨a, by rw [← e, Int.mul_comm]⟩
  have hbd : b = d := Int.dvd_antisymm (Int.le_of_lt h.1) (Int.le_of_lt k.1) h1 h2
  refine ⟨?_, hbd⟩
  rw [hbd] at e
  exact Int.eq_of_mul_eq_mul_right (by have := k.1; omega) e
theorem q_congr {x y u v : Int} (hy : y ≠ 0) (hv : v ≠ 0) (h : x * v = u * y) : qN x y = qN u v ∧ qD x y = qD u v := by
  refine low_unique (low_q hy) (low_q hv) ?_
  have h1 := qN_eq (x := x) (y := y)
  have h2 := qD_eq (x := x) (y := y)
  have h3 := qN_eq (x := u) (y := v)
  have h4 := qD_eq (x := u) (y := v)
  have g1 := qg_ne (x := x) hy
  have g2 := qg_ne (x := u) hv
  generalize qN x y = a at *
  generalize qD x y = b at *
  generalize qN u v = c at *
  generalize qD u v = d at *
  generalize qg x y = g at *
  generalize qg u v = k at *
  have : (a * d) * (g * k) = (c * b) * (g * k) := by
    have e1 : (a * d) * (g * k) = (a * g) * (d * k) := by rw [Int.mul_assoc, Int.mul_assoc, Int.mul_left_comm d g k]
    have e2 : (c * b) * (g * k) = (c * k) * (b * g) := by rw [Int.mul_assoc, Int.mul_assoc, Int.mul_comm g k, Int.mul_left_comm b k g]
    rw [e1, e2, ← h1, ← h2, ← h3, ← h4]; exact h
  exact Int.eq_of_mul_eq_mul_right (Int.mul_ne_zero g1 g2) this
section
variable {w : World} {va vb : Value} {x y u v : Int} {l m k n : Nat}
set_option maxHeartbeats 4000000 in
set_option maxRecDepth 20000 in
theorem fawake_any (w : World) (htab : Lib.TabIs Tryz.prog w p10 .u64 Lib.pow10Tab) :
    Calls Tryz.prog 13 #[] w fun e w' => e = .returned (.bool true) ∧ Below w.heap.size w w' := by
  have htabs := Lib.tabBelow_of_tabIs htab
  have L := fun (n : Int) (h : n.natAbs ≤ 100) => zlen_i n (by omega) (by omega)
  have L1 := hide (L 1 (by decide))
  have L2 := hide (L 2 (by decide))
  have L3 := hide (L 3 (by decide))
  have L4 := hide (L 4 (by decide))
  have L5 := hide (L 5 (by decide))
  have L6 := hide (L 6 (by decide))
  have L7 := hide (L (-6) (by decide))
  have E1 := hide (show qN (opAdd (1 * 3) (1 * 2)) (2 * 3) = qN 5 6 ∧ qD (opAdd (1 * 3) (1 * 2)) (2 * 3) = qD 5 6 by decide)
  have E2 := hide qts_4
  clear L
  go_enter Tryz.func13, Tryz.ntmps13
  have hb := Below.refl w.heap.size w
  refine wp_seq_k ?_
  intro K1 hK1
  refine wp_region_sq [0] (by kernel_rfl) ?_
  refine wpSq_call rfl (by kernel_rfl) fun K hK => ?_
  go_big_move; refine hK _ _ rfl ?_; clear hK K
  apply wpSq_end
  refine hK1 _ _ ?_
  refine wp_seq_k ?_
  intro K2 hK2
  refine wp_region_sq [0, 1, 2, 3, 4, 5, 6, 7, 8] (by kernel_rfl) ?_
  refine wpSq_call rfl (by kernel_rfl) fun K hK => ?_
  go_big_op
  go_fit (fq_any 1 2 _ (by decide) (by decide) (by decide) (by decide))
  rintro e w_1 ⟨_, rfl, ⟨n_aa, o_aa, k_aa, c_aa, n_ab, o_ab, k_ab, c_ab, rfl, a1, a2⟩, hb_1⟩
  replace hb := hb.trans (hb_1.mono hb.size)
  have La1 := hide (a1.lenOf (L1.out))
  have La2 := hide (a2.lenOf (L2.out))
  refine hK _ _ rfl ?_
  clear hK K hb_1
  refine wpSq_call rfl (by kernel_rfl) fun K hK => ?_
  go_big_op
  go_fit (fq_any 1 3 _ (by decide) (by decide) (by decide) (by decide))
  rintro e w_2 ⟨_, rfl, ⟨n_ba, o_ba, k_ba, c_ba, n_bb, o_bb, k_bb, c_bb, rfl, b1, b2⟩, hb_2⟩
  replace a1 := a1.bl hb_2; replace a2 := a2.bl hb_2; replace hb := hb.trans (hb_2.mono hb.size)
  have Lb1 := hide (b1.lenOf (L1.out))
  have Lb2 := hide (b2.lenOf (L3.out))
  refine hK _ _ rfl ?_
  clear hK K hb_2
  refine wpSq_call rfl (by kernel_rfl) fun K hK => ?_
  go_big_op
  go_fit (fAdd_any (PN.mk' (a1.zn La1.out) (a2.zn La2.out)) (PN.mk' (b1.zn Lb1.out) (b2.zn Lb2.out)) (by omega) (by omega) (by omega) (by omega) (show (2 : Int) * 3 ≠ 0 by decide))
  rintro e w_3 ⟨_, rfl, ⟨n_ca, o_ca, k_ca, c_ca, n_cb, o_cb, k_cb, c_cb, rfl, c1, c2⟩, hb_3⟩
  replace a1 := a1.bl hb_3; replace a2 := a2.bl hb_3; replace b1 := b1.bl hb_3; replace b2 := b2.bl hb_3; replace hb := hb.trans (hb_3.mono hb.size)
  have Lc1 := hide (c1.lenOf (qN_len ((show (2 : Int) * 3 ≠ 0 by decide)) (zlen_opAdd (zlen_mul (La1.out) (Lb2.out)) (zlen_mul (Lb1.out) (La2.out)))))
  have Lc2 := hide (c2.lenOf (qD_len ((show (2 : Int) * 3 ≠ 0 by decide)) (zlen_mul (La2.out) (Lb2.out))))
  rw [E1.out.1] at c1
  rw [E1.out.2] at c2
  refine hK _ _ rfl ?_
  clear hK K hb_3
  refine wpSq_call rfl (by kernel_rfl) fun K hK => ?_
  go_big_move; refine hK _ _ rfl ?_; clear hK K
  refine wpSq_call rfl (by kernel_rfl) fun K hK => ?_
  go_big_op; refine hK _ _ rfl ?_; clear hK K
  refine wpSq_call rfl (by kernel_rfl) fun K hK => ?_
  go_big_op; refine hK _ _ rfl ?_; clear hK K
  refine wpSq_call rfl (by kernel_rfl) fun K hK => ?_
  go_big_op
  clear a1 a2 b1 b2
  obtain ⟨p_b1, w_4, eP, eW, x_b1, hn, kb_b1⟩ := newBox w_3 #[.bool false, .slice none 0 0, .bool false, .slice none 0 0] 26 hb.size
  rw [eW, eP]
  clear eW eP
  replace c1 := c1.bl hn; replace c2 := c2.bl hn; replace hb := hb.trans (hn.mono hb.size)
  refine hK _ _ rfl ?_; clear hK K hn
  refine wpSq_call rfl (by kernel_rfl) fun K hK => ?_
  obtain ⟨d0, d1, d2, d3⟩ := x_b1.f4
  have f0 := x_b1.free 0; have f1 := x_b1.free 1; have f2 := x_b1.free 2; have f3 := x_b1.free 3
  go_big_op
  have hnd := x_b1.nod rfl rfl
  obtain ⟨w_5, eW, x_b1', ho⟩ : ∃ w', ((((w_4.setCell ⟨p_b1, 0, none⟩ (.bool n_ca)).setCell ⟨p_b1, 1, none⟩ (.slice o_ca k_ca c_ca)).setCell ⟨p_b1, 2, none⟩ (.bool n_cb)).setCell ⟨p_b1, 3, none⟩ (.slice o_cb k_cb c_cb)) = w' ∧ Bs w' p_b1 #[.bool n_ca, .slice o_ca k_ca c_ca, .bool n_cb, .slice o_cb k_cb c_cb] 26 ∧ Only p_b1 w_4 w' := x_b1.setN [(0, .bool n_ca), (1, .slice o_ca k_ca c_ca), (2, .bool n_cb), (3, .slice o_cb k_cb c_cb)]
  rw [eW]; clear eW d0 d1 d2 d3 f0 f1 f2 f3 x_b1
  have x_b1 := x_b1'; clear x_b1'
  replace c1 := c1.fr hnd ho; replace c2 := c2.fr hnd ho; replace hb := belowOnly hb ho kb_b1
  refine hK _ _ rfl ?_; clear hK K ho hnd
  refine wpSq_call rfl (by kernel_rfl) fun K hK => ?_
  go_big_move; refine hK _ _ rfl ?_; clear hK K
  apply wpSq_end
  refine hK2 _ _ ?_
  refine wp_seq_k ?_
  intro K3 hK3
  refine wp_region_sq [0, 1, 2, 3, 4, 5, 6] (by kernel_rfl) ?_
  refine wpSq_call rfl (by kernel_rfl) fun K hK => ?_
  go_big_op
  go_fit (fq_any 4 (-6) _ (by decide) (by decide) (by decide) (by decide))
  rintro e w_6 ⟨_, rfl, ⟨n_da, o_da, k_da, c_da, n_db, o_db, k_db, c_db, rfl, d1, d2⟩, hb_6⟩
  replace c1 := c1.bl hb_6; replace c2 := c2.bl hb_6; replace x_b1 := x_b1.bl hb_6; replace hb := hb.trans (hb_6.mono hb.size)
  have Ld1 := hide (d1.lenOf (L4.out))
  have Ld2 := hide (d2.lenOf (L7.out))
  refine hK _ _ rfl ?_
  clear hK K hb_6
  refine wpSq_call rfl (by kernel_rfl) fun K hK => ?_
  go_big_op
  go_fit (fText_any (.mk' (d1.zn L4.out) (d2.zn L7.out)) (by decide) (by decide) (by decide) (htabs _ hb))
  rintro e w_7 ⟨rfl, hb_7⟩
  replace c1 := c1.bl hb_7; replace c2 := c2.bl hb_7; replace x_b1 := x_b1.bl hb_7; replace d1 := d1.bl hb_7; replace d2 := d2.bl hb_7; replace hb := hb.trans (hb_7.mono hb.size)
  rw [E2.out]
  refine hK _ _ rfl ?_
  clear hK K hb_7
  refine wpSq_call rfl (by kernel_rfl) fun K hK => ?_
  go_big_move; refine hK _ _ rfl ?_; clear hK K
  refine wpSq_call rfl (by kernel_rfl) fun K hK => ?_
  go_big_op; refine hK _ _ rfl ?_; clear hK K
  refine wpSq_call rfl (by kernel_rfl) fun K hK => ?_
  go_big_op; refine hK _ _ rfl ?_; clear hK K
  refine wpSq_call rfl (by kernel_rfl) fun K hK => ?_
  go_big_move; refine hK _ _ rfl ?_; clear hK K
  refine wpSq_call rfl (by kernel_rfl) fun K hK => ?_
  go_big_move; refine hK _ _ rfl ?_; clear hK K
  apply wpSq_end
  refine hK3 _ _ ?_
  refine wp_seq_k ?_
  intro K4 hK4
  refine wp_region_fl2 [(0, false), (1, false), (2, false), (3, false), (4, true), (5, true), (6, false), (7, false), (8, false), (9, false), (10, false), (11, false), (12, false), (13, false), (14, false), (15, false)] [] [] (fun _ => default) [99, 99, 99, 0, 99, 99, 99, 99, 99, 99, 99, 99, 99, 99, 99, 99] [] (fun w' => w'.cell? ⟨p_b1, 0, none⟩ = some (.bool n_ca) ∧ w'.cell? ⟨p_b1, 1, none⟩ = some (.slice o_ca k_ca c_ca) ∧ w'.cell? ⟨p_b1, 2, none⟩ = some (.bool n_cb) ∧ w'.cell? ⟨p_b1, 3, none⟩ = some (.slice o_cb k_cb c_cb)) [fun w' => w'.cell? ⟨p_b1, 0, none⟩ = some (.bool n_ca) ∧ w'.cell? ⟨p_b1, 1, none⟩ = some (.slice o_ca k_ca c_ca) ∧ w'.cell? ⟨p_b1, 2, none⟩ = some (.bool n_cb) ∧ w'.cell? ⟨p_b1, 3, none⟩ = some (.slice o_cb k_cb c_cb)] (by kernel_rfl) (by kernel_rfl) (by kernel_rfl) (by kernel_rfl) (by kernel_rfl) (by kernel_rfl) (by kernel_rfl) (by kernel_rfl) (by decide) (by intro j hj; cases hj) (by intro w' o hC; obtain ⟨c0, c1, c2, c3⟩ := hC; exact ⟨cell_alloc c0 o, cell_alloc c1 o, cell_alloc c2 o, cell_alloc c3 o⟩) (by intro w' hC G hG; obtain ⟨c0, c1, c2, c3⟩ := hC; simp only [List.mem_cons, List.not_mem_nil, or_false] at hG; rcases hG with rfl <;> first | exact ⟨c0, c1, c2, c3⟩) ?_
  clear d1 d2
  have lt_b1 := x_b1.lt
  intro w_8 hn
  replace lt_b1 := Nat.lt_of_lt_of_le lt_b1 hn.size
  replace c1 := c1.bl hn; replace c2 := c2.bl hn; replace x_b1 := x_b1.bl hn; replace hb := hb.trans (hn.mono hb.size)
  clear hn
  have kb0 := hb.size
  refine ⟨⟨x_b1.cell 0 rfl, x_b1.cell 1 rfl, x_b1.cell 2 rfl, x_b1.cell 3 rfl⟩, ?_⟩
  apply wpFl_ld rfl rfl; (case h1 => intro w' hC K hK; go_big_move; exact hK); iterate 4 kernel_rfl
  apply wpFl_ld rfl rfl; (case h1 => intro w' hC K hK; go_big_op; exact hK); iterate 4 kernel_rfl
  apply wpFl_ld rfl rfl; (case h1 => intro w' hC K hK; go_big_move; exact hK); iterate 4 kernel_rfl
  apply wpFl_ld rfl rfl; (case h1 => intro w' hC K hK; obtain ⟨c0, c1, c2, c3⟩ := hC; go_big_op; exact hK); iterate 4 kernel_rfl
  refine wpFl_call rfl (by kernel_rfl) fun w_9 hn hC => ?_; clear hC
  replace c1 := c1.bl hn; replace c2 := c2.bl hn; replace x_b1 := x_b1.bl hn; replace hb := hb.trans (hn.mono hb.size)
  clear hn; intro K hK
  go_big_op
  go_fit (fq_any 5 6 _ (by decide) (by decide) (by decide) (by decide))
  rintro e w_10 ⟨_, rfl, ⟨n_fa, o_fa, k_fa, c_fa, n_fb, o_fb, k_fb, c_fb, rfl, f1, f2⟩, hb_10⟩
  replace c1 := c1.bl hb_10; replace c2 := c2.bl hb_10; replace x_b1 := x_b1.bl hb_10; replace hb := hb.trans (hb_10.mono hb.size)
  have Lf1 := hide (f1.lenOf (L5.out))
  have Lf2 := hide (f2.lenOf (L6.out))
  refine hK _ _ rfl hb_10 ⟨x_b1.cell 0 rfl, x_b1.cell 1 rfl, x_b1.cell 2 rfl, x_b1.cell 3 rfl⟩ ?_
  clear hK K hb_10
  refine wpFl_call rfl (by kernel_rfl) fun w_11 hn hC => ?_; clear hC
  replace c1 := c1.bl hn; replace c2 := c2.bl hn; replace x_b1 := x_b1.bl hn; replace f1 := f1.bl hn; replace f2 := f2.bl hn; replace hb := hb.trans (hn.mono hb.size)
  clear hn; intro K hK
  go_big_op
  go_fit (fis_any (PC.mk' c1 c2) (PN.mk' (f1.zn Lf1.out) (f2.zn Lf2.out)) (by omega) (by omega) (show (6 : Int) ≠ 0 by decide))
  rintro e w_12 ⟨rfl, hb_12⟩
  replace c1 := c1.bl hb_12; replace c2 := c2.bl hb_12; replace x_b1 := x_b1.bl hb_12; replace f1 := f1.bl hb_12; replace f2 := f2.bl hb_12; replace hb := hb.trans (hb_12.mono hb.size)
  refine hK _ _ rfl hb_12 ⟨x_b1.cell 0 rfl, x_b1.cell 1 rfl, x_b1.cell 2 rfl, x_b1.cell 3 rfl⟩ ?_
  clear hK K hb_12
  apply wpFl_ld rfl rfl; (case h1 => intro w' hC K hK; go_big_op; exact hK); iterate 4 kernel_rfl
  apply wpFl_ld rfl rfl; (case h1 => intro w' hC K hK; go_big_move; exact hK); iterate 4 kernel_rfl
  apply wpFl_ld rfl rfl; (case h1 => intro w' hC K hK; go_big_move; exact hK); iterate 4 kernel_rfl
  apply wpFl_ld rfl rfl; (case h1 => intro w' hC K hK; go_big_op; exact hK); iterate 4 kernel_rfl
  apply wpFl_ld rfl rfl; (case h1 => intro w' hC K hK; go_big_op; exact hK); iterate 4 kernel_rfl
  apply wpFl_ld rfl rfl; (case h1 => intro w' hC K hK; go_big_move; exact hK); iterate 4 kernel_rfl
  apply wpFl_ld rfl rfl; (case h1 => intro w' hC K hK; go_big_move; exact hK); iterate 4 kernel_rfl
  apply wpFl_ld rfl rfl; (case h1 => intro w' hC K hK; go_big_op; exact hK); iterate 4 kernel_rfl
  apply wpFl_ld rfl rfl; (case h1 => intro w' hC K hK; go_big_op; exact hK); iterate 4 kernel_rfl
  apply wpFl_ld rfl rfl; (case h1 => intro w' hC K hK; go_big_move; exact hK); iterate 4 kernel_rfl
  apply wpFl_end
  case ha => intro pt; simp only [putF]; rfl
  case h =>
  intro w_13 pt hn hC hF hD
  clear hC
  clear f1 f2
  replace c1 := c1.bl hn; replace c2 := c2.bl hn; replace x_b1 := x_b1.bl hn; replace hb := hb.trans (hn.mono hb.size)
  clear hn
  clear hF hD
  clear pt
  clear kb0 lt_b1
  apply wpTail_end
  refine hK4 _ _ ?_
  refine wp_ret ?_
  try dsimp only [Exit.then, Exit.inBlock]
  refine bodyPost_ret (v := (.bool true)) (by simp [results, Tryz.results13, go_sem]) rfl ?_
  exact ⟨rfl, hb⟩
set_option maxHeartbeats 4000000 in
set_option maxRecDepth 20000 in
theorem ftold_ok (ha : PC w va (qN u v) (qD u v)) (hq : PN w vb u l v m) (hl : l ≤ 40000000) (hm : m ≤ 40000000) (h0 : v ≠ 0) :
    Calls Tryz.prog 14 #[va, .int .i64 0, vb, .int .i64 0] w fun e w' => e = .returned (.bool true) ∧ Below w.heap.size w w' := by
  have H0 := hide h0
  clear h0
  obtain ⟨n_0a, o_0a, k_0a, c_0a, n_0b, o_0b, k_0b, c_0b, rfl, ha1, ha2⟩ := ha
  obtain ⟨n_2a, o_2a, k_2a, c_2a, n_2b, o_2b, k_2b, c_2b, rfl, hq1, hq2⟩ := hq
  go_enter Tryz.func14, Tryz.ntmps14
  have hb := Below.refl w.heap.size w
  refine wp_seq_k ?_
  intro K1 hK1
  refine wp_region_sq [0, 1, 2] (by kernel_rfl) ?_
  refine wpSq_call rfl (by kernel_rfl) fun K hK => ?_
  go_big_op
  obtain ⟨p_b1, w_1, eP, eW, x_b1, hn, kb_b1⟩ := newBox w #[.bool n_0a, .slice o_0a k_0a c_0a, .bool n_0b, .slice o_0b k_0b c_0b] 26 hb.size
  rw [eW, eP]
  clear eW eP
  replace ha1 := ha1.bl hn; replace ha2 := ha2.bl hn; replace hq1 := hq1.bl hn; replace hq2 := hq2.bl hn; replace hb := hb.trans (hn.mono hb.size)
  refine hK _ _ rfl ?_; clear hK K hn
  refine wpSq_call rfl (by kernel_rfl) fun K hK => ?_
  go_big_op
  have lt_b1 := x_b1.lt
  obtain ⟨p_b2, w_2, eP, eW, x_b2, hn, kb_b2⟩ := newBox w_1 #[.bool n_2a, .slice o_2a k_2a c_2a, .bool n_2b, .slice o_2b k_2b c_2b] 26 hb.size
  have ne_b1_b2 : Hid (p_b1 ≠ p_b2) := Nat.ne_of_lt (eP ▸ lt_b1)
  rw [eW, eP]
  clear eW eP lt_b1
  replace ha1 := ha1.bl hn; replace ha2 := ha2.bl hn; replace hq1 := hq1.bl hn; replace hq2 := hq2.bl hn; replace x_b1 := x_b1.bl hn; replace hb := hb.trans (hn.mono hb.size)
  refine hK _ _ rfl ?_; clear hK K hn
  refine wpSq_call rfl (by kernel_rfl) fun K hK => ?_
  go_big_move; refine hK _ _ rfl ?_; clear hK K
  apply wpSq_end
  refine hK1 _ _ ?_
  refine wp_seq_k ?_
  intro K2 hK2
  refine wp_seq_k ?_
  intro K3 hK3
  refine wp_region_sq [0, 1] (by kernel_rfl) ?_
  refine wpSq_call rfl (by kernel_rfl) fun K hK => ?_
  go_big_move; refine hK _ _ rfl ?_; clear hK K
  refine wpSq_call rfl (by kernel_rfl) fun K hK => ?_
  go_big_op; refine hK _ _ rfl ?_; clear hK K
  apply wpSq_end
  refine hK3 _ _ ?_
  refine wp_cond_false (congrArg Value.bool (show _ = false from (by first | rfl | assumption | (simp; done) | omega))) ?_
  refine wp_skip ?_
  refine hK2 _ _ ?_
  refine wp_seq_k ?_
  intro K4 hK4
  refine wp_region_sq [0, 1, 2, 3, 4, 5, 6, 7] (by kernel_rfl) ?_
  refine wpSq_call rfl (by kernel_rfl) fun K hK => ?_
  go_big_move; refine hK _ _ rfl ?_; clear hK K
  refine wpSq_call rfl (by kernel_rfl) fun K hK => ?_
  go_big_op; refine hK _ _ rfl ?_; clear hK K
  refine wpSq_call rfl (by kernel_rfl) fun K hK => ?_
  go_big_move; refine hK _ _ rfl ?_; clear hK K
  refine wpSq_call rfl (by kernel_rfl) fun K hK => ?_
  obtain ⟨d0, d1, d2, d3⟩ := x_b1.f4
  go_big_op; refine hK _ _ rfl ?_; clear hK K d0 d1 d2 d3
  refine wpSq_call rfl (by kernel_rfl) fun K hK => ?_
  obtain ⟨d0, d1, d2, d3⟩ := x_b2.f4
  go_big_op; refine hK _ _ rfl ?_; clear hK K d0 d1 d2 d3
  refine wpSq_call rfl (by kernel_rfl) fun K hK => ?_
  go_big_op
  go_fit (fis_any (PC.mk' ha1 ha2) (PN.mk' hq1 hq2) (by omega) (by omega) H0.out)
  rintro e w_3 ⟨rfl, hb_3⟩
  clear x_b1 x_b2
  replace ha1 := ha1.bl hb_3; replace ha2 := ha2.bl hb_3; replace hq1 := hq1.bl hb_3; replace hq2 := hq2.bl hb_3; replace hb := hb.trans (hb_3.mono hb.size)
  refine hK _ _ rfl ?_
  clear hK K hb_3
  refine wpSq_call rfl (by kernel_rfl) fun K hK => ?_
  go_big_op; refine hK _ _ rfl ?_; clear hK K
  refine wpSq_call rfl (by kernel_rfl) fun K hK => ?_
  go_big_move; refine hK _ _ rfl ?_; clear hK K
  apply wpSq_end
  refine hK4 _ _ ?_
  refine wp_ret ?_
  try dsimp only [Exit.then, Exit.inBlock]
  refine bodyPost_ret (v := (.bool true)) (by simp [results, Tryz.results14, go_sem]) rfl ?_
  exact ⟨rfl, hb⟩
set_option maxHeartbeats 4000000 in
set_option maxRecDepth 20000 in
theorem rfzero_any (w : World) :
    Calls Tryz.prog 31 #[.agg #[.bool false, .slice none 0 0, .bool false, .slice none 0 0]] w fun e w' => e = .returned (.bool true) ∧ Below w.heap.size w w' := by
  go_enter Tryz.func31, Tryz.ntmps31
  have hb := Below.refl w.heap.size w
  refine wp_seq_k ?_
  intro K1 hK1
  refine wp_region_sq [0, 1] (by kernel_rfl) ?_
  refine wpSq_call rfl (by kernel_rfl) fun K hK => ?_
  go_big_op
  obtain ⟨p_b1, w_1, eP, eW, x_b1, hn, kb_b1⟩ := newBox w #[.bool false, .slice none 0 0, .bool false, .slice none 0 0] 26 hb.size
  rw [eW, eP]
  clear eW eP
  replace hb := hb.trans (hn.mono hb.size)
  refine hK _ _ rfl ?_; clear hK K hn
  refine wpSq_call rfl (by kernel_rfl) fun K hK => ?_
  go_big_move; refine hK _ _ rfl ?_; clear hK K
  apply wpSq_end
  refine hK1 _ _ ?_
  refine wp_seq_k ?_
  intro K2 hK2
  refine wp_region_sq [0, 1, 2, 3, 4, 5, 6, 7, 8] (by kernel_rfl) ?_
  refine wpSq_call rfl (by kernel_rfl) fun K hK => ?_
  go_big_op; refine hK _ _ rfl ?_; clear hK K
  refine wpSq_call rfl (by kernel_rfl) fun K hK => ?_
  obtain ⟨d0, d1, d2, d3⟩ := x_b1.f4
  go_big_op; refine hK _ _ rfl ?_; clear hK K d0 d1 d2 d3
  refine wpSq_call rfl (by kernel_rfl) fun K hK => ?_
  go_big_op
  go_fit (rzero_any _)
  rintro e w_2 ⟨rfl, hb_2⟩
  replace x_b1 := x_b1.bl hb_2; replace hb := hb.trans (hb_2.mono hb.size)
  refine hK _ _ rfl ?_
  clear hK K hb_2
  refine wpSq_call rfl (by kernel_rfl) fun K hK => ?_
  go_big_move; refine hK _ _ rfl ?_; clear hK K
  refine wpSq_call rfl (by kernel_rfl) fun K hK => ?_
  go_big_op; refine hK _ _ rfl ?_; clear hK K
  refine wpSq_call rfl (by kernel_rfl) fun K hK => ?_
  obtain ⟨d0, d1, d2, d3⟩ := x_b1.f4
  go_big_op; refine hK _ _ rfl ?_; clear hK K d0 d1 d2 d3
  refine wpSq_call rfl (by kernel_rfl) fun K hK => ?_
  go_big_op
  go_fit (rzero_any _)
  rintro e w_3 ⟨rfl, hb_3⟩
  clear x_b1
  replace hb := hb.trans (hb_3.mono hb.size)
  refine hK _ _ rfl ?_
  clear hK K hb_3
  refine wpSq_call rfl (by kernel_rfl) fun K hK => ?_
  go_big_op; refine hK _ _ rfl ?_; clear hK K
  refine wpSq_call rfl (by kernel_rfl) fun K hK => ?_
  go_big_move; refine hK _ _ rfl ?_; clear hK K
  apply wpSq_end
  refine hK2 _ _ ?_
  refine wp_ret ?_
  try dsimp only [Exit.then, Exit.inBlock]
  refine bodyPost_ret (v := (.bool true)) (by simp [results, Tryz.results31, go_sem]) rfl ?_
  exact ⟨rfl, hb⟩
set_option maxHeartbeats 4000000 in
set_option maxRecDepth 20000 in
theorem ftold_err {p q : Int} (f : Int) (hq : PC w vb p q) (hf : f ≠ 0) :
    Calls Tryz.prog 14 #[.agg #[.bool false, .slice none 0 0, .bool false, .slice none 0 0], .int .i64 f, vb, .int .i64 f] w fun e w' => e = .returned (.bool true) ∧ Below w.heap.size w w' := by
  have h0 : (f == 0) = false := by simpa using hf
  obtain ⟨n_2a, o_2a, k_2a, c_2a, n_2b, o_2b, k_2b, c_2b, rfl, hq1, hq2⟩ := hq
  go_enter Tryz.func14, Tryz.ntmps14
  have hb := Below.refl w.heap.size w
  refine wp_seq_k ?_
  intro K1 hK1
  refine wp_region_sq [0, 1, 2] (by kernel_rfl) ?_
  refine wpSq_call rfl (by kernel_rfl) fun K hK => ?_
  go_big_op
  obtain ⟨p_b1, w_1, eP, eW, x_b1, hn, kb_b1⟩ := newBox w #[.bool false, .slice none 0 0, .bool false, .slice none 0 0] 26 hb.size
  rw [eW, eP]
  clear eW eP
  replace hq1 := hq1.bl hn; replace hq2 := hq2.bl hn; replace hb := hb.trans (hn.mono hb.size)
  refine hK _ _ rfl ?_; clear hK K hn
  refine wpSq_call rfl (by kernel_rfl) fun K hK => ?_
  go_big_op
  have lt_b1 := x_b1.lt
  obtain ⟨p_b2, w_2, eP, eW, x_b2, hn, kb_b2⟩ := newBox w_1 #[.bool n_2a, .slice o_2a k_2a c_2a, .bool n_2b, .slice o_2b k_2b c_2b] 26 hb.size
  have ne_b1_b2 : Hid (p_b1 ≠ p_b2) := Nat.ne_of_lt (eP ▸ lt_b1)
  rw [eW, eP]
  clear eW eP lt_b1
  replace hq1 := hq1.bl hn; replace hq2 := hq2.bl hn; replace x_b1 := x_b1.bl hn; replace hb := hb.trans (hn.mono hb.size)
  refine hK _ _ rfl ?_; clear hK K hn
  refine wpSq_call rfl (by kernel_rfl) fun K hK => ?_
  go_big_move; refine hK _ _ rfl ?_; clear hK K
  apply wpSq_end
  refine hK1 _ _ ?_
  refine wp_seq_k ?_
  intro K2 hK2
  refine wp_seq_k ?_
  intro K3 hK3
  refine wp_region_sq [0, 1] (by kernel_rfl) ?_
  refine wpSq_call rfl (by kernel_rfl) fun K hK => ?_
  go_big_move; refine hK _ _ rfl ?_; clear hK K
  refine wpSq_call rfl (by kernel_rfl) fun K hK => ?_
  go_big_op; refine hK _ _ rfl ?_; clear hK K
  apply wpSq_end
  refine hK3 _ _ ?_
  refine wp_cond_true (congrArg Value.bool (show _ = true from (by simpa using hf))) ?_
  refine wp_seq_k ?_
  intro K4 hK4
  refine wp_region_sq [0, 1, 2, 3, 4, 5, 6, 7] (by kernel_rfl) ?_
  refine wpSq_call rfl (by kernel_rfl) fun K hK => ?_
  go_big_move; refine hK _ _ rfl ?_; clear hK K
  refine wpSq_call rfl (by kernel_rfl) fun K hK => ?_
  go_big_move; refine hK _ _ rfl ?_; clear hK K
  refine wpSq_call rfl (by kernel_rfl) fun K hK => ?_
  go_big_op; refine hK _ _ rfl ?_; clear hK K
  refine wpSq_call rfl (by kernel_rfl) fun K hK => ?_
  go_big_move; refine hK _ _ rfl ?_; clear hK K
  refine wpSq_call rfl (by kernel_rfl) fun K hK => ?_
  obtain ⟨d0, d1, d2, d3⟩ := x_b1.f4
  go_big_op; refine hK _ _ rfl ?_; clear hK K d0 d1 d2 d3
  refine wpSq_call rfl (by kernel_rfl) fun K hK => ?_
  go_big_op
  go_fit (rfzero_any _)
  rintro e w_3 ⟨rfl, hb_3⟩
  replace hq1 := hq1.bl hb_3; replace hq2 := hq2.bl hb_3; replace x_b1 := x_b1.bl hb_3; replace x_b2 := x_b2.bl hb_3; replace hb := hb.trans (hb_3.mono hb.size)
  refine hK _ _ rfl ?_
  clear hK K hb_3
  refine wpSq_call rfl (by kernel_rfl) fun K hK => ?_
  go_big_op; refine hK _ _ rfl ?_; clear hK K
  refine wpSq_call rfl (by kernel_rfl) fun K hK => ?_
  go_big_move; refine hK _ _ rfl ?_; clear hK K
  apply wpSq_end
  refine hK4 _ _ ?_
  refine wp_ret ?_
  try dsimp only [Exit.then, Exit.inBlock]
  refine bodyPost_ret (v := (.bool true)) (by simp [results, Tryz.results14, go_sem]) rfl ?_
  exact ⟨rfl, hb⟩
end
end Go.Proofs.YtkgbfnmlpajblaaGreatDoor

/- Texts with a sign, in one piece: what is a number, and which. -/
namespace Go.Proofs.YtkgbfnmlpajblaaGreatDoor
open Go Go.RowKit Dig
set_option linter.unusedVariables false

/-- Is a text a whole number's, and which? -/
def zok (s : ByteArray) : Bool := if minusB s = true then digitsB (s.extract 1 s.size).data.toList else digitsB s.data.toList
def zvl (s : ByteArray) : Int := if minusB s = true then -((pval (s.extract 1 s.size).data.toList : Nat) : Int) else ((pval s.data.toList : Nat) : Int)
theorem digits_all' {l : List UInt8} (h : digitsB l = true) : l.all isD = true := by unfold digitsB at h; rw [Bool.and_eq_true] at h; exact h.1
theorem zvl_len {s : ByteArray} (hs : s.size ≤ 65536) (h : zok s = true) : (dig (zvl s).natAbs).length ≤ 8192 := by
  unfold zok at h; unfold zvl
  have hr := rest_size (s := s)
  split
  · rename_i hm
    rw [if_pos hm] at h
    rw [Int.natAbs_neg, Int.natAbs_natCast]
    exact pval_dig_length (digits_all' h) (by rw [← Lib.size_eq]; omega)
  · rename_i hm
    rw [if_neg hm] at h
    rw [Int.natAbs_natCast]
    exact pval_dig_length (digits_all' h) (by rw [← Lib.size_eq]; omega)
theorem zparse_no (s : ByteArray) (w : World) (hs : s.size ≤ 65536) (h : zok s = false) :
    Calls Tryz.prog 94 #[.string s] w fun e w' => e = .returned (.tuple #[.agg #[.bool false, .slice none 0 0], .int .i64 7]) ∧ Below w.heap.size w w' := by
  unfold zok at h
  have hr := rest_size (s := s)
  cases hm : minusB s with
  | true => rw [if_pos hm] at h; exact zparse_bad s w hs _ true (fun w => scut1 s w (by omega) hm) (by omega) h
  | false => rw [if_neg (by rw [hm]; exact Bool.false_ne_true)] at h; exact zparse_bad s w hs _ false (fun w => scut0 s w hm) hs h
theorem zparse_ok (s : ByteArray) (w : World) (hs : s.size ≤ 65536) (h : zok s = true) :
    Calls Tryz.prog 94 #[.string s] w fun e w' => ∃ v, e = .returned (.tuple #[v, .int .i64 0]) ∧ ZC w' v (zvl s) ∧ Below w.heap.size w w' := by
  unfold zok at h
  unfold zvl
  have hr := rest_size (s := s)
  cases hm : minusB s with
  | true =>
    rw [if_pos hm] at h
    exact zparse_good s w hs _ true _ (fun w => scut1 s w (by omega) hm) (by omega) h rfl
  | false =>
    rw [if_neg (by rw [hm]; exact Bool.false_ne_true)] at h
    exact zparse_good s w hs _ false _ (fun w => scut0 s w hm) hs h rfl
end Go.Proofs.YtkgbfnmlpajblaaGreatDoor

/- frac.Parse, and the reference's. -/
namespace Go.Proofs.YtkgbfnmlpajblaaGreatDoor
open Go Go.RowKit Dig
set_option linter.unusedVariables false

set_option maxHeartbeats 4000000 in
set_option maxRecDepth 20000 in
theorem slcut_some (s : ByteArray) (w : World) (k : Nat) (hk : k < s.size) (hs : s.size ≤ 65536) (h : Lib.indexByte s.data.toList 47 = (k : Int)) :
    Calls Tryz.prog 125 #[.string s, .string ⟨#[47]⟩] w fun e w' => e = .returned (.tuple #[.string (s.extract 0 k), .string (s.extract (k + 1) s.size), .bool true]) ∧ Below w.heap.size w w' := by
  have H := hide h
  clear h
  go_enter Tryz.func125, Tryz.ntmps125
  have hb := Below.refl w.heap.size w
  refine wp_seq_k ?_
  intro K1 hK1
  refine wp_region_sq [0, 1, 2] (by kernel_rfl) ?_
  refine wpSq_call rfl (by kernel_rfl) fun K hK => ?_
  go_big_move; refine hK _ _ rfl ?_; clear hK K
  refine wpSq_call rfl (by kernel_rfl) fun K hK => ?_
  go_big_move; refine hK _ _ rfl ?_; clear hK K
  refine wpSq_call rfl (by kernel_rfl) fun K hK => ?_
  go_big_move; refine hK _ _ rfl ?_; clear hK K
  apply wpSq_end
  refine hK1 _ _ ?_
  refine wp_seq_k ?_
  intro K2 hK2
  refine wp_seq_k ?_
  intro K3 hK3
  refine wp_region_sq [0, 1, 2, 3] (by kernel_rfl) ?_
  refine wpSq_call rfl (by kernel_rfl) fun K hK => ?_
  go_big_move; refine hK _ _ rfl ?_; clear hK K
  refine wpSq_call rfl (by kernel_rfl) fun K hK => ?_
  go_big_move; refine hK _ _ rfl ?_; clear hK K
  refine wpSq_call rfl (by kernel_rfl) fun K hK => ?_
  go_big_op
  go_fit (Tryz.stringslite_Index_one s 47 _)
  rintro e w_1 ⟨rfl, e_1⟩
  (first | rw [e_1] | rw [← e_1]); clear e_1 w_1
  rw [H.out]
  refine hK _ _ rfl ?_
  clear hK K
  refine wpSq_call rfl (by kernel_rfl) fun K hK => ?_
  go_big_move; refine hK _ _ rfl ?_; clear hK K
  apply wpSq_end
  refine hK3 _ _ ?_
  refine wp_seq_k ?_
  intro K4 hK4
  refine wp_region_sq [0, 1] (by kernel_rfl) ?_
  refine wpSq_call rfl (by kernel_rfl) fun K hK => ?_
  go_big_move; refine hK _ _ rfl ?_; clear hK K
  refine wpSq_call rfl (by kernel_rfl) fun K hK => ?_
  go_big_op; refine hK _ _ rfl ?_; clear hK K
  apply wpSq_end
  refine hK4 _ _ ?_
  refine wp_cond_true (congrArg Value.bool (show _ = true from (by first | rfl | assumption | (simp; done) | exact decide_eq_true (by omega) | omega))) ?_
  refine wp_seq_k ?_
  intro K5 hK5
  refine wp_region_fl2 [(0, false), (1, false), (2, false), (3, false), (4, false), (5, false), (9, false), (6, true), (7, false), (8, false), (10, false), (11, false)] [] [] (fun _ => default) [99, 99, 99, 99, 99, 99, 99, 99, 99, 99, 99, 99] [] (fun w' => True) [] (by kernel_rfl) (by kernel_rfl) (by kernel_rfl) (by kernel_rfl) (by kernel_rfl) (by kernel_rfl) (by kernel_rfl) (by kernel_rfl) (by decide) (by intro j hj; cases hj) (fun _ _ _ => trivial) (by intro w' hC G hG; cases hG) ?_
  intro w_2 hn
  replace hb := hb.trans (hn.mono hb.size)
  clear hn
  have kb0 := hb.size
  refine ⟨trivial, ?_⟩
  apply wpFl_ld rfl rfl; (case h1 => intro w' hC K hK; go_big_move; exact hK); iterate 4 kernel_rfl
  apply wpFl_ld rfl rfl; (case h1 => intro w' hC K hK; go_big_move; exact hK); iterate 4 kernel_rfl
  apply wpFl_ld rfl rfl; (case h1 => intro w' hC K hK; go_big_op; exact hK); iterate 4 kernel_rfl
  apply wpFl_ld rfl rfl; (case h1 => intro w' hC K hK; go_big_move; exact hK); iterate 4 kernel_rfl
  apply wpFl_ld rfl rfl; (case h1 => intro w' hC K hK; go_big_move; exact hK); iterate 4 kernel_rfl
  apply wpFl_ld rfl rfl; (case h1 => intro w' hC K hK; go_big_move; exact hK); iterate 4 kernel_rfl
  apply wpFl_ld rfl rfl; (case h1 => intro w' hC K hK; go_big_move; exact hK); iterate 4 kernel_rfl
  refine wpFl_call rfl (by kernel_rfl) fun w_3 hn hC => ?_; clear hC
  replace hb := hb.trans (hn.mono hb.size)
  clear hn; intro K hK
  go_big_op; refine hK _ _ rfl (Below.refl _ _) trivial ?_; clear hK K
  apply wpFl_ld rfl rfl; (case h1 => intro w' hC K hK; go_big_op; exact hK); iterate 4 kernel_rfl
  apply wpFl_ld rfl rfl; (case h1 => intro w' hC K hK; go_big_op; exact hK); iterate 4 kernel_rfl
  apply wpFl_ld rfl rfl; (case h1 => intro w' hC K hK; go_big_move; exact hK); iterate 4 kernel_rfl
  apply wpFl_ld rfl rfl; (case h1 => intro w' hC K hK; go_big_move; exact hK); iterate 4 kernel_rfl
  apply wpFl_end
  case ha => intro pt; simp only [putF]; rfl
  case h =>
  intro w_4 pt hn hC hF hD
  clear hC
  replace hb := hb.trans (hn.mono hb.size)
  clear hn
  clear hF hD
  clear pt
  clear kb0
  apply wpTail_end
  refine hK5 _ _ ?_
  refine wp_ret ?_
  try dsimp only [Exit.then, Exit.inBlock]
  refine bodyPost_ret (v := (.tuple #[.string (s.extract 0 k), .string (s.extract (k + 1) s.size), .bool true])) (by simp [results, Tryz.results125, go_sem]) rfl ?_
  exact ⟨rfl, hb⟩
set_option maxHeartbeats 4000000 in
set_option maxRecDepth 20000 in
theorem scutS_some (s : ByteArray) (w : World) (k : Nat) (hk : k < s.size) (hs : s.size ≤ 65536) (h : Lib.indexByte s.data.toList 47 = (k : Int)) :
    Calls Tryz.prog 93 #[.string s, .string ⟨#[47]⟩] w fun e w' => e = .returned (.tuple #[.string (s.extract 0 k), .string (s.extract (k + 1) s.size), .bool true]) ∧ Below w.heap.size w w' := by
  have H := hide h
  obtain ⟨T, hT⟩ : ∃ T, s.extract 0 k = T := ⟨_, rfl⟩
  obtain ⟨B, hB⟩ : ∃ B, s.extract (k + 1) s.size = B := ⟨_, rfl⟩
  have HT := hide hT
  have HB := hide hB
  rw [hT, hB]
  clear h hT hB
  go_enter Tryz.func93, Tryz.ntmps93
  have hb := Below.refl w.heap.size w
  refine wp_seq_k ?_
  intro K1 hK1
  refine wp_region_sq [0, 1, 2] (by kernel_rfl) ?_
  refine wpSq_call rfl (by kernel_rfl) fun K hK => ?_
  go_big_move; refine hK _ _ rfl ?_; clear hK K
  refine wpSq_call rfl (by kernel_rfl) fun K hK => ?_
  go_big_move; refine hK _ _ rfl ?_; clear hK K
  refine wpSq_call rfl (by kernel_rfl) fun K hK => ?_
  go_big_move; refine hK _ _ rfl ?_; clear hK K
  apply wpSq_end
  refine hK1 _ _ ?_
  refine wp_seq_k ?_
  intro K2 hK2
  refine wp_region_sq [0, 1, 2, 3, 4, 5, 6, 7, 8] (by kernel_rfl) ?_
  refine wpSq_call rfl (by kernel_rfl) fun K hK => ?_
  go_big_move; refine hK _ _ rfl ?_; clear hK K
  refine wpSq_call rfl (by kernel_rfl) fun K hK => ?_
  go_big_move; refine hK _ _ rfl ?_; clear hK K
  refine wpSq_call rfl (by kernel_rfl) fun K hK => ?_
  go_big_op
  go_fit (slcut_some s _ k hk hs H.out)
  rintro e w_1 ⟨rfl, hb_1⟩
  replace hb := hb.trans (hb_1.mono hb.size)
  rw [HT.out, HB.out]
  refine hK _ _ rfl ?_
  clear hK K hb_1
  refine wpSq_call rfl (by kernel_rfl) fun K hK => ?_
  go_big_op; refine hK _ _ rfl ?_; clear hK K
  refine wpSq_call rfl (by kernel_rfl) fun K hK => ?_
  go_big_op; refine hK _ _ rfl ?_; clear hK K
  refine wpSq_call rfl (by kernel_rfl) fun K hK => ?_
  go_big_op; refine hK _ _ rfl ?_; clear hK K
  refine wpSq_call rfl (by kernel_rfl) fun K hK => ?_
  go_big_move; refine hK _ _ rfl ?_; clear hK K
  refine wpSq_call rfl (by kernel_rfl) fun K hK => ?_
  go_big_move; refine hK _ _ rfl ?_; clear hK K
  refine wpSq_call rfl (by kernel_rfl) fun K hK => ?_
  go_big_move; refine hK _ _ rfl ?_; clear hK K
  apply wpSq_end
  refine hK2 _ _ ?_
  refine wp_ret ?_
  try dsimp only [Exit.then, Exit.inBlock]
  refine bodyPost_ret (v := (.tuple #[.string T, .string B, .bool true])) (by simp [results, Tryz.results93, go_sem]) rfl ?_
  exact ⟨rfl, hb⟩
set_option maxHeartbeats 4000000 in
set_option maxRecDepth 20000 in
theorem hasPrefixS (s : ByteArray) (w : World) :
    Calls Tryz.prog 128 #[.string s, .string ⟨#[45]⟩] w fun e w' => e = .returned (.bool (minusB s)) ∧ Below w.heap.size w w' := by
  obtain ⟨M, hM⟩ : ∃ M, minusB s = M := ⟨_, rfl⟩
  have HM := hide hM
  rw [hM]
  clear hM
  go_enter Tryz.func128, Tryz.ntmps128
  have hb := Below.refl w.heap.size w
  refine wp_seq_k ?_
  intro K1 hK1
  refine wp_region_sq [0] (by kernel_rfl) ?_
  refine wpSq_call rfl (by kernel_rfl) fun K hK => ?_
  go_big_move; refine hK _ _ rfl ?_; clear hK K
  apply wpSq_end
  refine hK1 _ _ ?_
  refine wp_seq_k ?_
  intro K2 hK2
  refine wp_region_sq [0, 1, 2, 3] (by kernel_rfl) ?_
  refine wpSq_call rfl (by kernel_rfl) fun K hK => ?_
  go_big_move; refine hK _ _ rfl ?_; clear hK K
  refine wpSq_call rfl (by kernel_rfl) fun K hK => ?_
  go_big_move; refine hK _ _ rfl ?_; clear hK K
  refine wpSq_call rfl (by kernel_rfl) fun K hK => ?_
  go_big_op
  go_fit (hasPrefix_any s _)
  rintro e w_1 ⟨rfl, e_1⟩
  (first | rw [e_1] | rw [← e_1]); clear e_1 w_1
  rw [HM.out]
  refine hK _ _ rfl ?_
  clear hK K
  refine wpSq_call rfl (by kernel_rfl) fun K hK => ?_
  go_big_move; refine hK _ _ rfl ?_; clear hK K
  apply wpSq_end
  refine hK2 _ _ ?_
  refine wp_ret ?_
  try dsimp only [Exit.then, Exit.inBlock]
  refine bodyPost_ret (v := (.bool M)) (by simp [results, Tryz.results128, go_sem]) rfl ?_
  exact ⟨rfl, hb⟩
set_option maxHeartbeats 4000000 in
set_option maxRecDepth 20000 in
theorem parseDen_minus (s : ByteArray) (w : World) (h : minusB s = true) :
    Calls Tryz.prog 95 #[.string s] w fun e w' => e = .returned (.tuple #[.agg #[.bool false, .slice none 0 0], .int .i64 7]) ∧ Below w.heap.size w w' := by
  have H := hide h
  clear h
  go_enter Tryz.func95, Tryz.ntmps95
  have hb := Below.refl w.heap.size w
  refine wp_seq_k ?_
  intro K1 hK1
  refine wp_region_sq [0, 1] (by kernel_rfl) ?_
  refine wpSq_call rfl (by kernel_rfl) fun K hK => ?_
  go_big_op
  obtain ⟨p_b1, w_1, eP, eW, x_b1, hn, kb_b1⟩ := newBox w #[.bool false, .slice none 0 0] 24 hb.size
  rw [eW, eP]
  clear eW eP
  replace hb := hb.trans (hn.mono hb.size)
  refine hK _ _ rfl ?_; clear hK K hn
  refine wpSq_call rfl (by kernel_rfl) fun K hK => ?_
  go_big_move; refine hK _ _ rfl ?_; clear hK K
  apply wpSq_end
  refine hK1 _ _ ?_
  refine wp_seq_k ?_
  intro K2 hK2
  refine wp_seq_k ?_
  intro K3 hK3
  refine wp_region_sq [0, 1] (by kernel_rfl) ?_
  refine wpSq_call rfl (by kernel_rfl) fun K hK => ?_
  go_big_move; refine hK _ _ rfl ?_; clear hK K
  refine wpSq_call rfl (by kernel_rfl) fun K hK => ?_
  go_big_op
  go_fit (hasPrefixS s _)
  rintro e w_2 ⟨rfl, hb_2⟩
  replace x_b1 := x_b1.bl hb_2; replace hb := hb.trans (hb_2.mono hb.size)
  rw [H.out]
  refine hK _ _ rfl ?_
  clear hK K hb_2
  apply wpSq_end
  refine hK3 _ _ ?_
  refine wp_cond_true (congrArg Value.bool (show _ = true from (by first | rfl | assumption | (simp; done) | exact decide_eq_true (by omega) | omega))) ?_
  refine wp_seq_k ?_
  intro K4 hK4
  refine wp_region_sq [0, 1, 2] (by kernel_rfl) ?_
  refine wpSq_call rfl (by kernel_rfl) fun K hK => ?_
  go_big_op; refine hK _ _ rfl ?_; clear hK K
  refine wpSq_call rfl (by kernel_rfl) fun K hK => ?_
  obtain ⟨d0, d1⟩ := x_b1.f2
  have f0 := x_b1.free 0; have f1 := x_b1.free 1
  go_big_op
  have hnd := x_b1.nod rfl rfl
  obtain ⟨w_3, eW, x_b1', ho⟩ : ∃ w', ((w_2.setCell ⟨p_b1, 0, none⟩ (.bool false)).setCell ⟨p_b1, 1, none⟩ (.slice none 0 0)) = w' ∧ Bs w' p_b1 #[.bool false, .slice none 0 0] 24 ∧ Only p_b1 w_2 w' := x_b1.setN [(0, .bool false), (1, .slice none 0 0)]
  rw [eW]; clear eW d0 d1 f0 f1 x_b1
  have x_b1 := x_b1'; clear x_b1'
  replace hb := belowOnly hb ho kb_b1
  refine hK _ _ rfl ?_; clear hK K ho hnd
  refine wpSq_call rfl (by kernel_rfl) fun K hK => ?_
  go_big_move; refine hK _ _ rfl ?_; clear hK K
  apply wpSq_end
  refine hK4 _ _ ?_
  refine wp_ret ?_
  try dsimp only [Exit.then, Exit.inBlock]
  obtain ⟨r0_0, r0_1⟩ := x_b1.f2
  refine bodyPost_ret (v := (.tuple #[(.agg #[.bool false, .slice none 0 0]), (.int .i64 7)])) (by simp [results, Tryz.results95, go_sem, r0_0, r0_1]) rfl ?_
  exact ⟨rfl, hb⟩
set_option maxHeartbeats 4000000 in
set_option maxRecDepth 20000 in
theorem parseDen_no (s : ByteArray) (w : World) (hs : s.size ≤ 65536) (h : minusB s = false) (h2 : zok s = false) :
    Calls Tryz.prog 95 #[.string s] w fun e w' => e = .returned (.tuple #[.agg #[.bool false, .slice none 0 0], .int .i64 7]) ∧ Below w.heap.size w w' := by
  have H := hide h
  have H2 := hide h2
  clear h h2
  go_enter Tryz.func95, Tryz.ntmps95
  have hb := Below.refl w.heap.size w
  refine wp_seq_k ?_
  intro K1 hK1
  refine wp_region_sq [0, 1] (by kernel_rfl) ?_
  refine wpSq_call rfl (by kernel_rfl) fun K hK => ?_
  go_big_op
  obtain ⟨p_b1, w_1, eP, eW, x_b1, hn, kb_b1⟩ := newBox w #[.bool false, .slice none 0 0] 24 hb.size
  rw [eW, eP]
  clear eW eP
  replace hb := hb.trans (hn.mono hb.size)
  refine hK _ _ rfl ?_; clear hK K hn
  refine wpSq_call rfl (by kernel_rfl) fun K hK => ?_
  go_big_move; refine hK _ _ rfl ?_; clear hK K
  apply wpSq_end
  refine hK1 _ _ ?_
  refine wp_seq_k ?_
  intro K2 hK2
  refine wp_seq_k ?_
  intro K3 hK3
  refine wp_region_sq [0, 1] (by kernel_rfl) ?_
  refine wpSq_call rfl (by kernel_rfl) fun K hK => ?_
  go_big_move; refine hK _ _ rfl ?_; clear hK K
  refine wpSq_call rfl (by kernel_rfl) fun K hK => ?_
  go_big_op
  go_fit (hasPrefixS s _)
  rintro e w_2 ⟨rfl, hb_2⟩
  replace x_b1 := x_b1.bl hb_2; replace hb := hb.trans (hb_2.mono hb.size)
  rw [H.out]
  refine hK _ _ rfl ?_
  clear hK K hb_2
  apply wpSq_end
  refine hK3 _ _ ?_
  refine wp_cond_false (congrArg Value.bool (show _ = false from (by first | rfl | assumption | (simp; done) | exact decide_eq_false (by omega) | omega))) ?_
  refine wp_skip ?_
  refine hK2 _ _ ?_
  refine wp_seq_k ?_
  intro K4 hK4
  refine wp_region_sq [0, 1, 2, 3, 4, 5] (by kernel_rfl) ?_
  refine wpSq_call rfl (by kernel_rfl) fun K hK => ?_
  go_big_move; refine hK _ _ rfl ?_; clear hK K
  refine wpSq_call rfl (by kernel_rfl) fun K hK => ?_
  go_big_op
  go_fit (zparse_no s _ hs H2.out)
  rintro e w_3 ⟨rfl, hb_3⟩
  replace x_b1 := x_b1.bl hb_3; replace hb := hb.trans (hb_3.mono hb.size)
  refine hK _ _ rfl ?_
  clear hK K hb_3
  refine wpSq_call rfl (by kernel_rfl) fun K hK => ?_
  go_big_op; refine hK _ _ rfl ?_; clear hK K
  refine wpSq_call rfl (by kernel_rfl) fun K hK => ?_
  go_big_op; refine hK _ _ rfl ?_; clear hK K
  refine wpSq_call rfl (by kernel_rfl) fun K hK => ?_
  obtain ⟨d0, d1⟩ := x_b1.f2
  have f0 := x_b1.free 0; have f1 := x_b1.free 1
  go_big_op
  have hnd := x_b1.nod rfl rfl
  obtain ⟨w_4, eW, x_b1', ho⟩ : ∃ w', ((w_3.setCell ⟨p_b1, 0, none⟩ (.bool false)).setCell ⟨p_b1, 1, none⟩ (.slice none 0 0)) = w' ∧ Bs w' p_b1 #[.bool false, .slice none 0 0] 24 ∧ Only p_b1 w_3 w' := x_b1.setN [(0, .bool false), (1, .slice none 0 0)]
  rw [eW]; clear eW d0 d1 f0 f1 x_b1
  have x_b1 := x_b1'; clear x_b1'
  replace hb := belowOnly hb ho kb_b1
  refine hK _ _ rfl ?_; clear hK K ho hnd
  refine wpSq_call rfl (by kernel_rfl) fun K hK => ?_
  go_big_move; refine hK _ _ rfl ?_; clear hK K
  apply wpSq_end
  refine hK4 _ _ ?_
  refine wp_ret ?_
  try dsimp only [Exit.then, Exit.inBlock]
  obtain ⟨r0_0, r0_1⟩ := x_b1.f2
  refine bodyPost_ret (v := (.tuple #[(.agg #[.bool false, .slice none 0 0]), (.int .i64 7)])) (by simp [results, Tryz.results95, go_sem, r0_0, r0_1]) rfl ?_
  exact ⟨rfl, hb⟩
set_option maxHeartbeats 4000000 in
set_option maxRecDepth 20000 in
theorem parseDen_ok (s : ByteArray) (w : World) (hs : s.size ≤ 65536) (h : minusB s = false) (h2 : zok s = true) :
    Calls Tryz.prog 95 #[.string s] w fun e w' => ∃ v, e = .returned (.tuple #[v, .int .i64 0]) ∧ ZC w' v (zvl s) ∧ Below w.heap.size w w' := by
  have H := hide h
  have H2 := hide h2
  clear h h2
  go_enter Tryz.func95, Tryz.ntmps95
  have hb := Below.refl w.heap.size w
  refine wp_seq_k ?_
  intro K1 hK1
  refine wp_region_sq [0, 1] (by kernel_rfl) ?_
  refine wpSq_call rfl (by kernel_rfl) fun K hK => ?_
  go_big_op
  obtain ⟨p_b1, w_1, eP, eW, x_b1, hn, kb_b1⟩ := newBox w #[.bool false, .slice none 0 0] 24 hb.size
  rw [eW, eP]
  clear eW eP
  replace hb := hb.trans (hn.mono hb.size)
  refine hK _ _ rfl ?_; clear hK K hn
  refine wpSq_call rfl (by kernel_rfl) fun K hK => ?_
  go_big_move; refine hK _ _ rfl ?_; clear hK K
  apply wpSq_end
  refine hK1 _ _ ?_
  refine wp_seq_k ?_
  intro K2 hK2
  refine wp_seq_k ?_
  intro K3 hK3
  refine wp_region_sq [0, 1] (by kernel_rfl) ?_
  refine wpSq_call rfl (by kernel_rfl) fun K hK => ?_
  go_big_move; refine hK _ _ rfl ?_; clear hK K
  refine wpSq_call rfl (by kernel_rfl) fun K hK => ?_
  go_big_op
  go_fit (hasPrefixS s _)
  rintro e w_2 ⟨rfl, hb_2⟩
  replace x_b1 := x_b1.bl hb_2; replace hb := hb.trans (hb_2.mono hb.size)
  rw [H.out]
  refine hK _ _ rfl ?_
  clear hK K hb_2
  apply wpSq_end
  refine hK3 _ _ ?_
  refine wp_cond_false (congrArg Value.bool (show _ = false from (by first | rfl | assumption | (simp; done) | exact decide_eq_false (by omega) | omega))) ?_
  refine wp_skip ?_
  refine hK2 _ _ ?_
  refine wp_seq_k ?_
  intro K4 hK4
  refine wp_region_sq [0, 1, 2, 3, 4, 5] (by kernel_rfl) ?_
  refine wpSq_call rfl (by kernel_rfl) fun K hK => ?_
  go_big_move; refine hK _ _ rfl ?_; clear hK K
  refine wpSq_call rfl (by kernel_rfl) fun K hK => ?_
  go_big_op
  go_fit (zparse_ok s _ hs H2.out)
  rintro e w_3 ⟨v_g, rfl, g, hb_3⟩
  replace x_b1 := x_b1.bl hb_3; replace hb := hb.trans (hb_3.mono hb.size)
  obtain ⟨n_g, o_g, k_g, c_g, rfl⟩ := g.open2
  refine hK _ _ rfl ?_
  clear hK K hb_3
  refine wpSq_call rfl (by kernel_rfl) fun K hK => ?_
  go_big_op; refine hK _ _ rfl ?_; clear hK K
  refine wpSq_call rfl (by kernel_rfl) fun K hK => ?_
  go_big_op; refine hK _ _ rfl ?_; clear hK K
  refine wpSq_call rfl (by kernel_rfl) fun K hK => ?_
  obtain ⟨d0, d1⟩ := x_b1.f2
  have f0 := x_b1.free 0; have f1 := x_b1.free 1
  go_big_op
  have hnd := x_b1.nod rfl rfl
  obtain ⟨w_4, eW, x_b1', ho⟩ : ∃ w', ((w_3.setCell ⟨p_b1, 0, none⟩ (.bool n_g)).setCell ⟨p_b1, 1, none⟩ (.slice o_g k_g c_g)) = w' ∧ Bs w' p_b1 #[.bool n_g, .slice o_g k_g c_g] 24 ∧ Only p_b1 w_3 w' := x_b1.setN [(0, .bool n_g), (1, .slice o_g k_g c_g)]
  rw [eW]; clear eW d0 d1 f0 f1 x_b1
  have x_b1 := x_b1'; clear x_b1'
  replace g := g.fr hnd ho; replace hb := belowOnly hb ho kb_b1
  refine hK _ _ rfl ?_; clear hK K ho hnd
  refine wpSq_call rfl (by kernel_rfl) fun K hK => ?_
  go_big_move; refine hK _ _ rfl ?_; clear hK K
  apply wpSq_end
  refine hK4 _ _ ?_
  refine wp_ret ?_
  try dsimp only [Exit.then, Exit.inBlock]
  obtain ⟨r0_0, r0_1⟩ := x_b1.f2
  refine bodyPost_ret (v := (.tuple #[(.agg #[.bool n_g, .slice o_g k_g c_g]), (.int .i64 0)])) (by simp [results, Tryz.results95, go_sem, r0_0, r0_1]) rfl ?_
  exact ⟨_, rfl, g, hb⟩
end Go.Proofs.YtkgbfnmlpajblaaGreatDoor

