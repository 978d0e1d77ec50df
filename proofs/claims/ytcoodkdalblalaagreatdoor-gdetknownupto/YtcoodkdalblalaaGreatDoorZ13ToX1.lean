/- zint.Int. -/
import Derived.Lib.Strings
import Derived.Maps.AppendAt
import Derived.Test.YtcoodkdalblalaaGreatDoorE9ToQ5
namespace Go.Proofs.YtcoodkdalblalaaGreatDoor
open Go.RowKit Dig Go.Lib
theorem pw_le_ten' (L : Nat) : pw L ≤ 10 ^ (10 * L) := by
  rw [pw_eq, Nat.pow_mul, Nat.pow_mul]
  exact Nat.pow_le_pow_left (by decide) L
theorem dec_len' {n L : Nat} (h : n < pw L) (hL : 0 < L) : (decDigits n).length ≤ 10 * L :=
  decDigits_length_le _ _ (by omega) (Nat.lt_of_lt_of_le h (pw_le_ten' L))
/-- Does a text begin with a -? -/
def minusB (s : ByteArray) : Bool := decide (1 ≤ s.size) && ((s.extract 0 1).toList == [45])
set_option maxHeartbeats 1000000 in
set_option maxRecDepth 20000 in
theorem hasPrefix_any (s : ByteArray) (w : World) :
    Calls Tryz.prog 114 #[.string s, .string ⟨#[45]⟩] w fun e w' => e = .returned (.bool (minusB s)) ∧ w' = w := by
  by_cases h : 1 ≤ s.size
  · have hm : minusB s = ((s.extract 0 1).toList == [45]) := by unfold minusB; rw [decide_eq_true h, Bool.true_and]
    rw [hm]
    clear hm
    go_enter Tryz.func114, Tryz.ntmps114
    go_wp2
    go_ret
    exact ⟨rfl, rfl⟩
  · have hm : minusB s = false := by unfold minusB; rw [decide_eq_false h, Bool.false_and]
    rw [hm]
    clear hm
    go_enter Tryz.func114, Tryz.ntmps114
    go_wp2
    go_ret
    exact ⟨rfl, rfl⟩
set_option maxHeartbeats 1000000 in
set_option maxRecDepth 20000 in
theorem cutPrefix1 (s : ByteArray) (w : World) (hs : s.size ≤ 1048576) (hm : minusB s = true) :
    Calls Tryz.prog 93 #[.string s, .string ⟨#[45]⟩] w fun e w' => e = .returned (.tuple #[.string (s.extract 1 s.size), .bool true]) ∧ w' = w := by
  have h1 : 1 ≤ s.size := by unfold minusB at hm; rw [Bool.and_eq_true] at hm; exact of_decide_eq_true hm.1
  go_enter Tryz.func93, Tryz.ntmps93
  go_wp2_with fail
  refine (hasPrefix_any s w).mono ?_
  rintro e w' ⟨rfl, rfl⟩
  rw [hm]
  clear hm
  go_wp2
  go_ret2
  exact ⟨rfl, rfl⟩
set_option maxHeartbeats 1000000 in
set_option maxRecDepth 20000 in
theorem scut1 (s : ByteArray) (w : World) (hs : s.size ≤ 1048576) (hm : minusB s = true) :
    Calls Tryz.prog 55 #[.string s, .string ⟨#[45]⟩] w fun e w' => e = .returned (.tuple #[.string (s.extract 1 s.size), .bool true]) ∧ w' = w := by
  go_enter Tryz.func55, Tryz.ntmps55
  go_wp2_with fail
  refine (cutPrefix1 s w hs hm).mono ?_
  rintro e w' ⟨rfl, rfl⟩
  go_wp2
  go_ret2
  exact ⟨rfl, rfl⟩
set_option maxHeartbeats 1000000 in
set_option maxRecDepth 20000 in
/-- zint.Text of a number not below 0. -/
theorem ztext_pos {w : World} {v : Value} {z : Int} {l : Nat} (h : ZN w v z l) (hl : l ≤ 1000000000) (hz0 : 0 ≤ z) (htab : Lib.TabIs Tryz.prog w p10 .u64 Lib.pow10Tab) :
    Calls Tryz.prog 91 #[v] w fun e w' => e = .returned (.string ⟨(Lib.decDigits z.natAbs).toArray⟩) ∧ Below w.heap.size w w' := by
  have htabs := Lib.tabBelow_of_tabIs htab
  have hzn := h
  obtain ⟨neg, oa, cap, xs, rfl, hcap, hr, hz, hxl⟩ := h.open_
  have hv : val xs = z.natAbs := by rw [← hz, zv_abs]
  obtain ⟨G, hG⟩ : ∃ G, z.sign = G := ⟨_, rfl⟩
  have hG0 : 0 ≤ G := by rw [← hG]; rcases Int.lt_or_eq_of_le hz0 with h1 | h1; rw [Int.sign_eq_one_of_pos h1]; omega; rw [← h1]; decide
  have hG1 : (G < 0) = False := eq_false (by omega)
  have HV := hide (And.intro hv hG)
  obtain ⟨S, hS⟩ : ∃ S, Lib.decDigits z.natAbs = S := ⟨_, rfl⟩
  have HS := hide hS
  rw [hS]
  clear hz hv h hz0 hS hG
  go_enter Tryz.func91, Tryz.ntmps91
  have hb := Below.refl w.heap.size w
  have hp := Bk.new w neg (.slice oa xs.length cap)
  replace hr := hr.alloc (.cells #[.bool neg, (.slice oa xs.length cap)] 24)
  replace hzn := hzn.alloc (.cells #[.bool neg, (.slice oa xs.length cap)] 24)
  replace hb := hb.alloc hb.size (.cells #[.bool neg, (.slice oa xs.length cap)] 24)
  have f_hp := hp.facts
  go_wp2_with fail
  refine (text_rd hr (by omega) (htabs _ hb)).mono ?_
  rintro e w_1 ⟨rfl, hb_1⟩
  replace hr := hr.below hb_1 (Nat.le_refl _)
  replace hzn := hzn.below hb_1 (Nat.le_refl _)
  replace hp := hp.below hb_1 (Nat.le_refl _)
  replace hb := hb.trans (hb_1.mono hb.size)
  clear hb_1
  rw [HV.out.1, HS.out]
  clear f_hp
  have f_hp := hp.facts
  go_wp2_with fail
  refine (zsign_any hzn hl).mono ?_
  rintro e w_2 ⟨rfl, hb_2⟩
  replace hr := hr.below hb_2 (Nat.le_refl _)
  replace hzn := hzn.below hb_2 (Nat.le_refl _)
  replace hp := hp.below hb_2 (Nat.le_refl _)
  replace hb := hb.trans (hb_2.mono hb.size)
  clear hb_2
  rw [HV.out.2]
  go_wp2
  go_ret
  exact ⟨rfl, hb⟩
open Go
set_option linter.unusedVariables false
/-- A whole number's text. -/
def ztx (z : Int) : List UInt8 := if z < 0 then (45 : UInt8) :: Lib.decDigits z.natAbs else Lib.decDigits z.natAbs
def zts (z : Int) : ByteArray := ⟨(ztx z).toArray⟩
theorem dec_le {z : Int} {l : Nat} (h : (dig z.natAbs).length ≤ l) : (Lib.decDigits z.natAbs).length ≤ 10 * (l + 1) :=
  dec_len' (L := l + 1) (Nat.lt_of_lt_of_le (lt_pw_dig _) (pw_mono (by omega))) (by omega)
theorem zts_size {z : Int} {l : Nat} (h : (dig z.natAbs).length ≤ l) : (zts z).size ≤ 10 * l + 11 := by
  have := dec_le h
  unfold zts ztx
  show (List.toArray _).size ≤ _
  split <;> simp <;> omega
theorem ztext_s {w : World} {v : Value} {z : Int} {l : Nat} (h : ZN w v z l) (hl : l ≤ 1000000000) (htab : Lib.TabIs Tryz.prog w p10 .u64 Lib.pow10Tab) :
    Calls Tryz.prog 91 #[v] w fun e w' => e = .returned (.string (zts z)) ∧ Below w.heap.size w w' := by
  by_cases h0 : z < 0
  · unfold zts ztx; rw [if_pos h0]
    exact ztext_neg h hl h0 (Nat.le_trans (dec_le h.len) (by omega)) htab
  · unfold zts ztx; rw [if_neg h0]
    exact ztext_pos h hl (by omega) htab
/-- A rational's text. -/
def qts (x y : Int) : ByteArray := if qD x y = 1 then zts (qN x y) else zts (qN x y) ++ (⟨#[47]⟩ ++ zts (qD x y))
section
variable {w : World} {va vb : Value} {x y u v : Int} {l m k n : Nat}
set_option maxHeartbeats 4000000 in
set_option maxRecDepth 20000 in
theorem fText_one (ha : PN w va x l y m) (hl : l ≤ 10000000) (hm : m ≤ 10000000) (h0 : y ≠ 0) (h1 : qD x y = 1) (htab : Lib.TabIs Tryz.prog w p10 .u64 Lib.pow10Tab) :
    Calls Tryz.prog 54 #[va] w fun e w' => e = .returned (.tuple #[.string (zts (qN x y)), .int .i64 0]) ∧ Below w.heap.size w w' := by
  have htabs := Lib.tabBelow_of_tabIs htab
  have H0 := hide h0
  have H1 := hide (show zcmp (qD x y) 1 = 0 from zcmp_eq h1)
  obtain ⟨S, hS⟩ : ∃ S, zts (qN x y) = S := ⟨_, rfl⟩
  have HS := hide hS
  rw [hS]
  clear h0 h1 hS
  obtain ⟨n_0a, o_0a, k_0a, c_0a, n_0b, o_0b, k_0b, c_0b, rfl, ha1, ha2⟩ := ha
  go_enter Tryz.func54, Tryz.ntmps54
  have hs := St.nil w
  refine wp_seq_k ?_
  intro K1 hK1
  refine rg [0, 1, 2] ?_
  refine sq ?_
  refine .al hs ?_; clear hs; intro p_b1 w_1 hs n1 kb_b1
  refine sq ?_
  refine .mv ?_
  refine sq ?_
  refine .mv ?_
  apply wpSq_end
  refine hK1 _ _ ?_
  refine wp_seq_k ?_
  intro K2 hK2
  refine rg [0, 1, 2, 3, 4, 5, 6, 7, 8, 9, 10] ?_
  refine sq ?_
  refine .r0 ?_
  refine sq ?_
  refine .r4 hs.g0.f4 ?_
  refine sq ?_
  refine .r0 ?_
  refine sq ?_
  refine .r4 hs.g0.f4 ?_
  refine sq ?_
  intro K hK
  have k0_1 := kb n1
  replace ha1 := ha1.k k0_1
  replace ha2 := ha2.k k0_1
  go_big_op
  go_fit (fmake_any ha1 ha2 (by omega) (by omega) H0.out)
  rintro e w_2 ⟨_, rfl, ⟨n_ga, o_ga, k_ga, c_ga, n_gb, o_gb, k_gb, c_gb, rfl, g1, g2⟩, hb_2⟩
  replace hs := hs.bl hb_2
  have Lg1 := hide (g1.lenOf (qN_len (H0.out) (ha1.len)))
  have Lg2 := hide (g2.lenOf (qD_len (H0.out) (ha2.len)))
  refine hK _ _ rfl trivial ?_
  clear hK K
  refine sq ?_
  refine .mv ?_
  refine sq ?_
  refine .r0 ?_
  refine sq ?_
  refine .r0 ?_
  refine sq ?_
  refine .al hs ?_; clear hs; intro p_b2 w_3 hs n3 kb_b2
  refine sq ?_
  refine .s4 hs.g0 (fun _ => hs.u0 kb_b2) ?_; clear hs; intro w_4 hs hd4 ho4
  refine sq ?_
  refine .mv ?_
  apply wpSq_end
  refine hK2 _ _ ?_
  refine wp_seq_k ?_
  intro K3 hK3
  refine wp_seq_k ?_
  intro K4 hK4
  refine rg [0, 1] ?_
  refine sq ?_
  refine .mv ?_
  refine sq ?_
  refine .r0 ?_
  apply wpSq_end
  refine hK4 _ _ ?_
  refine cf ?_
  refine wp_skip ?_
  refine hK3 _ _ ?_
  refine wp_seq_k ?_
  intro K5 hK5
  refine rg [0, 1, 2, 3] ?_
  refine sq ?_
  refine .r0 ?_
  refine sq ?_
  refine .r4 hs.g0.f4 ?_
  refine sq ?_
  intro K hK
  have k2_4 := (kb n3).o hd4 ho4
  replace g1 := g1.k k2_4
  have hb := hs.b
  go_big_op
  go_fit (ztext_s (g1.zn Lg1.out) (by omega) (htabs _ hb))
  rintro e w_5 ⟨rfl, hb_5⟩
  clear hb
  replace hs := hs.bl hb_5
  rw [HS.out]
  refine hK _ _ rfl trivial ?_
  clear hK K
  refine sq ?_
  refine .mv ?_
  apply wpSq_end
  refine hK5 _ _ ?_
  refine wp_seq_k ?_
  intro K6 hK6
  refine wp_seq_k ?_
  intro K7 hK7
  refine wp_region_f4 [(0, false), (1, false), (2, true), (3, true), (4, false)] [] [] (fun _ => default) [99, 0, 99, 99, 99] [] (.c hs.g0 .n) fn fun w_6 n6 => ?_
  replace hs := hs.bl n6
  refine f0 ?_
  refine f4 ?_
  refine fl fun w_7 n7 => ?_
  replace hs := hs.bl n7
  intro K hK
  go_big_op
  go_fit (from_any (1 : Int) _ (by decide) (by decide))
  rintro e w_8 ⟨v_g3, rfl, g3, hb_8⟩
  replace hs := hs.bl hb_8
  replace g3 := g3.rd
  obtain ⟨n_g3, o_g3, k_g3, c_g3, rfl⟩ := g3.open2
  have Lg3 := hide (g3.lenOf (zlen_i (1 : Int) (by decide) (by decide)))
  refine hK _ _ rfl ⟨hb_8, (And.intro hs.g0 trivial)⟩ ?_
  clear hK K
  refine fl fun w_9 n9 => ?_
  replace hs := hs.bl n9
  intro K hK
  have k2_9 := ((((k2_4.b hb_5).b n6).b n7).b hb_8).b n9
  replace g2 := g2.k k2_9
  have k8_9 := kb n9
  replace g3 := g3.k k8_9
  go_big_op
  go_fit (zcmp_any (g2.zn Lg2.out) (g3.zn Lg3.out) (by omega) (by omega) )
  rintro e w_10 ⟨rfl, hb_10⟩
  replace hs := hs.bl hb_10
  rw [H1.out]
  refine hK _ _ rfl ⟨hb_10, (And.intro hs.g0 trivial)⟩ ?_
  clear hK K
  refine f0 ?_
  refine e0 hs ?_; clear hs; intro w_11 hs n11
  apply wpTail_end
  refine hK7 _ _ ?_
  refine cf ?_
  refine wp_skip ?_
  refine hK6 _ _ ?_
  refine wp_seq_k ?_
  intro K8 hK8
  refine rg [0, 1, 2] ?_
  refine sq ?_
  refine .mv ?_
  refine sq ?_
  refine .mv ?_
  refine sq ?_
  refine .mv ?_
  apply wpSq_end
  refine hK8 _ _ ?_
  refine wp_ret ?_
  try dsimp only [Exit.then, Exit.inBlock]
  refine bodyPost_ret (v := (.tuple #[(.string S), (.int .i64 0)])) (by simp [results, Tryz.results54, go_sem]) rfl ?_
  have hb := hs.b
  exact ⟨rfl, hb⟩
set_option maxHeartbeats 4000000 in
set_option maxRecDepth 20000 in
theorem fText_two (ha : PN w va x l y m) (hl : l ≤ 10000000) (hm : m ≤ 10000000) (h0 : y ≠ 0) (h1 : qD x y ≠ 1) (htab : Lib.TabIs Tryz.prog w p10 .u64 Lib.pow10Tab) :
    Calls Tryz.prog 54 #[va] w fun e w' => e = .returned (.tuple #[.string (zts (qN x y) ++ (⟨#[47]⟩ ++ zts (qD x y))), .int .i64 0]) ∧ Below w.heap.size w w' := by
  have htabs := Lib.tabBelow_of_tabIs htab
  have H0 := hide h0
  have H1 := hide (show zcmp (qD x y) 1 = 1 from zcmp_gt (by have := qD_pos (x := x) h0; omega))
  have hsz := zts_size (qN_len h0 ha.len1)
  have ht := zts_size (qD_len (x := x) h0 ha.len2)
  obtain ⟨S, hS⟩ : ∃ S, zts (qN x y) = S := ⟨_, rfl⟩
  obtain ⟨T, hT⟩ : ∃ T, zts (qD x y) = T := ⟨_, rfl⟩
  have HS := hide hS
  have HT := hide hT
  rw [hS] at hsz ⊢
  rw [hT] at ht ⊢
  clear h0 h1 hS hT
  obtain ⟨n_0a, o_0a, k_0a, c_0a, n_0b, o_0b, k_0b, c_0b, rfl, ha1, ha2⟩ := ha
  go_enter Tryz.func54, Tryz.ntmps54
  have hs := St.nil w
  refine wp_seq_k ?_
  intro K1 hK1
  refine rg [0, 1, 2] ?_
  refine sq ?_
  refine .al hs ?_; clear hs; intro p_b1 w_1 hs n1 kb_b1
  refine sq ?_
  refine .mv ?_
  refine sq ?_
  refine .mv ?_
  apply wpSq_end
  refine hK1 _ _ ?_
  refine wp_seq_k ?_
  intro K2 hK2
  refine rg [0, 1, 2, 3, 4, 5, 6, 7, 8, 9, 10] ?_
  refine sq ?_
  refine .r0 ?_
  refine sq ?_
  refine .r4 hs.g0.f4 ?_
  refine sq ?_
  refine .r0 ?_
  refine sq ?_
  refine .r4 hs.g0.f4 ?_
  refine sq ?_
  intro K hK
  have k0_1 := kb n1
  replace ha1 := ha1.k k0_1
  replace ha2 := ha2.k k0_1
  go_big_op
  go_fit (fmake_any ha1 ha2 (by omega) (by omega) H0.out)
  rintro e w_2 ⟨_, rfl, ⟨n_ga, o_ga, k_ga, c_ga, n_gb, o_gb, k_gb, c_gb, rfl, g1, g2⟩, hb_2⟩
  replace hs := hs.bl hb_2
  have Lg1 := hide (g1.lenOf (qN_len (H0.out) (ha1.len)))
  have Lg2 := hide (g2.lenOf (qD_len (H0.out) (ha2.len)))
  refine hK _ _ rfl trivial ?_
  clear hK K
  refine sq ?_
  refine .mv ?_
  refine sq ?_
  refine .r0 ?_
  refine sq ?_
  refine .r0 ?_
  refine sq ?_
  refine .al hs ?_; clear hs; intro p_b2 w_3 hs n3 kb_b2
  refine sq ?_
  refine .s4 hs.g0 (fun _ => hs.u0 kb_b2) ?_; clear hs; intro w_4 hs hd4 ho4
  refine sq ?_
  refine .mv ?_
  apply wpSq_end
  refine hK2 _ _ ?_
  refine wp_seq_k ?_
  intro K3 hK3
  refine wp_seq_k ?_
  intro K4 hK4
  refine rg [0, 1] ?_
  refine sq ?_
  refine .mv ?_
  refine sq ?_
  refine .r0 ?_
  apply wpSq_end
  refine hK4 _ _ ?_
  refine cf ?_
  refine wp_skip ?_
  refine hK3 _ _ ?_
  refine wp_seq_k ?_
  intro K5 hK5
  refine rg [0, 1, 2, 3] ?_
  refine sq ?_
  refine .r0 ?_
  refine sq ?_
  refine .r4 hs.g0.f4 ?_
  refine sq ?_
  intro K hK
  have k2_4 := (kb n3).o hd4 ho4
  replace g1 := g1.k k2_4
  have hb := hs.b
  go_big_op
  go_fit (ztext_s (g1.zn Lg1.out) (by omega) (htabs _ hb))
  rintro e w_5 ⟨rfl, hb_5⟩
  clear hb
  replace hs := hs.bl hb_5
  rw [HS.out]
  refine hK _ _ rfl trivial ?_
  clear hK K
  refine sq ?_
  refine .mv ?_
  apply wpSq_end
  refine hK5 _ _ ?_
  refine wp_seq_k ?_
  intro K6 hK6
  refine wp_seq_k ?_
  intro K7 hK7
  refine wp_region_f4 [(0, false), (1, false), (2, true), (3, true), (4, false)] [] [] (fun _ => default) [99, 0, 99, 99, 99] [] (.c hs.g0 .n) fn fun w_6 n6 => ?_
  replace hs := hs.bl n6
  refine f0 ?_
  refine f4 ?_
  refine fl fun w_7 n7 => ?_
  replace hs := hs.bl n7
  intro K hK
  go_big_op
  go_fit (from_any (1 : Int) _ (by decide) (by decide))
  rintro e w_8 ⟨v_g3, rfl, g3, hb_8⟩
  replace hs := hs.bl hb_8
  replace g3 := g3.rd
  obtain ⟨n_g3, o_g3, k_g3, c_g3, rfl⟩ := g3.open2
  have Lg3 := hide (g3.lenOf (zlen_i (1 : Int) (by decide) (by decide)))
  refine hK _ _ rfl ⟨hb_8, (And.intro hs.g0 trivial)⟩ ?_
  clear hK K
  refine fl fun w_9 n9 => ?_
  replace hs := hs.bl n9
  intro K hK
  have k2_9 := ((((k2_4.b hb_5).b n6).b n7).b hb_8).b n9
  replace g2 := g2.k k2_9
  have k8_9 := kb n9
  replace g3 := g3.k k8_9
  go_big_op
  go_fit (zcmp_any (g2.zn Lg2.out) (g3.zn Lg3.out) (by omega) (by omega) )
  rintro e w_10 ⟨rfl, hb_10⟩
  replace hs := hs.bl hb_10
  rw [H1.out]
  refine hK _ _ rfl ⟨hb_10, (And.intro hs.g0 trivial)⟩ ?_
  clear hK K
  refine f0 ?_
  refine e0 hs ?_; clear hs; intro w_11 hs n11
  apply wpTail_end
  refine hK7 _ _ ?_
  refine ct ?_
  refine rg [0, 1, 2, 3, 4, 5, 6] ?_
  refine sq ?_
  refine .mv ?_
  refine sq ?_
  refine .r0 ?_
  refine sq ?_
  refine .r4 hs.g0.f4 ?_
  refine sq ?_
  intro K hK
  have k9_11 := (kb hb_10).b n11
  replace g2 := g2.k k9_11
  have hb := hs.b
  go_big_op
  go_fit (ztext_s (g2.zn Lg2.out) (by omega) (htabs _ hb))
  rintro e w_12 ⟨rfl, hb_12⟩
  clear hb
  replace hs := hs.bl hb_12
  rw [HT.out]
  refine hK _ _ rfl trivial ?_
  clear hK K
  refine sq ?_
  refine .r0 ?_
  refine sq ?_
  refine .r0 ?_
  refine sq ?_
  refine .mv ?_
  apply wpSq_end
  refine hK6 _ _ ?_
  refine wp_seq_k ?_
  intro K8 hK8
  refine rg [0, 1, 2] ?_
  refine sq ?_
  refine .mv ?_
  refine sq ?_
  refine .mv ?_
  refine sq ?_
  refine .mv ?_
  apply wpSq_end
  refine hK8 _ _ ?_
  refine wp_ret ?_
  try dsimp only [Exit.then, Exit.inBlock]
  refine bodyPost_ret (v := (.tuple #[.string (S ++ (⟨#[47]⟩ ++ T)), .int .i64 0])) (by simp [results, Tryz.results54, go_sem]) rfl ?_
  have hb := hs.b
  exact ⟨rfl, hb⟩
theorem fText_any (ha : PN w va x l y m) (hl : l ≤ 10000000) (hm : m ≤ 10000000) (h0 : y ≠ 0) (htab : Lib.TabIs Tryz.prog w p10 .u64 Lib.pow10Tab) :
    Calls Tryz.prog 54 #[va] w fun e w' => e = .returned (.tuple #[.string (qts x y), .int .i64 0]) ∧ Below w.heap.size w w' := by
  by_cases h1 : qD x y = 1
  · unfold qts; rw [if_pos h1]; exact fText_one ha hl hm h0 h1 htab
  · unfold qts; rw [if_neg h1]; exact fText_two ha hl hm h0 h1 htab
end
theorem dec1 (n : Nat) (h : n < 10) : Lib.decDigits n = [UInt8.ofNat (48 + n)] := by
  rw [Lib.decDigits, dif_pos h]
/-- One fraction, one form in lowest terms. -/
theorem low_unique {a b c d : Int} (h : low a b) (k : low c d) (e : a * d = c * b) : a = c ∧ b = d := by
  have cop : ∀ {a b d : Int}, Int.gcd a b = 1 → b ∣ a * d → b ∣ d := by
    intro a b d hg hd
    have h1 : b.natAbs ∣ a.natAbs * d.natAbs := by rw [← Int.natAbs_mul]; exact Int.natAbs_dvd_natAbs.2 hd
    have hc : Nat.Coprime b.natAbs a.natAbs := by
      rw [Nat.coprime_comm]; exact hg
    exact Int.natAbs_dvd_natAbs.1 (hc.dvd_of_dvd_mul_left h1)
  have h1 : b ∣ d := cop h.2 ⟨c, by rw [e, Int.mul_comm]⟩
  have h2 : d ∣ b := cop k.2 ⟨a, by rw [← e, Int.mul_comm]⟩
  have hbd : b = d := Int.dvd_antisymm (Int.le_of_lt h.1) (Int.le_of_lt k.1) h1 h2
  refine ⟨?_, hbd⟩
  rw [hbd] at e
  exact Int.eq_of_mul_eq_mul_right (by have := k.1; omega) e
/-- What a fraction is made of, multiplied up. -/
theorem q_cross {x y : Int} (hy : y ≠ 0) : qN x y * y = x * qD x y := by
  have h1 := qN_eq (x := x) (y := y)
  have h2 := qD_eq (x := x) (y := y)
  generalize qN x y = a at *
  generalize qD x y = b at *
  generalize qg x y = g at *
  rw [h1, h2, Int.mul_assoc, Int.mul_comm g b]
def rv (x y : Int) : Rat := (x : Rat) / (y : Rat)
theorem cast_ne {y : Int} (h : y ≠ 0) : (y : Rat) ≠ 0 := by
  intro h0; exact h (by exact_mod_cast h0)
theorem rv_eq {x y u v : Int} (hy : y ≠ 0) (hv : v ≠ 0) : rv x y = rv u v ↔ x * v = u * y := by
  have h1 := cast_ne hy
  have h2 := cast_ne hv
  rw [← Rat.intCast_inj, Rat.intCast_mul, Rat.intCast_mul]
  unfold rv
  constructor <;> intro h <;> grind
theorem rv_add {x y u v : Int} (hy : y ≠ 0) (hv : v ≠ 0) : rv (x * v + u * y) (y * v) = rv x y + rv u v := by
  have h1 := cast_ne hy
  have h2 := cast_ne hv
  unfold rv
  rw [Rat.intCast_add, Rat.intCast_mul, Rat.intCast_mul, Rat.intCast_mul]; grind
theorem rv_sub {x y u v : Int} (hy : y ≠ 0) (hv : v ≠ 0) : rv (x * v - u * y) (y * v) = rv x y - rv u v := by
  have h1 := cast_ne hy
  have h2 := cast_ne hv
  unfold rv
  rw [Rat.intCast_sub, Rat.intCast_mul, Rat.intCast_mul, Rat.intCast_mul]; grind
theorem rv_mul (x y u v : Int) : rv (x * u) (y * v) = rv x y * rv u v := by
  unfold rv
  rw [Rat.intCast_mul, Rat.intCast_mul]; grind
theorem rv_quo (x y u v : Int) : rv (x * v) (u * y) = rv x y / rv u v := by
  unfold rv
  rw [Rat.intCast_mul, Rat.intCast_mul]; grind
theorem rv_low {x y : Int} (hy : y ≠ 0) : rv (qN x y) (qD x y) = rv x y :=
  (rv_eq (by have := qD_pos (x := x) hy; omega) hy).2 (q_cross hy)
theorem low_rv {a b c d : Int} (h : low a b) (k : low c d) (e : rv a b = rv c d) : a = c ∧ b = d :=
  low_unique h k ((rv_eq (by have := h.1; omega) (by have := k.1; omega)).1 e)
theorem rat_low (r : Rat) : low r.num r.den := ⟨by have := r.den_pos; omega, by have := r.reduced; unfold Nat.Coprime at this; unfold Int.gcd; rw [Int.natAbs_natCast]; exact this⟩
theorem rv_self (r : Rat) : rv r.num r.den = r := by
  have h := Rat.num_divInt_den r
  rw [Rat.divInt_eq_div] at h
  exact h
/-- In lowest terms: the rational's own numerator and denominator. -/
theorem q_num {x y : Int} (hy : y ≠ 0) : qN x y = (rv x y).num ∧ qD x y = ((rv x y).den : Int) :=
  low_rv (low_q hy) (rat_low _) (by rw [rv_low hy, rv_self])
theorem q_eq {x y : Int} {r : Rat} (hy : y ≠ 0) (e : rv x y = r) : qN x y = r.num ∧ qD x y = (r.den : Int) := e ▸ q_num hy
theorem r_len {x y : Int} {r : Rat} {l m : Nat} (hy : y ≠ 0) (e : rv x y = r) (hl : (dig x.natAbs).length ≤ l) (hm : (dig y.natAbs).length ≤ m) : (dig r.num.natAbs).length ≤ l ∧ (dig (r.den : Int).natAbs).length ≤ m := by
  rw [← (q_eq hy e).1, ← (q_eq hy e).2]
  exact ⟨qN_len hy hl, qD_len hy hm⟩
/-- Four whole numbers in one struct. -/
def CN (w : World) (va : Value) (x : Int) (l : Nat) (y : Int) (m : Nat) (u : Int) (k : Nat) (v : Int) (n : Nat) : Prop :=
  ∃ n1 o1 k1 c1 n2 o2 k2 c2 n3 o3 k3 c3 n4 o4 k4 c4, va = .agg #[.bool n1, .slice o1 k1 c1, .bool n2, .slice o2 k2 c2, .bool n3, .slice o3 k3 c3, .bool n4, .slice o4 k4 c4] ∧ ZN w (.agg #[.bool n1, .slice o1 k1 c1]) x l ∧ ZN w (.agg #[.bool n2, .slice o2 k2 c2]) y m ∧ ZN w (.agg #[.bool n3, .slice o3 k3 c3]) u k ∧ ZN w (.agg #[.bool n4, .slice o4 k4 c4]) v n
def CC (w : World) (va : Value) (x y u v : Int) : Prop :=
  ∃ n1 o1 k1 c1 n2 o2 k2 c2 n3 o3 k3 c3 n4 o4 k4 c4, va = .agg #[.bool n1, .slice o1 k1 c1, .bool n2, .slice o2 k2 c2, .bool n3, .slice o3 k3 c3, .bool n4, .slice o4 k4 c4] ∧ ZC w (.agg #[.bool n1, .slice o1 k1 c1]) x ∧ ZC w (.agg #[.bool n2, .slice o2 k2 c2]) y ∧ ZC w (.agg #[.bool n3, .slice o3 k3 c3]) u ∧ ZC w (.agg #[.bool n4, .slice o4 k4 c4]) v
section
variable {w w' : World} {va : Value} {x y u v : Int} {l m k n : Nat} {n1 n2 n3 n4 : Bool} {o1 o2 o3 o4 : Option Addr} {k1 c1 k2 c2 k3 c3 k4 c4 : Nat}
theorem CN.mk' (h1 : ZN w (.agg #[.bool n1, .slice o1 k1 c1]) x l) (h2 : ZN w (.agg #[.bool n2, .slice o2 k2 c2]) y m) (h3 : ZN w (.agg #[.bool n3, .slice o3 k3 c3]) u k) (h4 : ZN w (.agg #[.bool n4, .slice o4 k4 c4]) v n) :
    CN w (.agg #[.bool n1, .slice o1 k1 c1, .bool n2, .slice o2 k2 c2, .bool n3, .slice o3 k3 c3, .bool n4, .slice o4 k4 c4]) x l y m u k v n := ⟨_, _, _, _, _, _, _, _, _, _, _, _, _, _, _, _, rfl, h1, h2, h3, h4⟩
theorem CC.mk' (h1 : ZC w (.agg #[.bool n1, .slice o1 k1 c1]) x) (h2 : ZC w (.agg #[.bool n2, .slice o2 k2 c2]) y) (h3 : ZC w (.agg #[.bool n3, .slice o3 k3 c3]) u) (h4 : ZC w (.agg #[.bool n4, .slice o4 k4 c4]) v) :
    CC w (.agg #[.bool n1, .slice o1 k1 c1, .bool n2, .slice o2 k2 c2, .bool n3, .slice o3 k3 c3, .bool n4, .slice o4 k4 c4]) x y u v := ⟨_, _, _, _, _, _, _, _, _, _, _, _, _, _, _, _, rfl, h1, h2, h3, h4⟩
end
end Go.Proofs.YtcoodkdalblalaaGreatDoor
