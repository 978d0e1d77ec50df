/- Texts with a sign: CutPrefix, the references Is and Parse. -/
import Derived.Test.YtgjainmfilkjmaaGreatDoorG3ToR10
import Derived.Test.YtgjainmfilkjmaaGreatDoorR11
import Derived.Test.YtgjainmfilkjmaaGreatDoorR12

namespace Go.Proofs.YtgjainmfilkjmaaGreatDoor
open Go.RowKit Dig

end Go.Proofs.YtgjainmfilkjmaaGreatDoor


/- zint.Parse, Text; the reference's Text. -/
namespace Go.Proofs.YtgjainmfilkjmaaGreatDoor
open Go.RowKit Dig

set_option maxHeartbeats 1000000 in
set_option maxRecDepth 20000 in
/-- zint.Text of a number not below 0. -/
theorem ztext_pos {w : World} {v : Value} {z : Int} {l : Nat} (h : ZN w v z l) (hl : l ≤ 1000000000) (hz0 : 0 ≤ z) (htab : Lib.TabIs Tryz.prog w p10 .u64 Lib.pow10Tab) :
    Calls Tryz.prog 47 #[v] w fun e w' => e = .returned (.string ⟨(Lib.decDigits z.natAbs).toArray⟩) ∧ Below w.heap.size w w' := by
  have htabs := Lib.tabBelow_of_tabIs htab
  have hzn := h
  obtain ⟨neg, oa, cap, xs, rfl, hcap, hr, hz, hxl⟩ := h.open_
  have hv : val xs = z.natAbs := by rw [← hz, zv_abs]
  obtain ⟨G, hG⟩ : ∃ G, z.sign = G := ⟨_, rfl⟩
  have hG0 : 0 ≤ G := by rw [← hG]; rcases Int.lt_or_eq_of_le hz0 with h1 | h1; rw [Int.sign_eq_one_of_pos h1]; omega; rw [← h1]; decide
  have hG1 : (G < 0) = False := eq_false (by omega)
  have HV := hide (And.intro hv hG)
  obtain ⟨S, hS⟩ : ∃ S, Lib.decDigits z.natAbs = S := ⟨_, rfl⟩
  have HS := hide hS
  rw [hS]
  clear hz hv h hz0 hS hG
  go_enter Tryz.func47, Tryz.ntmps47
  have hb := Below.refl w.heap.size w
  have hp := Bk.new w neg (.slice oa xs.length cap)
  replace hr := hr.alloc (.cells #[.bool neg, (.slice oa xs.length cap)] 26)
  replace hzn := hzn.alloc (.cells #[.bool neg, (.slice oa xs.length cap)] 26)
  replace hb := hb.alloc hb.size (.cells #[.bool neg, (.slice oa xs.length cap)] 26)
  have f_hp := hp.facts
  go_wp2_with fail
  refine (text_rd hr (by omega) (htabs _ hb)).mono ?_
  rintro e w_1 ⟨rfl, hb_1⟩
  replace hr := hr.below hb_1 (Nat.le_refl _)
  replace hzn := hzn.below hb_1 (Nat.le_refl _)
  replace hp := hp.below hb_1 (Nat.le_refl _)
  replace hb := hb.trans (hb_1.mono hb.size)
  clear hb_1
  rw [HV.out.1, HS.out]
  clear f_hp
  have f_hp := hp.facts
  go_wp2_with fail
  refine (zsign_any hzn hl).mono ?_
  rintro e w_2 ⟨rfl, hb_2⟩
  replace hr := hr.below hb_2 (Nat.le_refl _)
  replace hzn := hzn.below hb_2 (Nat.le_refl _)
  replace hp := hp.below hb_2 (Nat.le_refl _)
  replace hb := hb.trans (hb_2.mono hb.size)
  clear hb_2
  rw [HV.out.2]
  go_wp2
  go_ret
  exact ⟨rfl, hb⟩
end Go.Proofs.YtgjainmfilkjmaaGreatDoor


/- Texts with a sign, in one piece: what is a number, and which. -/
namespace Go.Proofs.YtgjainmfilkjmaaGreatDoor
open Go Go.RowKit Dig
set_option linter.unusedVariables false

end Go.Proofs.YtgjainmfilkjmaaGreatDoor


/- gint: Text; the law's awake. -/
namespace Go.Proofs.YtgjainmfilkjmaaGreatDoor
open Go Go.RowKit Dig
set_option linter.unusedVariables false

/-- A whole number's text. -/
def ztx (z : Int) : List UInt8 := if z < 0 then (45 : UInt8) :: Lib.decDigits z.natAbs else Lib.decDigits z.natAbs
def zts (z : Int) : ByteArray := ⟨(ztx z).toArray⟩
theorem dec_le {z : Int} {l : Nat} (h : (dig z.natAbs).length ≤ l) : (Lib.decDigits z.natAbs).length ≤ 10 * (l + 1) :=
  dec_len' (L := l + 1) (Nat.lt_of_lt_of_le (lt_pw_dig _) (pw_mono (by omega))) (by omega)
theorem zts_size {z : Int} {l : Nat} (h : (dig z.natAbs).length ≤ l) : (zts z).size ≤ 10 * l + 11 := by
  have := dec_le h
  unfold zts ztx
  show (List.toArray _).size ≤ _
  split <;> simp <;> omega
theorem ztext_s {w : World} {v : Value} {z : Int} {l : Nat} (h : ZN w v z l) (hl : l ≤ 1000000000) (htab : Lib.TabIs Tryz.prog w p10 .u64 Lib.pow10Tab) :
    Calls Tryz.prog 47 #[v] w fun e w' => e = .returned (.string (zts z)) ∧ Below w.heap.size w w' := by
  by_cases h0 : z < 0
  · unfold zts ztx; rw [if_pos h0]
    exact ztext_neg h hl h0 (Nat.le_trans (dec_le h.len) (by omega)) htab
  · unfold zts ztx; rw [if_neg h0]
    exact ztext_pos h hl (by omega) htab
theorem dec1 (n : Nat) (h : n < 10) : Lib.decDigits n = [UInt8.ofNat (48 + n)] := by
  rw [Lib.decDigits, dif_pos h]
/-- The parts of a Gaussian integer's text. -/
def gRe (x : Int) : ByteArray := if x = 0 then ⟨#[]⟩ else zts x
def gSg (x y : Int) : ByteArray := if y < 0 then ⟨#[45]⟩ else if x = 0 then ⟨#[]⟩ else ⟨#[43]⟩
def gAm (y : Int) : ByteArray := if 1 < bitsN y.natAbs then zts (y.natAbs : Int) else ⟨#[]⟩
def gts (x y : Int) : ByteArray := if y = 0 then zts x else gRe x ++ gSg x y ++ gAm y ++ ⟨#[105]⟩
section
variable {w : World} {va vb : Value} {x y u v : Int} {l m k n : Nat}
set_option maxHeartbeats 4000000 in
set_option maxRecDepth 20000 in
theorem gText_re (ha : PN w va x l 0 m) (hl : l ≤ 10000000) (hm : m ≤ 10000000) (htab : Lib.TabIs Tryz.prog w p10 .u64 Lib.pow10Tab) :
    Calls Tryz.prog 19 #[va] w fun e w' => e = .returned (.string (zts x)) ∧ Below w.heap.size w w' := by
  have htabs := Lib.tabBelow_of_tabIs htab
  obtain ⟨S, hS⟩ : ∃ S, zts x = S := ⟨_, rfl⟩
  have HS := hide hS
  rw [hS]
  clear hS
  obtain ⟨n_0a, o_0a, k_0a, c_0a, n_0b, o_0b, k_0b, c_0b, rfl, ha1, ha2⟩ := ha
  go_enter Tryz.func19, Tryz.ntmps19
  have hs := St.nil w
  refine wp_seq_k ?_
  intro K1 hK1
  refine rg [0, 1] ?_
  refine sq ?_
  refine .al hs ?_; clear hs; intro p_b1 w_1 hs n1 kb_b1
  refine sq ?_
  refine .mv ?_
  apply wpSq_end
  refine hK1 _ _ ?_
  refine wp_seq_k ?_
  intro K2 hK2
  refine wp_seq_k ?_
  intro K3 hK3
  refine rg [0, 1, 2, 3] ?_
  refine sq ?_
  refine .r0 ?_
  refine sq ?_
  refine .r4 hs.g0.f4 ?_
  refine sq ?_
  intro K hK
  have k0_1 := kb n1
  replace ha2 := ha2.k k0_1
  go_big_op
  go_fit (zsign_any ha2 (by omega) )
  rintro e w_2 ⟨rfl, hb_2⟩
  replace hs := hs.bl hb_2
  refine hK _ _ rfl trivial ?_
  clear hK K
  refine sq ?_
  refine .r0 ?_
  apply wpSq_end
  refine hK3 _ _ ?_
  refine ct ?_
  refine wp_seq_k ?_
  intro K4 hK4
  refine rg [0, 1, 2, 3] ?_
  refine sq ?_
  refine .r0 ?_
  refine sq ?_
  refine .r4 hs.g0.f4 ?_
  refine sq ?_
  intro K hK
  have k0_2 := k0_1.b hb_2
  replace ha1 := ha1.k k0_2
  have hb := hs.b
  go_big_op
  go_fit (ztext_s ha1 (by omega) (htabs _ hb))
  rintro e w_3 ⟨rfl, hb_3⟩
  clear hb
  replace hs := hs.bl hb_3
  rw [HS.out]
  refine hK _ _ rfl trivial ?_
  clear hK K
  refine sq ?_
  refine .mv ?_
  apply wpSq_end
  refine hK4 _ _ ?_
  refine wp_ret ?_
  try dsimp only [Exit.then, Exit.inBlock]
  refine bodyPost_ret (v := (.string S)) (by simp [results, Tryz.results19, go_sem]) rfl ?_
  have hb := hs.b
  exact ⟨rfl, hb⟩
set_option maxHeartbeats 4000000 in
set_option maxRecDepth 20000 in
theorem gText_zmo {S T : ByteArray} (ha : PN w va 0 l y m) (hl : l ≤ 10000000) (hm : m ≤ 10000000) (hy : y < 0) (hA : bitsN y.natAbs ≤ 1) (hS : zts x = S) (hT : zts (y.natAbs : Int) = T) (hs : S.size ≤ 10 * l + 11) (ht : T.size ≤ 10 * m + 11) (htab : Lib.TabIs Tryz.prog w p10 .u64 Lib.pow10Tab) :
    Calls Tryz.prog 19 #[va] w fun e w' => e = .returned (.string ((⟨#[]⟩ : ByteArray) ++ ⟨#[45]⟩ ++ ⟨#[]⟩ ++ ⟨#[105]⟩)) ∧ Below w.heap.size w w' := by
  have htabs := Lib.tabBelow_of_tabIs htab
  have HS := hide hS
  have HT := hide hT
  have HY := hide (show y.sign = -1 from Int.sign_eq_neg_one_of_neg hy)
  obtain ⟨B, hB⟩ : ∃ B, bitsN y.natAbs = B := ⟨_, rfl⟩
  rw [hB] at hA
  have HB := hide hB
  clear hB hS hT hy
  obtain ⟨n_0a, o_0a, k_0a, c_0a, n_0b, o_0b, k_0b, c_0b, rfl, ha1, ha2⟩ := ha
  go_enter Tryz.func19, Tryz.ntmps19
  have hs := St.nil w
  refine wp_seq_k ?_
  intro K1 hK1
  refine rg [0, 1] ?_
  refine sq ?_
  refine .al hs ?_; clear hs; intro p_b1 w_1 hs n1 kb_b1
  refine sq ?_
  refine .mv ?_
  apply wpSq_end
  refine hK1 _ _ ?_
  refine wp_seq_k ?_
  intro K2 hK2
  refine wp_seq_k ?_
  intro K3 hK3
  refine rg [0, 1, 2, 3] ?_
  refine sq ?_
  refine .r0 ?_
  refine sq ?_
  refine .r4 hs.g0.f4 ?_
  refine sq ?_
  intro K hK
  have k0_1 := kb n1
  replace ha2 := ha2.k k0_1
  go_big_op
  go_fit (zsign_any ha2 (by omega) )
  rintro e w_2 ⟨rfl, hb_2⟩
  replace hs := hs.bl hb_2
  rw [HY.out]
  refine hK _ _ rfl trivial ?_
  clear hK K
  refine sq ?_
  refine .r0 ?_
  apply wpSq_end
  refine hK3 _ _ ?_
  refine cf ?_
  refine wp_skip ?_
  refine hK2 _ _ ?_
  refine wp_seq_k ?_
  intro K4 hK4
  refine rg [0, 1, 2] ?_
  refine sq ?_
  refine .mv ?_
  refine sq ?_
  refine .mv ?_
  refine sq ?_
  refine .mv ?_
  apply wpSq_end
  refine hK4 _ _ ?_
  refine wp_seq_k ?_
  intro K5 hK5
  refine wp_seq_k ?_
  intro K6 hK6
  refine rg [0, 1, 2, 3] ?_
  refine sq ?_
  refine .r0 ?_
  refine sq ?_
  refine .r4 hs.g0.f4 ?_
  refine sq ?_
  intro K hK
  have k0_2 := k0_1.b hb_2
  replace ha1 := ha1.k k0_2
  go_big_op
  go_fit (zsign_any ha1 (by omega) )
  rintro e w_3 ⟨rfl, hb_3⟩
  replace hs := hs.bl hb_3
  refine hK _ _ rfl trivial ?_
  clear hK K
  refine sq ?_
  refine .r0 ?_
  apply wpSq_end
  refine hK6 _ _ ?_
  refine cf ?_
  refine wp_skip ?_
  refine hK5 _ _ ?_
  refine wp_seq_k ?_
  intro K7 hK7
  refine wp_seq_k ?_
  intro K8 hK8
  refine rg [0, 1, 2, 3] ?_
  refine sq ?_
  refine .r0 ?_
  refine sq ?_
  refine .r4 hs.g0.f4 ?_
  refine sq ?_
  intro K hK
  have k1_3 := (kb hb_2).b hb_3
  replace ha2 := ha2.k k1_3
  go_big_op
  go_fit (zsign_any ha2 (by omega) )
  rintro e w_4 ⟨rfl, hb_4⟩
  replace hs := hs.bl hb_4
  rw [HY.out]
  refine hK _ _ rfl trivial ?_
  clear hK K
  refine sq ?_
  refine .r0 ?_
  apply wpSq_end
  refine hK8 _ _ ?_
  refine ct ?_
  refine rg [0] ?_
  refine sq ?_
  refine .mv ?_
  apply wpSq_end
  refine hK7 _ _ ?_
  refine wp_seq_k ?_
  intro K9 hK9
  refine wp_seq_k ?_
  intro K10 hK10
  refine rg [0, 1, 2, 3] ?_
  refine sq ?_
  refine .r0 ?_
  refine sq ?_
  refine .r4 hs.g0.f4 ?_
  refine sq ?_
  intro K hK
  have k3_4 := kb hb_4
  replace ha2 := ha2.k k3_4
  go_big_op
  go_fit (zbits_any ha2 (by omega) )
  rintro e w_5 ⟨rfl, hb_5⟩
  replace hs := hs.bl hb_5
  rw [HB.out]
  refine hK _ _ rfl trivial ?_
  clear hK K
  refine sq ?_
  refine .r0 ?_
  apply wpSq_end
  refine hK10 _ _ ?_
  refine cf ?_
  refine wp_skip ?_
  refine hK9 _ _ ?_
  refine wp_seq_k ?_
  intro K11 hK11
  refine rg [0, 1, 2, 3, 4, 5, 6] ?_
  refine sq ?_
  refine .mv ?_
  refine sq ?_
  refine .mv ?_
  refine sq ?_
  refine .r0 ?_
  refine sq ?_
  refine .mv ?_
  refine sq ?_
  refine .r0 ?_
  refine sq ?_
  refine .r0 ?_
  refine sq ?_
  refine .mv ?_
  apply wpSq_end
  refine hK11 _ _ ?_
  refine wp_ret ?_
  try dsimp only [Exit.then, Exit.inBlock]
  refine bodyPost_ret (v := (.string ((⟨#[]⟩ : ByteArray) ++ ⟨#[45]⟩ ++ ⟨#[]⟩ ++ ⟨#[105]⟩))) (by simp [results, Tryz.results19, go_sem]) rfl ?_
  have hb := hs.b
  exact ⟨rfl, hb⟩
set_option maxHeartbeats 4000000 in
set_option maxRecDepth 20000 in
theorem gText_zmb {S T : ByteArray} (ha : PN w va 0 l y m) (hl : l ≤ 10000000) (hm : m ≤ 10000000) (hy : y < 0) (hA : 1 < bitsN y.natAbs) (hS : zts x = S) (hT : zts (y.natAbs : Int) = T) (hs : S.size ≤ 10 * l + 11) (ht : T.size ≤ 10 * m + 11) (htab : Lib.TabIs Tryz.prog w p10 .u64 Lib.pow10Tab) :
    Calls Tryz.prog 19 #[va] w fun e w' => e = .returned (.string ((⟨#[]⟩ : ByteArray) ++ ⟨#[45]⟩ ++ T ++ ⟨#[105]⟩)) ∧ Below w.heap.size w w' := by
  have htabs := Lib.tabBelow_of_tabIs htab
  have HS := hide hS
  have HT := hide hT
  have HY := hide (show y.sign = -1 from Int.sign_eq_neg_one_of_neg hy)
  obtain ⟨B, hB⟩ : ∃ B, bitsN y.natAbs = B := ⟨_, rfl⟩
  rw [hB] at hA
  have HB := hide hB
  clear hB hS hT hy
  obtain ⟨n_0a, o_0a, k_0a, c_0a, n_0b, o_0b, k_0b, c_0b, rfl, ha1, ha2⟩ := ha
  go_enter Tryz.func19, Tryz.ntmps19
  have hs := St.nil w
  refine wp_seq_k ?_
  intro K1 hK1
  refine rg [0, 1] ?_
  refine sq ?_
  refine .al hs ?_; clear hs; intro p_b1 w_1 hs n1 kb_b1
  refine sq ?_
  refine .mv ?_
  apply wpSq_end
  refine hK1 _ _ ?_
  refine wp_seq_k ?_
  intro K2 hK2
  refine wp_seq_k ?_
  intro K3 hK3
  refine rg [0, 1, 2, 3] ?_
  refine sq ?_
  refine .r0 ?_
  refine sq ?_
  refine .r4 hs.g0.f4 ?_
  refine sq ?_
  intro K hK
  have k0_1 := kb n1
  replace ha2 := ha2.k k0_1
  go_big_op
  go_fit (zsign_any ha2 (by omega) )
  rintro e w_2 ⟨rfl, hb_2⟩
  replace hs := hs.bl hb_2
  rw [HY.out]
  refine hK _ _ rfl trivial ?_
  clear hK K
  refine sq ?_
  refine .r0 ?_
  apply wpSq_end
  refine hK3 _ _ ?_
  refine cf ?_
  refine wp_skip ?_
  refine hK2 _ _ ?_
  refine wp_seq_k ?_
  intro K4 hK4
  refine rg [0, 1, 2] ?_
  refine sq ?_
  refine .mv ?_
  refine sq ?_
  refine .mv ?_
  refine sq ?_
  refine .mv ?_
  apply wpSq_end
  refine hK4 _ _ ?_
  refine wp_seq_k ?_
  intro K5 hK5
  refine wp_seq_k ?_
  intro K6 hK6
  refine rg [0, 1, 2, 3] ?_
  refine sq ?_
  refine .r0 ?_
  refine sq ?_
  refine .r4 hs.g0.f4 ?_
  refine sq ?_
  intro K hK
  have k0_2 := k0_1.b hb_2
  replace ha1 := ha1.k k0_2
  go_big_op
  go_fit (zsign_any ha1 (by omega) )
  rintro e w_3 ⟨rfl, hb_3⟩
  replace hs := hs.bl hb_3
  refine hK _ _ rfl trivial ?_
  clear hK K
  refine sq ?_
  refine .r0 ?_
  apply wpSq_end
  refine hK6 _ _ ?_
  refine cf ?_
  refine wp_skip ?_
  refine hK5 _ _ ?_
  refine wp_seq_k ?_
  intro K7 hK7
  refine wp_seq_k ?_
  intro K8 hK8
  refine rg [0, 1, 2, 3] ?_
  refine sq ?_
  refine .r0 ?_
  refine sq ?_
  refine .r4 hs.g0.f4 ?_
  refine sq ?_
  intro K hK
  have k1_3 := (kb hb_2).b hb_3
  replace ha2 := ha2.k k1_3
  go_big_op
  go_fit (zsign_any ha2 (by omega) )
  rintro e w_4 ⟨rfl, hb_4⟩
  replace hs := hs.bl hb_4
  rw [HY.out]
  refine hK _ _ rfl trivial ?_
  clear hK K
  refine sq ?_
  refine .r0 ?_
  apply wpSq_end
  refine hK8 _ _ ?_
  refine ct ?_
  refine rg [0] ?_
  refine sq ?_
  refine .mv ?_
  apply wpSq_end
  refine hK7 _ _ ?_
  refine wp_seq_k ?_
  intro K9 hK9
  refine wp_seq_k ?_
  intro K10 hK10
  refine rg [0, 1, 2, 3] ?_
  refine sq ?_
  refine .r0 ?_
  refine sq ?_
  refine .r4 hs.g0.f4 ?_
  refine sq ?_
  intro K hK
  have k3_4 := kb hb_4
  replace ha2 := ha2.k k3_4
  go_big_op
  go_fit (zbits_any ha2 (by omega) )
  rintro e w_5 ⟨rfl, hb_5⟩
  replace hs := hs.bl hb_5
  rw [HB.out]
  refine hK _ _ rfl trivial ?_
  clear hK K
  refine sq ?_
  refine .r0 ?_
  apply wpSq_end
  refine hK10 _ _ ?_
  refine ct ?_
  refine rg [0, 1, 2, 3, 4] ?_
  refine sq ?_
  refine .r0 ?_
  refine sq ?_
  refine .r4 hs.g0.f4 ?_
  refine sq ?_
  intro K hK
  have k4_5 := kb hb_5
  replace ha2 := ha2.k k4_5
  go_big_op
  go_fit (zabs_any ha2 (by omega) )
  rintro e w_6 ⟨v_g, rfl, g, hb_6⟩
  replace hs := hs.bl hb_6
  replace g := g.rd
  obtain ⟨n_g, o_g, k_g, c_g, rfl⟩ := g.open2
  have Lg := hide (g.lenOf (zlen_abs (ha2.len)))
  refine hK _ _ rfl trivial ?_
  clear hK K
  refine sq ?_
  intro K hK
  have hb := hs.b
  go_big_op
  go_fit (ztext_s (g.zn Lg.out) (by omega) (htabs _ hb))
  rintro e w_7 ⟨rfl, hb_7⟩
  clear hb
  replace hs := hs.bl hb_7
  rw [HT.out]
  refine hK _ _ rfl trivial ?_
  clear hK K
  refine sq ?_
  refine .mv ?_
  apply wpSq_end
  refine hK9 _ _ ?_
  refine wp_seq_k ?_
  intro K11 hK11
  refine rg [0, 1, 2, 3, 4, 5, 6] ?_
  refine sq ?_
  refine .mv ?_
  refine sq ?_
  refine .mv ?_
  refine sq ?_
  refine .r0 ?_
  refine sq ?_
  refine .mv ?_
  refine sq ?_
  refine .r0 ?_
  refine sq ?_
  refine .r0 ?_
  refine sq ?_
  refine .mv ?_
  apply wpSq_end
  refine hK11 _ _ ?_
  refine wp_ret ?_
  try dsimp only [Exit.then, Exit.inBlock]
  refine bodyPost_ret (v := (.string ((⟨#[]⟩ : ByteArray) ++ ⟨#[45]⟩ ++ T ++ ⟨#[105]⟩))) (by simp [results, Tryz.results19, go_sem]) rfl ?_
  have hb := hs.b
  exact ⟨rfl, hb⟩
set_option maxHeartbeats 4000000 in
set_option maxRecDepth 20000 in
theorem gText_zpo {S T : ByteArray} (ha : PN w va 0 l y m) (hl : l ≤ 10000000) (hm : m ≤ 10000000) (hy : 0 < y) (hA : bitsN y.natAbs ≤ 1) (hS : zts x = S) (hT : zts (y.natAbs : Int) = T) (hs : S.size ≤ 10 * l + 11) (ht : T.size ≤ 10 * m + 11) (htab : Lib.TabIs Tryz.prog w p10 .u64 Lib.pow10Tab) :
    Calls Tryz.prog 19 #[va] w fun e w' => e = .returned (.string ((⟨#[]⟩ : ByteArray) ++ ⟨#[]⟩ ++ ⟨#[]⟩ ++ ⟨#[105]⟩)) ∧ Below w.heap.size w w' := by
  have htabs := Lib.tabBelow_of_tabIs htab
  have HS := hide hS
  have HT := hide hT
  have HY := hide (show y.sign = 1 from Int.sign_eq_one_of_pos hy)
  obtain ⟨B, hB⟩ : ∃ B, bitsN y.natAbs = B := ⟨_, rfl⟩
  rw [hB] at hA
  have HB := hide hB
  clear hB hS hT hy
  obtain ⟨n_0a, o_0a, k_0a, c_0a, n_0b, o_0b, k_0b, c_0b, rfl, ha1, ha2⟩ := ha
  go_enter Tryz.func19, Tryz.ntmps19
  have hs := St.nil w
  refine wp_seq_k ?_
  intro K1 hK1
  refine rg [0, 1] ?_
  refine sq ?_
  refine .al hs ?_; clear hs; intro p_b1 w_1 hs n1 kb_b1
  refine sq ?_
  refine .mv ?_
  apply wpSq_end
  refine hK1 _ _ ?_
  refine wp_seq_k ?_
  intro K2 hK2
  refine wp_seq_k ?_
  intro K3 hK3
  refine rg [0, 1, 2, 3] ?_
  refine sq ?_
  refine .r0 ?_
  refine sq ?_
  refine .r4 hs.g0.f4 ?_
  refine sq ?_
  intro K hK
  have k0_1 := kb n1
  replace ha2 := ha2.k k0_1
  go_big_op
  go_fit (zsign_any ha2 (by omega) )
  rintro e w_2 ⟨rfl, hb_2⟩
  replace hs := hs.bl hb_2
  rw [HY.out]
  refine hK _ _ rfl trivial ?_
  clear hK K
  refine sq ?_
  refine .r0 ?_
  apply wpSq_end
  refine hK3 _ _ ?_
  refine cf ?_
  refine wp_skip ?_
  refine hK2 _ _ ?_
  refine wp_seq_k ?_
  intro K4 hK4
  refine rg [0, 1, 2] ?_
  refine sq ?_
  refine .mv ?_
  refine sq ?_
  refine .mv ?_
  refine sq ?_
  refine .mv ?_
  apply wpSq_end
  refine hK4 _ _ ?_
  refine wp_seq_k ?_
  intro K5 hK5
  refine wp_seq_k ?_
  intro K6 hK6
  refine rg [0, 1, 2, 3] ?_
  refine sq ?_
  refine .r0 ?_
  refine sq ?_
  refine .r4 hs.g0.f4 ?_
  refine sq ?_
  intro K hK
  have k0_2 := k0_1.b hb_2
  replace ha1 := ha1.k k0_2
  go_big_op
  go_fit (zsign_any ha1 (by omega) )
  rintro e w_3 ⟨rfl, hb_3⟩
  replace hs := hs.bl hb_3
  refine hK _ _ rfl trivial ?_
  clear hK K
  refine sq ?_
  refine .r0 ?_
  apply wpSq_end
  refine hK6 _ _ ?_
  refine cf ?_
  refine wp_skip ?_
  refine hK5 _ _ ?_
  refine wp_seq_k ?_
  intro K7 hK7
  refine wp_seq_k ?_
  intro K8 hK8
  refine rg [0, 1, 2, 3] ?_
  refine sq ?_
  refine .r0 ?_
  refine sq ?_
  refine .r4 hs.g0.f4 ?_
  refine sq ?_
  intro K hK
  have k1_3 := (kb hb_2).b hb_3
  replace ha2 := ha2.k k1_3
  go_big_op
  go_fit (zsign_any ha2 (by omega) )
  rintro e w_4 ⟨rfl, hb_4⟩
  replace hs := hs.bl hb_4
  rw [HY.out]
  refine hK _ _ rfl trivial ?_
  clear hK K
  refine sq ?_
  refine .r0 ?_
  apply wpSq_end
  refine hK8 _ _ ?_
  refine cf ?_
  refine wp_skip ?_
  refine hK7 _ _ ?_
  refine wp_seq_k ?_
  intro K9 hK9
  refine wp_seq_k ?_
  intro K10 hK10
  refine rg [0, 1, 2, 3] ?_
  refine sq ?_
  refine .r0 ?_
  refine sq ?_
  refine .r4 hs.g0.f4 ?_
  refine sq ?_
  intro K hK
  have k3_4 := kb hb_4
  replace ha2 := ha2.k k3_4
  go_big_op
  go_fit (zbits_any ha2 (by omega) )
  rintro e w_5 ⟨rfl, hb_5⟩
  replace hs := hs.bl hb_5
  rw [HB.out]
  refine hK _ _ rfl trivial ?_
  clear hK K
  refine sq ?_
  refine .r0 ?_
  apply wpSq_end
  refine hK10 _ _ ?_
  refine cf ?_
  refine wp_skip ?_
  refine hK9 _ _ ?_
  refine wp_seq_k ?_
  intro K11 hK11
  refine rg [0, 1, 2, 3, 4, 5, 6] ?_
  refine sq ?_
  refine .mv ?_
  refine sq ?_
  refine .mv ?_
  refine sq ?_
  refine .r0 ?_
  refine sq ?_
  refine .mv ?_
  refine sq ?_
  refine .r0 ?_
  refine sq ?_
  refine .r0 ?_
  refine sq ?_
  refine .mv ?_
  apply wpSq_end
  refine hK11 _ _ ?_
  refine wp_ret ?_
  try dsimp only [Exit.then, Exit.inBlock]
  refine bodyPost_ret (v := (.string ((⟨#[]⟩ : ByteArray) ++ ⟨#[]⟩ ++ ⟨#[]⟩ ++ ⟨#[105]⟩))) (by simp [results, Tryz.results19, go_sem]) rfl ?_
  have hb := hs.b
  exact ⟨rfl, hb⟩
set_option maxHeartbeats 4000000 in
set_option maxRecDepth 20000 in
theorem gText_zpb {S T : ByteArray} (ha : PN w va 0 l y m) (hl : l ≤ 10000000) (hm : m ≤ 10000000) (hy : 0 < y) (hA : 1 < bitsN y.natAbs) (hS : zts x = S) (hT : zts (y.natAbs : Int) = T) (hs : S.size ≤ 10 * l + 11) (ht : T.size ≤ 10 * m + 11) (htab : Lib.TabIs Tryz.prog w p10 .u64 Lib.pow10Tab) :
    Calls Tryz.prog 19 #[va] w fun e w' => e = .returned (.string ((⟨#[]⟩ : ByteArray) ++ ⟨#[]⟩ ++ T ++ ⟨#[105]⟩)) ∧ Below w.heap.size w w' := by
  have htabs := Lib.tabBelow_of_tabIs htab
  have HS := hide hS
  have HT := hide hT
  have HY := hide (show y.sign = 1 from Int.sign_eq_one_of_pos hy)
  obtain ⟨B, hB⟩ : ∃ B, bitsN y.natAbs = B := ⟨_, rfl⟩
  rw [hB] at hA
  have HB := hide hB
  clear hB hS hT hy
  obtain ⟨n_0a, o_0a, k_0a, c_0a, n_0b, o_0b, k_0b, c_0b, rfl, ha1, ha2⟩ := ha
  go_enter Tryz.func19, Tryz.ntmps19
  have hs := St.nil w
  refine wp_seq_k ?_
  intro K1 hK1
  refine rg [0, 1] ?_
  refine sq ?_
  refine .al hs ?_; clear hs; intro p_b1 w_1 hs n1 kb_b1
  refine sq ?_
  refine .mv ?_
  apply wpSq_end
  refine hK1 _ _ ?_
  refine wp_seq_k ?_
  intro K2 hK2
  refine wp_seq_k ?_
  intro K3 hK3
  refine rg [0, 1, 2, 3] ?_
  refine sq ?_
  refine .r0 ?_
  refine sq ?_
  refine .r4 hs.g0.f4 ?_
  refine sq ?_
  intro K hK
  have k0_1 := kb n1
  replace ha2 := ha2.k k0_1
  go_big_op
  go_fit (zsign_any ha2 (by omega) )
  rintro e w_2 ⟨rfl, hb_2⟩
  replace hs := hs.bl hb_2
  rw [HY.out]
  refine hK _ _ rfl trivial ?_
  clear hK K
  refine sq ?_
  refine .r0 ?_
  apply wpSq_end
  refine hK3 _ _ ?_
  refine cf ?_
  refine wp_skip ?_
  refine hK2 _ _ ?_
  refine wp_seq_k ?_
  intro K4 hK4
  refine rg [0, 1, 2] ?_
  refine sq ?_
  refine .mv ?_
  refine sq ?_
  refine .mv ?_
  refine sq ?_
  refine .mv ?_
  apply wpSq_end
  refine hK4 _ _ ?_
  refine wp_seq_k ?_
  intro K5 hK5
  refine wp_seq_k ?_
  intro K6 hK6
  refine rg [0, 1, 2, 3] ?_
  refine sq ?_
  refine .r0 ?_
  refine sq ?_
  refine .r4 hs.g0.f4 ?_
  refine sq ?_
  intro K hK
  have k0_2 := k0_1.b hb_2
  replace ha1 := ha1.k k0_2
  go_big_op
  go_fit (zsign_any ha1 (by omega) )
  rintro e w_3 ⟨rfl, hb_3⟩
  replace hs := hs.bl hb_3
  refine hK _ _ rfl trivial ?_
  clear hK K
  refine sq ?_
  refine .r0 ?_
  apply wpSq_end
  refine hK6 _ _ ?_
  refine cf ?_
  refine wp_skip ?_
  refine hK5 _ _ ?_
  refine wp_seq_k ?_
  intro K7 hK7
  refine wp_seq_k ?_
  intro K8 hK8
  refine rg [0, 1, 2, 3] ?_
  refine sq ?_
  refine .r0 ?_
  refine sq ?_
  refine .r4 hs.g0.f4 ?_
  refine sq ?_
  intro K hK
  have k1_3 := (kb hb_2).b hb_3
  replace ha2 := ha2.k k1_3
  go_big_op
  go_fit (zsign_any ha2 (by omega) )
  rintro e w_4 ⟨rfl, hb_4⟩
  replace hs := hs.bl hb_4
  rw [HY.out]
  refine hK _ _ rfl trivial ?_
  clear hK K
  refine sq ?_
  refine .r0 ?_
  apply wpSq_end
  refine hK8 _ _ ?_
  refine cf ?_
  refine wp_skip ?_
  refine hK7 _ _ ?_
  refine wp_seq_k ?_
  intro K9 hK9
  refine wp_seq_k ?_
  intro K10 hK10
  refine rg [0, 1, 2, 3] ?_
  refine sq ?_
  refine .r0 ?_
  refine sq ?_
  refine .r4 hs.g0.f4 ?_
  refine sq ?_
  intro K hK
  have k3_4 := kb hb_4
  replace ha2 := ha2.k k3_4
  go_big_op
  go_fit (zbits_any ha2 (by omega) )
  rintro e w_5 ⟨rfl, hb_5⟩
  replace hs := hs.bl hb_5
  rw [HB.out]
  refine hK _ _ rfl trivial ?_
  clear hK K
  refine sq ?_
  refine .r0 ?_
  apply wpSq_end
  refine hK10 _ _ ?_
  refine ct ?_
  refine rg [0, 1, 2, 3, 4] ?_
  refine sq ?_
  refine .r0 ?_
  refine sq ?_
  refine .r4 hs.g0.f4 ?_
  refine sq ?_
  intro K hK
  have k4_5 := kb hb_5
  replace ha2 := ha2.k k4_5
  go_big_op
  go_fit (zabs_any ha2 (by omega) )
  rintro e w_6 ⟨v_g, rfl, g, hb_6⟩
  replace hs := hs.bl hb_6
  replace g := g.rd
  obtain ⟨n_g, o_g, k_g, c_g, rfl⟩ := g.open2
  have Lg := hide (g.lenOf (zlen_abs (ha2.len)))
  refine hK _ _ rfl trivial ?_
  clear hK K
  refine sq ?_
  intro K hK
  have hb := hs.b
  go_big_op
  go_fit (ztext_s (g.zn Lg.out) (by omega) (htabs _ hb))
  rintro e w_7 ⟨rfl, hb_7⟩
  clear hb
  replace hs := hs.bl hb_7
  rw [HT.out]
  refine hK _ _ rfl trivial ?_
  clear hK K
  refine sq ?_
  refine .mv ?_
  apply wpSq_end
  refine hK9 _ _ ?_
  refine wp_seq_k ?_
  intro K11 hK11
  refine rg [0, 1, 2, 3, 4, 5, 6] ?_
  refine sq ?_
  refine .mv ?_
  refine sq ?_
  refine .mv ?_
  refine sq ?_
  refine .r0 ?_
  refine sq ?_
  refine .mv ?_
  refine sq ?_
  refine .r0 ?_
  refine sq ?_
  refine .r0 ?_
  refine sq ?_
  refine .mv ?_
  apply wpSq_end
  refine hK11 _ _ ?_
  refine wp_ret ?_
  try dsimp only [Exit.then, Exit.inBlock]
  refine bodyPost_ret (v := (.string ((⟨#[]⟩ : ByteArray) ++ ⟨#[]⟩ ++ T ++ ⟨#[105]⟩))) (by simp [results, Tryz.results19, go_sem]) rfl ?_
  have hb := hs.b
  exact ⟨rfl, hb⟩
set_option maxHeartbeats 4000000 in
set_option maxRecDepth 20000 in
theorem gText_nmo {S T : ByteArray} (ha : PN w va x l y m) (hl : l ≤ 10000000) (hm : m ≤ 10000000) (hx : x ≠ 0) (hy : y < 0) (hA : bitsN y.natAbs ≤ 1) (hS : zts x = S) (hT : zts (y.natAbs : Int) = T) (hs : S.size ≤ 10 * l + 11) (ht : T.size ≤ 10 * m + 11) (htab : Lib.TabIs Tryz.prog w p10 .u64 Lib.pow10Tab) :
    Calls Tryz.prog 19 #[va] w fun e w' => e = .returned (.string (S ++ ⟨#[45]⟩ ++ ⟨#[]⟩ ++ ⟨#[105]⟩)) ∧ Below w.heap.size w w' := by
  have htabs := Lib.tabBelow_of_tabIs htab
  have HS := hide hS
  have HT := hide hT
  have HY := hide (show y.sign = -1 from Int.sign_eq_neg_one_of_neg hy)
  have hx0 : (x.sign == 0) = false := by simpa using hx
  obtain ⟨G, hG⟩ : ∃ G, x.sign = G := ⟨_, rfl⟩
  rw [hG] at hx0
  have HG := hide hG
  clear hx hG
  obtain ⟨B, hB⟩ : ∃ B, bitsN y.natAbs = B := ⟨_, rfl⟩
  rw [hB] at hA
  have HB := hide hB
  clear hB hS hT hy
  obtain ⟨n_0a, o_0a, k_0a, c_0a, n_0b, o_0b, k_0b, c_0b, rfl, ha1, ha2⟩ := ha
  go_enter Tryz.func19, Tryz.ntmps19
  have hs := St.nil w
  refine wp_seq_k ?_
  intro K1 hK1
  refine rg [0, 1] ?_
  refine sq ?_
  refine .al hs ?_; clear hs; intro p_b1 w_1 hs n1 kb_b1
  refine sq ?_
  refine .mv ?_
  apply wpSq_end
  refine hK1 _ _ ?_
  refine wp_seq_k ?_
  intro K2 hK2
  refine wp_seq_k ?_
  intro K3 hK3
  refine rg [0, 1, 2, 3] ?_
  refine sq ?_
  refine .r0 ?_
  refine sq ?_
  refine .r4 hs.g0.f4 ?_
  refine sq ?_
  intro K hK
  have k0_1 := kb n1
  replace ha2 := ha2.k k0_1
  go_big_op
  go_fit (zsign_any ha2 (by omega) )
  rintro e w_2 ⟨rfl, hb_2⟩
  replace hs := hs.bl hb_2
  rw [HY.out]
  refine hK _ _ rfl trivial ?_
  clear hK K
  refine sq ?_
  refine .r0 ?_
  apply wpSq_end
  refine hK3 _ _ ?_
  refine cf ?_
  refine wp_skip ?_
  refine hK2 _ _ ?_
  refine wp_seq_k ?_
  intro K4 hK4
  refine rg [0, 1, 2] ?_
  refine sq ?_
  refine .mv ?_
  refine sq ?_
  refine .mv ?_
  refine sq ?_
  refine .mv ?_
  apply wpSq_end
  refine hK4 _ _ ?_
  refine wp_seq_k ?_
  intro K5 hK5
  refine wp_seq_k ?_
  intro K6 hK6
  refine rg [0, 1, 2, 3] ?_
  refine sq ?_
  refine .r0 ?_
  refine sq ?_
  refine .r4 hs.g0.f4 ?_
  refine sq ?_
  intro K hK
  have k0_2 := k0_1.b hb_2
  replace ha1 := ha1.k k0_2
  go_big_op
  go_fit (zsign_any ha1 (by omega) )
  rintro e w_3 ⟨rfl, hb_3⟩
  replace hs := hs.bl hb_3
  rw [HG.out]
  refine hK _ _ rfl trivial ?_
  clear hK K
  refine sq ?_
  refine .r0 ?_
  apply wpSq_end
  refine hK6 _ _ ?_
  refine wp_cond_true (congrArg Value.bool (show _ = true from (by simpa using hx0))) ?_
  refine rg [0, 1, 2, 3, 4] ?_
  refine sq ?_
  refine .r0 ?_
  refine sq ?_
  refine .r4 hs.g0.f4 ?_
  refine sq ?_
  intro K hK
  have k2_3 := kb hb_3
  replace ha1 := ha1.k k2_3
  have hb := hs.b
  go_big_op
  go_fit (ztext_s ha1 (by omega) (htabs _ hb))
  rintro e w_4 ⟨rfl, hb_4⟩
  clear hb
  replace hs := hs.bl hb_4
  rw [HS.out]
  refine hK _ _ rfl trivial ?_
  clear hK K
  refine sq ?_
  refine .mv ?_
  refine sq ?_
  refine .mv ?_
  apply wpSq_end
  refine hK5 _ _ ?_
  refine wp_seq_k ?_
  intro K7 hK7
  refine wp_seq_k ?_
  intro K8 hK8
  refine rg [0, 1, 2, 3] ?_
  refine sq ?_
  refine .r0 ?_
  refine sq ?_
  refine .r4 hs.g0.f4 ?_
  refine sq ?_
  intro K hK
  have k1_4 := ((kb hb_2).b hb_3).b hb_4
  replace ha2 := ha2.k k1_4
  go_big_op
  go_fit (zsign_any ha2 (by omega) )
  rintro e w_5 ⟨rfl, hb_5⟩
  replace hs := hs.bl hb_5
  rw [HY.out]
  refine hK _ _ rfl trivial ?_
  clear hK K
  refine sq ?_
  refine .r0 ?_
  apply wpSq_end
  refine hK8 _ _ ?_
  refine ct ?_
  refine rg [0] ?_
  refine sq ?_
  refine .mv ?_
  apply wpSq_end
  refine hK7 _ _ ?_
  refine wp_seq_k ?_
  intro K9 hK9
  refine wp_seq_k ?_
  intro K10 hK10
  refine rg [0, 1, 2, 3] ?_
  refine sq ?_
  refine .r0 ?_
  refine sq ?_
  refine .r4 hs.g0.f4 ?_
  refine sq ?_
  intro K hK
  have k4_5 := kb hb_5
  replace ha2 := ha2.k k4_5
  go_big_op
  go_fit (zbits_any ha2 (by omega) )
  rintro e w_6 ⟨rfl, hb_6⟩
  replace hs := hs.bl hb_6
  rw [HB.out]
  refine hK _ _ rfl trivial ?_
  clear hK K
  refine sq ?_
  refine .r0 ?_
  apply wpSq_end
  refine hK10 _ _ ?_
  refine cf ?_
  refine wp_skip ?_
  refine hK9 _ _ ?_
  refine wp_seq_k ?_
  intro K11 hK11
  refine rg [0, 1, 2, 3, 4, 5, 6] ?_
  refine sq ?_
  refine .mv ?_
  refine sq ?_
  refine .mv ?_
  refine sq ?_
  refine .r0 ?_
  refine sq ?_
  refine .mv ?_
  refine sq ?_
  refine .r0 ?_
  refine sq ?_
  refine .r0 ?_
  refine sq ?_
  refine .mv ?_
  apply wpSq_end
  refine hK11 _ _ ?_
  refine wp_ret ?_
  try dsimp only [Exit.then, Exit.inBlock]
  refine bodyPost_ret (v := (.string (S ++ ⟨#[45]⟩ ++ ⟨#[]⟩ ++ ⟨#[105]⟩))) (by simp [results, Tryz.results19, go_sem]) rfl ?_
  have hb := hs.b
  exact ⟨rfl, hb⟩
set_option maxHeartbeats 4000000 in
set_option maxRecDepth 20000 in
theorem gText_nmb {S T : ByteArray} (ha : PN w va x l y m) (hl : l ≤ 10000000) (hm : m ≤ 10000000) (hx : x ≠ 0) (hy : y < 0) (hA : 1 < bitsN y.natAbs) (hS : zts x = S) (hT : zts (y.natAbs : Int) = T) (hs : S.size ≤ 10 * l + 11) (ht : T.size ≤ 10 * m + 11) (htab : Lib.TabIs Tryz.prog w p10 .u64 Lib.pow10Tab) :
    Calls Tryz.prog 19 #[va] w fun e w' => e = .returned (.string (S ++ ⟨#[45]⟩ ++ T ++ ⟨#[105]⟩)) ∧ Below w.heap.size w w' := by
  have htabs := Lib.tabBelow_of_tabIs htab
  have HS := hide hS
  have HT := hide hT
  have HY := hide (show y.sign = -1 from Int.sign_eq_neg_one_of_neg hy)
  have hx0 : (x.sign == 0) = false := by simpa using hx
  obtain ⟨G, hG⟩ : ∃ G, x.sign = G := ⟨_, rfl⟩
  rw [hG] at hx0
  have HG := hide hG
  clear hx hG
  obtain ⟨B, hB⟩ : ∃ B, bitsN y.natAbs = B := ⟨_, rfl⟩
  rw [hB] at hA
  have HB := hide hB
  clear hB hS hT hy
  obtain ⟨n_0a, o_0a, k_0a, c_0a, n_0b, o_0b, k_0b, c_0b, rfl, ha1, ha2⟩ := ha
  go_enter Tryz.func19, Tryz.ntmps19
  have hs := St.nil w
  refine wp_seq_k ?_
  intro K1 hK1
  refine rg [0, 1] ?_
  refine sq ?_
  refine .al hs ?_; clear hs; intro p_b1 w_1 hs n1 kb_b1
  refine sq ?_
  refine .mv ?_
  apply wpSq_end
  refine hK1 _ _ ?_
  refine wp_seq_k ?_
  intro K2 hK2
  refine wp_seq_k ?_
  intro K3 hK3
  refine rg [0, 1, 2, 3] ?_
  refine sq ?_
  refine .r0 ?_
  refine sq ?_
  refine .r4 hs.g0.f4 ?_
  refine sq ?_
  intro K hK
  have k0_1 := kb n1
  replace ha2 := ha2.k k0_1
  go_big_op
  go_fit (zsign_any ha2 (by omega) )
  rintro e w_2 ⟨rfl, hb_2⟩
  replace hs := hs.bl hb_2
  rw [HY.out]
  refine hK _ _ rfl trivial ?_
  clear hK K
  refine sq ?_
  refine .r0 ?_
  apply wpSq_end
  refine hK3 _ _ ?_
  refine cf ?_
  refine wp_skip ?_
  refine hK2 _ _ ?_
  refine wp_seq_k ?_
  intro K4 hK4
  refine rg [0, 1, 2] ?_
  refine sq ?_
  refine .mv ?_
  refine sq ?_
  refine .mv ?_
  refine sq ?_
  refine .mv ?_
  apply wpSq_end
  refine hK4 _ _ ?_
  refine wp_seq_k ?_
  intro K5 hK5
  refine wp_seq_k ?_
  intro K6 hK6
  refine rg [0, 1, 2, 3] ?_
  refine sq ?_
  refine .r0 ?_
  refine sq ?_
  refine .r4 hs.g0.f4 ?_
  refine sq ?_
  intro K hK
  have k0_2 := k0_1.b hb_2
  replace ha1 := ha1.k k0_2
  go_big_op
  go_fit (zsign_any ha1 (by omega) )
  rintro e w_3 ⟨rfl, hb_3⟩
  replace hs := hs.bl hb_3
  rw [HG.out]
  refine hK _ _ rfl trivial ?_
  clear hK K
  refine sq ?_
  refine .r0 ?_
  apply wpSq_end
  refine hK6 _ _ ?_
  refine wp_cond_true (congrArg Value.bool (show _ = true from (by simpa using hx0))) ?_
  refine rg [0, 1, 2, 3, 4] ?_
  refine sq ?_
  refine .r0 ?_
  refine sq ?_
  refine .r4 hs.g0.f4 ?_
  refine sq ?_
  intro K hK
  have k2_3 := kb hb_3
  replace ha1 := ha1.k k2_3
  have hb := hs.b
  go_big_op
  go_fit (ztext_s ha1 (by omega) (htabs _ hb))
  rintro e w_4 ⟨rfl, hb_4⟩
  clear hb
  replace hs := hs.bl hb_4
  rw [HS.out]
  refine hK _ _ rfl trivial ?_
  clear hK K
  refine sq ?_
  refine .mv ?_
  refine sq ?_
  refine .mv ?_
  apply wpSq_end
  refine hK5 _ _ ?_
  refine wp_seq_k ?_
  intro K7 hK7
  refine wp_seq_k ?_
  intro K8 hK8
  refine rg [0, 1, 2, 3] ?_
  refine sq ?_
  refine .r0 ?_
  refine sq ?_
  refine .r4 hs.g0.f4 ?_
  refine sq ?_
  intro K hK
  have k1_4 := ((kb hb_2).b hb_3).b hb_4
  replace ha2 := ha2.k k1_4
  go_big_op
  go_fit (zsign_any ha2 (by omega) )
  rintro e w_5 ⟨rfl, hb_5⟩
  replace hs := hs.bl hb_5
  rw [HY.out]
  refine hK _ _ rfl trivial ?_
  clear hK K
  refine sq ?_
  refine .r0 ?_
  apply wpSq_end
  refine hK8 _ _ ?_
  refine ct ?_
  refine rg [0] ?_
  refine sq ?_
  refine .mv ?_
  apply wpSq_end
  refine hK7 _ _ ?_
  refine wp_seq_k ?_
  intro K9 hK9
  refine wp_seq_k ?_
  intro K10 hK10
  refine rg [0, 1, 2, 3] ?_
  refine sq ?_
  refine .r0 ?_
  refine sq ?_
  refine .r4 hs.g0.f4 ?_
  refine sq ?_
  intro K hK
  have k4_5 := kb hb_5
  replace ha2 := ha2.k k4_5
  go_big_op
  go_fit (zbits_any ha2 (by omega) )
  rintro e w_6 ⟨rfl, hb_6⟩
  replace hs := hs.bl hb_6
  rw [HB.out]
  refine hK _ _ rfl trivial ?_
  clear hK K
  refine sq ?_
  refine .r0 ?_
  apply wpSq_end
  refine hK10 _ _ ?_
  refine ct ?_
  refine rg [0, 1, 2, 3, 4] ?_
  refine sq ?_
  refine .r0 ?_
  refine sq ?_
  refine .r4 hs.g0.f4 ?_
  refine sq ?_
  intro K hK
  have k5_6 := kb hb_6
  replace ha2 := ha2.k k5_6
  go_big_op
  go_fit (zabs_any ha2 (by omega) )
  rintro e w_7 ⟨v_g, rfl, g, hb_7⟩
  replace hs := hs.bl hb_7
  replace g := g.rd
  obtain ⟨n_g, o_g, k_g, c_g, rfl⟩ := g.open2
  have Lg := hide (g.lenOf (zlen_abs (ha2.len)))
  refine hK _ _ rfl trivial ?_
  clear hK K
  refine sq ?_
  intro K hK
  have hb := hs.b
  go_big_op
  go_fit (ztext_s (g.zn Lg.out) (by omega) (htabs _ hb))
  rintro e w_8 ⟨rfl, hb_8⟩
  clear hb
  replace hs := hs.bl hb_8
  rw [HT.out]
  refine hK _ _ rfl trivial ?_
  clear hK K
  refine sq ?_
  refine .mv ?_
  apply wpSq_end
  refine hK9 _ _ ?_
  refine wp_seq_k ?_
  intro K11 hK11
  refine rg [0, 1, 2, 3, 4, 5, 6] ?_
  refine sq ?_
  refine .mv ?_
  refine sq ?_
  refine .mv ?_
  refine sq ?_
  refine .r0 ?_
  refine sq ?_
  refine .mv ?_
  refine sq ?_
  refine .r0 ?_
  refine sq ?_
  refine .r0 ?_
  refine sq ?_
  refine .mv ?_
  apply wpSq_end
  refine hK11 _ _ ?_
  refine wp_ret ?_
  try dsimp only [Exit.then, Exit.inBlock]
  refine bodyPost_ret (v := (.string (S ++ ⟨#[45]⟩ ++ T ++ ⟨#[105]⟩))) (by simp [results, Tryz.results19, go_sem]) rfl ?_
  have hb := hs.b
  exact ⟨rfl, hb⟩
set_option maxHeartbeats 4000000 in
set_option maxRecDepth 20000 in
theorem gText_npo {S T : ByteArray} (ha : PN w va x l y m) (hl : l ≤ 10000000) (hm : m ≤ 10000000) (hx : x ≠ 0) (hy : 0 < y) (hA : bitsN y.natAbs ≤ 1) (hS : zts x = S) (hT : zts (y.natAbs : Int) = T) (hs : S.size ≤ 10 * l + 11) (ht : T.size ≤ 10 * m + 11) (htab : Lib.TabIs Tryz.prog w p10 .u64 Lib.pow10Tab) :
    Calls Tryz.prog 19 #[va] w fun e w' => e = .returned (.string (S ++ ⟨#[43]⟩ ++ ⟨#[]⟩ ++ ⟨#[105]⟩)) ∧ Below w.heap.size w w' := by
  have htabs := Lib.tabBelow_of_tabIs htab
  have HS := hide hS
  have HT := hide hT
  have HY := hide (show y.sign = 1 from Int.sign_eq_one_of_pos hy)
  have hx0 : (x.sign == 0) = false := by simpa using hx
  obtain ⟨G, hG⟩ : ∃ G, x.sign = G := ⟨_, rfl⟩
  rw [hG] at hx0
  have HG := hide hG
  clear hx hG
  obtain ⟨B, hB⟩ : ∃ B, bitsN y.natAbs = B := ⟨_, rfl⟩
  rw [hB] at hA
  have HB := hide hB
  clear hB hS hT hy
  obtain ⟨n_0a, o_0a, k_0a, c_0a, n_0b, o_0b, k_0b, c_0b, rfl, ha1, ha2⟩ := ha
  go_enter Tryz.func19, Tryz.ntmps19
  have hs := St.nil w
  refine wp_seq_k ?_
  intro K1 hK1
  refine rg [0, 1] ?_
  refine sq ?_
  refine .al hs ?_; clear hs; intro p_b1 w_1 hs n1 kb_b1
  refine sq ?_
  refine .mv ?_
  apply wpSq_end
  refine hK1 _ _ ?_
  refine wp_seq_k ?_
  intro K2 hK2
  refine wp_seq_k ?_
  intro K3 hK3
  refine rg [0, 1, 2, 3] ?_
  refine sq ?_
  refine .r0 ?_
  refine sq ?_
  refine .r4 hs.g0.f4 ?_
  refine sq ?_
  intro K hK
  have k0_1 := kb n1
  replace ha2 := ha2.k k0_1
  go_big_op
  go_fit (zsign_any ha2 (by omega) )
  rintro e w_2 ⟨rfl, hb_2⟩
  replace hs := hs.bl hb_2
  rw [HY.out]
  refine hK _ _ rfl trivial ?_
  clear hK K
  refine sq ?_
  refine .r0 ?_
  apply wpSq_end
  refine hK3 _ _ ?_
  refine cf ?_
  refine wp_skip ?_
  refine hK2 _ _ ?_
  refine wp_seq_k ?_
  intro K4 hK4
  refine rg [0, 1, 2] ?_
  refine sq ?_
  refine .mv ?_
  refine sq ?_
  refine .mv ?_
  refine sq ?_
  refine .mv ?_
  apply wpSq_end
  refine hK4 _ _ ?_
  refine wp_seq_k ?_
  intro K5 hK5
  refine wp_seq_k ?_
  intro K6 hK6
  refine rg [0, 1, 2, 3] ?_
  refine sq ?_
  refine .r0 ?_
  refine sq ?_
  refine .r4 hs.g0.f4 ?_
  refine sq ?_
  intro K hK
  have k0_2 := k0_1.b hb_2
  replace ha1 := ha1.k k0_2
  go_big_op
  go_fit (zsign_any ha1 (by omega) )
  rintro e w_3 ⟨rfl, hb_3⟩
  replace hs := hs.bl hb_3
  rw [HG.out]
  refine hK _ _ rfl trivial ?_
  clear hK K
  refine sq ?_
  refine .r0 ?_
  apply wpSq_end
  refine hK6 _ _ ?_
  refine wp_cond_true (congrArg Value.bool (show _ = true from (by simpa using hx0))) ?_
  refine rg [0, 1, 2, 3, 4] ?_
  refine sq ?_
  refine .r0 ?_
  refine sq ?_
  refine .r4 hs.g0.f4 ?_
  refine sq ?_
  intro K hK
  have k2_3 := kb hb_3
  replace ha1 := ha1.k k2_3
  have hb := hs.b
  go_big_op
  go_fit (ztext_s ha1 (by omega) (htabs _ hb))
  rintro e w_4 ⟨rfl, hb_4⟩
  clear hb
  replace hs := hs.bl hb_4
  rw [HS.out]
  refine hK _ _ rfl trivial ?_
  clear hK K
  refine sq ?_
  refine .mv ?_
  refine sq ?_
  refine .mv ?_
  apply wpSq_end
  refine hK5 _ _ ?_
  refine wp_seq_k ?_
  intro K7 hK7
  refine wp_seq_k ?_
  intro K8 hK8
  refine rg [0, 1, 2, 3] ?_
  refine sq ?_
  refine .r0 ?_
  refine sq ?_
  refine .r4 hs.g0.f4 ?_
  refine sq ?_
  intro K hK
  have k1_4 := ((kb hb_2).b hb_3).b hb_4
  replace ha2 := ha2.k k1_4
  go_big_op
  go_fit (zsign_any ha2 (by omega) )
  rintro e w_5 ⟨rfl, hb_5⟩
  replace hs := hs.bl hb_5
  rw [HY.out]
  refine hK _ _ rfl trivial ?_
  clear hK K
  refine sq ?_
  refine .r0 ?_
  apply wpSq_end
  refine hK8 _ _ ?_
  refine cf ?_
  refine wp_skip ?_
  refine hK7 _ _ ?_
  refine wp_seq_k ?_
  intro K9 hK9
  refine wp_seq_k ?_
  intro K10 hK10
  refine rg [0, 1, 2, 3] ?_
  refine sq ?_
  refine .r0 ?_
  refine sq ?_
  refine .r4 hs.g0.f4 ?_
  refine sq ?_
  intro K hK
  have k4_5 := kb hb_5
  replace ha2 := ha2.k k4_5
  go_big_op
  go_fit (zbits_any ha2 (by omega) )
  rintro e w_6 ⟨rfl, hb_6⟩
  replace hs := hs.bl hb_6
  rw [HB.out]
  refine hK _ _ rfl trivial ?_
  clear hK K
  refine sq ?_
  refine .r0 ?_
  apply wpSq_end
  refine hK10 _ _ ?_
  refine cf ?_
  refine wp_skip ?_
  refine hK9 _ _ ?_
  refine wp_seq_k ?_
  intro K11 hK11
  refine rg [0, 1, 2, 3, 4, 5, 6] ?_
  refine sq ?_
  refine .mv ?_
  refine sq ?_
  refine .mv ?_
  refine sq ?_
  refine .r0 ?_
  refine sq ?_
  refine .mv ?_
  refine sq ?_
  refine .r0 ?_
  refine sq ?_
  refine .r0 ?_
  refine sq ?_
  refine .mv ?_
  apply wpSq_end
  refine hK11 _ _ ?_
  refine wp_ret ?_
  try dsimp only [Exit.then, Exit.inBlock]
  refine bodyPost_ret (v := (.string (S ++ ⟨#[43]⟩ ++ ⟨#[]⟩ ++ ⟨#[105]⟩))) (by simp [results, Tryz.results19, go_sem]) rfl ?_
  have hb := hs.b
  exact ⟨rfl, hb⟩
set_option maxHeartbeats 4000000 in
set_option maxRecDepth 20000 in
theorem gText_npb {S T : ByteArray} (ha : PN w va x l y m) (hl : l ≤ 10000000) (hm : m ≤ 10000000) (hx : x ≠ 0) (hy : 0 < y) (hA : 1 < bitsN y.natAbs) (hS : zts x = S) (hT : zts (y.natAbs : Int) = T) (hs : S.size ≤ 10 * l + 11) (ht : T.size ≤ 10 * m + 11) (htab : Lib.TabIs Tryz.prog w p10 .u64 Lib.pow10Tab) :
    Calls Tryz.prog 19 #[va] w fun e w' => e = .returned (.string (S ++ ⟨#[43]⟩ ++ T ++ ⟨#[105]⟩)) ∧ Below w.heap.size w w' := by
  have htabs := Lib.tabBelow_of_tabIs htab
  have HS := hide hS
  have HT := hide hT
  have HY := hide (show y.sign = 1 from Int.sign_eq_one_of_pos hy)
  have hx0 : (x.sign == 0) = false := by simpa using hx
  obtain ⟨G, hG⟩ : ∃ G, x.sign = G := ⟨_, rfl⟩
  rw [hG] at hx0
  have HG := hide hG
  clear hx hG
  obtain ⟨B, hB⟩ : ∃ B, bitsN y.natAbs = B := ⟨_, rfl⟩
  rw [hB] at hA
  have HB := hide hB
  clear hB hS hT hy
  obtain ⟨n_0a, o_0a, k_0a, c_0a, n_0b, o_0b, k_0b, c_0b, rfl, ha1, ha2⟩ := ha
  go_enter Tryz.func19, Tryz.ntmps19
  have hs := St.nil w
  refine wp_seq_k ?_
  intro K1 hK1
  refine rg [0, 1] ?_
  refine sq ?_
  refine .al hs ?_; clear hs; intro p_b1 w_1 hs n1 kb_b1
  refine sq ?_
  refine .mv ?_
  apply wpSq_end
  refine hK1 _ _ ?_
  refine wp_seq_k ?_
  intro K2 hK2
  refine wp_seq_k ?_
  intro K3 hK3
  refine rg [0, 1, 2, 3] ?_
  refine sq ?_
  refine .r0 ?_
  refine sq ?_
  refine .r4 hs.g0.f4 ?_
  refine sq ?_
  intro K hK
  have k0_1 := kb n1
  replace ha2 := ha2.k k0_1
  go_big_op
  go_fit (zsign_any ha2 (by omega) )
  rintro e w_2 ⟨rfl, hb_2⟩
  replace hs := hs.bl hb_2
  rw [HY.out]
  refine hK _ _ rfl trivial ?_
  clear hK K
  refine sq ?_
  refine .r0 ?_
  apply wpSq_end
  refine hK3 _ _ ?_
  refine cf ?_
  refine wp_skip ?_
  refine hK2 _ _ ?_
  refine wp_seq_k ?_
  intro K4 hK4
  refine rg [0, 1, 2] ?_
  refine sq ?_
  refine .mv ?_
  refine sq ?_
  refine .mv ?_
  refine sq ?_
  refine .mv ?_
  apply wpSq_end
  refine hK4 _ _ ?_
  refine wp_seq_k ?_
  intro K5 hK5
  refine wp_seq_k ?_
  intro K6 hK6
  refine rg [0, 1, 2, 3] ?_
  refine sq ?_
  refine .r0 ?_
  refine sq ?_
  refine .r4 hs.g0.f4 ?_
  refine sq ?_
  intro K hK
  have k0_2 := k0_1.b hb_2
  replace ha1 := ha1.k k0_2
  go_big_op
  go_fit (zsign_any ha1 (by omega) )
  rintro e w_3 ⟨rfl, hb_3⟩
  replace hs := hs.bl hb_3
  rw [HG.out]
  refine hK _ _ rfl trivial ?_
  clear hK K
  refine sq ?_
  refine .r0 ?_
  apply wpSq_end
  refine hK6 _ _ ?_
  refine wp_cond_true (congrArg Value.bool (show _ = true from (by simpa using hx0))) ?_
  refine rg [0, 1, 2, 3, 4] ?_
  refine sq ?_
  refine .r0 ?_
  refine sq ?_
  refine .r4 hs.g0.f4 ?_
  refine sq ?_
  intro K hK
  have k2_3 := kb hb_3
  replace ha1 := ha1.k k2_3
  have hb := hs.b
  go_big_op
  go_fit (ztext_s ha1 (by omega) (htabs _ hb))
  rintro e w_4 ⟨rfl, hb_4⟩
  clear hb
  replace hs := hs.bl hb_4
  rw [HS.out]
  refine hK _ _ rfl trivial ?_
  clear hK K
  refine sq ?_
  refine .mv ?_
  refine sq ?_
  refine .mv ?_
  apply wpSq_end
  refine hK5 _ _ ?_
  refine wp_seq_k ?_
  intro K7 hK7
  refine wp_seq_k ?_
  intro K8 hK8
  refine rg [0, 1, 2, 3] ?_
  refine sq ?_
  refine .r0 ?_
  refine sq ?_
  refine .r4 hs.g0.f4 ?_
  refine sq ?_
  intro K hK
  have k1_4 := ((kb hb_2).b hb_3).b hb_4
  replace ha2 := ha2.k k1_4
  go_big_op
  go_fit (zsign_any ha2 (by omega) )
  rintro e w_5 ⟨rfl, hb_5⟩
  replace hs := hs.bl hb_5
  rw [HY.out]
  refine hK _ _ rfl trivial ?_
  clear hK K
  refine sq ?_
  refine .r0 ?_
  apply wpSq_end
  refine hK8 _ _ ?_
  refine cf ?_
  refine wp_skip ?_
  refine hK7 _ _ ?_
  refine wp_seq_k ?_
  intro K9 hK9
  refine wp_seq_k ?_
  intro K10 hK10
  refine rg [0, 1, 2, 3] ?_
  refine sq ?_
  refine .r0 ?_
  refine sq ?_
  refine .r4 hs.g0.f4 ?_
  refine sq ?_
  intro K hK
  have k4_5 := kb hb_5
  replace ha2 := ha2.k k4_5
  go_big_op
  go_fit (zbits_any ha2 (by omega) )
  rintro e w_6 ⟨rfl, hb_6⟩
  replace hs := hs.bl hb_6
  rw [HB.out]
  refine hK _ _ rfl trivial ?_
  clear hK K
  refine sq ?_
  refine .r0 ?_
  apply wpSq_end
  refine hK10 _ _ ?_
  refine ct ?_
  refine rg [0, 1, 2, 3, 4] ?_
  refine sq ?_
  refine .r0 ?_
  refine sq ?_
  refine .r4 hs.g0.f4 ?_
  refine sq ?_
  intro K hK
  have k5_6 := kb hb_6
  replace ha2 := ha2.k k5_6
  go_big_op
  go_fit (zabs_any ha2 (by omega) )
  rintro e w_7 ⟨v_g, rfl, g, hb_7⟩
  replace hs := hs.bl hb_7
  replace g := g.rd
  obtain ⟨n_g, o_g, k_g, c_g, rfl⟩ := g.open2
  have Lg := hide (g.lenOf (zlen_abs (ha2.len)))
  refine hK _ _ rfl trivial ?_
  clear hK K
  refine sq ?_
  intro K hK
  have hb := hs.b
  go_big_op
  go_fit (ztext_s (g.zn Lg.out) (by omega) (htabs _ hb))
  rintro e w_8 ⟨rfl, hb_8⟩
  clear hb
  replace hs := hs.bl hb_8
  rw [HT.out]
  refine hK _ _ rfl trivial ?_
  clear hK K
  refine sq ?_
  refine .mv ?_
  apply wpSq_end
  refine hK9 _ _ ?_
  refine wp_seq_k ?_
  intro K11 hK11
  refine rg [0, 1, 2, 3, 4, 5, 6] ?_
  refine sq ?_
  refine .mv ?_
  refine sq ?_
  refine .mv ?_
  refine sq ?_
  refine .r0 ?_
  refine sq ?_
  refine .mv ?_
  refine sq ?_
  refine .r0 ?_
  refine sq ?_
  refine .r0 ?_
  refine sq ?_
  refine .mv ?_
  apply wpSq_end
  refine hK11 _ _ ?_
  refine wp_ret ?_
  try dsimp only [Exit.then, Exit.inBlock]
  refine bodyPost_ret (v := (.string (S ++ ⟨#[43]⟩ ++ T ++ ⟨#[105]⟩))) (by simp [results, Tryz.results19, go_sem]) rfl ?_
  have hb := hs.b
  exact ⟨rfl, hb⟩
theorem gText_any (ha : PN w va x l y m) (hl : l ≤ 10000000) (hm : m ≤ 10000000) (htab : Lib.TabIs Tryz.prog w p10 .u64 Lib.pow10Tab) :
    Calls Tryz.prog 19 #[va] w fun e w' => e = .returned (.string (gts x y)) ∧ Below w.heap.size w w' := by
  by_cases h0 : y = 0
  · unfold gts; rw [if_pos h0]; subst h0; exact gText_re ha hl hm htab
  have hs := zts_size ha.len1
  have ht := zts_size (show (dig (y.natAbs : Int).natAbs).length ≤ m from zlen_abs ha.len2)
  unfold gts gRe gSg gAm
  rw [if_neg h0]
  by_cases hx : x = 0 <;> by_cases hy : y < 0 <;> by_cases hb : 1 < bitsN y.natAbs
  · rw [if_pos hx, if_pos hy, if_pos hb]; rw [hx] at ha; exact gText_zmb ha hl hm hy hb rfl rfl hs ht htab
  · rw [if_pos hx, if_pos hy, if_neg hb]; rw [hx] at ha; exact gText_zmo ha hl hm hy (by omega) rfl rfl hs ht htab
  · rw [if_pos hx, if_neg hy, if_pos hx, if_pos hb]; rw [hx] at ha; exact gText_zpb ha hl hm (by omega) hb rfl rfl hs ht htab
  · rw [if_pos hx, if_neg hy, if_pos hx, if_neg hb]; rw [hx] at ha; exact gText_zpo ha hl hm (by omega) (by omega) rfl rfl hs ht htab
  · rw [if_neg hx, if_pos hy, if_pos hb]; exact gText_nmb ha hl hm hx hy hb rfl rfl hs ht htab
  · rw [if_neg hx, if_pos hy, if_neg hb]; exact gText_nmo ha hl hm hx hy (by omega) rfl rfl hs ht htab
  · rw [if_neg hx, if_neg hy, if_neg hx, if_pos hb]; exact gText_npb ha hl hm hx (by omega) hb rfl rfl hs ht htab
  · rw [if_neg hx, if_neg hy, if_neg hx, if_neg hb]; exact gText_npo ha hl hm hx (by omega) (by omega) rfl rfl hs ht htab
theorem gts_55 : gts 5 5 = ⟨#[53, 43, 53, 105]⟩ := by
  have h5 : zts 5 = ⟨#[53]⟩ := by unfold zts ztx; rw [if_neg (by decide), show Int.natAbs 5 = 5 from rfl, dec1 5 (by decide)]; rfl
  unfold gts gRe gSg gAm
  rw [if_neg (by decide), if_neg (by decide), if_neg (by decide), if_neg (by decide), if_pos (by decide), show ((Int.natAbs 5 : Nat) : Int) = 5 from rfl, h5]
  rfl
set_option maxHeartbeats 4000000 in
set_option maxRecDepth 20000 in
theorem gawake_any (w : World) (htab : Lib.TabIs Tryz.prog w p10 .u64 Lib.pow10Tab) :
    Calls Tryz.prog 6 #[] w fun e w' => e = .returned (.bool true) ∧ Below w.heap.size w w' := by
  have htabs := Lib.tabBelow_of_tabIs htab
  have L := fun (n : Int) (h : n.natAbs ≤ 100) => zlen_i n (by omega) (by omega)
  have L1 := hide (L 1 (by decide))
  have L2 := hide (L 2 (by decide))
  have L3 := hide (L 3 (by decide))
  have L4 := hide (L (-1) (by decide))
  have L5 := hide (L 5 (by decide))
  have L6 := hide (L (-3) (by decide))
  have E1 := hide (show (1 : Int) * 3 - 2 * -1 = 5 ∧ (1 : Int) * -1 + 2 * 3 = 5 by decide)
  have E2 := hide gts_55
  clear L
  go_enter Tryz.func6, Tryz.ntmps6
  have hs := St.nil w
  refine wp_seq_k ?_
  intro K1 hK1
  refine rg [0] ?_
  refine sq ?_
  refine .mv ?_
  apply wpSq_end
  refine hK1 _ _ ?_
  refine wp_seq_k ?_
  intro K2 hK2
  refine rg [0, 1, 2, 3, 4] ?_
  refine sq ?_
  intro K hK
  go_big_op
  go_fit (gg_any 1 2 _ (by decide) (by decide) (by decide) (by decide))
  rintro e w_1 ⟨_, rfl, ⟨n_aa, o_aa, k_aa, c_aa, n_ab, o_ab, k_ab, c_ab, rfl, a1, a2⟩, hb_1⟩
  replace hs := hs.bl hb_1
  have La1 := hide (a1.lenOf (L1.out))
  have La2 := hide (a2.lenOf (L2.out))
  refine hK _ _ rfl trivial ?_
  clear hK K
  refine sq ?_
  intro K hK
  go_big_op
  go_fit (gg_any 3 (-1) _ (by decide) (by decide) (by decide) (by decide))
  rintro e w_2 ⟨_, rfl, ⟨n_ba, o_ba, k_ba, c_ba, n_bb, o_bb, k_bb, c_bb, rfl, b1, b2⟩, hb_2⟩
  replace hs := hs.bl hb_2
  have Lb1 := hide (b1.lenOf (L3.out))
  have Lb2 := hide (b2.lenOf (L4.out))
  refine hK _ _ rfl trivial ?_
  clear hK K
  refine sq ?_
  intro K hK
  have k1_2 := kb hb_2
  replace a1 := a1.k k1_2
  replace a2 := a2.k k1_2
  go_big_op
  go_fit (gMul_any (PN.mk' (a1.zn La1.out) (a2.zn La2.out)) (PN.mk' (b1.zn Lb1.out) (b2.zn Lb2.out)) (by omega) (by omega) (by omega) (by omega) )
  rintro e w_3 ⟨_, rfl, ⟨n_ca, o_ca, k_ca, c_ca, n_cb, o_cb, k_cb, c_cb, rfl, c1, c2⟩, hb_3⟩
  replace hs := hs.bl hb_3
  have Lc1 := hide (c1.lenOf (zlen_sub (zlen_mul (La1.out) (Lb1.out)) (zlen_mul (La2.out) (Lb2.out))))
  have Lc2 := hide (c2.lenOf (zlen_add (zlen_mul (La1.out) (Lb2.out)) (zlen_mul (La2.out) (Lb1.out))))
  rw [E1.out.1] at c1
  rw [E1.out.2] at c2
  refine hK _ _ rfl trivial ?_
  clear hK K
  refine sq ?_
  refine .al hs ?_; clear hs; intro p_b1 w_4 hs n4 kb_b1
  refine sq ?_
  refine .s4 hs.g0 (fun _ => hs.u0 kb_b1) ?_; clear hs; intro w_5 hs hd5 ho5
  apply wpSq_end
  refine hK2 _ _ ?_
  refine wp_seq_k ?_
  intro K3 hK3
  refine wp_region_f4 [(0, false), (1, true), (2, true), (3, false), (4, false), (5, true), (6, false), (7, false), (8, false), (9, true), (10, true), (11, true), (12, false), (13, false)] [] [] (fun _ => default) [0, 99, 99, 99, 0, 99, 99, 99, 99, 99, 99, 99, 99, 99] [] (.c hs.g0 .n) fn fun w_6 n6 => ?_
  replace hs := hs.bl n6
  refine f4 ?_
  have Lc1 := hide (c1.lenOf (L5.out))
  have Lc2 := hide (c2.lenOf (L5.out))
  refine fl fun w_7 n7 => ?_
  replace hs := hs.bl n7
  intro K hK
  go_big_op
  go_fit (gg_any 5 5 _ (by decide) (by decide) (by decide) (by decide))
  rintro e w_8 ⟨_, rfl, ⟨n_da, o_da, k_da, c_da, n_db, o_db, k_db, c_db, rfl, d1, d2⟩, hb_8⟩
  replace hs := hs.bl hb_8
  have Ld1 := hide (d1.lenOf (L5.out))
  have Ld2 := hide (d2.lenOf (L5.out))
  refine hK _ _ rfl ⟨hb_8, (And.intro hs.g0 trivial)⟩ ?_
  clear hK K
  refine fl fun w_9 n9 => ?_
  replace hs := hs.bl n9
  intro K hK
  have k3_9 := (((((kb n4).o hd5 ho5).b n6).b n7).b hb_8).b n9
  replace c1 := c1.k k3_9
  replace c2 := c2.k k3_9
  have k8_9 := kb n9
  replace d1 := d1.k k8_9
  replace d2 := d2.k k8_9
  go_big_op
  go_fit (gis_any (PC.mk' c1 c2) (PN.mk' (d1.zn Ld1.out) (d2.zn Ld2.out)) (by omega) (by omega) )
  rintro e w_10 ⟨rfl, hb_10⟩
  replace hs := hs.bl hb_10
  refine hK _ _ rfl ⟨hb_10, (And.intro hs.g0 trivial)⟩ ?_
  clear hK K
  refine fmv ?_
  refine f4 ?_
  refine fl fun w_11 n11 => ?_
  clear a1 a2 b1 b2 d1 d2
  replace hs := hs.bl n11
  intro K hK
  have k9_11 := (kb hb_10).b n11
  replace c1 := c1.k k9_11
  replace c2 := c2.k k9_11
  have hb := hs.b
  go_big_op
  go_fit (gText_any (.mk' (c1.zn L5.out) (c2.zn L5.out)) (by decide) (by decide) (htabs _ hb))
  rintro e w_12 ⟨rfl, hb_12⟩
  clear hb
  replace hs := hs.bl hb_12
  rw [E2.out]
  refine hK _ _ rfl ⟨hb_12, (And.intro hs.g0 trivial)⟩ ?_
  clear hK K
  refine f0 ?_
  refine f0 ?_
  refine fmv ?_
  refine fl fun w_13 n13 => ?_
  replace hs := hs.bl n13
  intro K hK
  go_big_op
  go_fit (gFrom_any 2 (-3) _ (by decide) (by decide) (by decide) (by decide))
  rintro e w_14 ⟨_, rfl, ⟨n_fa, o_fa, k_fa, c_fa, n_fb, o_fb, k_fb, c_fb, rfl, f1, f2⟩, hb_14⟩
  replace hs := hs.bl hb_14
  have Lf1 := hide (f1.lenOf (L2.out))
  have Lf2 := hide (f2.lenOf (L6.out))
  refine hK _ _ rfl ⟨hb_14, (And.intro hs.g0 trivial)⟩ ?_
  clear hK K
  refine fl fun w_15 n15 => ?_
  replace hs := hs.bl n15
  intro K hK
  go_big_op
  go_fit (gg_any 2 (-3) _ (by decide) (by decide) (by decide) (by decide))
  rintro e w_16 ⟨_, rfl, ⟨n_ga, o_ga, k_ga, c_ga, n_gb, o_gb, k_gb, c_gb, rfl, g1, g2⟩, hb_16⟩
  replace hs := hs.bl hb_16
  have Lg1 := hide (g1.lenOf (L2.out))
  have Lg2 := hide (g2.lenOf (L6.out))
  refine hK _ _ rfl ⟨hb_16, (And.intro hs.g0 trivial)⟩ ?_
  clear hK K
  refine fl fun w_17 n17 => ?_
  replace hs := hs.bl n17
  intro K hK
  have k14_17 := ((kb n15).b hb_16).b n17
  replace f1 := f1.k k14_17
  replace f2 := f2.k k14_17
  have k16_17 := kb n17
  replace g1 := g1.k k16_17
  replace g2 := g2.k k16_17
  go_big_op
  go_fit (gis_any (PC.mk' f1 f2) (PN.mk' (g1.zn Lg1.out) (g2.zn Lg2.out)) (by omega) (by omega) )
  rintro e w_18 ⟨rfl, hb_18⟩
  replace hs := hs.bl hb_18
  refine hK _ _ rfl ⟨hb_18, (And.intro hs.g0 trivial)⟩ ?_
  clear hK K
  refine f0 ?_
  refine fmv ?_
  refine e0 hs ?_; clear hs; intro w_19 hs n19
  apply wpTail_end
  refine hK3 _ _ ?_
  refine wp_ret ?_
  try dsimp only [Exit.then, Exit.inBlock]
  refine bodyPost_ret (v := (.bool true)) (by simp [results, Tryz.results6, go_sem]) rfl ?_
  have hb := hs.b
  exact ⟨rfl, hb⟩
end
end Go.Proofs.YtgjainmfilkjmaaGreatDoor


/- The reference's Round, Zero; what quotients and rests are. -/
namespace Go.Proofs.YtgjainmfilkjmaaGreatDoor
open Go Go.RowKit Dig
set_option linter.unusedVariables false

section
variable {w : World} {va vb : Value} {x y u v : Int} {l m k n : Nat}
set_option maxHeartbeats 4000000 in
set_option maxRecDepth 20000 in
theorem rgRound_any (ha : PN w va x l y m) (hq : PN w vb u k v n) (hl : l ≤ 2000000) (hm : m ≤ 2000000) (hk : k ≤ 2000000) (hn : n ≤ 2000000) (h0 : gN u v ≠ 0) :
    Calls Tryz.prog 52 #[va, vb] w fun e w' => ∃ r s, e = .returned (.tuple #[r, s]) ∧ PC w' r (gQ1 x y u v) (gQ2 x y u v) ∧ PC w' s (gR1 x y u v) (gR2 x y u v) ∧ Below w.heap.size w w' := by
  have H0 := hide h0
  clear h0
  unfold gR1 gR2 gQ1 gQ2 gT1 gT2
  obtain ⟨n_0a, o_0a, k_0a, c_0a, n_0b, o_0b, k_0b, c_0b, rfl, ha1, ha2⟩ := ha
  obtain ⟨n_1a, o_1a, k_1a, c_1a, n_1b, o_1b, k_1b, c_1b, rfl, hq1, hq2⟩ := hq
  go_enter Tryz.func52, Tryz.ntmps52
  have hs := St.nil w
  refine wp_seq_k ?_
  intro K1 hK1
  refine rg [0, 1, 2, 3] ?_
  refine sq ?_
  refine .al hs ?_; clear hs; intro p_b1 w_1 hs n1 kb_b1
  refine sq ?_
  refine .al hs ?_; clear hs; intro p_b2 w_2 hs n2 kb_b2
  refine sq ?_
  refine .al hs ?_; clear hs; intro p_b3 w_3 hs n3 kb_b3
  refine sq ?_
  refine .al hs ?_; clear hs; intro p_b4 w_4 hs n4 kb_b4
  apply wpSq_end
  refine hK1 _ _ ?_
  refine wp_seq_k ?_
  intro K2 hK2
  refine rg [0, 1, 2, 3] ?_
  refine sq ?_
  refine .r4 hs.g2.f4 ?_
  refine sq ?_
  intro K hK
  have k0_4 := (((kb n1).b n2).b n3).b n4
  replace hq1 := hq1.k k0_4
  replace hq2 := hq2.k k0_4
  go_big_op
  go_fit (rgNorm_any (PN.mk' hq1 hq2) (by omega) (by omega) )
  rintro e w_5 ⟨v_g2, rfl, g2, hb_5⟩
  replace hs := hs.bl hb_5
  obtain ⟨n_g2, o_g2, k_g2, c_g2, rfl⟩ := g2.open2
  have Lg2 := hide (g2.lenOf (zlen_add (zlen_mul (hq1.len) (hq1.len)) (zlen_mul (hq2.len) (hq2.len))))
  refine hK _ _ rfl trivial ?_
  clear hK K
  refine sq ?_
  refine .al hs ?_; clear hs; intro p_b5 w_6 hs n6 kb_b5
  refine sq ?_
  refine .s2 hs.g0 (fun _ => hs.u0 kb_b5) ?_; clear hs; intro w_7 hs hd7 ho7
  apply wpSq_end
  refine hK2 _ _ ?_
  refine wp_seq_k ?_
  intro K3 hK3
  refine wp_region_f4 [(0, false), (1, false), (2, true), (3, true)] [5] [4] (fun j => (.cells #[.bool false, .slice none 0 0, .bool false, .slice none 0 0] 29)) [0, 1, 99, 99, 99, 99] [] (.c hs.g4 (.c hs.g3 .n)) (fm fn) fun w_8 n8 => ?_
  replace hs := hs.bl n8
  have hl := hs.lt; have hk := hs.k
  refine f4 ?_
  refine f4 ?_
  refine fl fun w_9 n9 => ?_
  replace hs := hs.bl n9
  intro K hK
  have k4_9 := ((((kb hb_5).b n6).o hd7 ho7).b n8).b n9
  replace hq1 := hq1.k k4_9
  replace hq2 := hq2.k k4_9
  go_big_op
  go_fit (rgConj_any (PN.mk' hq1 hq2) (by omega) (by omega) )
  rintro e w_10 ⟨_, rfl, ⟨n_g1a, o_g1a, k_g1a, c_g1a, n_g1b, o_g1b, k_g1b, c_g1b, rfl, g11, g12⟩, hb_10⟩
  replace hs := hs.bl hb_10
  have Lg11 := hide (g11.lenOf ((hq1.len)))
  have Lg12 := hide (g12.lenOf (zlen_neg (hq2.len)))
  refine hK _ _ rfl ⟨hb_10, (And.intro hs.g4 (And.intro hs.g3 trivial))⟩ ?_
  clear hK K
  refine fl fun w_11 n11 => ?_
  replace hs := hs.bl n11
  intro K hK
  have k0_11 := ((((((k0_4.b hb_5).b n6).o hd7 ho7).b n8).b n9).b hb_10).b n11
  replace ha1 := ha1.k k0_11
  replace ha2 := ha2.k k0_11
  have k10_11 := kb n11
  replace g11 := g11.k k10_11
  replace g12 := g12.k k10_11
  go_big_op
  go_fit (rgMul_any (PN.mk' ha1 ha2) (PN.mk' (g11.zn Lg11.out) (g12.zn Lg12.out)) (by omega) (by omega) (by omega) (by omega) )
  rintro e w_12 ⟨_, rfl, ⟨n_g0a, o_g0a, k_g0a, c_g0a, n_g0b, o_g0b, k_g0b, c_g0b, rfl, g01, g02⟩, hb_12⟩
  replace hs := hs.bl hb_12
  have Lg01 := hide (g01.lenOf (zlen_sub (zlen_mul (ha1.len) (Lg11.out)) (zlen_mul (ha2.len) (Lg12.out))))
  have Lg02 := hide (g02.lenOf (zlen_add (zlen_mul (ha1.len) (Lg12.out)) (zlen_mul (ha2.len) (Lg11.out))))
  refine hK _ _ rfl ⟨hb_12, (And.intro hs.g4 (And.intro hs.g3 trivial))⟩ ?_
  clear hK K
  refine e1 hs hl hk ?_; clear hs hl hk; intro w_13 p_b6 hs n13 kb_b6
  refine tl ?_
  refine .s4 hs.g0 (fun _ => hs.u0 kb_b6) ?_ (e := fun _ hs => (And.intro hs.g5 (And.intro hs.g4 True.intro))); clear hs; intro w_14 hs hd14 ho14
  apply wpTail_end
  refine hK3 _ _ ?_
  refine wp_seq_k ?_
  intro K4 hK4
  refine rg [0, 1, 2, 3, 4, 5, 6, 7, 8, 9, 10] ?_
  refine sq ?_
  refine .r0 ?_
  refine sq ?_
  refine .r4 hs.g0.f4 ?_
  refine sq ?_
  refine .r2 hs.g1.f2 ?_
  refine sq ?_
  intro K hK
  have k12_14 := (kb n13).o hd14 ho14
  replace g01 := g01.k k12_14
  have k5_14 := ((((((((kb n6).o hd7 ho7).b n8).b n9).b hb_10).b n11).b hb_12).b n13).o hd14 ho14
  replace g2 := g2.k k5_14
  go_big_op
  go_fit (rround_any (g01.zn Lg01.out) (g2.zn Lg2.out) (by omega) (by omega) H0.out)
  rintro e w_15 ⟨v_g3, v_g4, rfl, g3, g4, hb_15⟩
  replace hs := hs.bl hb_15
  obtain ⟨n_g3, o_g3, k_g3, c_g3, rfl⟩ := g3.open2
  obtain ⟨n_g4, o_g4, k_g4, c_g4, rfl⟩ := g4.open2
  have Lg3 := hide (g3.lenOf (rnd_len (H0.out) (Lg01.out)))
  have Lg4 := hide (g4.lenOf (rrest_len (H0.out) (Lg2.out)))
  refine hK _ _ rfl trivial ?_
  clear hK K
  refine sq ?_
  refine .mv ?_
  refine sq ?_
  refine .r0 ?_
  refine sq ?_
  refine .r0 ?_
  refine sq ?_
  refine .al hs ?_; clear hs; intro p_b7 w_16 hs n16 kb_b7
  refine sq ?_
  refine .al hs ?_; clear hs; intro p_b8 w_17 hs n17 kb_b8
  refine sq ?_
  refine .s2 hs.g1 (fun _ => hs.u1 kb_b7) ?_; clear hs; intro w_18 hs hd18 ho18
  refine sq ?_
  refine .s2 hs.g0 (fun _ => hs.u0 kb_b8) ?_; clear hs; intro w_19 hs hd19 ho19
  apply wpSq_end
  refine hK4 _ _ ?_
  refine wp_seq_k ?_
  intro K5 hK5
  refine rg [0, 1, 2, 3, 4, 5, 6, 7, 8, 9, 10] ?_
  refine sq ?_
  refine .r0 ?_
  refine sq ?_
  refine .r4 hs.g2.f4 ?_
  refine sq ?_
  refine .r2 hs.g3.f2 ?_
  refine sq ?_
  intro K hK
  have k12_19 := ((((k12_14.b hb_15).b n16).b n17).o hd18 ho18).o hd19 ho19
  replace g02 := g02.k k12_19
  have k14_19 := ((((kb hb_15).b n16).b n17).o hd18 ho18).o hd19 ho19
  replace g2 := g2.k k14_19
  go_big_op
  go_fit (rround_any (g02.zn Lg02.out) (g2.zn Lg2.out) (by omega) (by omega) H0.out)
  rintro e w_20 ⟨v_g5, v_g6, rfl, g5, g6, hb_20⟩
  replace hs := hs.bl hb_20
  obtain ⟨n_g5, o_g5, k_g5, c_g5, rfl⟩ := g5.open2
  obtain ⟨n_g6, o_g6, k_g6, c_g6, rfl⟩ := g6.open2
  have Lg5 := hide (g5.lenOf (rnd_len (H0.out) (Lg02.out)))
  have Lg6 := hide (g6.lenOf (rrest_len (H0.out) (Lg2.out)))
  refine hK _ _ rfl trivial ?_
  clear hK K
  refine sq ?_
  refine .mv ?_
  refine sq ?_
  refine .r0 ?_
  refine sq ?_
  refine .r0 ?_
  refine sq ?_
  refine .al hs ?_; clear hs; intro p_b9 w_21 hs n21 kb_b9
  clear g11 g12 g01 g4 g2 g02
  refine sq ?_
  refine .al hs ?_; clear hs; intro p_b10 w_22 hs n22 kb_b10
  refine sq ?_
  refine .s2 hs.g1 (fun _ => hs.u1 kb_b9) ?_; clear hs; intro w_23 hs hd23 ho23
  refine sq ?_
  refine .s2 hs.g0 (fun _ => hs.u0 kb_b10) ?_; clear hs; intro w_24 hs hd24 ho24
  apply wpSq_end
  refine hK5 _ _ ?_
  refine wp_seq_k ?_
  intro K6 hK6
  refine rg [0, 1, 2, 3, 4] ?_
  refine sq ?_
  refine .r2 hs.g3.f2 ?_
  refine sq ?_
  refine .r2 hs.g1.f2 ?_
  refine sq ?_
  refine .r0 ?_
  refine sq ?_
  refine .al hs ?_; clear hs; intro p_b11 w_25 hs n25 kb_b11
  refine sq ?_
  refine .s4 hs.g0 (fun _ => hs.u0 kb_b11) ?_; clear hs; intro w_26 hs hd26 ho26
  apply wpSq_end
  refine hK6 _ _ ?_
  refine wp_seq_k ?_
  intro K7 hK7
  refine wp_region_f4 [(0, false), (1, false), (2, false), (3, false), (4, true), (5, true)] [6, 7] [] (fun _ => default) [0, 1, 0, 2, 99, 99, 99, 99] [] (.c hs.g0 (.c hs.g10 (.c hs.g9 .n))) fn fun w_27 n27 => ?_
  replace hs := hs.bl n27
  refine f4 ?_
  refine f4 ?_
  refine f4 ?_
  refine f4 ?_
  refine fl fun w_28 n28 => ?_
  replace hs := hs.bl n28
  intro K hK
  have k15_28 := ((((((((((((kb n16).b n17).o hd18 ho18).o hd19 ho19).b hb_20).b n21).b n22).o hd23 ho23).o hd24 ho24).b n25).o hd26 ho26).b n27).b n28
  replace g3 := g3.k k15_28
  have k20_28 := (((((((kb n21).b n22).o hd23 ho23).o hd24 ho24).b n25).o hd26 ho26).b n27).b n28
  replace g5 := g5.k k20_28
  have k9_28 := ((((((((((((((((((kb hb_10).b n11).b hb_12).b n13).o hd14 ho14).b hb_15).b n16).b n17).o hd18 ho18).o hd19 ho19).b hb_20).b n21).b n22).o hd23 ho23).o hd24 ho24).b n25).o hd26 ho26).b n27).b n28
  replace hq1 := hq1.k k9_28
  replace hq2 := hq2.k k9_28
  go_big_op
  go_fit (rgMul_any (PN.mk' (g3.zn Lg3.out) (g5.zn Lg5.out)) (PN.mk' hq1 hq2) (by omega) (by omega) (by omega) (by omega) )
  rintro e w_29 ⟨_, rfl, ⟨n_g7a, o_g7a, k_g7a, c_g7a, n_g7b, o_g7b, k_g7b, c_g7b, rfl, g71, g72⟩, hb_29⟩
  replace hs := hs.bl hb_29
  have Lg71 := hide (g71.lenOf (zlen_sub (zlen_mul (Lg3.out) (hq1.len)) (zlen_mul (Lg5.out) (hq2.len))))
  have Lg72 := hide (g72.lenOf (zlen_add (zlen_mul (Lg3.out) (hq2.len)) (zlen_mul (Lg5.out) (hq1.len))))
  refine hK _ _ rfl ⟨hb_29, (And.intro hs.g0 (And.intro hs.g10 (And.intro hs.g9 trivial)))⟩ ?_
  clear hK K
  refine fl fun w_30 n30 => ?_
  replace hs := hs.bl n30
  intro K hK
  have k11_30 := ((((((((((((((((((kb hb_12).b n13).o hd14 ho14).b hb_15).b n16).b n17).o hd18 ho18).o hd19 ho19).b hb_20).b n21).b n22).o hd23 ho23).o hd24 ho24).b n25).o hd26 ho26).b n27).b n28).b hb_29).b n30
  replace ha1 := ha1.k k11_30
  replace ha2 := ha2.k k11_30
  have k29_30 := kb n30
  replace g71 := g71.k k29_30
  replace g72 := g72.k k29_30
  go_big_op
  go_fit (rgSub_any (PN.mk' ha1 ha2) (PN.mk' (g71.zn Lg71.out) (g72.zn Lg72.out)) (by omega) (by omega) (by omega) (by omega) )
  rintro e w_31 ⟨_, rfl, ⟨n_g8a, o_g8a, k_g8a, c_g8a, n_g8b, o_g8b, k_g8b, c_g8b, rfl, g81, g82⟩, hb_31⟩
  replace hs := hs.bl hb_31
  have Lg81 := hide (g81.lenOf (zlen_sub (ha1.len) (Lg71.out)))
  have Lg82 := hide (g82.lenOf (zlen_sub (ha2.len) (Lg72.out)))
  refine hK _ _ rfl ⟨hb_31, (And.intro hs.g0 (And.intro hs.g10 (And.intro hs.g9 trivial)))⟩ ?_
  clear hK K
  refine e0 hs ?_; clear hs; intro w_32 hs n32
  refine tl ?_
  refine .s4 hs.g8 (fun _ => hs.u8 kb_b3) ?_ (e := fun _ hs => (And.intro hs.g0 (And.intro hs.g10 (And.intro hs.g9 True.intro)))); clear hs; intro w_33 hs hd33 ho33
  refine tl ?_
  refine .s4 hs.g7 (fun _ => hs.u7 kb_b4) ?_ (e := fun _ hs => (And.intro hs.g0 (And.intro hs.g10 (And.intro hs.g9 True.intro)))); clear hs; intro w_34 hs hd34 ho34
  apply wpTail_end
  refine hK7 _ _ ?_
  refine wp_ret ?_
  try dsimp only [Exit.then, Exit.inBlock]
  obtain ⟨r0_0, r0_1, r0_2, r0_3⟩ := hs.g8.f4
  obtain ⟨r4_0, r4_1, r4_2, r4_3⟩ := hs.g7.f4
  refine bodyPost_ret (v := (.tuple #[(.agg #[.bool n_g3, .slice o_g3 k_g3 c_g3, .bool n_g5, .slice o_g5 k_g5 c_g5]), (.agg #[.bool n_g8a, .slice o_g8a k_g8a c_g8a, .bool n_g8b, .slice o_g8b k_g8b c_g8b])])) (by simp [results, Tryz.results52, go_sem, r0_0, r0_1, r0_2, r0_3, r4_0, r4_1, r4_2, r4_3]) rfl ?_
  have k28_34 := (((((kb hb_29).b n30).b hb_31).b n32).o hd33 ho33).o hd34 ho34
  replace g3 := g3.k k28_34
  replace g5 := g5.k k28_34
  have k31_34 := ((kb n32).o hd33 ho33).o hd34 ho34
  replace g81 := g81.k k31_34
  replace g82 := g82.k k31_34
  exact ⟨_, _, rfl, .mk' g3 g5, .mk' g81 g82, hs.b⟩
end
theorem sq_le {a n : Int} (h1 : -n ≤ a) (h2 : a ≤ n) : a * a ≤ n * n := by
  have h := Int.mul_nonneg (show 0 ≤ n - a by omega) (show 0 ≤ n + a by omega)
  have e : (n - a) * (n + a) = n * n - a * a := by grind
  omega
/-- What is left of the quotient, times conj(b). -/
theorem gR_conj (x y u v : Int) : gR1 x y u v * u - gR2 x y u v * -v = gT1 x y u v - gQ1 x y u v * gN u v ∧ gR1 x y u v * -v + gR2 x y u v * u = gT2 x y u v - gQ2 x y u v * gN u v := by
  unfold gR1 gR2 gT1 gT2 gN
  generalize gQ1 x y u v = a
  generalize gQ2 x y u v = b
  constructor <;> grind
theorem gR_back (x y u v : Int) : gQ1 x y u v * u - gQ2 x y u v * v + gR1 x y u v = x ∧ gQ1 x y u v * v + gQ2 x y u v * u + gR2 x y u v = y := by
  unfold gR1 gR2; omega
theorem gN_mul (a b c d : Int) : gN (a * c - b * d) (a * d + b * c) = gN a b * gN c d := by unfold gN; grind
theorem gN_conj (a b : Int) : gN a (-b) = gN a b := by unfold gN; grind
theorem gN_pos {u v : Int} (h : gN u v ≠ 0) : 0 < gN u v := by have := gN_nonneg u v; omega
/-- Twice the rest's norm is at most the divisor's. -/
theorem gR_half {x y u v : Int} (h0 : gN u v ≠ 0) : gN (gR1 x y u v) (gR2 x y u v) + gN (gR1 x y u v) (gR2 x y u v) ≤ gN u v := by
  have hp := gN_pos h0
  have b1 := (rnd_bd (x := gT1 x y u v) h0).1 hp
  have b2 := (rnd_bd (x := gT2 x y u v) h0).1 hp
  obtain ⟨e1, e2⟩ := gR_conj x y u v
  have hm := gN_mul (gR1 x y u v) (gR2 x y u v) u (-v)
  rw [gN_conj] at hm
  rw [show gR1 x y u v * u - gR2 x y u v * -v = gT1 x y u v - rnd (gT1 x y u v) (gN u v) * gN u v from e1, show gR1 x y u v * -v + gR2 x y u v * u = gT2 x y u v - rnd (gT2 x y u v) (gN u v) * gN u v from e2] at hm
  generalize gT1 x y u v - rnd (gT1 x y u v) (gN u v) * gN u v = a at *
  generalize gT2 x y u v - rnd (gT2 x y u v) (gN u v) * gN u v = b at *
  generalize gN (gR1 x y u v) (gR2 x y u v) = r at *
  generalize gN u v = n at *
  have s1 := sq_le (a := 2 * a) (n := n) (by omega) (by omega)
  have s2 := sq_le (a := 2 * b) (n := n) (by omega) (by omega)
  have hab : gN a b = a * a + b * b := rfl
  rw [hab] at hm
  have f1 : 2 * a * (2 * a) = 4 * (a * a) := by grind
  have f2 : 2 * b * (2 * b) = 4 * (b * b) := by grind
  have h3 : (r + r) * n ≤ n * n := by
    have : (r + r) * n = 2 * (r * n) := by grind
    omega
  exact Int.le_of_mul_le_mul_right h3 hp
end Go.Proofs.YtgjainmfilkjmaaGreatDoor


/- A quotient guessed from the tops of two numbers. -/
namespace Go.Proofs.YtgjainmfilkjmaaGreatDoor
open Go Go.RowKit Dig
set_option linter.unusedVariables false

/-- The nearest is known by what is left. -/
theorem rnd_of {t n q : Int} (hn : 0 < n) (h1 : -n ≤ 2 * (t - q * n)) (h2 : 2 * (t - q * n) < n) : rnd t n = q := by
  unfold rnd
  rw [Int.fdiv_eq_ediv_of_nonneg _ (by omega)]
  have e : 2 * t + n = (2 * (t - q * n) + n) + q * (2 * n) := by grind
  rw [e, Int.add_mul_ediv_right _ _ (by omega), Int.ediv_eq_zero_of_lt (by omega) (by omega)]
  omega
theorem abs_mul_le {a b A B : Int} (ha : -A ≤ a ∧ a ≤ A) (hb : -B ≤ b ∧ b ≤ B) : -(A * B) ≤ a * b ∧ a * b ≤ A * B := by
  have hA : 0 ≤ A := by omega
  have hB : 0 ≤ B := by omega
  have h1 := Int.mul_nonneg (show 0 ≤ A - a by omega) (show 0 ≤ B + b by omega)
  have h2 := Int.mul_nonneg (show 0 ≤ A + a by omega) (show 0 ≤ B - b by omega)
  have h3 := Int.mul_nonneg (show 0 ≤ A - a by omega) (show 0 ≤ B - b by omega)
  have h4 := Int.mul_nonneg (show 0 ≤ A + a by omega) (show 0 ≤ B + b by omega)
  have e1 : (A - a) * (B + b) = A * B + A * b - a * B - a * b := by grind
  have e2 : (A + a) * (B - b) = A * B - A * b + a * B - a * b := by grind
  have e3 : (A - a) * (B - b) = A * B - A * b - a * B + a * b := by grind
  have e4 : (A + a) * (B + b) = A * B + A * b + a * B + a * b := by grind
  constructor <;> omega
/-- From a square's bound to the number's. -/
theorem sq_lt {a A : Int} (hA : 0 ≤ A) (h : a * a ≤ A * A) : -A ≤ a ∧ a ≤ A := by
  have key : ∀ c : Int, 0 ≤ c → c * c ≤ A * A → c ≤ A := by
    intro c hc hcc
    rcases Int.lt_or_le A c with h1 | h1
    · have := Int.mul_self_lt_mul_self hA h1; omega
    · exact h1
  rcases Int.le_total 0 a with h0 | h0
  · have := key a h0 h; omega
  · have := key (-a) (by omega) (by rw [Int.neg_mul_neg]; exact h); omega
theorem msq (x : Int) : 0 ≤ x * x := by
  rcases Int.le_total 0 x with h | h
  · exact Int.mul_nonneg h h
  · exact Int.mul_nonneg_of_nonpos_of_nonpos h h
/-- What two parts are at most, their sum of squares being at most a square. -/
theorem norm_le {a b A : Int} (hA : 0 ≤ A) (h : gN a b ≤ A * A) : (-A ≤ a ∧ a ≤ A) ∧ (-A ≤ b ∧ b ≤ A) := by
  unfold gN at h
  have h1 := msq a
  have h2 := msq b
  exact ⟨sq_lt hA (by omega), sq_lt hA (by omega)⟩
theorem norm_ge {a b A : Int} (ha : -A ≤ a ∧ a ≤ A) (hb : -A ≤ b ∧ b ≤ A) : gN a b ≤ 2 * (A * A) := by
  have h1 := (abs_mul_le ha ha).2
  have h2 := (abs_mul_le hb hb).2
  unfold gN; omega
/-- A quotient of the tops is the quotient, where it lies far inside. -/
theorem guess {B a1 a2 b1 b2 c1 c2 d1 d2 m : Int} (hB : 0 < B) (hc1 : -B ≤ c1 ∧ c1 ≤ B) (hc2 : -B ≤ c2 ∧ c2 ≤ B) (hd1 : -B ≤ d1 ∧ d1 ≤ B) (hd2 : -B ≤ d2 ∧ d2 ≤ B) (hs1 : 0 ≤ b1 * d1) (hs2 : 0 ≤ b2 * d2)
    (hm : 340282366920938463463374607431768211456 ≤ m) (hb1 : -m ≤ b1 ∧ b1 ≤ m) (hb2 : -m ≤ b2 ∧ b2 ≤ m) (hmm : m * m ≤ gN b1 b2) (ha1 : -(18446744073709551616 * m) ≤ a1 ∧ a1 ≤ 18446744073709551616 * m) (ha2 : -(18446744073709551616 * m) ≤ a2 ∧ a2 ≤ 18446744073709551616 * m)
    {q1 q2 r1 r2 : Int} (hr1 : a1 = q1 * b1 - q2 * b2 + r1) (hr2 : a2 = q1 * b2 + q2 * b1 + r2) (hrr : gN r1 r2 + gN r1 r2 ≤ gN b1 b2)
    (hp1 : 2 * (r1 * b1 + r2 * b2) < gN b1 b2 - gN b1 b2 / 4294967296 ∧ -(gN b1 b2 - gN b1 b2 / 4294967296) < 2 * (r1 * b1 + r2 * b2))
    (hp2 : 2 * (r2 * b1 - r1 * b2) < gN b1 b2 - gN b1 b2 / 4294967296 ∧ -(gN b1 b2 - gN b1 b2 / 4294967296) < 2 * (r2 * b1 - r1 * b2)) :
    gQ1 (a1 * B + c1) (a2 * B + c2) (b1 * B + d1) (b2 * B + d2) = q1 ∧ gQ2 (a1 * B + c1) (a2 * B + c2) (b1 * B + d1) (b2 * B + d2) = q2 := by
  have hm0 : 0 ≤ m := by omega
  have hN2 : gN b1 b2 ≤ 2 * (m * m) := norm_ge hb1 hb2
  obtain ⟨R1, R2⟩ := norm_le (a := r1) (b := r2) hm0 (by omega)
  -- the quotient's parts
  have hq : gN q1 q2 ≤ 5444517870735015415413993718908291383296 := by
    have e1 : q1 * b1 - q2 * b2 = a1 - r1 := by omega
    have e2 : q1 * b2 + q2 * b1 = a2 - r2 := by omega
    have h1 := gN_mul q1 q2 b1 b2
    rw [e1, e2] at h1
    have h2 : gN (a1 - r1) (a2 - r2) ≤ 2 * ((36893488147419103232 * m) * (36893488147419103232 * m)) := norm_ge (by omega) (by omega)
    have h3 : (36893488147419103232 * m) * (36893488147419103232 * m) = 1361129467683753853853498429727072845824 * (m * m) := by grind
    rw [h3] at h2
    have h4 : 0 ≤ gN q1 q2 := by unfold gN; have := msq q1; have := msq q2; omega
    have h5 : gN q1 q2 * (m * m) ≤ gN q1 q2 * gN b1 b2 := Int.mul_le_mul_of_nonneg_left hmm h4
    have h6 : 0 < m * m := Int.mul_pos (by omega) (by omega)
    have h7 : gN q1 q2 * (m * m) ≤ 2722258935367507707706996859454145691648 * (m * m) := by omega
    have := Int.le_of_mul_le_mul_right h7 h6
    omega
  obtain ⟨Q1, Q2⟩ := norm_le (a := q1) (b := q2) (A := 73786976294838206464) (by decide) (by omega)
  -- what is left
  obtain ⟨e1, he1⟩ : ∃ e, e = c1 - (q1 * d1 - q2 * d2) := ⟨_, rfl⟩
  obtain ⟨e2, he2⟩ : ∃ e, e = c2 - (q1 * d2 + q2 * d1) := ⟨_, rfl⟩
  have k1 := abs_mul_le Q1 hd1
  have k2 := abs_mul_le Q2 hd2
  have k3 := abs_mul_le Q1 hd2
  have k4 := abs_mul_le Q2 hd1
  have E1 : -(295147905179352825856 * B) ≤ e1 ∧ e1 ≤ 295147905179352825856 * B := by omega
  have E2 : -(295147905179352825856 * B) ≤ e2 ∧ e2 ≤ 295147905179352825856 * B := by omega
  have hmB : B ≤ m * B := by
    have := Int.mul_le_mul_of_nonneg_right (show (1 : Int) ≤ m by omega) (Int.le_of_lt hB); omega
  have j1 := abs_mul_le hb1 (show -B ≤ B ∧ B ≤ B by omega)
  have j2 := abs_mul_le hb2 (show -B ≤ B ∧ B ≤ B by omega)
  have U : -(2 * (m * B)) ≤ b1 * B + d1 ∧ b1 * B + d1 ≤ 2 * (m * B) := by omega
  have V : -(2 * (m * B)) ≤ b2 * B + d2 ∧ b2 * B + d2 ≤ 2 * (m * B) := by omega
  have w1 := abs_mul_le E1 U
  have w2 := abs_mul_le E2 V
  have w3 := abs_mul_le E2 U
  have w4 := abs_mul_le E1 V
  have z1 := abs_mul_le R1 hd1
  have z2 := abs_mul_le R2 hd2
  have z3 := abs_mul_le R2 hd1
  have z4 := abs_mul_le R1 hd2
  have g0 : (295147905179352825856 * B) * (2 * (m * B)) = 590295810358705651712 * (m * (B * B)) := by grind
  rw [g0] at w1 w2 w3 w4
  -- r d, times B
  have y1 := abs_mul_le (a := r1 * d1 + r2 * d2) (b := B) (A := 2 * (m * B)) (B := B) (by omega) (by omega)
  have y2 := abs_mul_le (a := r2 * d1 - r1 * d2) (b := B) (A := 2 * (m * B)) (B := B) (by omega) (by omega)
  have g1 : 2 * (m * B) * B = 2 * (m * (B * B)) := by grind
  rw [g1] at y1 y2
  obtain ⟨S, hS⟩ : ∃ S, S = B * B := ⟨_, rfl⟩
  have hS0 : 0 < S := by rw [hS]; exact Int.mul_pos hB hB
  -- the norm below
  have hn : gN (b1 * B + d1) (b2 * B + d2) = gN b1 b2 * S + 2 * ((b1 * d1) * B) + 2 * ((b2 * d2) * B) + (d1 * d1 + d2 * d2) := by rw [hS]; unfold gN; grind
  have n1 := Int.mul_nonneg hs1 (Int.le_of_lt hB)
  have n2 := Int.mul_nonneg hs2 (Int.le_of_lt hB)
  have n3 := msq d1
  have n4 := msq d2
  have D1 : gT1 (a1 * B + c1) (a2 * B + c2) (b1 * B + d1) (b2 * B + d2) - q1 * gN (b1 * B + d1) (b2 * B + d2) = (r1 * b1 + r2 * b2) * S + (r1 * d1 + r2 * d2) * B + e1 * (b1 * B + d1) + e2 * (b2 * B + d2) := by
    rw [he1, he2, hS, hr1, hr2]; unfold gT1 gN; grind
  have D2 : gT2 (a1 * B + c1) (a2 * B + c2) (b1 * B + d1) (b2 * B + d2) - q2 * gN (b1 * B + d1) (b2 * B + d2) = (r2 * b1 - r1 * b2) * S + (r2 * d1 - r1 * d2) * B + e2 * (b1 * B + d1) - e1 * (b2 * B + d2) := by
    rw [he1, he2, hS, hr1, hr2]; unfold gT2 gN; grind
  rw [← hS] at w1 w2 w3 w4 y1 y2
  -- the far inside
  have hmS : 340282366920938463463374607431768211456 * (m * S) ≤ gN b1 b2 * S := by
    have h1 : 340282366920938463463374607431768211456 * m ≤ m * m := Int.mul_le_mul_of_nonneg_right hm hm0
    have h2 := Int.mul_le_mul_of_nonneg_right (Int.le_trans h1 hmm) (Int.le_of_lt hS0)
    have h3 : 340282366920938463463374607431768211456 * m * S = 340282366920938463463374607431768211456 * (m * S) := by grind
    omega
  have hmS0 : 0 < m * S := Int.mul_pos (by omega) hS0
  have far : ∀ p : Int, 2 * p < gN b1 b2 - gN b1 b2 / 4294967296 → -(gN b1 b2 - gN b1 b2 / 4294967296) < 2 * p → 4294967296 * (2 * (p * S)) ≤ 4294967295 * (gN b1 b2 * S) ∧ -(4294967295 * (gN b1 b2 * S)) ≤ 4294967296 * (2 * (p * S)) := by
    intro p h1 h2
    have h3 : 4294967296 * (2 * p) ≤ 4294967295 * gN b1 b2 := by omega
    have h4 : -(4294967295 * gN b1 b2) ≤ 4294967296 * (2 * p) := by omega
    have h5 := Int.mul_le_mul_of_nonneg_right h3 (Int.le_of_lt hS0)
    have h6 := Int.mul_le_mul_of_nonneg_right h4 (Int.le_of_lt hS0)
    have f1 : 4294967296 * (2 * p) * S = 4294967296 * (2 * (p * S)) := by grind
    have f2 : 4294967295 * gN b1 b2 * S = 4294967295 * (gN b1 b2 * S) := by grind
    have f3 : -(4294967295 * gN b1 b2) * S = -(4294967295 * (gN b1 b2 * S)) := by grind
    omega
  have F1 := far _ hp1.1 hp1.2
  have F2 := far _ hp2.1 hp2.2
  clear hp1 hp2 far
  generalize (r1 * b1 + r2 * b2) * S = p1 at *
  generalize (r2 * b1 - r1 * b2) * S = p2 at *
  generalize gN b1 b2 * S = NS at *
  generalize m * S = mS at *
  generalize (r1 * d1 + r2 * d2) * B = t1 at *
  generalize (r2 * d1 - r1 * d2) * B = t2 at *
  generalize e1 * (b1 * B + d1) = o1 at *
  generalize e2 * (b2 * B + d2) = o2 at *
  generalize e2 * (b1 * B + d1) = o3 at *
  generalize e1 * (b2 * B + d2) = o4 at *
  have hpos : 0 < gN (b1 * B + d1) (b2 * B + d2) := by omega
  refine ⟨rnd_of hpos ?_ ?_, rnd_of hpos ?_ ?_⟩
  · rw [D1]; omega
  · rw [D1]; omega
  · rw [D2]; omega
  · rw [D2]; omega
end Go.Proofs.YtgjainmfilkjmaaGreatDoor

