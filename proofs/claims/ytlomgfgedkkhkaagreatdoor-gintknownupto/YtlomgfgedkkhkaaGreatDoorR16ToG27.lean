/- The reference's DivMod. -/
import Derived.Test.YtlomgfgedkkhkaaGreatDoorR11ToR15
import Derived.Deep.CutBlock
import Derived.Deep.DeepCutAuto
import Derived.BigQuiet
import Derived.Deep.DeepFit
import Derived.Deep.QuietTactic
import Derived.Deep.LoopGhost
import Derived.Scope
namespace Go.Proofs.YtlomgfgedkkhkaaGreatDoor
open Go.RowKit Dig
set_option maxHeartbeats 2000000 in
set_option maxRecDepth 20000 in
/-- tesselref2.Zero, of the zero value. -/
theorem rzero_any (w : World) :
    Calls Tryz.prog 60 #[.agg #[.bool false, .slice none 0 0]] w fun e w' => e = .returned (.bool true) ∧ Below w.heap.size w w' := by
  go_enter Tryz.func60, Tryz.ntmps60
  have hb := Below.refl w.heap.size w
  have hp := Bk.new w false (.slice none 0 0)
  replace hb := hb.alloc hb.size (.cells #[.bool false, (.slice none 0 0)] 26)
  have f_hp := hp.facts
  go_wp2
  go_ret
  exact ⟨rfl, hb⟩
open Go
set_option linter.unusedVariables false
section
variable {w : World} {va vb : Value} {x y u v : Int} {l m k n : Nat}
set_option maxHeartbeats 4000000 in
set_option maxRecDepth 20000 in
theorem rgSame_any (ha : PC w va x y) (hq : PN w vb x l y m) (hl : l ≤ 100000000) (hm : m ≤ 100000000) :
    Calls Tryz.prog 32 #[va, vb] w fun e w' => e = .returned (.bool true) ∧ Below w.heap.size w w' := by
  obtain ⟨n_0a, o_0a, k_0a, c_0a, n_0b, o_0b, k_0b, c_0b, rfl, ha1, ha2⟩ := ha
  obtain ⟨n_1a, o_1a, k_1a, c_1a, n_1b, o_1b, k_1b, c_1b, rfl, hq1, hq2⟩ := hq
  go_enter Tryz.func32, Tryz.ntmps32
  have hs := St.nil w
  refine wp_seq_k ?_
  intro K1 hK1
  refine rg [0, 1, 2] ?_
  refine sq ?_
  refine .al hs ?_; clear hs; intro p_b1 w_1 hs n1 kb_b1
  refine sq ?_
  refine .al hs ?_; clear hs; intro p_b2 w_2 hs n2 kb_b2
  refine sq ?_
  refine .mv ?_
  apply wpSq_end
  refine hK1 _ _ ?_
  refine wp_seq_k ?_
  intro K2 hK2
  refine rg [0, 1, 2, 3, 4, 5, 6, 7, 8, 9, 10, 11, 12] ?_
  refine sq ?_
  refine .r0 ?_
  refine sq ?_
  refine .r4 hs.g1.f4 ?_
  refine sq ?_
  refine .r0 ?_
  refine sq ?_
  refine .r4 hs.g0.f4 ?_
  refine sq ?_
  intro K hK
  have k0_2 := (kb n1).b n2
  replace ha1 := ha1.k k0_2
  replace hq1 := hq1.k k0_2
  go_big_op
  go_fit (rsame_zz ha1 hq1 (by omega) )
  rintro e w_3 ⟨rfl, hb_3⟩
  replace hs := hs.bl hb_3
  refine hK _ _ rfl trivial ?_
  clear hK K
  refine sq ?_
  refine .mv ?_
  refine sq ?_
  refine .r0 ?_
  refine sq ?_
  refine .r4 hs.g1.f4 ?_
  refine sq ?_
  refine .r0 ?_
  refine sq ?_
  refine .r4 hs.g0.f4 ?_
  refine sq ?_
  intro K hK
  have k0_3 := k0_2.b hb_3
  replace ha2 := ha2.k k0_3
  replace hq2 := hq2.k k0_3
  go_big_op
  go_fit (rsame_zz ha2 hq2 (by omega) )
  rintro e w_4 ⟨rfl, hb_4⟩
  replace hs := hs.bl hb_4
  refine hK _ _ rfl trivial ?_
  clear hK K
  refine sq ?_
  refine .r0 ?_
  refine sq ?_
  refine .mv ?_
  apply wpSq_end
  refine hK2 _ _ ?_
  refine wp_ret ?_
  try dsimp only [Exit.then, Exit.inBlock]
  refine bodyPost_ret (v := (.bool true)) (by simp [results, Tryz.results32, go_sem]) rfl ?_
  have hb := hs.b
  exact ⟨rfl, hb⟩
set_option maxHeartbeats 4000000 in
set_option maxRecDepth 20000 in
theorem gis_any (ha : PC w va x y) (hq : PN w vb x l y m) (hl : l ≤ 90000000) (hm : m ≤ 90000000) :
    Calls Tryz.prog 10 #[va, vb] w fun e w' => e = .returned (.bool true) ∧ Below w.heap.size w w' := by
  obtain ⟨n_0a, o_0a, k_0a, c_0a, n_0b, o_0b, k_0b, c_0b, rfl, ha1, ha2⟩ := ha
  obtain ⟨n_1a, o_1a, k_1a, c_1a, n_1b, o_1b, k_1b, c_1b, rfl, hq1, hq2⟩ := hq
  go_enter Tryz.func10, Tryz.ntmps10
  have hs := St.nil w
  refine wp_seq_k ?_
  intro K1 hK1
  refine rg [0, 1, 2] ?_
  refine sq ?_
  refine .al hs ?_; clear hs; intro p_b1 w_1 hs n1 kb_b1
  refine sq ?_
  refine .al hs ?_; clear hs; intro p_b2 w_2 hs n2 kb_b2
  refine sq ?_
  refine .mv ?_
  apply wpSq_end
  refine hK1 _ _ ?_
  refine wp_seq_k ?_
  intro K2 hK2
  refine rg [0, 1, 2, 3] ?_
  refine sq ?_
  refine .r4 hs.g1.f4 ?_
  refine sq ?_
  refine .r4 hs.g0.f4 ?_
  refine sq ?_
  intro K hK
  have k0_2 := (kb n1).b n2
  replace ha1 := ha1.k k0_2
  replace ha2 := ha2.k k0_2
  replace hq1 := hq1.k k0_2
  replace hq2 := hq2.k k0_2
  go_big_op
  go_fit (rgSame_any (PC.mk' ha1 ha2) (PN.mk' hq1 hq2) (by omega) (by omega) )
  rintro e w_3 ⟨rfl, hb_3⟩
  replace hs := hs.bl hb_3
  refine hK _ _ rfl trivial ?_
  clear hK K
  refine sq ?_
  refine .mv ?_
  apply wpSq_end
  refine hK2 _ _ ?_
  refine wp_ret ?_
  try dsimp only [Exit.then, Exit.inBlock]
  refine bodyPost_ret (v := (.bool true)) (by simp [results, Tryz.results10, go_sem]) rfl ?_
  have hb := hs.b
  exact ⟨rfl, hb⟩
set_option maxHeartbeats 4000000 in
set_option maxRecDepth 20000 in
theorem rgI_any (a b : Int) (w : World) (h1 : -9223372036854775808 ≤ a) (h2 : a ≤ 9223372036854775807) (h3 : -9223372036854775808 ≤ b) (h4 : b ≤ 9223372036854775807) :
    Calls Tryz.prog 30 #[.int .i64 a, .int .i64 b] w fun e w' => ∃ r, e = .returned r ∧ PC w' r a b ∧ Below w.heap.size w w' := by
  go_enter Tryz.func30, Tryz.ntmps30
  have hs := St.nil w
  refine wp_seq_k ?_
  intro K1 hK1
  refine rg [0] ?_
  refine sq ?_
  refine .al hs ?_; clear hs; intro p_b1 w_1 hs n1 kb_b1
  apply wpSq_end
  refine hK1 _ _ ?_
  refine wp_seq_k ?_
  intro K2 hK2
  refine rg [0, 1, 2, 3, 4, 5] ?_
  refine sq ?_
  refine .mv ?_
  refine sq ?_
  intro K hK
  go_big_op
  go_fit (ri_any a _ h1 h2)
  rintro e w_2 ⟨v_g1, rfl, g1, hb_2⟩
  replace hs := hs.bl hb_2
  replace g1 := g1.rd
  obtain ⟨n_g1, o_g1, k_g1, c_g1, rfl⟩ := g1.open2
  refine hK _ _ rfl trivial ?_
  clear hK K
  refine sq ?_
  refine .mv ?_
  refine sq ?_
  intro K hK
  go_big_op
  go_fit (ri_any b _ h3 h4)
  rintro e w_3 ⟨v_g2, rfl, g2, hb_3⟩
  replace hs := hs.bl hb_3
  replace g2 := g2.rd
  obtain ⟨n_g2, o_g2, k_g2, c_g2, rfl⟩ := g2.open2
  refine hK _ _ rfl trivial ?_
  clear hK K
  refine sq ?_
  refine .r0 ?_
  refine sq ?_
  refine .s4 hs.g0 (fun _ => hs.u0 kb_b1) ?_; clear hs; intro w_4 hs hd4 ho4
  apply wpSq_end
  refine hK2 _ _ ?_
  refine wp_ret ?_
  try dsimp only [Exit.then, Exit.inBlock]
  obtain ⟨r0_0, r0_1, r0_2, r0_3⟩ := hs.g0.f4
  refine bodyPost_ret (v := (.agg #[.bool n_g1, .slice o_g1 k_g1 c_g1, .bool n_g2, .slice o_g2 k_g2 c_g2])) (by simp [results, Tryz.results30, go_sem, r0_0, r0_1, r0_2, r0_3]) rfl ?_
  have k2_4 := (kb hb_3).o hd4 ho4
  replace g1 := g1.k k2_4
  have k3_4 := ko hd4 ho4
  replace g2 := g2.k k3_4
  exact ⟨_, rfl, .mk' g1 g2, hs.b⟩
set_option maxHeartbeats 4000000 in
set_option maxRecDepth 20000 in
theorem gg_any (a b : Int) (w : World) (h1 : -9223372036854775808 ≤ a) (h2 : a ≤ 9223372036854775807) (h3 : -9223372036854775808 ≤ b) (h4 : b ≤ 9223372036854775807) :
    Calls Tryz.prog 8 #[.int .i64 a, .int .i64 b] w fun e w' => ∃ r, e = .returned r ∧ PC w' r a b ∧ Below w.heap.size w w' := by
  go_enter Tryz.func8, Tryz.ntmps8
  have hs := St.nil w
  refine wp_seq_k ?_
  intro K1 hK1
  refine rg [0] ?_
  refine sq ?_
  refine .al hs ?_; clear hs; intro p_b1 w_1 hs n1 kb_b1
  apply wpSq_end
  refine hK1 _ _ ?_
  refine wp_seq_k ?_
  intro K2 hK2
  refine rg [0, 1, 2, 3] ?_
  refine sq ?_
  refine .mv ?_
  refine sq ?_
  refine .mv ?_
  refine sq ?_
  intro K hK
  go_big_op
  go_fit (rgI_any a b _ h1 h2 h3 h4)
  rintro e w_2 ⟨_, rfl, ⟨n_g1a, o_g1a, k_g1a, c_g1a, n_g1b, o_g1b, k_g1b, c_g1b, rfl, g11, g12⟩, hb_2⟩
  replace hs := hs.bl hb_2
  refine hK _ _ rfl trivial ?_
  clear hK K
  refine sq ?_
  refine .s4 hs.g0 (fun _ => hs.u0 kb_b1) ?_; clear hs; intro w_3 hs hd3 ho3
  apply wpSq_end
  refine hK2 _ _ ?_
  refine wp_ret ?_
  try dsimp only [Exit.then, Exit.inBlock]
  obtain ⟨r0_0, r0_1, r0_2, r0_3⟩ := hs.g0.f4
  refine bodyPost_ret (v := (.agg #[.bool n_g1a, .slice o_g1a k_g1a c_g1a, .bool n_g1b, .slice o_g1b k_g1b c_g1b])) (by simp [results, Tryz.results8, go_sem, r0_0, r0_1, r0_2, r0_3]) rfl ?_
  have k2_3 := ko hd3 ho3
  replace g11 := g11.k k2_3
  replace g12 := g12.k k2_3
  exact ⟨_, rfl, .mk' g11 g12, hs.b⟩
set_option maxHeartbeats 4000000 in
set_option maxRecDepth 20000 in
theorem gFrom_any (a b : Int) (w : World) (h1 : -9223372036854775808 ≤ a) (h2 : a ≤ 9223372036854775807) (h3 : -9223372036854775808 ≤ b) (h4 : b ≤ 9223372036854775807) :
    Calls Tryz.prog 25 #[.int .i64 a, .int .i64 b] w fun e w' => ∃ r, e = .returned r ∧ PC w' r a b ∧ Below w.heap.size w w' := by
  go_enter Tryz.func25, Tryz.ntmps25
  have hs := St.nil w
  refine wp_seq_k ?_
  intro K1 hK1
  refine rg [0] ?_
  refine sq ?_
  refine .al hs ?_; clear hs; intro p_b1 w_1 hs n1 kb_b1
  apply wpSq_end
  refine hK1 _ _ ?_
  refine wp_seq_k ?_
  intro K2 hK2
  refine rg [0, 1, 2, 3, 4, 5] ?_
  refine sq ?_
  refine .mv ?_
  refine sq ?_
  intro K hK
  go_big_op
  go_fit (from_any a _ h1 h2)
  rintro e w_2 ⟨v_g1, rfl, g1, hb_2⟩
  replace hs := hs.bl hb_2
  replace g1 := g1.rd
  obtain ⟨n_g1, o_g1, k_g1, c_g1, rfl⟩ := g1.open2
  refine hK _ _ rfl trivial ?_
  clear hK K
  refine sq ?_
  refine .mv ?_
  refine sq ?_
  intro K hK
  go_big_op
  go_fit (from_any b _ h3 h4)
  rintro e w_3 ⟨v_g2, rfl, g2, hb_3⟩
  replace hs := hs.bl hb_3
  replace g2 := g2.rd
  obtain ⟨n_g2, o_g2, k_g2, c_g2, rfl⟩ := g2.open2
  refine hK _ _ rfl trivial ?_
  clear hK K
  refine sq ?_
  refine .r0 ?_
  refine sq ?_
  refine .s4 hs.g0 (fun _ => hs.u0 kb_b1) ?_; clear hs; intro w_4 hs hd4 ho4
  apply wpSq_end
  refine hK2 _ _ ?_
  refine wp_ret ?_
  try dsimp only [Exit.then, Exit.inBlock]
  obtain ⟨r0_0, r0_1, r0_2, r0_3⟩ := hs.g0.f4
  refine bodyPost_ret (v := (.agg #[.bool n_g1, .slice o_g1 k_g1 c_g1, .bool n_g2, .slice o_g2 k_g2 c_g2])) (by simp [results, Tryz.results25, go_sem, r0_0, r0_1, r0_2, r0_3]) rfl ?_
  have k2_4 := (kb hb_3).o hd4 ho4
  replace g1 := g1.k k2_4
  have k3_4 := ko hd4 ho4
  replace g2 := g2.k k3_4
  exact ⟨_, rfl, .mk' g1 g2, hs.b⟩
end
/-- A whole number's text. -/
def ztx (z : Int) : List UInt8 := if z < 0 then (45 : UInt8) :: Lib.decDigits z.natAbs else Lib.decDigits z.natAbs
def zts (z : Int) : ByteArray := ⟨(ztx z).toArray⟩
theorem dec_le {z : Int} {l : Nat} (h : (dig z.natAbs).length ≤ l) : (Lib.decDigits z.natAbs).length ≤ 10 * (l + 1) :=
  dec_len' (L := l + 1) (Nat.lt_of_lt_of_le (lt_pw_dig _) (pw_mono (by omega))) (by omega)
theorem zts_size {z : Int} {l : Nat} (h : (dig z.natAbs).length ≤ l) : (zts z).size ≤ 10 * l + 11 := by
  have := dec_le h
  unfold zts ztx
  show (List.toArray _).size ≤ _
  split <;> simp <;> omega
theorem ztext_s {w : World} {v : Value} {z : Int} {l : Nat} (h : ZN w v z l) (hl : l ≤ 1000000000) (htab : Lib.TabIs Tryz.prog w p10 .u64 Lib.pow10Tab) :
    Calls Tryz.prog 45 #[v] w fun e w' => e = .returned (.string (zts z)) ∧ Below w.heap.size w w' := by
  by_cases h0 : z < 0
  · unfold zts ztx; rw [if_pos h0]
    exact ztext_neg h hl h0 (Nat.le_trans (dec_le h.len) (by omega)) htab
  · unfold zts ztx; rw [if_neg h0]
    exact ztext_pos h hl (by omega) htab
theorem dec1 (n : Nat) (h : n < 10) : Lib.decDigits n = [UInt8.ofNat (48 + n)] := by
  rw [Lib.decDigits, dif_pos h]
/-- The parts of a Gaussian integer's text. -/
def gRe (x : Int) : ByteArray := if x = 0 then ⟨#[]⟩ else zts x
def gSg (x y : Int) : ByteArray := if y < 0 then ⟨#[45]⟩ else if x = 0 then ⟨#[]⟩ else ⟨#[43]⟩
def gAm (y : Int) : ByteArray := if 1 < bitsN y.natAbs then zts (y.natAbs : Int) else ⟨#[]⟩
def gts (x y : Int) : ByteArray := if y = 0 then zts x else gRe x ++ gSg x y ++ gAm y ++ ⟨#[105]⟩
section
variable {w : World} {va vb : Value} {x y u v : Int} {l m k n : Nat}
set_option maxHeartbeats 4000000 in
set_option maxRecDepth 20000 in
theorem gText_re (ha : PN w va x l 0 m) (hl : l ≤ 10000000) (hm : m ≤ 10000000) (htab : Lib.TabIs Tryz.prog w p10 .u64 Lib.pow10Tab) :
    Calls Tryz.prog 18 #[va] w fun e w' => e = .returned (.string (zts x)) ∧ Below w.heap.size w w' := by
  have htabs := Lib.tabBelow_of_tabIs htab
  obtain ⟨S, hS⟩ : ∃ S, zts x = S := ⟨_, rfl⟩
  have HS := hide hS
  rw [hS]
  clear hS
  obtain ⟨n_0a, o_0a, k_0a, c_0a, n_0b, o_0b, k_0b, c_0b, rfl, ha1, ha2⟩ := ha
  go_enter Tryz.func18, Tryz.ntmps18
  have hs := St.nil w
  refine wp_seq_k ?_
  intro K1 hK1
  refine rg [0, 1] ?_
  refine sq ?_
  refine .al hs ?_; clear hs; intro p_b1 w_1 hs n1 kb_b1
  refine sq ?_
  refine .mv ?_
  apply wpSq_end
  refine hK1 _ _ ?_
  refine wp_seq_k ?_
  intro K2 hK2
  refine wp_seq_k ?_
  intro K3 hK3
  refine rg [0, 1, 2, 3] ?_
  refine sq ?_
  refine .r0 ?_
  refine sq ?_
  refine .r4 hs.g0.f4 ?_
  refine sq ?_
  intro K hK
  have k0_1 := kb n1
  replace ha2 := ha2.k k0_1
  go_big_op
  go_fit (zsign_any ha2 (by omega) )
  rintro e w_2 ⟨rfl, hb_2⟩
  replace hs := hs.bl hb_2
  refine hK _ _ rfl trivial ?_
  clear hK K
  refine sq ?_
  refine .r0 ?_
  apply wpSq_end
  refine hK3 _ _ ?_
  refine ct ?_
  refine wp_seq_k ?_
  intro K4 hK4
  refine rg [0, 1, 2, 3] ?_
  refine sq ?_
  refine .r0 ?_
  refine sq ?_
  refine .r4 hs.g0.f4 ?_
  refine sq ?_
  intro K hK
  have k0_2 := k0_1.b hb_2
  replace ha1 := ha1.k k0_2
  have hb := hs.b
  go_big_op
  go_fit (ztext_s ha1 (by omega) (htabs _ hb))
  rintro e w_3 ⟨rfl, hb_3⟩
  clear hb
  replace hs := hs.bl hb_3
  rw [HS.out]
  refine hK _ _ rfl trivial ?_
  clear hK K
  refine sq ?_
  refine .mv ?_
  apply wpSq_end
  refine hK4 _ _ ?_
  refine wp_ret ?_
  try dsimp only [Exit.then, Exit.inBlock]
  refine bodyPost_ret (v := (.string S)) (by simp [results, Tryz.results18, go_sem]) rfl ?_
  have hb := hs.b
  exact ⟨rfl, hb⟩
set_option maxHeartbeats 4000000 in
set_option maxRecDepth 20000 in
theorem gText_zmo {S T : ByteArray} (ha : PN w va 0 l y m) (hl : l ≤ 10000000) (hm : m ≤ 10000000) (hy : y < 0) (hA : bitsN y.natAbs ≤ 1) (hS : zts x = S) (hT : zts (y.natAbs : Int) = T) (hs : S.size ≤ 10 * l + 11) (ht : T.size ≤ 10 * m + 11) (htab : Lib.TabIs Tryz.prog w p10 .u64 Lib.pow10Tab) :
    Calls Tryz.prog 18 #[va] w fun e w' => e = .returned (.string ((⟨#[]⟩ : ByteArray) ++ ⟨#[45]⟩ ++ ⟨#[]⟩ ++ ⟨#[105]⟩)) ∧ Below w.heap.size w w' := by
  have htabs := Lib.tabBelow_of_tabIs htab
  have HS := hide hS
  have HT := hide hT
  have HY := hide (show y.sign = -1 from Int.sign_eq_neg_one_of_neg hy)
  obtain ⟨B, hB⟩ : ∃ B, bitsN y.natAbs = B := ⟨_, rfl⟩
  rw [hB] at hA
  have HB := hide hB
  clear hB hS hT hy
  obtain ⟨n_0a, o_0a, k_0a, c_0a, n_0b, o_0b, k_0b, c_0b, rfl, ha1, ha2⟩ := ha
  go_enter Tryz.func18, Tryz.ntmps18
  have hs := St.nil w
  refine wp_seq_k ?_
  intro K1 hK1
  refine rg [0, 1] ?_
  refine sq ?_
  refine .al hs ?_; clear hs; intro p_b1 w_1 hs n1 kb_b1
  refine sq ?_
  refine .mv ?_
  apply wpSq_end
  refine hK1 _ _ ?_
  refine wp_seq_k ?_
  intro K2 hK2
  refine wp_seq_k ?_
  intro K3 hK3
  refine rg [0, 1, 2, 3] ?_
  refine sq ?_
  refine .r0 ?_
  refine sq ?_
  refine .r4 hs.g0.f4 ?_
  refine sq ?_
  intro K hK
  have k0_1 := kb n1
  replace ha2 := ha2.k k0_1
  go_big_op
  go_fit (zsign_any ha2 (by omega) )
  rintro e w_2 ⟨rfl, hb_2⟩
  replace hs := hs.bl hb_2
  rw [HY.out]
  refine hK _ _ rfl trivial ?_
  clear hK K
  refine sq ?_
  refine .r0 ?_
  apply wpSq_end
  refine hK3 _ _ ?_
  refine cf ?_
  refine wp_skip ?_
  refine hK2 _ _ ?_
  refine wp_seq_k ?_
  intro K4 hK4
  refine rg [0, 1, 2] ?_
  refine sq ?_
  refine .mv ?_
  refine sq ?_
  refine .mv ?_
  refine sq ?_
  refine .mv ?_
  apply wpSq_end
  refine hK4 _ _ ?_
  refine wp_seq_k ?_
  intro K5 hK5
  refine wp_seq_k ?_
  intro K6 hK6
  refine rg [0, 1, 2, 3] ?_
  refine sq ?_
  refine .r0 ?_
  refine sq ?_
  refine .r4 hs.g0.f4 ?_
  refine sq ?_
  intro K hK
  have k0_2 := k0_1.b hb_2
  replace ha1 := ha1.k k0_2
  go_big_op
  go_fit (zsign_any ha1 (by omega) )
  rintro e w_3 ⟨rfl, hb_3⟩
  replace hs := hs.bl hb_3
  refine hK _ _ rfl trivial ?_
  clear hK K
  refine sq ?_
  refine .r0 ?_
  apply wpSq_end
  refine hK6 _ _ ?_
  refine cf ?_
  refine wp_skip ?_
  refine hK5 _ _ ?_
  refine wp_seq_k ?_
  intro K7 hK7
  refine wp_seq_k ?_
  intro K8 hK8
  refine rg [0, 1, 2, 3] ?_
  refine sq ?_
  refine .r0 ?_
  refine sq ?_
  refine .r4 hs.g0.f4 ?_
  refine sq ?_
  intro K hK
  have k1_3 := (kb hb_2).b hb_3
  replace ha2 := ha2.k k1_3
  go_big_op
  go_fit (zsign_any ha2 (by omega) )
  rintro e w_4 ⟨rfl, hb_4⟩
  replace hs := hs.bl hb_4
  rw [HY.out]
  refine hK _ _ rfl trivial ?_
  clear hK K
  refine sq ?_
  refine .r0 ?_
  apply wpSq_end
  refine hK8 _ _ ?_
  refine ct ?_
  refine rg [0] ?_
  refine sq ?_
  refine .mv ?_
  apply wpSq_end
  refine hK7 _ _ ?_
  refine wp_seq_k ?_
  intro K9 hK9
  refine wp_seq_k ?_
  intro K10 hK10
  refine rg [0, 1, 2, 3] ?_
  refine sq ?_
  refine .r0 ?_
  refine sq ?_
  refine .r4 hs.g0.f4 ?_
  refine sq ?_
  intro K hK
  have k3_4 := kb hb_4
  replace ha2 := ha2.k k3_4
  go_big_op
  go_fit (zbits_any ha2 (by omega) )
  rintro e w_5 ⟨rfl, hb_5⟩
  replace hs := hs.bl hb_5
  rw [HB.out]
  refine hK _ _ rfl trivial ?_
  clear hK K
  refine sq ?_
  refine .r0 ?_
  apply wpSq_end
  refine hK10 _ _ ?_
  refine cf ?_
  refine wp_skip ?_
  refine hK9 _ _ ?_
  refine wp_seq_k ?_
  intro K11 hK11
  refine rg [0, 1, 2, 3, 4, 5, 6] ?_
  refine sq ?_
  refine .mv ?_
  refine sq ?_
  refine .mv ?_
  refine sq ?_
  refine .r0 ?_
  refine sq ?_
  refine .mv ?_
  refine sq ?_
  refine .r0 ?_
  refine sq ?_
  refine .r0 ?_
  refine sq ?_
  refine .mv ?_
  apply wpSq_end
  refine hK11 _ _ ?_
  refine wp_ret ?_
  try dsimp only [Exit.then, Exit.inBlock]
  refine bodyPost_ret (v := (.string ((⟨#[]⟩ : ByteArray) ++ ⟨#[45]⟩ ++ ⟨#[]⟩ ++ ⟨#[105]⟩))) (by simp [results, Tryz.results18, go_sem]) rfl ?_
  have hb := hs.b
  exact ⟨rfl, hb⟩
set_option maxHeartbeats 4000000 in
set_option maxRecDepth 20000 in
theorem gText_zmb {S T : ByteArray} (ha : PN w va 0 l y m) (hl : l ≤ 10000000) (hm : m ≤ 10000000) (hy : y < 0) (hA : 1 < bitsN y.natAbs) (hS : zts x = S) (hT : zts (y.natAbs : Int) = T) (hs : S.size ≤ 10 * l + 11) (ht : T.size ≤ 10 * m + 11) (htab : Lib.TabIs Tryz.prog w p10 .u64 Lib.pow10Tab) :
    Calls Tryz.prog 18 #[va] w fun e w' => e = .returned (.string ((⟨#[]⟩ : ByteArray) ++ ⟨#[45]⟩ ++ T ++ ⟨#[105]⟩)) ∧ Below w.heap.size w w' := by
  have htabs := Lib.tabBelow_of_tabIs htab
  have HS := hide hS
  have HT := hide hT
  have HY := hide (show y.sign = -1 from Int.sign_eq_neg_one_of_neg hy)
  obtain ⟨B, hB⟩ : ∃ B, bitsN y.natAbs = B := ⟨_, rfl⟩
  rw [hB] at hA
  have HB := hide hB
  clear hB hS hT hy
  obtain ⟨n_0a, o_0a, k_0a, c_0a, n_0b, o_0b, k_0b, c_0b, rfl, ha1, ha2⟩ := ha
  go_enter Tryz.func18, Tryz.ntmps18
  have hs := St.nil w
  refine wp_seq_k ?_
  intro K1 hK1
  refine rg [0, 1] ?_
  refine sq ?_
  refine .al hs ?_; clear hs; intro p_b1 w_1 hs n1 kb_b1
  refine sq ?_
  refine .mv ?_
  apply wpSq_end
  refine hK1 _ _ ?_
  refine wp_seq_k ?_
  intro K2 hK2
  refine wp_seq_k ?_
  intro K3 hK3
  refine rg [0, 1, 2, 3] ?_
  refine sq ?_
  refine .r0 ?_
  refine sq ?_
  refine .r4 hs.g0.f4 ?_
  refine sq ?_
  intro K hK
  have k0_1 := kb n1
  replace ha2 := ha2.k k0_1
  go_big_op
  go_fit (zsign_any ha2 (by omega) )
  rintro e w_2 ⟨rfl, hb_2⟩
  replace hs := hs.bl hb_2
  rw [HY.out]
  refine hK _ _ rfl trivial ?_
  clear hK K
  refine sq ?_
  refine .r0 ?_
  apply wpSq_end
  refine hK3 _ _ ?_
  refine cf ?_
  refine wp_skip ?_
  refine hK2 _ _ ?_
  refine wp_seq_k ?_
  intro K4 hK4
  refine rg [0, 1, 2] ?_
  refine sq ?_
  refine .mv ?_
  refine sq ?_
  refine .mv ?_
  refine sq ?_
  refine .mv ?_
  apply wpSq_end
  refine hK4 _ _ ?_
  refine wp_seq_k ?_
  intro K5 hK5
  refine wp_seq_k ?_
  intro K6 hK6
  refine rg [0, 1, 2, 3] ?_
  refine sq ?_
  refine .r0 ?_
  refine sq ?_
  refine .r4 hs.g0.f4 ?_
  refine sq ?_
  intro K hK
  have k0_2 := k0_1.b hb_2
  replace ha1 := ha1.k k0_2
  go_big_op
  go_fit (zsign_any ha1 (by omega) )
  rintro e w_3 ⟨rfl, hb_3⟩
  replace hs := hs.bl hb_3
  refine hK _ _ rfl trivial ?_
  clear hK K
  refine sq ?_
  refine .r0 ?_
  apply wpSq_end
  refine hK6 _ _ ?_
  refine cf ?_
  refine wp_skip ?_
  refine hK5 _ _ ?_
  refine wp_seq_k ?_
  intro K7 hK7
  refine wp_seq_k ?_
  intro K8 hK8
  refine rg [0, 1, 2, 3] ?_
  refine sq ?_
  refine .r0 ?_
  refine sq ?_
  refine .r4 hs.g0.f4 ?_
  refine sq ?_
  intro K hK
  have k1_3 := (kb hb_2).b hb_3
  replace ha2 := ha2.k k1_3
  go_big_op
  go_fit (zsign_any ha2 (by omega) )
  rintro e w_4 ⟨rfl, hb_4⟩
  replace hs := hs.bl hb_4
  rw [HY.out]
  refine hK _ _ rfl trivial ?_
  clear hK K
  refine sq ?_
  refine .r0 ?_
  apply wpSq_end
  refine hK8 _ _ ?_
  refine ct ?_
  refine rg [0] ?_
  refine sq ?_
  refine .mv ?_
  apply wpSq_end
  refine hK7 _ _ ?_
  refine wp_seq_k ?_
  intro K9 hK9
  refine wp_seq_k ?_
  intro K10 hK10
  refine rg [0, 1, 2, 3] ?_
  refine sq ?_
  refine .r0 ?_
  refine sq ?_
  refine .r4 hs.g0.f4 ?_
  refine sq ?_
  intro K hK
  have k3_4 := kb hb_4
  replace ha2 := ha2.k k3_4
  go_big_op
  go_fit (zbits_any ha2 (by omega) )
  rintro e w_5 ⟨rfl, hb_5⟩
  replace hs := hs.bl hb_5
  rw [HB.out]
  refine hK _ _ rfl trivial ?_
  clear hK K
  refine sq ?_
  refine .r0 ?_
  apply wpSq_end
  refine hK10 _ _ ?_
  refine ct ?_
  refine rg [0, 1, 2, 3, 4] ?_
  refine sq ?_
  refine .r0 ?_
  refine sq ?_
  refine .r4 hs.g0.f4 ?_
  refine sq ?_
  intro K hK
  have k4_5 := kb hb_5
  replace ha2 := ha2.k k4_5
  go_big_op
  go_fit (zabs_any ha2 (by omega) )
  rintro e w_6 ⟨v_g, rfl, g, hb_6⟩
  replace hs := hs.bl hb_6
  replace g := g.rd
  obtain ⟨n_g, o_g, k_g, c_g, rfl⟩ := g.open2
  have Lg := hide (g.lenOf (zlen_abs (ha2.len)))
  refine hK _ _ rfl trivial ?_
  clear hK K
  refine sq ?_
  intro K hK
  have hb := hs.b
  go_big_op
  go_fit (ztext_s (g.zn Lg.out) (by omega) (htabs _ hb))
  rintro e w_7 ⟨rfl, hb_7⟩
  clear hb
  replace hs := hs.bl hb_7
  rw [HT.out]
  refine hK _ _ rfl trivial ?_
  clear hK K
  refine sq ?_
  refine .mv ?_
  apply wpSq_end
  refine hK9 _ _ ?_
  refine wp_seq_k ?_
  intro K11 hK11
  refine rg [0, 1, 2, 3, 4, 5, 6] ?_
  refine sq ?_
  refine .mv ?_
  refine sq ?_
  refine .mv ?_
  refine sq ?_
  refine .r0 ?_
  refine sq ?_
  refine .mv ?_
  refine sq ?_
  refine .r0 ?_
  refine sq ?_
  refine .r0 ?_
  refine sq ?_
  refine .mv ?_
  apply wpSq_end
  refine hK11 _ _ ?_
  refine wp_ret ?_
  try dsimp only [Exit.then, Exit.inBlock]
  refine bodyPost_ret (v := (.string ((⟨#[]⟩ : ByteArray) ++ ⟨#[45]⟩ ++ T ++ ⟨#[105]⟩))) (by simp [results, Tryz.results18, go_sem]) rfl ?_
  have hb := hs.b
  exact ⟨rfl, hb⟩
set_option maxHeartbeats 4000000 in
set_option maxRecDepth 20000 in
theorem gText_zpo {S T : ByteArray} (ha : PN w va 0 l y m) (hl : l ≤ 10000000) (hm : m ≤ 10000000) (hy : 0 < y) (hA : bitsN y.natAbs ≤ 1) (hS : zts x = S) (hT : zts (y.natAbs : Int) = T) (hs : S.size ≤ 10 * l + 11) (ht : T.size ≤ 10 * m + 11) (htab : Lib.TabIs Tryz.prog w p10 .u64 Lib.pow10Tab) :
    Calls Tryz.prog 18 #[va] w fun e w' => e = .returned (.string ((⟨#[]⟩ : ByteArray) ++ ⟨#[]⟩ ++ ⟨#[]⟩ ++ ⟨#[105]⟩)) ∧ Below w.heap.size w w' := by
  have htabs := Lib.tabBelow_of_tabIs htab
  have HS := hide hS
  have HT := hide hT
  have HY := hide (show y.sign = 1 from Int.sign_eq_one_of_pos hy)
  obtain ⟨B, hB⟩ : ∃ B, bitsN y.natAbs = B := ⟨_, rfl⟩
  rw [hB] at hA
  have HB := hide hB
  clear hB hS hT hy
  obtain ⟨n_0a, o_0a, k_0a, c_0a, n_0b, o_0b, k_0b, c_0b, rfl, ha1, ha2⟩ := ha
  go_enter Tryz.func18, Tryz.ntmps18
  have hs := St.nil w
  refine wp_seq_k ?_
  intro K1 hK1
  refine rg [0, 1] ?_
  refine sq ?_
  refine .al hs ?_; clear hs; intro p_b1 w_1 hs n1 kb_b1
  refine sq ?_
  refine .mv ?_
  apply wpSq_end
  refine hK1 _ _ ?_
  refine wp_seq_k ?_
  intro K2 hK2
  refine wp_seq_k ?_
  intro K3 hK3
  refine rg [0, 1, 2, 3] ?_
  refine sq ?_
  refine .r0 ?_
  refine sq ?_
  refine .r4 hs.g0.f4 ?_
  refine sq ?_
  intro K hK
  have k0_1 := kb n1
  replace ha2 := ha2.k k0_1
  go_big_op
  go_fit (zsign_any ha2 (by omega) )
  rintro e w_2 ⟨rfl, hb_2⟩
  replace hs := hs.bl hb_2
  rw [HY.out]
  refine hK _ _ rfl trivial ?_
  clear hK K
  refine sq ?_
  refine .r0 ?_
  apply wpSq_end
  refine hK3 _ _ ?_
  refine cf ?_
  refine wp_skip ?_
  refine hK2 _ _ ?_
  refine wp_seq_k ?_
  intro K4 hK4
  refine rg [0, 1, 2] ?_
  refine sq ?_
  refine .mv ?_
  refine sq ?_
  refine .mv ?_
  refine sq ?_
  refine .mv ?_
  apply wpSq_end
  refine hK4 _ _ ?_
  refine wp_seq_k ?_
  intro K5 hK5
  refine wp_seq_k ?_
  intro K6 hK6
  refine rg [0, 1, 2, 3] ?_
  refine sq ?_
  refine .r0 ?_
  refine sq ?_
  refine .r4 hs.g0.f4 ?_
  refine sq ?_
  intro K hK
  have k0_2 := k0_1.b hb_2
  replace ha1 := ha1.k k0_2
  go_big_op
  go_fit (zsign_any ha1 (by omega) )
  rintro e w_3 ⟨rfl, hb_3⟩
  replace hs := hs.bl hb_3
  refine hK _ _ rfl trivial ?_
  clear hK K
  refine sq ?_
  refine .r0 ?_
  apply wpSq_end
  refine hK6 _ _ ?_
  refine cf ?_
  refine wp_skip ?_
  refine hK5 _ _ ?_
  refine wp_seq_k ?_
  intro K7 hK7
  refine wp_seq_k ?_
  intro K8 hK8
  refine rg [0, 1, 2, 3] ?_
  refine sq ?_
  refine .r0 ?_
  refine sq ?_
  refine .r4 hs.g0.f4 ?_
  refine sq ?_
  intro K hK
  have k1_3 := (kb hb_2).b hb_3
  replace ha2 := ha2.k k1_3
  go_big_op
  go_fit (zsign_any ha2 (by omega) )
  rintro e w_4 ⟨rfl, hb_4⟩
  replace hs := hs.bl hb_4
  rw [HY.out]
  refine hK _ _ rfl trivial ?_
  clear hK K
  refine sq ?_
  refine .r0 ?_
  apply wpSq_end
  refine hK8 _ _ ?_
  refine cf ?_
  refine wp_skip ?_
  refine hK7 _ _ ?_
  refine wp_seq_k ?_
  intro K9 hK9
  refine wp_seq_k ?_
  intro K10 hK10
  refine rg [0, 1, 2, 3] ?_
  refine sq ?_
  refine .r0 ?_
  refine sq ?_
  refine .r4 hs.g0.f4 ?_
  refine sq ?_
  intro K hK
  have k3_4 := kb hb_4
  replace ha2 := ha2.k k3_4
  go_big_op
  go_fit (zbits_any ha2 (by omega) )
  rintro e w_5 ⟨rfl, hb_5⟩
  replace hs := hs.bl hb_5
  rw [HB.out]
  refine hK _ _ rfl trivial ?_
  clear hK K
  refine sq ?_
  refine .r0 ?_
  apply wpSq_end
  refine hK10 _ _ ?_
  refine cf ?_
  refine wp_skip ?_
  refine hK9 _ _ ?_
  refine wp_seq_k ?_
  intro K11 hK11
  refine rg [0, 1, 2, 3, 4, 5, 6] ?_
  refine sq ?_
  refine .mv ?_
  refine sq ?_
  refine .mv ?_
  refine sq ?_
  refine .r0 ?_
  refine sq ?_
  refine .mv ?_
  refine sq ?_
  refine .r0 ?_
  refine sq ?_
  refine .r0 ?_
  refine sq ?_
  refine .mv ?_
  apply wpSq_end
  refine hK11 _ _ ?_
  refine wp_ret ?_
  try dsimp only [Exit.then, Exit.inBlock]
  refine bodyPost_ret (v := (.string ((⟨#[]⟩ : ByteArray) ++ ⟨#[]⟩ ++ ⟨#[]⟩ ++ ⟨#[105]⟩))) (by simp [results, Tryz.results18, go_sem]) rfl ?_
  have hb := hs.b
  exact ⟨rfl, hb⟩
set_option maxHeartbeats 4000000 in
set_option maxRecDepth 20000 in
theorem gText_zpb {S T : ByteArray} (ha : PN w va 0 l y m) (hl : l ≤ 10000000) (hm : m ≤ 10000000) (hy : 0 < y) (hA : 1 < bitsN y.natAbs) (hS : zts x = S) (hT : zts (y.natAbs : Int) = T) (hs : S.size ≤ 10 * l + 11) (ht : T.size ≤ 10 * m + 11) (htab : Lib.TabIs Tryz.prog w p10 .u64 Lib.pow10Tab) :
    Calls Tryz.prog 18 #[va] w fun e w' => e = .returned (.string ((⟨#[]⟩ : ByteArray) ++ ⟨#[]⟩ ++ T ++ ⟨#[105]⟩)) ∧ Below w.heap.size w w' := by
  have htabs := Lib.tabBelow_of_tabIs htab
  have HS := hide hS
  have HT := hide hT
  have HY := hide (show y.sign = 1 from Int.sign_eq_one_of_pos hy)
  obtain ⟨B, hB⟩ : ∃ B, bitsN y.natAbs = B := ⟨_, rfl⟩
  rw [hB] at hA
  have HB := hide hB
  clear hB hS hT hy
  obtain ⟨n_0a, o_0a, k_0a, c_0a, n_0b, o_0b, k_0b, c_0b, rfl, ha1, ha2⟩ := ha
  go_enter Tryz.func18, Tryz.ntmps18
  have hs := St.nil w
  refine wp_seq_k ?_
  intro K1 hK1
  refine rg [0, 1] ?_
  refine sq ?_
  refine .al hs ?_; clear hs; intro p_b1 w_1 hs n1 kb_b1
  refine sq ?_
  refine .mv ?_
  apply wpSq_end
  refine hK1 _ _ ?_
  refine wp_seq_k ?_
  intro K2 hK2
  refine wp_seq_k ?_
  intro K3 hK3
  refine rg [0, 1, 2, 3] ?_
  refine sq ?_
  refine .r0 ?_
  refine sq ?_
  refine .r4 hs.g0.f4 ?_
  refine sq ?_
  intro K hK
  have k0_1 := kb n1
  replace ha2 := ha2.k k0_1
  go_big_op
  go_fit (zsign_any ha2 (by omega) )
  rintro e w_2 ⟨rfl, hb_2⟩
  replace hs := hs.bl hb_2
  rw [HY.out]
  refine hK _ _ rfl trivial ?_
  clear hK K
  refine sq ?_
  refine .r0 ?_
  apply wpSq_end
  refine hK3 _ _ ?_
  refine cf ?_
  refine wp_skip ?_
  refine hK2 _ _ ?_
  refine wp_seq_k ?_
  intro K4 hK4
  refine rg [0, 1, 2] ?_
  refine sq ?_
  refine .mv ?_
  refine sq ?_
  refine .mv ?_
  refine sq ?_
  refine .mv ?_
  apply wpSq_end
  refine hK4 _ _ ?_
  refine wp_seq_k ?_
  intro K5 hK5
  refine wp_seq_k ?_
  intro K6 hK6
  refine rg [0, 1, 2, 3] ?_
  refine sq ?_
  refine .r0 ?_
  refine sq ?_
  refine .r4 hs.g0.f4 ?_
  refine sq ?_
  intro K hK
  have k0_2 := k0_1.b hb_2
  replace ha1 := ha1.k k0_2
  go_big_op
  go_fit (zsign_any ha1 (by omega) )
  rintro e w_3 ⟨rfl, hb_3⟩
  replace hs := hs.bl hb_3
  refine hK _ _ rfl trivial ?_
  clear hK K
  refine sq ?_
  refine .r0 ?_
  apply wpSq_end
  refine hK6 _ _ ?_
  refine cf ?_
  refine wp_skip ?_
  refine hK5 _ _ ?_
  refine wp_seq_k ?_
  intro K7 hK7
  refine wp_seq_k ?_
  intro K8 hK8
  refine rg [0, 1, 2, 3] ?_
  refine sq ?_
  refine .r0 ?_
  refine sq ?_
  refine .r4 hs.g0.f4 ?_
  refine sq ?_
  intro K hK
  have k1_3 := (kb hb_2).b hb_3
  replace ha2 := ha2.k k1_3
  go_big_op
  go_fit (zsign_any ha2 (by omega) )
  rintro e w_4 ⟨rfl, hb_4⟩
  replace hs := hs.bl hb_4
  rw [HY.out]
  refine hK _ _ rfl trivial ?_
  clear hK K
  refine sq ?_
  refine .r0 ?_
  apply wpSq_end
  refine hK8 _ _ ?_
  refine cf ?_
  refine wp_skip ?_
  refine hK7 _ _ ?_
  refine wp_seq_k ?_
  intro K9 hK9
  refine wp_seq_k ?_
  intro K10 hK10
  refine rg [0, 1, 2, 3] ?_
  refine sq ?_
  refine .r0 ?_
  refine sq ?_
  refine .r4 hs.g0.f4 ?_
  refine sq ?_
  intro K hK
  have k3_4 := kb hb_4
  replace ha2 := ha2.k k3_4
  go_big_op
  go_fit (zbits_any ha2 (by omega) )
  rintro e w_5 ⟨rfl, hb_5⟩
  replace hs := hs.bl hb_5
  rw [HB.out]
  refine hK _ _ rfl trivial ?_
  clear hK K
  refine sq ?_
  refine .r0 ?_
  apply wpSq_end
  refine hK10 _ _ ?_
  refine ct ?_
  refine rg [0, 1, 2, 3, 4] ?_
  refine sq ?_
  refine .r0 ?_
  refine sq ?_
  refine .r4 hs.g0.f4 ?_
  refine sq ?_
  intro K hK
  have k4_5 := kb hb_5
  replace ha2 := ha2.k k4_5
  go_big_op
  go_fit (zabs_any ha2 (by omega) )
  rintro e w_6 ⟨v_g, rfl, g, hb_6⟩
  replace hs := hs.bl hb_6
  replace g := g.rd
  obtain ⟨n_g, o_g, k_g, c_g, rfl⟩ := g.open2
  have Lg := hide (g.lenOf (zlen_abs (ha2.len)))
  refine hK _ _ rfl trivial ?_
  clear hK K
  refine sq ?_
  intro K hK
  have hb := hs.b
  go_big_op
  go_fit (ztext_s (g.zn Lg.out) (by omega) (htabs _ hb))
  rintro e w_7 ⟨rfl, hb_7⟩
  clear hb
  replace hs := hs.bl hb_7
  rw [HT.out]
  refine hK _ _ rfl trivial ?_
  clear hK K
  refine sq ?_
  refine .mv ?_
  apply wpSq_end
  refine hK9 _ _ ?_
  refine wp_seq_k ?_
  intro K11 hK11
  refine rg [0, 1, 2, 3, 4, 5, 6] ?_
  refine sq ?_
  refine .mv ?_
  refine sq ?_
  refine .mv ?_
  refine sq ?_
  refine .r0 ?_
  refine sq ?_
  refine .mv ?_
  refine sq ?_
  refine .r0 ?_
  refine sq ?_
  refine .r0 ?_
  refine sq ?_
  refine .mv ?_
  apply wpSq_end
  refine hK11 _ _ ?_
  refine wp_ret ?_
  try dsimp only [Exit.then, Exit.inBlock]
  refine bodyPost_ret (v := (.string ((⟨#[]⟩ : ByteArray) ++ ⟨#[]⟩ ++ T ++ ⟨#[105]⟩))) (by simp [results, Tryz.results18, go_sem]) rfl ?_
  have hb := hs.b
  exact ⟨rfl, hb⟩
set_option maxHeartbeats 4000000 in
set_option maxRecDepth 20000 in
theorem gText_nmo {S T : ByteArray} (ha : PN w va x l y m) (hl : l ≤ 10000000) (hm : m ≤ 10000000) (hx : x ≠ 0) (hy : y < 0) (hA : bitsN y.natAbs ≤ 1) (hS : zts x = S) (hT : zts (y.natAbs : Int) = T) (hs : S.size ≤ 10 * l + 11) (ht : T.size ≤ 10 * m + 11) (htab : Lib.TabIs Tryz.prog w p10 .u64 Lib.pow10Tab) :
    Calls Tryz.prog 18 #[va] w fun e w' => e = .returned (.string (S ++ ⟨#[45]⟩ ++ ⟨#[]⟩ ++ ⟨#[105]⟩)) ∧ Below w.heap.size w w' := by
  have htabs := Lib.tabBelow_of_tabIs htab
  have HS := hide hS
  have HT := hide hT
  have HY := hide (show y.sign = -1 from Int.sign_eq_neg_one_of_neg hy)
  have hx0 : (x.sign == 0) = false := by simpa using hx
  obtain ⟨G, hG⟩ : ∃ G, x.sign = G := ⟨_, rfl⟩
  rw [hG] at hx0
  have HG := hide hG
  clear hx hG
  obtain ⟨B, hB⟩ : ∃ B, bitsN y.natAbs = B := ⟨_, rfl⟩
  rw [hB] at hA
  have HB := hide hB
  clear hB hS hT hy
  obtain ⟨n_0a, o_0a, k_0a, c_0a, n_0b, o_0b, k_0b, c_0b, rfl, ha1, ha2⟩ := ha
  go_enter Tryz.func18, Tryz.ntmps18
  have hs := St.nil w
  refine wp_seq_k ?_
  intro K1 hK1
  refine rg [0, 1] ?_
  refine sq ?_
  refine .al hs ?_; clear hs; intro p_b1 w_1 hs n1 kb_b1
  refine sq ?_
  refine .mv ?_
  apply wpSq_end
  refine hK1 _ _ ?_
  refine wp_seq_k ?_
  intro K2 hK2
  refine wp_seq_k ?_
  intro K3 hK3
  refine rg [0, 1, 2, 3] ?_
  refine sq ?_
  refine .r0 ?_
  refine sq ?_
  refine .r4 hs.g0.f4 ?_
  refine sq ?_
  intro K hK
  have k0_1 := kb n1
  replace ha2 := ha2.k k0_1
  go_big_op
  go_fit (zsign_any ha2 (by omega) )
  rintro e w_2 ⟨rfl, hb_2⟩
  replace hs := hs.bl hb_2
  rw [HY.out]
  refine hK _ _ rfl trivial ?_
  clear hK K
  refine sq ?_
  refine .r0 ?_
  apply wpSq_end
  refine hK3 _ _ ?_
  refine cf ?_
  refine wp_skip ?_
  refine hK2 _ _ ?_
  refine wp_seq_k ?_
  intro K4 hK4
  refine rg [0, 1, 2] ?_
  refine sq ?_
  refine .mv ?_
  refine sq ?_
  refine .mv ?_
  refine sq ?_
  refine .mv ?_
  apply wpSq_end
  refine hK4 _ _ ?_
  refine wp_seq_k ?_
  intro K5 hK5
  refine wp_seq_k ?_
  intro K6 hK6
  refine rg [0, 1, 2, 3] ?_
  refine sq ?_
  refine .r0 ?_
  refine sq ?_
  refine .r4 hs.g0.f4 ?_
  refine sq ?_
  intro K hK
  have k0_2 := k0_1.b hb_2
  replace ha1 := ha1.k k0_2
  go_big_op
  go_fit (zsign_any ha1 (by omega) )
  rintro e w_3 ⟨rfl, hb_3⟩
  replace hs := hs.bl hb_3
  rw [HG.out]
  refine hK _ _ rfl trivial ?_
  clear hK K
  refine sq ?_
  refine .r0 ?_
  apply wpSq_end
  refine hK6 _ _ ?_
  refine wp_cond_true (congrArg Value.bool (show _ = true from (by simpa using hx0))) ?_
  refine rg [0, 1, 2, 3, 4] ?_
  refine sq ?_
  refine .r0 ?_
  refine sq ?_
  refine .r4 hs.g0.f4 ?_
  refine sq ?_
  intro K hK
  have k2_3 := kb hb_3
  replace ha1 := ha1.k k2_3
  have hb := hs.b
  go_big_op
  go_fit (ztext_s ha1 (by omega) (htabs _ hb))
  rintro e w_4 ⟨rfl, hb_4⟩
  clear hb
  replace hs := hs.bl hb_4
  rw [HS.out]
  refine hK _ _ rfl trivial ?_
  clear hK K
  refine sq ?_
  refine .mv ?_
  refine sq ?_
  refine .mv ?_
  apply wpSq_end
  refine hK5 _ _ ?_
  refine wp_seq_k ?_
  intro K7 hK7
  refine wp_seq_k ?_
  intro K8 hK8
  refine rg [0, 1, 2, 3] ?_
  refine sq ?_
  refine .r0 ?_
  refine sq ?_
  refine .r4 hs.g0.f4 ?_
  refine sq ?_
  intro K hK
  have k1_4 := ((kb hb_2).b hb_3).b hb_4
  replace ha2 := ha2.k k1_4
  go_big_op
  go_fit (zsign_any ha2 (by omega) )
  rintro e w_5 ⟨rfl, hb_5⟩
  replace hs := hs.bl hb_5
  rw [HY.out]
  refine hK _ _ rfl trivial ?_
  clear hK K
  refine sq ?_
  refine .r0 ?_
  apply wpSq_end
  refine hK8 _ _ ?_
  refine ct ?_
  refine rg [0] ?_
  refine sq ?_
  refine .mv ?_
  apply wpSq_end
  refine hK7 _ _ ?_
  refine wp_seq_k ?_
  intro K9 hK9
  refine wp_seq_k ?_
  intro K10 hK10
  refine rg [0, 1, 2, 3] ?_
  refine sq ?_
  refine .r0 ?_
  refine sq ?_
  refine .r4 hs.g0.f4 ?_
  refine sq ?_
  intro K hK
  have k4_5 := kb hb_5
  replace ha2 := ha2.k k4_5
  go_big_op
  go_fit (zbits_any ha2 (by omega) )
  rintro e w_6 ⟨rfl, hb_6⟩
  replace hs := hs.bl hb_6
  rw [HB.out]
  refine hK _ _ rfl trivial ?_
  clear hK K
  refine sq ?_
  refine .r0 ?_
  apply wpSq_end
  refine hK10 _ _ ?_
  refine cf ?_
  refine wp_skip ?_
  refine hK9 _ _ ?_
  refine wp_seq_k ?_
  intro K11 hK11
  refine rg [0, 1, 2, 3, 4, 5, 6] ?_
  refine sq ?_
  refine .mv ?_
  refine sq ?_
  refine .mv ?_
  refine sq ?_
  refine .r0 ?_
  refine sq ?_
  refine .mv ?_
  refine sq ?_
  refine .r0 ?_
  refine sq ?_
  refine .r0 ?_
  refine sq ?_
  refine .mv ?_
  apply wpSq_end
  refine hK11 _ _ ?_
  refine wp_ret ?_
  try dsimp only [Exit.then, Exit.inBlock]
  refine bodyPost_ret (v := (.string (S ++ ⟨#[45]⟩ ++ ⟨#[]⟩ ++ ⟨#[105]⟩))) (by simp [results, Tryz.results18, go_sem]) rfl ?_
  have hb := hs.b
  exact ⟨rfl, hb⟩
set_option maxHeartbeats 4000000 in
set_option maxRecDepth 20000 in
theorem gText_nmb {S T : ByteArray} (ha : PN w va x l y m) (hl : l ≤ 10000000) (hm : m ≤ 10000000) (hx : x ≠ 0) (hy : y < 0) (hA : 1 < bitsN y.natAbs) (hS : zts x = S) (hT : zts (y.natAbs : Int) = T) (hs : S.size ≤ 10 * l + 11) (ht : T.size ≤ 10 * m + 11) (htab : Lib.TabIs Tryz.prog w p10 .u64 Lib.pow10Tab) :
    Calls Tryz.prog 18 #[va] w fun e w' => e = .returned (.string (S ++ ⟨#[45]⟩ ++ T ++ ⟨#[105]⟩)) ∧ Below w.heap.size w w' := by
  have htabs := Lib.tabBelow_of_tabIs htab
  have HS := hide hS
  have HT := hide hT
  have HY := hide (show y.sign = -1 from Int.sign_eq_neg_one_of_neg hy)
  have hx0 : (x.sign == 0) = false := by simpa using hx
  obtain ⟨G, hG⟩ : ∃ G, x.sign = G := ⟨_, rfl⟩
  rw [hG] at hx0
  have HG := hide hG
  clear hx hG
  obtain ⟨B, hB⟩ : ∃ B, bitsN y.natAbs = B := ⟨_, rfl⟩
  rw [hB] at hA
  have HB := hide hB
  clear hB hS hT hy
  obtain ⟨n_0a, o_0a, k_0a, c_0a, n_0b, o_0b, k_0b, c_0b, rfl, ha1, ha2⟩ := ha
  go_enter Tryz.func18, Tryz.ntmps18
  have hs := St.nil w
  refine wp_seq_k ?_
  intro K1 hK1
  refine rg [0, 1] ?_
  refine sq ?_
  refine .al hs ?_; clear hs; intro p_b1 w_1 hs n1 kb_b1
  refine sq ?_
  refine .mv ?_
  apply wpSq_end
  refine hK1 _ _ ?_
  refine wp_seq_k ?_
  intro K2 hK2
  refine wp_seq_k ?_
  intro K3 hK3
  refine rg [0, 1, 2, 3] ?_
  refine sq ?_
  refine .r0 ?_
  refine sq ?_
  refine .r4 hs.g0.f4 ?_
  refine sq ?_
  intro K hK
  have k0_1 := kb n1
  replace ha2 := ha2.k k0_1
  go_big_op
  go_fit (zsign_any ha2 (by omega) )
  rintro e w_2 ⟨rfl, hb_2⟩
  replace hs := hs.bl hb_2
  rw [HY.out]
  refine hK _ _ rfl trivial ?_
  clear hK K
  refine sq ?_
  refine .r0 ?_
  apply wpSq_end
  refine hK3 _ _ ?_
  refine cf ?_
  refine wp_skip ?_
  refine hK2 _ _ ?_
  refine wp_seq_k ?_
  intro K4 hK4
  refine rg [0, 1, 2] ?_
  refine sq ?_
  refine .mv ?_
  refine sq ?_
  refine .mv ?_
  refine sq ?_
  refine .mv ?_
  apply wpSq_end
  refine hK4 _ _ ?_
  refine wp_seq_k ?_
  intro K5 hK5
  refine wp_seq_k ?_
  intro K6 hK6
  refine rg [0, 1, 2, 3] ?_
  refine sq ?_
  refine .r0 ?_
  refine sq ?_
  refine .r4 hs.g0.f4 ?_
  refine sq ?_
  intro K hK
  have k0_2 := k0_1.b hb_2
  replace ha1 := ha1.k k0_2
  go_big_op
  go_fit (zsign_any ha1 (by omega) )
  rintro e w_3 ⟨rfl, hb_3⟩
  replace hs := hs.bl hb_3
  rw [HG.out]
  refine hK _ _ rfl trivial ?_
  clear hK K
  refine sq ?_
  refine .r0 ?_
  apply wpSq_end
  refine hK6 _ _ ?_
  refine wp_cond_true (congrArg Value.bool (show _ = true from (by simpa using hx0))) ?_
  refine rg [0, 1, 2, 3, 4] ?_
  refine sq ?_
  refine .r0 ?_
  refine sq ?_
  refine .r4 hs.g0.f4 ?_
  refine sq ?_
  intro K hK
  have k2_3 := kb hb_3
  replace ha1 := ha1.k k2_3
  have hb := hs.b
  go_big_op
  go_fit (ztext_s ha1 (by omega) (htabs _ hb))
  rintro e w_4 ⟨rfl, hb_4⟩
  clear hb
  replace hs := hs.bl hb_4
  rw [HS.out]
  refine hK _ _ rfl trivial ?_
  clear hK K
  refine sq ?_
  refine .mv ?_
  refine sq ?_
  refine .mv ?_
  apply wpSq_end
  refine hK5 _ _ ?_
  refine wp_seq_k ?_
  intro K7 hK7
  refine wp_seq_k ?_
  intro K8 hK8
  refine rg [0, 1, 2, 3] ?_
  refine sq ?_
  refine .r0 ?_
  refine sq ?_
  refine .r4 hs.g0.f4 ?_
  refine sq ?_
  intro K hK
  have k1_4 := ((kb hb_2).b hb_3).b hb_4
  replace ha2 := ha2.k k1_4
  go_big_op
  go_fit (zsign_any ha2 (by omega) )
  rintro e w_5 ⟨rfl, hb_5⟩
  replace hs := hs.bl hb_5
  rw [HY.out]
  refine hK _ _ rfl trivial ?_
  clear hK K
  refine sq ?_
  refine .r0 ?_
  apply wpSq_end
  refine hK8 _ _ ?_
  refine ct ?_
  refine rg [0] ?_
  refine sq ?_
  refine .mv ?_
  apply wpSq_end
  refine hK7 _ _ ?_
  refine wp_seq_k ?_
  intro K9 hK9
  refine wp_seq_k ?_
  intro K10 hK10
  refine rg [0, 1, 2, 3] ?_
  refine sq ?_
  refine .r0 ?_
  refine sq ?_
  refine .r4 hs.g0.f4 ?_
  refine sq ?_
  intro K hK
  have k4_5 := kb hb_5
  replace ha2 := ha2.k k4_5
  go_big_op
  go_fit (zbits_any ha2 (by omega) )
  rintro e w_6 ⟨rfl, hb_6⟩
  replace hs := hs.bl hb_6
  rw [HB.out]
  refine hK _ _ rfl trivial ?_
  clear hK K
  refine sq ?_
  refine .r0 ?_
  apply wpSq_end
  refine hK10 _ _ ?_
  refine ct ?_
  refine rg [0, 1, 2, 3, 4] ?_
  refine sq ?_
  refine .r0 ?_
  refine sq ?_
  refine .r4 hs.g0.f4 ?_
  refine sq ?_
  intro K hK
  have k5_6 := kb hb_6
  replace ha2 := ha2.k k5_6
  go_big_op
  go_fit (zabs_any ha2 (by omega) )
  rintro e w_7 ⟨v_g, rfl, g, hb_7⟩
  replace hs := hs.bl hb_7
  replace g := g.rd
  obtain ⟨n_g, o_g, k_g, c_g, rfl⟩ := g.open2
  have Lg := hide (g.lenOf (zlen_abs (ha2.len)))
  refine hK _ _ rfl trivial ?_
  clear hK K
  refine sq ?_
  intro K hK
  have hb := hs.b
  go_big_op
  go_fit (ztext_s (g.zn Lg.out) (by omega) (htabs _ hb))
  rintro e w_8 ⟨rfl, hb_8⟩
  clear hb
  replace hs := hs.bl hb_8
  rw [HT.out]
  refine hK _ _ rfl trivial ?_
  clear hK K
  refine sq ?_
  refine .mv ?_
  apply wpSq_end
  refine hK9 _ _ ?_
  refine wp_seq_k ?_
  intro K11 hK11
  refine rg [0, 1, 2, 3, 4, 5, 6] ?_
  refine sq ?_
  refine .mv ?_
  refine sq ?_
  refine .mv ?_
  refine sq ?_
  refine .r0 ?_
  refine sq ?_
  refine .mv ?_
  refine sq ?_
  refine .r0 ?_
  refine sq ?_
  refine .r0 ?_
  refine sq ?_
  refine .mv ?_
  apply wpSq_end
  refine hK11 _ _ ?_
  refine wp_ret ?_
  try dsimp only [Exit.then, Exit.inBlock]
  refine bodyPost_ret (v := (.string (S ++ ⟨#[45]⟩ ++ T ++ ⟨#[105]⟩))) (by simp [results, Tryz.results18, go_sem]) rfl ?_
  have hb := hs.b
  exact ⟨rfl, hb⟩
set_option maxHeartbeats 4000000 in
set_option maxRecDepth 20000 in
theorem gText_npo {S T : ByteArray} (ha : PN w va x l y m) (hl : l ≤ 10000000) (hm : m ≤ 10000000) (hx : x ≠ 0) (hy : 0 < y) (hA : bitsN y.natAbs ≤ 1) (hS : zts x = S) (hT : zts (y.natAbs : Int) = T) (hs : S.size ≤ 10 * l + 11) (ht : T.size ≤ 10 * m + 11) (htab : Lib.TabIs Tryz.prog w p10 .u64 Lib.pow10Tab) :
    Calls Tryz.prog 18 #[va] w fun e w' => e = .returned (.string (S ++ ⟨#[43]⟩ ++ ⟨#[]⟩ ++ ⟨#[105]⟩)) ∧ Below w.heap.size w w' := by
  have htabs := Lib.tabBelow_of_tabIs htab
  have HS := hide hS
  have HT := hide hT
  have HY := hide (show y.sign = 1 from Int.sign_eq_one_of_pos hy)
  have hx0 : (x.sign == 0) = false := by simpa using hx
  obtain ⟨G, hG⟩ : ∃ G, x.sign = G := ⟨_, rfl⟩
  rw [hG] at hx0
  have HG := hide hG
  clear hx hG
  obtain ⟨B, hB⟩ : ∃ B, bitsN y.natAbs = B := ⟨_, rfl⟩
  rw [hB] at hA
  have HB := hide hB
  clear hB hS hT hy
  obtain ⟨n_0a, o_0a, k_0a, c_0a, n_0b, o_0b, k_0b, c_0b, rfl, ha1, ha2⟩ := ha
  go_enter Tryz.func18, Tryz.ntmps18
  have hs := St.nil w
  refine wp_seq_k ?_
  intro K1 hK1
  refine rg [0, 1] ?_
  refine sq ?_
  refine .al hs ?_; clear hs; intro p_b1 w_1 hs n1 kb_b1
  refine sq ?_
  refine .mv ?_
  apply wpSq_end
  refine hK1 _ _ ?_
  refine wp_seq_k ?_
  intro K2 hK2
  refine wp_seq_k ?_
  intro K3 hK3
  refine rg [0, 1, 2, 3] ?_
  refine sq ?_
  refine .r0 ?_
  refine sq ?_
  refine .r4 hs.g0.f4 ?_
  refine sq ?_
  intro K hK
  have k0_1 := kb n1
  replace ha2 := ha2.k k0_1
  go_big_op
  go_fit (zsign_any ha2 (by omega) )
  rintro e w_2 ⟨rfl, hb_2⟩
  replace hs := hs.bl hb_2
  rw [HY.out]
  refine hK _ _ rfl trivial ?_
  clear hK K
  refine sq ?_
  refine .r0 ?_
  apply wpSq_end
  refine hK3 _ _ ?_
  refine cf ?_
  refine wp_skip ?_
  refine hK2 _ _ ?_
  refine wp_seq_k ?_
  intro K4 hK4
  refine rg [0, 1, 2] ?_
  refine sq ?_
  refine .mv ?_
  refine sq ?_
  refine .mv ?_
  refine sq ?_
  refine .mv ?_
  apply wpSq_end
  refine hK4 _ _ ?_
  refine wp_seq_k ?_
  intro K5 hK5
  refine wp_seq_k ?_
  intro K6 hK6
  refine rg [0, 1, 2, 3] ?_
  refine sq ?_
  refine .r0 ?_
  refine sq ?_
  refine .r4 hs.g0.f4 ?_
  refine sq ?_
  intro K hK
  have k0_2 := k0_1.b hb_2
  replace ha1 := ha1.k k0_2
  go_big_op
  go_fit (zsign_any ha1 (by omega) )
  rintro e w_3 ⟨rfl, hb_3⟩
  replace hs := hs.bl hb_3
  rw [HG.out]
  refine hK _ _ rfl trivial ?_
  clear hK K
  refine sq ?_
  refine .r0 ?_
  apply wpSq_end
  refine hK6 _ _ ?_
  refine wp_cond_true (congrArg Value.bool (show _ = true from (by simpa using hx0))) ?_
  refine rg [0, 1, 2, 3, 4] ?_
  refine sq ?_
  refine .r0 ?_
  refine sq ?_
  refine .r4 hs.g0.f4 ?_
  refine sq ?_
  intro K hK
  have k2_3 := kb hb_3
  replace ha1 := ha1.k k2_3
  have hb := hs.b
  go_big_op
  go_fit (ztext_s ha1 (by omega) (htabs _ hb))
  rintro e w_4 ⟨rfl, hb_4⟩
  clear hb
  replace hs := hs.bl hb_4
  rw [HS.out]
  refine hK _ _ rfl trivial ?_
  clear hK K
  refine sq ?_
  refine .mv ?_
  refine sq ?_
  refine .mv ?_
  apply wpSq_end
  refine hK5 _ _ ?_
  refine wp_seq_k ?_
  intro K7 hK7
  refine wp_seq_k ?_
  intro K8 hK8
  refine rg [0, 1, 2, 3] ?_
  refine sq ?_
  refine .r0 ?_
  refine sq ?_
  refine .r4 hs.g0.f4 ?_
  refine sq ?_
  intro K hK
  have k1_4 := ((kb hb_2).b hb_3).b hb_4
  replace ha2 := ha2.k k1_4
  go_big_op
  go_fit (zsign_any ha2 (by omega) )
  rintro e w_5 ⟨rfl, hb_5⟩
  replace hs := hs.bl hb_5
  rw [HY.out]
  refine hK _ _ rfl trivial ?_
  clear hK K
  refine sq ?_
  refine .r0 ?_
  apply wpSq_end
  refine hK8 _ _ ?_
  refine cf ?_
  refine wp_skip ?_
  refine hK7 _ _ ?_
  refine wp_seq_k ?_
  intro K9 hK9
  refine wp_seq_k ?_
  intro K10 hK10
  refine rg [0, 1, 2, 3] ?_
  refine sq ?_
  refine .r0 ?_
  refine sq ?_
  refine .r4 hs.g0.f4 ?_
  refine sq ?_
  intro K hK
  have k4_5 := kb hb_5
  replace ha2 := ha2.k k4_5
  go_big_op
  go_fit (zbits_any ha2 (by omega) )
  rintro e w_6 ⟨rfl, hb_6⟩
  replace hs := hs.bl hb_6
  rw [HB.out]
  refine hK _ _ rfl trivial ?_
  clear hK K
  refine sq ?_
  refine .r0 ?_
  apply wpSq_end
  refine hK10 _ _ ?_
  refine cf ?_
  refine wp_skip ?_
  refine hK9 _ _ ?_
  refine wp_seq_k ?_
  intro K11 hK11
  refine rg [0, 1, 2, 3, 4, 5, 6] ?_
  refine sq ?_
  refine .mv ?_
  refine sq ?_
  refine .mv ?_
  refine sq ?_
  refine .r0 ?_
  refine sq ?_
  refine .mv ?_
  refine sq ?_
  refine .r0 ?_
  refine sq ?_
  refine .r0 ?_
  refine sq ?_
  refine .mv ?_
  apply wpSq_end
  refine hK11 _ _ ?_
  refine wp_ret ?_
  try dsimp only [Exit.then, Exit.inBlock]
  refine bodyPost_ret (v := (.string (S ++ ⟨#[43]⟩ ++ ⟨#[]⟩ ++ ⟨#[105]⟩))) (by simp [results, Tryz.results18, go_sem]) rfl ?_
  have hb := hs.b
  exact ⟨rfl, hb⟩
set_option maxHeartbeats 4000000 in
set_option maxRecDepth 20000 in
theorem gText_npb {S T : ByteArray} (ha : PN w va x l y m) (hl : l ≤ 10000000) (hm : m ≤ 10000000) (hx : x ≠ 0) (hy : 0 < y) (hA : 1 < bitsN y.natAbs) (hS : zts x = S) (hT : zts (y.natAbs : Int) = T) (hs : S.size ≤ 10 * l + 11) (ht : T.size ≤ 10 * m + 11) (htab : Lib.TabIs Tryz.prog w p10 .u64 Lib.pow10Tab) :
    Calls Tryz.prog 18 #[va] w fun e w' => e = .returned (.string (S ++ ⟨#[43]⟩ ++ T ++ ⟨#[105]⟩)) ∧ Below w.heap.size w w' := by
  have htabs := Lib.tabBelow_of_tabIs htab
  have HS := hide hS
  have HT := hide hT
  have HY := hide (show y.sign = 1 from Int.sign_eq_one_of_pos hy)
  have hx0 : (x.sign == 0) = false := by simpa using hx
  obtain ⟨G, hG⟩ : ∃ G, x.sign = G := ⟨_, rfl⟩
  rw [hG] at hx0
  have HG := hide hG
  clear hx hG
  obtain ⟨B, hB⟩ : ∃ B, bitsN y.natAbs = B := ⟨_, rfl⟩
  rw [hB] at hA
  have HB := hide hB
  clear hB hS hT hy
  obtain ⟨n_0a, o_0a, k_0a, c_0a, n_0b, o_0b, k_0b, c_0b, rfl, ha1, ha2⟩ := ha
  go_enter Tryz.func18, Tryz.ntmps18
  have hs := St.nil w
  refine wp_seq_k ?_
  intro K1 hK1
  refine rg [0, 1] ?_
  refine sq ?_
  refine .al hs ?_; clear hs; intro p_b1 w_1 hs n1 kb_b1
  refine sq ?_
  refine .mv ?_
  apply wpSq_end
  refine hK1 _ _ ?_
  refine wp_seq_k ?_
  intro K2 hK2
  refine wp_seq_k ?_
  intro K3 hK3
  refine rg [0, 1, 2, 3] ?_
  refine sq ?_
  refine .r0 ?_
  refine sq ?_
  refine .r4 hs.g0.f4 ?_
  refine sq ?_
  intro K hK
  have k0_1 := kb n1
  replace ha2 := ha2.k k0_1
  go_big_op
  go_fit (zsign_any ha2 (by omega) )
  rintro e w_2 ⟨rfl, hb_2⟩
  replace hs := hs.bl hb_2
  rw [HY.out]
  refine hK _ _ rfl trivial ?_
  clear hK K
  refine sq ?_
  refine .r0 ?_
  apply wpSq_end
  refine hK3 _ _ ?_
  refine cf ?_
  refine wp_skip ?_
  refine hK2 _ _ ?_
  refine wp_seq_k ?_
  intro K4 hK4
  refine rg [0, 1, 2] ?_
  refine sq ?_
  refine .mv ?_
  refine sq ?_
  refine .mv ?_
  refine sq ?_
  refine .mv ?_
  apply wpSq_end
  refine hK4 _ _ ?_
  refine wp_seq_k ?_
  intro K5 hK5
  refine wp_seq_k ?_
  intro K6 hK6
  refine rg [0, 1, 2, 3] ?_
  refine sq ?_
  refine .r0 ?_
  refine sq ?_
  refine .r4 hs.g0.f4 ?_
  refine sq ?_
  intro K hK
  have k0_2 := k0_1.b hb_2
  replace ha1 := ha1.k k0_2
  go_big_op
  go_fit (zsign_any ha1 (by omega) )
  rintro e w_3 ⟨rfl, hb_3⟩
  replace hs := hs.bl hb_3
  rw [HG.out]
  refine hK _ _ rfl trivial ?_
  clear hK K
  refine sq ?_
  refine .r0 ?_
  apply wpSq_end
  refine hK6 _ _ ?_
  refine wp_cond_true (congrArg Value.bool (show _ = true from (by simpa using hx0))) ?_
  refine rg [0, 1, 2, 3, 4] ?_
  refine sq ?_
  refine .r0 ?_
  refine sq ?_
  refine .r4 hs.g0.f4 ?_
  refine sq ?_
  intro K hK
  have k2_3 := kb hb_3
  replace ha1 := ha1.k k2_3
  have hb := hs.b
  go_big_op
  go_fit (ztext_s ha1 (by omega) (htabs _ hb))
  rintro e w_4 ⟨rfl, hb_4⟩
  clear hb
  replace hs := hs.bl hb_4
  rw [HS.out]
  refine hK _ _ rfl trivial ?_
  clear hK K
  refine sq ?_
  refine .mv ?_
  refine sq ?_
  refine .mv ?_
  apply wpSq_end
  refine hK5 _ _ ?_
  refine wp_seq_k ?_
  intro K7 hK7
  refine wp_seq_k ?_
  intro K8 hK8
  refine rg [0, 1, 2, 3] ?_
  refine sq ?_
  refine .r0 ?_
  refine sq ?_
  refine .r4 hs.g0.f4 ?_
  refine sq ?_
  intro K hK
  have k1_4 := ((kb hb_2).b hb_3).b hb_4
  replace ha2 := ha2.k k1_4
  go_big_op
  go_fit (zsign_any ha2 (by omega) )
  rintro e w_5 ⟨rfl, hb_5⟩
  replace hs := hs.bl hb_5
  rw [HY.out]
  refine hK _ _ rfl trivial ?_
  clear hK K
  refine sq ?_
  refine .r0 ?_
  apply wpSq_end
  refine hK8 _ _ ?_
  refine cf ?_
  refine wp_skip ?_
  refine hK7 _ _ ?_
  refine wp_seq_k ?_
  intro K9 hK9
  refine wp_seq_k ?_
  intro K10 hK10
  refine rg [0, 1, 2, 3] ?_
  refine sq ?_
  refine .r0 ?_
  refine sq ?_
  refine .r4 hs.g0.f4 ?_
  refine sq ?_
  intro K hK
  have k4_5 := kb hb_5
  replace ha2 := ha2.k k4_5
  go_big_op
  go_fit (zbits_any ha2 (by omega) )
  rintro e w_6 ⟨rfl, hb_6⟩
  replace hs := hs.bl hb_6
  rw [HB.out]
  refine hK _ _ rfl trivial ?_
  clear hK K
  refine sq ?_
  refine .r0 ?_
  apply wpSq_end
  refine hK10 _ _ ?_
  refine ct ?_
  refine rg [0, 1, 2, 3, 4] ?_
  refine sq ?_
  refine .r0 ?_
  refine sq ?_
  refine .r4 hs.g0.f4 ?_
  refine sq ?_
  intro K hK
  have k5_6 := kb hb_6
  replace ha2 := ha2.k k5_6
  go_big_op
  go_fit (zabs_any ha2 (by omega) )
  rintro e w_7 ⟨v_g, rfl, g, hb_7⟩
  replace hs := hs.bl hb_7
  replace g := g.rd
  obtain ⟨n_g, o_g, k_g, c_g, rfl⟩ := g.open2
  have Lg := hide (g.lenOf (zlen_abs (ha2.len)))
  refine hK _ _ rfl trivial ?_
  clear hK K
  refine sq ?_
  intro K hK
  have hb := hs.b
  go_big_op
  go_fit (ztext_s (g.zn Lg.out) (by omega) (htabs _ hb))
  rintro e w_8 ⟨rfl, hb_8⟩
  clear hb
  replace hs := hs.bl hb_8
  rw [HT.out]
  refine hK _ _ rfl trivial ?_
  clear hK K
  refine sq ?_
  refine .mv ?_
  apply wpSq_end
  refine hK9 _ _ ?_
  refine wp_seq_k ?_
  intro K11 hK11
  refine rg [0, 1, 2, 3, 4, 5, 6] ?_
  refine sq ?_
  refine .mv ?_
  refine sq ?_
  refine .mv ?_
  refine sq ?_
  refine .r0 ?_
  refine sq ?_
  refine .mv ?_
  refine sq ?_
  refine .r0 ?_
  refine sq ?_
  refine .r0 ?_
  refine sq ?_
  refine .mv ?_
  apply wpSq_end
  refine hK11 _ _ ?_
  refine wp_ret ?_
  try dsimp only [Exit.then, Exit.inBlock]
  refine bodyPost_ret (v := (.string (S ++ ⟨#[43]⟩ ++ T ++ ⟨#[105]⟩))) (by simp [results, Tryz.results18, go_sem]) rfl ?_
  have hb := hs.b
  exact ⟨rfl, hb⟩
theorem gText_any (ha : PN w va x l y m) (hl : l ≤ 10000000) (hm : m ≤ 10000000) (htab : Lib.TabIs Tryz.prog w p10 .u64 Lib.pow10Tab) :
    Calls Tryz.prog 18 #[va] w fun e w' => e = .returned (.string (gts x y)) ∧ Below w.heap.size w w' := by
  by_cases h0 : y = 0
  · unfold gts; rw [if_pos h0]; subst h0; exact gText_re ha hl hm htab
  have hs := zts_size ha.len1
  have ht := zts_size (show (dig (y.natAbs : Int).natAbs).length ≤ m from zlen_abs ha.len2)
  unfold gts gRe gSg gAm
  rw [if_neg h0]
  by_cases hx : x = 0 <;> by_cases hy : y < 0 <;> by_cases hb : 1 < bitsN y.natAbs
  · rw [if_pos hx, if_pos hy, if_pos hb]; rw [hx] at ha; exact gText_zmb ha hl hm hy hb rfl rfl hs ht htab
  · rw [if_pos hx, if_pos hy, if_neg hb]; rw [hx] at ha; exact gText_zmo ha hl hm hy (by omega) rfl rfl hs ht htab
  · rw [if_pos hx, if_neg hy, if_pos hx, if_pos hb]; rw [hx] at ha; exact gText_zpb ha hl hm (by omega) hb rfl rfl hs ht htab
  · rw [if_pos hx, if_neg hy, if_pos hx, if_neg hb]; rw [hx] at ha; exact gText_zpo ha hl hm (by omega) (by omega) rfl rfl hs ht htab
  · rw [if_neg hx, if_pos hy, if_pos hb]; exact gText_nmb ha hl hm hx hy hb rfl rfl hs ht htab
  · rw [if_neg hx, if_pos hy, if_neg hb]; exact gText_nmo ha hl hm hx hy (by omega) rfl rfl hs ht htab
  · rw [if_neg hx, if_neg hy, if_neg hx, if_pos hb]; exact gText_npb ha hl hm hx (by omega) hb rfl rfl hs ht htab
  · rw [if_neg hx, if_neg hy, if_neg hx, if_neg hb]; exact gText_npo ha hl hm hx (by omega) (by omega) rfl rfl hs ht htab
theorem gts_55 : gts 5 5 = ⟨#[53, 43, 53, 105]⟩ := by
  have h5 : zts 5 = ⟨#[53]⟩ := by unfold zts ztx; rw [if_neg (by decide), show Int.natAbs 5 = 5 from rfl, dec1 5 (by decide)]; rfl
  unfold gts gRe gSg gAm
  rw [if_neg (by decide), if_neg (by decide), if_neg (by decide), if_neg (by decide), if_pos (by decide), show ((Int.natAbs 5 : Nat) : Int) = 5 from rfl, h5]
  rfl
set_option maxHeartbeats 4000000 in
set_option maxRecDepth 20000 in
theorem gawake_any (w : World) (htab : Lib.TabIs Tryz.prog w p10 .u64 Lib.pow10Tab) :
    Calls Tryz.prog 5 #[] w fun e w' => e = .returned (.bool true) ∧ Below w.heap.size w w' := by
  have htabs := Lib.tabBelow_of_tabIs htab
  have L := fun (n : Int) (h : n.natAbs ≤ 100) => zlen_i n (by omega) (by omega)
  have L1 := hide (L 1 (by decide))
  have L2 := hide (L 2 (by decide))
  have L3 := hide (L 3 (by decide))
  have L4 := hide (L (-1) (by decide))
  have L5 := hide (L 5 (by decide))
  have L6 := hide (L (-3) (by decide))
  have E1 := hide (show (1 : Int) * 3 - 2 * -1 = 5 ∧ (1 : Int) * -1 + 2 * 3 = 5 by decide)
  have E2 := hide gts_55
  clear L
  go_enter Tryz.func5, Tryz.ntmps5
  have hs := St.nil w
  refine wp_seq_k ?_
  intro K1 hK1
  refine rg [0] ?_
  refine sq ?_
  refine .mv ?_
  apply wpSq_end
  refine hK1 _ _ ?_
  refine wp_seq_k ?_
  intro K2 hK2
  refine rg [0, 1, 2, 3, 4] ?_
  refine sq ?_
  intro K hK
  go_big_op
  go_fit (gg_any 1 2 _ (by decide) (by decide) (by decide) (by decide))
  rintro e w_1 ⟨_, rfl, ⟨n_aa, o_aa, k_aa, c_aa, n_ab, o_ab, k_ab, c_ab, rfl, a1, a2⟩, hb_1⟩
  replace hs := hs.bl hb_1
  have La1 := hide (a1.lenOf (L1.out))
  have La2 := hide (a2.lenOf (L2.out))
  refine hK _ _ rfl trivial ?_
  clear hK K
  refine sq ?_
  intro K hK
  go_big_op
  go_fit (gg_any 3 (-1) _ (by decide) (by decide) (by decide) (by decide))
  rintro e w_2 ⟨_, rfl, ⟨n_ba, o_ba, k_ba, c_ba, n_bb, o_bb, k_bb, c_bb, rfl, b1, b2⟩, hb_2⟩
  replace hs := hs.bl hb_2
  have Lb1 := hide (b1.lenOf (L3.out))
  have Lb2 := hide (b2.lenOf (L4.out))
  refine hK _ _ rfl trivial ?_
  clear hK K
  refine sq ?_
  intro K hK
  have k1_2 := kb hb_2
  replace a1 := a1.k k1_2
  replace a2 := a2.k k1_2
  go_big_op
  go_fit (gMul_any (PN.mk' (a1.zn La1.out) (a2.zn La2.out)) (PN.mk' (b1.zn Lb1.out) (b2.zn Lb2.out)) (by omega) (by omega) (by omega) (by omega) )
  rintro e w_3 ⟨_, rfl, ⟨n_ca, o_ca, k_ca, c_ca, n_cb, o_cb, k_cb, c_cb, rfl, c1, c2⟩, hb_3⟩
  replace hs := hs.bl hb_3
  have Lc1 := hide (c1.lenOf (zlen_sub (zlen_mul (La1.out) (Lb1.out)) (zlen_mul (La2.out) (Lb2.out))))
  have Lc2 := hide (c2.lenOf (zlen_add (zlen_mul (La1.out) (Lb2.out)) (zlen_mul (La2.out) (Lb1.out))))
  rw [E1.out.1] at c1
  rw [E1.out.2] at c2
  refine hK _ _ rfl trivial ?_
  clear hK K
  refine sq ?_
  refine .al hs ?_; clear hs; intro p_b1 w_4 hs n4 kb_b1
  refine sq ?_
  refine .s4 hs.g0 (fun _ => hs.u0 kb_b1) ?_; clear hs; intro w_5 hs hd5 ho5
  apply wpSq_end
  refine hK2 _ _ ?_
  refine wp_seq_k ?_
  intro K3 hK3
  refine wp_region_f4 [(0, false), (1, true), (2, true), (3, false), (4, false), (5, true), (6, false), (7, false), (8, false), (9, true), (10, true), (11, true), (12, false), (13, false)] [] [] (fun _ => default) [0, 99, 99, 99, 0, 99, 99, 99, 99, 99, 99, 99, 99, 99] [] (.c hs.g0 .n) fn fun w_6 n6 => ?_
  replace hs := hs.bl n6
  refine f4 ?_
  have Lc1 := hide (c1.lenOf (L5.out))
  have Lc2 := hide (c2.lenOf (L5.out))
  refine fl fun w_7 n7 => ?_
  replace hs := hs.bl n7
  intro K hK
  go_big_op
  go_fit (gg_any 5 5 _ (by decide) (by decide) (by decide) (by decide))
  rintro e w_8 ⟨_, rfl, ⟨n_da, o_da, k_da, c_da, n_db, o_db, k_db, c_db, rfl, d1, d2⟩, hb_8⟩
  replace hs := hs.bl hb_8
  have Ld1 := hide (d1.lenOf (L5.out))
  have Ld2 := hide (d2.lenOf (L5.out))
  refine hK _ _ rfl ⟨hb_8, (And.intro hs.g0 trivial)⟩ ?_
  clear hK K
  refine fl fun w_9 n9 => ?_
  replace hs := hs.bl n9
  intro K hK
  have k3_9 := (((((kb n4).o hd5 ho5).b n6).b n7).b hb_8).b n9
  replace c1 := c1.k k3_9
  replace c2 := c2.k k3_9
  have k8_9 := kb n9
  replace d1 := d1.k k8_9
  replace d2 := d2.k k8_9
  go_big_op
  go_fit (gis_any (PC.mk' c1 c2) (PN.mk' (d1.zn Ld1.out) (d2.zn Ld2.out)) (by omega) (by omega) )
  rintro e w_10 ⟨rfl, hb_10⟩
  replace hs := hs.bl hb_10
  refine hK _ _ rfl ⟨hb_10, (And.intro hs.g0 trivial)⟩ ?_
  clear hK K
  refine fmv ?_
  refine f4 ?_
  refine fl fun w_11 n11 => ?_
  clear a1 a2 b1 b2 d1 d2
  replace hs := hs.bl n11
  intro K hK
  have k9_11 := (kb hb_10).b n11
  replace c1 := c1.k k9_11
  replace c2 := c2.k k9_11
  have hb := hs.b
  go_big_op
  go_fit (gText_any (.mk' (c1.zn L5.out) (c2.zn L5.out)) (by decide) (by decide) (htabs _ hb))
  rintro e w_12 ⟨rfl, hb_12⟩
  clear hb
  replace hs := hs.bl hb_12
  rw [E2.out]
  refine hK _ _ rfl ⟨hb_12, (And.intro hs.g0 trivial)⟩ ?_
  clear hK K
  refine f0 ?_
  refine f0 ?_
  refine fmv ?_
  refine fl fun w_13 n13 => ?_
  replace hs := hs.bl n13
  intro K hK
  go_big_op
  go_fit (gFrom_any 2 (-3) _ (by decide) (by decide) (by decide) (by decide))
  rintro e w_14 ⟨_, rfl, ⟨n_fa, o_fa, k_fa, c_fa, n_fb, o_fb, k_fb, c_fb, rfl, f1, f2⟩, hb_14⟩
  replace hs := hs.bl hb_14
  have Lf1 := hide (f1.lenOf (L2.out))
  have Lf2 := hide (f2.lenOf (L6.out))
  refine hK _ _ rfl ⟨hb_14, (And.intro hs.g0 trivial)⟩ ?_
  clear hK K
  refine fl fun w_15 n15 => ?_
  replace hs := hs.bl n15
  intro K hK
  go_big_op
  go_fit (gg_any 2 (-3) _ (by decide) (by decide) (by decide) (by decide))
  rintro e w_16 ⟨_, rfl, ⟨n_ga, o_ga, k_ga, c_ga, n_gb, o_gb, k_gb, c_gb, rfl, g1, g2⟩, hb_16⟩
  replace hs := hs.bl hb_16
  have Lg1 := hide (g1.lenOf (L2.out))
  have Lg2 := hide (g2.lenOf (L6.out))
  refine hK _ _ rfl ⟨hb_16, (And.intro hs.g0 trivial)⟩ ?_
  clear hK K
  refine fl fun w_17 n17 => ?_
  replace hs := hs.bl n17
  intro K hK
  have k14_17 := ((kb n15).b hb_16).b n17
  replace f1 := f1.k k14_17
  replace f2 := f2.k k14_17
  have k16_17 := kb n17
  replace g1 := g1.k k16_17
  replace g2 := g2.k k16_17
  go_big_op
  go_fit (gis_any (PC.mk' f1 f2) (PN.mk' (g1.zn Lg1.out) (g2.zn Lg2.out)) (by omega) (by omega) )
  rintro e w_18 ⟨rfl, hb_18⟩
  replace hs := hs.bl hb_18
  refine hK _ _ rfl ⟨hb_18, (And.intro hs.g0 trivial)⟩ ?_
  clear hK K
  refine f0 ?_
  refine fmv ?_
  refine e0 hs ?_; clear hs; intro w_19 hs n19
  apply wpTail_end
  refine hK3 _ _ ?_
  refine wp_ret ?_
  try dsimp only [Exit.then, Exit.inBlock]
  refine bodyPost_ret (v := (.bool true)) (by simp [results, Tryz.results5, go_sem]) rfl ?_
  have hb := hs.b
  exact ⟨rfl, hb⟩
end
/-- As Q; by a goto to a label of the scope's body: what stands behind the label, walked with one jump less. -/
def scopeQ (P : Program) (c : Code) (Q : Exit → Act → World → Prop) : Nat → Exit → Act → World → Prop
  | 0, .goto _, _, _ => False
  | n + 1, .goto l, a, w => ∃ rest, findLabel c l = some rest ∧ rest.wp P (scopeQ P c Q n) a w
  | _, e, a, w => Q e a w
theorem scopeQ_goto {P : Program} {c rest : Code} {Q : Exit → Act → World → Prop} {n l : Nat} {a : Act} {w : World} (hf : findLabel c l = some rest) (h : rest.wp P (scopeQ P c Q n) a w) : scopeQ P c Q (n + 1) (.goto l) a w := ⟨rest, hf, h⟩
theorem scopeQ_normal {P : Program} {c : Code} {Q : Exit → Act → World → Prop} {n : Nat} {a : Act} {w : World} (h : Q .normal a w) : scopeQ P c Q n .normal a w := by cases n <;> exact h
theorem scopeQ_ret {P : Program} {c : Code} {Q : Exit → Act → World → Prop} {n : Nat} {a : Act} {w : World} (h : Q .ret a w) : scopeQ P c Q n .ret a w := by cases n <;> exact h
theorem wp_scope_fwd {P : Program} {a : Act} {w : World} {Q : Exit → Act → World → Prop} {c : Code} (n : Nat) (first : c.wp P (scopeQ P c Q n) a w) : (Code.scope c).wp P Q a w := by
  intro b k cs
  have key : ∀ (n : Nat) (d : Code) (a : Act) (w : World), d.wp P (scopeQ P c Q n) a w → ∃ e a' w', Q e a' w' ∧ Arrives P (lone (b.at a (.code d :: .inScope c :: k)) cs w) b k cs e a' w' := by
    intro n
    induction n with
    | zero =>
      intro d a w h
      obtain ⟨e, a₁, w₁, hq, harr⟩ := h b (.inScope c :: k) cs
      cases e with
      | normal => exact ⟨.normal, a₁, w₁, hq, Steps.trans harr (.one step_inScope)⟩
      | exit id => exact ⟨.exit id, a₁, w₁, hq, fun k' hk => harr k' (by simp [exitTo, hk])⟩
      | goto l' => exact hq.elim
      | ret => exact ⟨_, a₁, w₁, hq, harr⟩
      | panic ch => exact ⟨_, a₁, w₁, hq, harr⟩
      | outgrown => exact ⟨_, a₁, w₁, hq, harr⟩
    | succ n ih =>
      intro d a w h
      obtain ⟨e, a₁, w₁, hq, harr⟩ := h b (.inScope c :: k) cs
      cases e with
      | normal => exact ⟨.normal, a₁, w₁, hq, Steps.trans harr (.one step_inScope)⟩
      | exit id => exact ⟨.exit id, a₁, w₁, hq, fun k' hk => harr k' (by simp [exitTo, hk])⟩
      | goto l' =>
        obtain ⟨rest, hf, hr⟩ := hq
        have hg : gotoIn l' (.inScope c :: k) = some (.code rest :: .inScope c :: k) := by simp [gotoIn, hf]
        obtain ⟨e₂, a₂, w₂, hq₂, harr₂⟩ := ih rest a₁ w₁ hr
        exact ⟨e₂, a₂, w₂, hq₂, .of_steps (harr _ hg) harr₂⟩
      | ret => exact ⟨_, a₁, w₁, hq, harr⟩
      | panic ch => exact ⟨_, a₁, w₁, hq, harr⟩
      | outgrown => exact ⟨_, a₁, w₁, hq, harr⟩
  obtain ⟨e, a₁, w₁, hq, harr⟩ := key n c a w first
  cases e with
  | normal => exact ⟨.normal, a₁, w₁, hq, Steps.trans (.one step_scope) harr⟩
  | exit id => exact ⟨.exit id, a₁, w₁, hq, fun k' hk => .head step_scope (harr k' hk)⟩
  | goto l' => exact ⟨.goto l', a₁, w₁, hq, fun k' hk => .head step_scope (harr k' hk)⟩
  | ret => exact ⟨_, a₁, w₁, hq, .of_steps (.one step_scope) harr⟩
  | panic ch => exact ⟨_, a₁, w₁, hq, .of_steps (.one step_scope) harr⟩
  | outgrown => exact ⟨_, a₁, w₁, hq, .of_steps (.one step_scope) harr⟩
/-- The same with what stands at the scope's ways out behind a name: a goto by 'hg', a return by 'hr', its end by 'hn'. -/
theorem wp_scope_k {P : Program} {a : Act} {w : World} {Q : Exit → Act → World → Prop} {c : Code} (n : Nat)
    (first : ∀ S : Nat → Exit → Act → World → Prop, (∀ m a w, Q .ret a w → S m .ret a w) → (∀ m a w, Q .normal a w → S m .normal a w) →
      (∀ m l rest a w, findLabel c l = some rest → rest.wp P (S m) a w → S (m + 1) (.goto l) a w) → c.wp P (S n) a w) : (Code.scope c).wp P Q a w :=
  wp_scope_fwd n (first (scopeQ P c Q) (fun _ _ _ h => scopeQ_ret h) (fun _ _ _ h => scopeQ_normal h) fun _ _ _ _ _ hf h => scopeQ_goto hf h)
def plusB (s : ByteArray) : Bool := decide (1 ≤ s.size) && ((s.extract 0 1).toList == [43])
set_option maxHeartbeats 1000000 in
set_option maxRecDepth 20000 in
theorem hasPlus_any (s : ByteArray) (w : World) :
    Calls Tryz.prog 101 #[.string s, .string ⟨#[43]⟩] w fun e w' => e = .returned (.bool (plusB s)) ∧ w' = w := by
  by_cases h : 1 ≤ s.size
  · have hm : plusB s = ((s.extract 0 1).toList == [43]) := by unfold plusB; rw [decide_eq_true h, Bool.true_and]
    rw [hm]
    clear hm
    go_enter Tryz.func101, Tryz.ntmps101
    go_wp2
    go_ret
    exact ⟨rfl, rfl⟩
  · have hm : plusB s = false := by unfold plusB; rw [decide_eq_false h, Bool.false_and]
    rw [hm]
    clear hm
    go_enter Tryz.func101, Tryz.ntmps101
    go_wp2
    go_ret
    exact ⟨rfl, rfl⟩
set_option maxHeartbeats 4000000 in
set_option maxRecDepth 20000 in
theorem hasPlusS (s : ByteArray) (w : World) :
    Calls Tryz.prog 79 #[.string s, .string ⟨#[43]⟩] w fun e w' => e = .returned (.bool (plusB s)) ∧ Below w.heap.size w w' := by
  obtain ⟨M, hM⟩ : ∃ M, plusB s = M := ⟨_, rfl⟩
  have HM := hide hM
  rw [hM]
  clear hM
  go_enter Tryz.func79, Tryz.ntmps79
  have hs := St.nil w
  refine wp_seq_k ?_
  intro K1 hK1
  refine rg [0] ?_
  refine sq ?_
  refine .mv ?_
  apply wpSq_end
  refine hK1 _ _ ?_
  refine wp_seq_k ?_
  intro K2 hK2
  refine rg [0, 1, 2, 3] ?_
  refine sq ?_
  refine .mv ?_
  refine sq ?_
  refine .mv ?_
  refine sq ?_
  intro K hK
  go_big_op
  go_fit (hasPlus_any s _)
  rintro e w_1 ⟨rfl, e_1⟩
  (first | rw [e_1] | rw [← e_1]); clear e_1 w_1
  rw [HM.out]
  refine hK _ _ rfl trivial ?_
  clear hK K
  refine sq ?_
  refine .mv ?_
  apply wpSq_end
  refine hK2 _ _ ?_
  refine wp_ret ?_
  try dsimp only [Exit.then, Exit.inBlock]
  refine bodyPost_ret (v := (.bool M)) (by simp [results, Tryz.results79, go_sem]) rfl ?_
  have hb := hs.b
  exact ⟨rfl, hb⟩
set_option maxHeartbeats 4000000 in
set_option maxRecDepth 20000 in
theorem hasMinusS (s : ByteArray) (w : World) :
    Calls Tryz.prog 79 #[.string s, .string ⟨#[45]⟩] w fun e w' => e = .returned (.bool (minusB s)) ∧ Below w.heap.size w w' := by
  obtain ⟨M, hM⟩ : ∃ M, minusB s = M := ⟨_, rfl⟩
  have HM := hide hM
  rw [hM]
  clear hM
  go_enter Tryz.func79, Tryz.ntmps79
  have hs := St.nil w
  refine wp_seq_k ?_
  intro K1 hK1
  refine rg [0] ?_
  refine sq ?_
  refine .mv ?_
  apply wpSq_end
  refine hK1 _ _ ?_
  refine wp_seq_k ?_
  intro K2 hK2
  refine rg [0, 1, 2, 3] ?_
  refine sq ?_
  refine .mv ?_
  refine sq ?_
  refine .mv ?_
  refine sq ?_
  intro K hK
  go_big_op
  go_fit (hasPrefix_any s _)
  rintro e w_1 ⟨rfl, e_1⟩
  (first | rw [e_1] | rw [← e_1]); clear e_1 w_1
  rw [HM.out]
  refine hK _ _ rfl trivial ?_
  clear hK K
  refine sq ?_
  refine .mv ?_
  apply wpSq_end
  refine hK2 _ _ ?_
  refine wp_ret ?_
  try dsimp only [Exit.then, Exit.inBlock]
  refine bodyPost_ret (v := (.bool M)) (by simp [results, Tryz.results79, go_sem]) rfl ?_
  have hb := hs.b
  exact ⟨rfl, hb⟩
/-- What is left behind the digits; the digits. -/
def unR (T : ByteArray) : ByteArray := ⟨(undig T.data.toList).toArray⟩
def unD (T : ByteArray) : ByteArray := T.extract 0 (T.size - (unR T).size)
theorem trimR_any (s : ByteArray) (w : World) :
    Calls Tryz.prog 80 #[.string s, .string ⟨#[48, 49, 50, 51, 52, 53, 54, 55, 56, 57]⟩] w fun e w' => e = .returned (.string (unR s)) ∧ Below w.heap.size w w' := trimS_any s w
theorem undig_len (l : List UInt8) : (undig l).length ≤ l.length := (List.dropWhile_sublist _).length_le
theorem unR_size (T : ByteArray) : (unR T).size ≤ T.size := by
  have := undig_len T.data.toList
  rw [Lib.size_eq, Lib.size_eq]
  unfold unR
  simpa using this
theorem plus_size {s : ByteArray} (h : plusB s = true) : 1 ≤ s.size := by
  unfold plusB at h; rw [Bool.and_eq_true] at h; exact of_decide_eq_true h.1
section
set_option maxHeartbeats 8000000 in
set_option maxRecDepth 20000 in
theorem cut_none (s : ByteArray) (w : World) (hsz : s.size ≤ 65536) (hp : plusB s = false) (hm : minusB s = false) :
    Calls Tryz.prog 48 #[.string s] w fun e w' => e = .returned (.tuple #[.string ⟨#[]⟩, .string (unD s), .string (unR s)]) ∧ Below w.heap.size w w' := by
  have HP := hide hp
  have HM := hide hm
  have hr := unR_size s
  have hw : wrap64 ((s.size : Int) - ((unR s).size : Int)) = ((s.size - (unR s).size : Nat) : Int) := by unfold wrap64; omega
  unfold unD
  clear hp hm
  go_enter Tryz.func48, Tryz.ntmps48
  have hs := St.nil w
  refine wp_seq_k ?_
  intro K1 hK1
  refine rg [0, 1, 2] ?_
  refine sq ?_
  refine .mv ?_
  refine sq ?_
  refine .mv ?_
  refine sq ?_
  refine .mv ?_
  apply wpSq_end
  refine hK1 _ _ ?_
  refine wp_seq_k ?_
  intro K2 hK2
  refine wp_seq_k ?_
  intro K3 hK3
  refine rg [0, 1, 2, 3, 4, 5] ?_
  refine sq ?_
  refine .mv ?_
  refine sq ?_
  intro K hK
  go_big_op
  go_fit (hasPlusS s _)
  rintro e w_1 ⟨rfl, hb_1⟩
  replace hs := hs.bl hb_1
  rw [HP.out]
  refine hK _ _ rfl trivial ?_
  clear hK K
  refine sq ?_
  refine .mv ?_
  refine sq ?_
  refine .mv ?_
  refine sq ?_
  intro K hK
  go_big_op
  go_fit (hasMinusS s _)
  rintro e w_2 ⟨rfl, hb_2⟩
  replace hs := hs.bl hb_2
  rw [HM.out]
  refine hK _ _ rfl trivial ?_
  clear hK K
  refine sq ?_
  refine .r0 ?_
  apply wpSq_end
  refine hK3 _ _ ?_
  refine cf ?_
  refine wp_skip ?_
  refine hK2 _ _ ?_
  refine wp_seq_k ?_
  intro K4 hK4
  refine rg [0, 1, 2] ?_
  refine sq ?_
  refine .mv ?_
  refine sq ?_
  intro K hK
  go_big_op
  go_fit (trimR_any s _)
  rintro e w_3 ⟨rfl, hb_3⟩
  replace hs := hs.bl hb_3
  refine hK _ _ rfl trivial ?_
  clear hK K
  refine sq ?_
  refine .mv ?_
  apply wpSq_end
  refine hK4 _ _ ?_
  refine wp_seq_k ?_
  intro K5 hK5
  refine wp_region_f4 [(0, false), (1, false), (2, false), (3, false), (4, false), (5, false), (6, false), (7, false), (8, false), (9, false), (10, false), (11, false)] [] [] (fun _ => default) [99, 99, 99, 99, 99, 99, 99, 99, 99, 99, 99, 99] [] AllB.n fn fun w_4 n4 => ?_
  replace hs := hs.bl n4
  refine fmv ?_
  refine fmv ?_
  refine fmv ?_
  refine fb ?_
  refine fmv ?_
  refine fb ?_
  refine f0 ?_
  refine f0 ?_
  refine fmv ?_
  refine fmv ?_
  refine fmv ?_
  refine fmv ?_
  refine e0 hs ?_; clear hs; intro w_5 hs n5
  apply wpTail_end
  refine hK5 _ _ ?_
  refine wp_ret ?_
  try dsimp only [Exit.then, Exit.inBlock]
  refine bodyPost_ret (v := (.tuple #[.string ⟨#[]⟩, .string (s.extract 0 (s.size - (unR s).size)), .string (unR s)])) (by simp [results, Tryz.results48, go_sem]) rfl ?_
  have hb := hs.b
  exact ⟨rfl, hb⟩
set_option maxHeartbeats 8000000 in
set_option maxRecDepth 20000 in
theorem cut_plus (s : ByteArray) (w : World) (hsz : s.size ≤ 65536) (hp : plusB s = true) :
    Calls Tryz.prog 48 #[.string s] w fun e w' => e = .returned (.tuple #[.string (s.extract 0 1), .string (unD (s.extract 1 s.size)), .string (unR (s.extract 1 s.size))]) ∧ Below w.heap.size w w' := by
  have HP := hide hp
  have h1 := plus_size hp
  clear hp
  have hr := unR_size (s.extract 1 s.size)
  have hz : (s.extract 1 s.size).size = s.size - 1 := rest_size
  unfold unD
  rw [hz] at hr
  rw [hz]
  have hw : wrap64 (((s.size - 1 : Nat) : Int) - ((unR (s.extract 1 s.size)).size : Int)) = ((s.size - 1 - (unR (s.extract 1 s.size)).size : Nat) : Int) := by unfold wrap64; omega
  clear hz
  go_enter Tryz.func48, Tryz.ntmps48
  have hs := St.nil w
  refine wp_seq_k ?_
  intro K1 hK1
  refine rg [0, 1, 2] ?_
  refine sq ?_
  refine .mv ?_
  refine sq ?_
  refine .mv ?_
  refine sq ?_
  refine .mv ?_
  apply wpSq_end
  refine hK1 _ _ ?_
  refine wp_seq_k ?_
  intro K2 hK2
  refine wp_seq_k ?_
  intro K3 hK3
  refine rg [0, 1, 2, 3, 4, 5] ?_
  refine sq ?_
  refine .mv ?_
  refine sq ?_
  intro K hK
  go_big_op
  go_fit (hasPlusS s _)
  rintro e w_1 ⟨rfl, hb_1⟩
  replace hs := hs.bl hb_1
  rw [HP.out]
  refine hK _ _ rfl trivial ?_
  clear hK K
  refine sq ?_
  refine .mv ?_
  refine sk ?_
  refine sk ?_
  refine sq ?_
  refine .r0 ?_
  apply wpSq_end
  refine hK3 _ _ ?_
  refine ct ?_
  refine wp_region_f4 [(0, false), (1, false), (2, false), (3, false), (4, false), (5, false)] [] [] (fun _ => default) [99, 99, 99, 99, 99, 99] [] AllB.n fn fun w_2 n2 => ?_
  replace hs := hs.bl n2
  refine fmv ?_
  refine f0 ?_
  refine fmv ?_
  refine f0 ?_
  refine fmv ?_
  refine fmv ?_
  refine e0 hs ?_; clear hs; intro w_3 hs n3
  apply wpTail_end
  refine hK2 _ _ ?_
  refine wp_seq_k ?_
  intro K4 hK4
  refine rg [0, 1, 2] ?_
  refine sq ?_
  refine .mv ?_
  refine sq ?_
  intro K hK
  go_big_op
  go_fit (trimR_any (s.extract 1 s.size) _)
  rintro e w_4 ⟨rfl, hb_4⟩
  replace hs := hs.bl hb_4
  refine hK _ _ rfl trivial ?_
  clear hK K
  refine sq ?_
  refine .mv ?_
  apply wpSq_end
  refine hK4 _ _ ?_
  refine wp_seq_k ?_
  intro K5 hK5
  refine wp_region_f4 [(0, false), (1, false), (2, false), (3, false), (4, false), (5, false), (6, false), (7, false), (8, false), (9, false), (10, false), (11, false)] [] [] (fun _ => default) [99, 99, 99, 99, 99, 99, 99, 99, 99, 99, 99, 99] [] AllB.n fn fun w_5 n5 => ?_
  replace hs := hs.bl n5
  refine fmv ?_
  refine fmv ?_
  refine fmv ?_
  refine fb ?_
  refine fmv ?_
  refine fb ?_
  refine f0 ?_
  refine f0 ?_
  refine fmv ?_
  refine fmv ?_
  refine fmv ?_
  refine fmv ?_
  refine e0 hs ?_; clear hs; intro w_6 hs n6
  apply wpTail_end
  refine hK5 _ _ ?_
  refine wp_ret ?_
  try dsimp only [Exit.then, Exit.inBlock]
  refine bodyPost_ret (v := (.tuple #[.string (s.extract 0 1), .string ((s.extract 1 s.size).extract 0 (s.size - 1 - (unR (s.extract 1 s.size)).size)), .string (unR (s.extract 1 s.size))])) (by simp [results, Tryz.results48, go_sem]) rfl ?_
  have hb := hs.b
  exact ⟨rfl, hb⟩
set_option maxHeartbeats 8000000 in
set_option maxRecDepth 20000 in
theorem cut_minus (s : ByteArray) (w : World) (hsz : s.size ≤ 65536) (hp : plusB s = false) (hm : minusB s = true) :
    Calls Tryz.prog 48 #[.string s] w fun e w' => e = .returned (.tuple #[.string (s.extract 0 1), .string (unD (s.extract 1 s.size)), .string (unR (s.extract 1 s.size))]) ∧ Below w.heap.size w w' := by
  have HP := hide hp
  have HM := hide hm
  have h1 := minus_size hm
  clear hp hm
  have hr := unR_size (s.extract 1 s.size)
  have hz : (s.extract 1 s.size).size = s.size - 1 := rest_size
  unfold unD
  rw [hz] at hr
  rw [hz]
  have hw : wrap64 (((s.size - 1 : Nat) : Int) - ((unR (s.extract 1 s.size)).size : Int)) = ((s.size - 1 - (unR (s.extract 1 s.size)).size : Nat) : Int) := by unfold wrap64; omega
  clear hz
  go_enter Tryz.func48, Tryz.ntmps48
  have hs := St.nil w
  refine wp_seq_k ?_
  intro K1 hK1
  refine rg [0, 1, 2] ?_
  refine sq ?_
  refine .mv ?_
  refine sq ?_
  refine .mv ?_
  refine sq ?_
  refine .mv ?_
  apply wpSq_end
  refine hK1 _ _ ?_
  refine wp_seq_k ?_
  intro K2 hK2
  refine wp_seq_k ?_
  intro K3 hK3
  refine rg [0, 1, 2, 3, 4, 5] ?_
  refine sq ?_
  refine .mv ?_
  refine sq ?_
  intro K hK
  go_big_op
  go_fit (hasPlusS s _)
  rintro e w_1 ⟨rfl, hb_1⟩
  replace hs := hs.bl hb_1
  rw [HP.out]
  refine hK _ _ rfl trivial ?_
  clear hK K
  refine sq ?_
  refine .mv ?_
  refine sq ?_
  refine .mv ?_
  refine sq ?_
  intro K hK
  go_big_op
  go_fit (hasMinusS s _)
  rintro e w_2 ⟨rfl, hb_2⟩
  replace hs := hs.bl hb_2
  rw [HM.out]
  refine hK _ _ rfl trivial ?_
  clear hK K
  refine sq ?_
  refine .r0 ?_
  apply wpSq_end
  refine hK3 _ _ ?_
  refine ct ?_
  refine wp_region_f4 [(0, false), (1, false), (2, false), (3, false), (4, false), (5, false)] [] [] (fun _ => default) [99, 99, 99, 99, 99, 99] [] AllB.n fn fun w_3 n3 => ?_
  replace hs := hs.bl n3
  refine fmv ?_
  refine f0 ?_
  refine fmv ?_
  refine f0 ?_
  refine fmv ?_
  refine fmv ?_
  refine e0 hs ?_; clear hs; intro w_4 hs n4
  apply wpTail_end
  refine hK2 _ _ ?_
  refine wp_seq_k ?_
  intro K4 hK4
  refine rg [0, 1, 2] ?_
  refine sq ?_
  refine .mv ?_
  refine sq ?_
  intro K hK
  go_big_op
  go_fit (trimR_any (s.extract 1 s.size) _)
  rintro e w_5 ⟨rfl, hb_5⟩
  replace hs := hs.bl hb_5
  refine hK _ _ rfl trivial ?_
  clear hK K
  refine sq ?_
  refine .mv ?_
  apply wpSq_end
  refine hK4 _ _ ?_
  refine wp_seq_k ?_
  intro K5 hK5
  refine wp_region_f4 [(0, false), (1, false), (2, false), (3, false), (4, false), (5, false), (6, false), (7, false), (8, false), (9, false), (10, false), (11, false)] [] [] (fun _ => default) [99, 99, 99, 99, 99, 99, 99, 99, 99, 99, 99, 99] [] AllB.n fn fun w_6 n6 => ?_
  replace hs := hs.bl n6
  refine fmv ?_
  refine fmv ?_
  refine fmv ?_
  refine fb ?_
  refine fmv ?_
  refine fb ?_
  refine f0 ?_
  refine f0 ?_
  refine fmv ?_
  refine fmv ?_
  refine fmv ?_
  refine fmv ?_
  refine e0 hs ?_; clear hs; intro w_7 hs n7
  apply wpTail_end
  refine hK5 _ _ ?_
  refine wp_ret ?_
  try dsimp only [Exit.then, Exit.inBlock]
  refine bodyPost_ret (v := (.tuple #[.string (s.extract 0 1), .string ((s.extract 1 s.size).extract 0 (s.size - 1 - (unR (s.extract 1 s.size)).size)), .string (unR (s.extract 1 s.size))])) (by simp [results, Tryz.results48, go_sem]) rfl ?_
  have hb := hs.b
  exact ⟨rfl, hb⟩
end
/-- What cutPart tells of a text. -/
def CutIs (s A D R : ByteArray) : Prop := ∀ w : World, Calls Tryz.prog 48 #[.string s] w fun e w' => e = .returned (.tuple #[.string A, .string D, .string R]) ∧ Below w.heap.size w w'
section
variable {s A D R A2 D2 R2 : ByteArray}
set_option maxHeartbeats 8000000 in
set_option maxRecDepth 20000 in
theorem parse_im_ep (w : World) (hsz : s.size ≤ 65536) (hc : CutIs s A D R) (hA : (A.toList == [43]) = false) (hR : (R.toList == [105]) = true) (hD : (D.toList == []) = true) (hM : (A.toList == [45]) = false) :
    Calls Tryz.prog 20 #[.string s] w fun e w' => ∃ r, e = .returned (.tuple #[r, .int .i64 0]) ∧ PC w' r 0 (1) ∧ Below w.heap.size w w' := by
  have HC := hide hc
  have hsz' : (65536 < (s.size : Int)) = False := eq_false (by omega)
  have H1 := hide (And.intro (show zok ⟨#[49]⟩ = true by kernel_rfl) (show zvl ⟨#[49]⟩ = 1 by kernel_rfl))
  clear hc
  go_enter Tryz.func20, Tryz.ntmps20
  have hs := St.nil w
  refine wp_seq_k ?_
  intro K1 hK1
  refine rg [0, 1] ?_
  refine sq ?_
  refine .al hs ?_; clear hs; intro p_b1 w_1 hs n1 kb_b1
  refine sq ?_
  refine .mv ?_
  apply wpSq_end
  refine hK1 _ _ ?_
  refine wp_scope_k 9 ?_
  intro S hSr hSn hSg
  refine wp_seq_k ?_
  intro K2 hK2
  refine wp_seq_k ?_
  intro K3 hK3
  refine rg [0, 1, 2] ?_
  refine sq ?_
  refine .mv ?_
  refine sq ?_
  refine .r0 ?_
  refine sq ?_
  refine .r0 ?_
  apply wpSq_end
  refine hK3 _ _ ?_
  refine cf ?_
  refine wp_skip ?_
  refine hK2 _ _ ?_
  refine wp_seq_k ?_
  intro K4 hK4
  refine rg [0] ?_
  refine sq ?_
  refine .al hs ?_; clear hs; intro p_b2 w_2 hs n2 kb_b2
  apply wpSq_end
  refine hK4 _ _ ?_
  refine wp_seq_k ?_
  intro K5 hK5
  refine rg [0] ?_
  refine sq ?_
  refine .mv ?_
  apply wpSq_end
  refine hK5 _ _ ?_
  refine wp_seq_k ?_
  intro K6 hK6
  refine rg [0, 1, 2, 3, 4, 5, 6, 7, 8] ?_
  refine sq ?_
  refine .mv ?_
  refine sq ?_
  intro K hK
  go_big_op
  go_fit (HC.out _)
  rintro e w_3 ⟨rfl, hb_3⟩
  replace hs := hs.bl hb_3
  refine hK _ _ rfl trivial ?_
  clear hK K
  refine sq ?_
  refine .mv ?_
  refine sq ?_
  refine .r0 ?_
  refine sq ?_
  refine .r0 ?_
  refine sq ?_
  refine .r0 ?_
  refine sq ?_
  refine .mv ?_
  refine sq ?_
  refine .mv ?_
  refine sq ?_
  refine .mv ?_
  apply wpSq_end
  refine hK6 _ _ ?_
  refine wp_seq_k ?_
  intro K7 hK7
  refine wp_seq_k ?_
  intro K8 hK8
  refine rg [0, 1] ?_
  refine sq ?_
  refine .mv ?_
  refine sq ?_
  refine .r0 ?_
  apply wpSq_end
  refine hK8 _ _ ?_
  refine cf ?_
  refine wp_skip ?_
  refine hK7 _ _ ?_
  refine wp_seq_k ?_
  intro K9 hK9
  refine wp_seq_k ?_
  intro K10 hK10
  refine rg [0, 1] ?_
  refine sq ?_
  refine .mv ?_
  refine sq ?_
  refine .r0 ?_
  apply wpSq_end
  refine hK10 _ _ ?_
  refine ct ?_
  refine wp_goto ?_
  refine hSg _ _ _ _ _ rfl ?_
  refine wp_seq_k ?_
  intro K11 hK11
  refine wp_skip ?_
  refine hK11 _ _ ?_
  refine wp_seq_k ?_
  intro K12 hK12
  refine wp_seq_k ?_
  intro K13 hK13
  refine rg [0, 1] ?_
  refine sq ?_
  refine .mv ?_
  refine sq ?_
  refine .r0 ?_
  apply wpSq_end
  refine hK13 _ _ ?_
  refine ct ?_
  refine rg [0] ?_
  refine sq ?_
  refine .mv ?_
  apply wpSq_end
  refine hK12 _ _ ?_
  refine wp_seq_k ?_
  intro K14 hK14
  refine rg [0, 1, 2, 3, 4, 5, 6] ?_
  refine sq ?_
  refine .mv ?_
  refine sq ?_
  intro K hK
  go_big_op
  go_fit (zparse_ok ⟨#[49]⟩ _ (by decide) H1.out.1)
  rintro e w_4 ⟨v_g, rfl, g, hb_4⟩
  replace hs := hs.bl hb_4
  obtain ⟨n_g, o_g, k_g, c_g, rfl⟩ := g.open2
  rw [H1.out.2] at g
  refine hK _ _ rfl trivial ?_
  clear hK K
  refine sq ?_
  refine .mv ?_
  refine sq ?_
  refine .r0 ?_
  refine sq ?_
  refine .r0 ?_
  refine sq ?_
  refine .r0 ?_
  refine sq ?_
  intro K hK
  have xs := hs.g0
  obtain ⟨d0, d1, d2, d3⟩ := hs.g0.f4
  have f0 := xs.free 2; have f1 := xs.free 3
  go_big_op
  have hd5 := xs.nod rfl rfl
  obtain ⟨w_5, eW, xs', ho5⟩ : ∃ w', ((w_4.setCell ⟨p_b2, 2, none⟩ (.bool n_g)).setCell ⟨p_b2, 3, none⟩ (.slice o_g k_g c_g)) = w' ∧ Bs w' p_b2 #[.bool false, .slice none 0 0, .bool n_g, .slice o_g k_g c_g] 29 ∧ Only p_b2 w_4 w' := xs.setN [(2, .bool n_g), (3, .slice o_g k_g c_g)]
  rw [eW]; clear eW d0 d1 d2 d3 f0 f1 xs
  replace hs := hs.u0 kb_b2 xs' ho5; clear xs'
  refine hK _ _ rfl trivial ?_; clear hK K
  apply wpSq_end
  refine hK14 _ _ ?_
  refine wp_seq_k ?_
  intro K15 hK15
  refine wp_seq_k ?_
  intro K16 hK16
  refine rg [0, 1] ?_
  refine sq ?_
  refine .mv ?_
  refine sq ?_
  refine .r0 ?_
  apply wpSq_end
  refine hK16 _ _ ?_
  have Lg := hide (show (dig (Int.natAbs 1)).length ≤ 1 by decide)
  refine cf ?_
  refine wp_skip ?_
  refine hK15 _ _ ?_
  refine wp_seq_k ?_
  intro K17 hK17
  refine wp_label ?_
  refine hK17 _ _ ?_
  refine wp_seq_k ?_
  intro K18 hK18
  refine wp_seq_k ?_
  intro K19 hK19
  refine rg [0, 1, 2] ?_
  refine sq ?_
  refine .r4 hs.g0.f4 ?_
  refine sq ?_
  refine .s4 hs.g1 (fun _ => hs.u1 kb_b1) ?_; clear hs; intro w_6 hs hd6 ho6
  refine sq ?_
  refine .mv ?_
  apply wpSq_end
  refine hK19 _ _ ?_
  refine wp_ret ?_
  refine hSr _ _ _ ?_
  try dsimp only [Exit.then, Exit.inBlock]
  obtain ⟨r0_0, r0_1, r0_2, r0_3⟩ := hs.g1.f4
  refine bodyPost_ret (v := (.tuple #[(.agg #[.bool false, .slice none 0 0, .bool n_g, .slice o_g k_g c_g]), (.int .i64 0)])) (by simp [results, Tryz.results20, go_sem, r0_0, r0_1, r0_2, r0_3]) rfl ?_
  have k4_6 := (ko hd5 ho5).o hd6 ho6
  replace g := g.k k4_6
  exact ⟨_, rfl, .mk' (zc_zero w_6) g, hs.b⟩
set_option maxHeartbeats 8000000 in
set_option maxRecDepth 20000 in
theorem parse_im_em (w : World) (hsz : s.size ≤ 65536) (hc : CutIs s A D R) (hA : (A.toList == [43]) = false) (hR : (R.toList == [105]) = true) (hD : (D.toList == []) = true) (hM : (A.toList == [45]) = true) :
    Calls Tryz.prog 20 #[.string s] w fun e w' => ∃ r, e = .returned (.tuple #[r, .int .i64 0]) ∧ PC w' r 0 (-1) ∧ Below w.heap.size w w' := by
  have HC := hide hc
  have hsz' : (65536 < (s.size : Int)) = False := eq_false (by omega)
  have H1 := hide (And.intro (show zok ⟨#[49]⟩ = true by kernel_rfl) (show zvl ⟨#[49]⟩ = 1 by kernel_rfl))
  clear hc
  go_enter Tryz.func20, Tryz.ntmps20
  have hs := St.nil w
  refine wp_seq_k ?_
  intro K1 hK1
  refine rg [0, 1] ?_
  refine sq ?_
  refine .al hs ?_; clear hs; intro p_b1 w_1 hs n1 kb_b1
  refine sq ?_
  refine .mv ?_
  apply wpSq_end
  refine hK1 _ _ ?_
  refine wp_scope_k 9 ?_
  intro S hSr hSn hSg
  refine wp_seq_k ?_
  intro K2 hK2
  refine wp_seq_k ?_
  intro K3 hK3
  refine rg [0, 1, 2] ?_
  refine sq ?_
  refine .mv ?_
  refine sq ?_
  refine .r0 ?_
  refine sq ?_
  refine .r0 ?_
  apply wpSq_end
  refine hK3 _ _ ?_
  refine cf ?_
  refine wp_skip ?_
  refine hK2 _ _ ?_
  refine wp_seq_k ?_
  intro K4 hK4
  refine rg [0] ?_
  refine sq ?_
  refine .al hs ?_; clear hs; intro p_b2 w_2 hs n2 kb_b2
  apply wpSq_end
  refine hK4 _ _ ?_
  refine wp_seq_k ?_
  intro K5 hK5
  refine rg [0] ?_
  refine sq ?_
  refine .mv ?_
  apply wpSq_end
  refine hK5 _ _ ?_
  refine wp_seq_k ?_
  intro K6 hK6
  refine rg [0, 1, 2, 3, 4, 5, 6, 7, 8] ?_
  refine sq ?_
  refine .mv ?_
  refine sq ?_
  intro K hK
  go_big_op
  go_fit (HC.out _)
  rintro e w_3 ⟨rfl, hb_3⟩
  replace hs := hs.bl hb_3
  refine hK _ _ rfl trivial ?_
  clear hK K
  refine sq ?_
  refine .mv ?_
  refine sq ?_
  refine .r0 ?_
  refine sq ?_
  refine .r0 ?_
  refine sq ?_
  refine .r0 ?_
  refine sq ?_
  refine .mv ?_
  refine sq ?_
  refine .mv ?_
  refine sq ?_
  refine .mv ?_
  apply wpSq_end
  refine hK6 _ _ ?_
  refine wp_seq_k ?_
  intro K7 hK7
  refine wp_seq_k ?_
  intro K8 hK8
  refine rg [0, 1] ?_
  refine sq ?_
  refine .mv ?_
  refine sq ?_
  refine .r0 ?_
  apply wpSq_end
  refine hK8 _ _ ?_
  refine cf ?_
  refine wp_skip ?_
  refine hK7 _ _ ?_
  refine wp_seq_k ?_
  intro K9 hK9
  refine wp_seq_k ?_
  intro K10 hK10
  refine rg [0, 1] ?_
  refine sq ?_
  refine .mv ?_
  refine sq ?_
  refine .r0 ?_
  apply wpSq_end
  refine hK10 _ _ ?_
  refine ct ?_
  refine wp_goto ?_
  refine hSg _ _ _ _ _ rfl ?_
  refine wp_seq_k ?_
  intro K11 hK11
  refine wp_skip ?_
  refine hK11 _ _ ?_
  refine wp_seq_k ?_
  intro K12 hK12
  refine wp_seq_k ?_
  intro K13 hK13
  refine rg [0, 1] ?_
  refine sq ?_
  refine .mv ?_
  refine sq ?_
  refine .r0 ?_
  apply wpSq_end
  refine hK13 _ _ ?_
  refine ct ?_
  refine rg [0] ?_
  refine sq ?_
  refine .mv ?_
  apply wpSq_end
  refine hK12 _ _ ?_
  refine wp_seq_k ?_
  intro K14 hK14
  refine rg [0, 1, 2, 3, 4, 5, 6] ?_
  refine sq ?_
  refine .mv ?_
  refine sq ?_
  intro K hK
  go_big_op
  go_fit (zparse_ok ⟨#[49]⟩ _ (by decide) H1.out.1)
  rintro e w_4 ⟨v_g, rfl, g, hb_4⟩
  replace hs := hs.bl hb_4
  obtain ⟨n_g, o_g, k_g, c_g, rfl⟩ := g.open2
  rw [H1.out.2] at g
  refine hK _ _ rfl trivial ?_
  clear hK K
  refine sq ?_
  refine .mv ?_
  refine sq ?_
  refine .r0 ?_
  refine sq ?_
  refine .r0 ?_
  refine sq ?_
  refine .r0 ?_
  refine sq ?_
  intro K hK
  have xs := hs.g0
  obtain ⟨d0, d1, d2, d3⟩ := hs.g0.f4
  have f0 := xs.free 2; have f1 := xs.free 3
  go_big_op
  have hd5 := xs.nod rfl rfl
  obtain ⟨w_5, eW, xs', ho5⟩ : ∃ w', ((w_4.setCell ⟨p_b2, 2, none⟩ (.bool n_g)).setCell ⟨p_b2, 3, none⟩ (.slice o_g k_g c_g)) = w' ∧ Bs w' p_b2 #[.bool false, .slice none 0 0, .bool n_g, .slice o_g k_g c_g] 29 ∧ Only p_b2 w_4 w' := xs.setN [(2, .bool n_g), (3, .slice o_g k_g c_g)]
  rw [eW]; clear eW d0 d1 d2 d3 f0 f1 xs
  replace hs := hs.u0 kb_b2 xs' ho5; clear xs'
  refine hK _ _ rfl trivial ?_; clear hK K
  apply wpSq_end
  refine hK14 _ _ ?_
  refine wp_seq_k ?_
  intro K15 hK15
  refine wp_seq_k ?_
  intro K16 hK16
  refine rg [0, 1] ?_
  refine sq ?_
  refine .mv ?_
  refine sq ?_
  refine .r0 ?_
  apply wpSq_end
  refine hK16 _ _ ?_
  have Lg := hide (show (dig (Int.natAbs 1)).length ≤ 1 by decide)
  refine ct ?_
  refine rg [0, 1, 2, 3, 4] ?_
  refine sq ?_
  refine .r0 ?_
  refine sq ?_
  refine .r4 hs.g0.f4 ?_
  refine sq ?_
  intro K hK
  have k4_5 := ko hd5 ho5
  replace g := g.k k4_5
  go_big_op
  go_fit (zneg_any (g.zn Lg.out) (by omega) )
  rintro e w_6 ⟨v_o, rfl, o, hb_6⟩
  replace hs := hs.bl hb_6
  replace o := o.rd
  obtain ⟨n_o, o_o, k_o, c_o, rfl⟩ := o.open2
  have Lo := hide (o.lenOf (zlen_neg (Lg.out)))
  refine hK _ _ rfl trivial ?_
  clear hK K
  refine sq ?_
  refine .r0 ?_
  refine sq ?_
  intro K hK
  have xs := hs.g0
  obtain ⟨d0, d1, d2, d3⟩ := hs.g0.f4
  have f0 := xs.free 2; have f1 := xs.free 3
  go_big_op
  have hd7 := xs.nod rfl rfl
  obtain ⟨w_7, eW, xs', ho7⟩ : ∃ w', ((w_6.setCell ⟨p_b2, 2, none⟩ (.bool n_o)).setCell ⟨p_b2, 3, none⟩ (.slice o_o k_o c_o)) = w' ∧ Bs w' p_b2 #[.bool false, .slice none 0 0, .bool n_o, .slice o_o k_o c_o] 29 ∧ Only p_b2 w_6 w' := xs.setN [(2, .bool n_o), (3, .slice o_o k_o c_o)]
  rw [eW]; clear eW d0 d1 d2 d3 f0 f1 xs
  replace hs := hs.u0 kb_b2 xs' ho7; clear xs'
  refine hK _ _ rfl trivial ?_; clear hK K
  apply wpSq_end
  refine hK15 _ _ ?_
  refine wp_seq_k ?_
  intro K17 hK17
  refine wp_label ?_
  refine hK17 _ _ ?_
  refine wp_seq_k ?_
  intro K18 hK18
  refine wp_seq_k ?_
  intro K19 hK19
  refine rg [0, 1, 2] ?_
  refine sq ?_
  refine .r4 hs.g0.f4 ?_
  refine sq ?_
  refine .s4 hs.g1 (fun _ => hs.u1 kb_b1) ?_; clear hs; intro w_8 hs hd8 ho8
  refine sq ?_
  refine .mv ?_
  apply wpSq_end
  refine hK19 _ _ ?_
  refine wp_ret ?_
  refine hSr _ _ _ ?_
  try dsimp only [Exit.then, Exit.inBlock]
  obtain ⟨r0_0, r0_1, r0_2, r0_3⟩ := hs.g1.f4
  refine bodyPost_ret (v := (.tuple #[(.agg #[.bool false, .slice none 0 0, .bool n_o, .slice o_o k_o c_o]), (.int .i64 0)])) (by simp [results, Tryz.results20, go_sem, r0_0, r0_1, r0_2, r0_3]) rfl ?_
  have k6_8 := (ko hd7 ho7).o hd8 ho8
  replace o := o.k k6_8
  exact ⟨_, rfl, .mk' (zc_zero w_8) o, hs.b⟩
set_option maxHeartbeats 8000000 in
set_option maxRecDepth 20000 in
theorem parse_im_dp (w : World) (hsz : s.size ≤ 65536) (hc : CutIs s A D R) (hA : (A.toList == [43]) = false) (hR : (R.toList == [105]) = true) (hD : (D.toList == []) = false) (hM : (A.toList == [45]) = false) (hz : zok D = true) (hsz : D.size ≤ 65536) :
    Calls Tryz.prog 20 #[.string s] w fun e w' => ∃ r, e = .returned (.tuple #[r, .int .i64 0]) ∧ PC w' r 0 (zvl D) ∧ Below w.heap.size w w' := by
  have HC := hide hc
  have hsz' : (65536 < (s.size : Int)) = False := eq_false (by omega)
  have HZ := hide (And.intro hz hsz)
  have HL := hide (zvl_len hsz hz)
  clear hz
  clear hc
  go_enter Tryz.func20, Tryz.ntmps20
  have hs := St.nil w
  refine wp_seq_k ?_
  intro K1 hK1
  refine rg [0, 1] ?_
  refine sq ?_
  refine .al hs ?_; clear hs; intro p_b1 w_1 hs n1 kb_b1
  refine sq ?_
  refine .mv ?_
  apply wpSq_end
  refine hK1 _ _ ?_
  refine wp_scope_k 9 ?_
  intro S hSr hSn hSg
  refine wp_seq_k ?_
  intro K2 hK2
  refine wp_seq_k ?_
  intro K3 hK3
  refine rg [0, 1, 2] ?_
  refine sq ?_
  refine .mv ?_
  refine sq ?_
  refine .r0 ?_
  refine sq ?_
  refine .r0 ?_
  apply wpSq_end
  refine hK3 _ _ ?_
  refine cf ?_
  refine wp_skip ?_
  refine hK2 _ _ ?_
  refine wp_seq_k ?_
  intro K4 hK4
  refine rg [0] ?_
  refine sq ?_
  refine .al hs ?_; clear hs; intro p_b2 w_2 hs n2 kb_b2
  apply wpSq_end
  refine hK4 _ _ ?_
  refine wp_seq_k ?_
  intro K5 hK5
  refine rg [0] ?_
  refine sq ?_
  refine .mv ?_
  apply wpSq_end
  refine hK5 _ _ ?_
  refine wp_seq_k ?_
  intro K6 hK6
  refine rg [0, 1, 2, 3, 4, 5, 6, 7, 8] ?_
  refine sq ?_
  refine .mv ?_
  refine sq ?_
  intro K hK
  go_big_op
  go_fit (HC.out _)
  rintro e w_3 ⟨rfl, hb_3⟩
  replace hs := hs.bl hb_3
  refine hK _ _ rfl trivial ?_
  clear hK K
  refine sq ?_
  refine .mv ?_
  refine sq ?_
  refine .r0 ?_
  refine sq ?_
  refine .r0 ?_
  refine sq ?_
  refine .r0 ?_
  refine sq ?_
  refine .mv ?_
  refine sq ?_
  refine .mv ?_
  refine sq ?_
  refine .mv ?_
  apply wpSq_end
  refine hK6 _ _ ?_
  refine wp_seq_k ?_
  intro K7 hK7
  refine wp_seq_k ?_
  intro K8 hK8
  refine rg [0, 1] ?_
  refine sq ?_
  refine .mv ?_
  refine sq ?_
  refine .r0 ?_
  apply wpSq_end
  refine hK8 _ _ ?_
  refine cf ?_
  refine wp_skip ?_
  refine hK7 _ _ ?_
  refine wp_seq_k ?_
  intro K9 hK9
  refine wp_seq_k ?_
  intro K10 hK10
  refine rg [0, 1] ?_
  refine sq ?_
  refine .mv ?_
  refine sq ?_
  refine .r0 ?_
  apply wpSq_end
  refine hK10 _ _ ?_
  refine ct ?_
  refine wp_goto ?_
  refine hSg _ _ _ _ _ rfl ?_
  refine wp_seq_k ?_
  intro K11 hK11
  refine wp_skip ?_
  refine hK11 _ _ ?_
  refine wp_seq_k ?_
  intro K12 hK12
  refine wp_seq_k ?_
  intro K13 hK13
  refine rg [0, 1] ?_
  refine sq ?_
  refine .mv ?_
  refine sq ?_
  refine .r0 ?_
  apply wpSq_end
  refine hK13 _ _ ?_
  refine cf ?_
  refine wp_skip ?_
  refine hK12 _ _ ?_
  refine wp_seq_k ?_
  intro K14 hK14
  refine rg [0, 1, 2, 3, 4, 5, 6] ?_
  refine sq ?_
  refine .mv ?_
  refine sq ?_
  intro K hK
  go_big_op
  go_fit (zparse_ok D _ HZ.out.2 HZ.out.1)
  rintro e w_4 ⟨v_g, rfl, g, hb_4⟩
  replace hs := hs.bl hb_4
  obtain ⟨n_g, o_g, k_g, c_g, rfl⟩ := g.open2
  have Lg := hide (g.lenOf (HL.out))
  refine hK _ _ rfl trivial ?_
  clear hK K
  refine sq ?_
  refine .mv ?_
  refine sq ?_
  refine .r0 ?_
  refine sq ?_
  refine .r0 ?_
  refine sq ?_
  refine .r0 ?_
  refine sq ?_
  intro K hK
  have xs := hs.g0
  obtain ⟨d0, d1, d2, d3⟩ := hs.g0.f4
  have f0 := xs.free 2; have f1 := xs.free 3
  go_big_op
  have hd5 := xs.nod rfl rfl
  obtain ⟨w_5, eW, xs', ho5⟩ : ∃ w', ((w_4.setCell ⟨p_b2, 2, none⟩ (.bool n_g)).setCell ⟨p_b2, 3, none⟩ (.slice o_g k_g c_g)) = w' ∧ Bs w' p_b2 #[.bool false, .slice none 0 0, .bool n_g, .slice o_g k_g c_g] 29 ∧ Only p_b2 w_4 w' := xs.setN [(2, .bool n_g), (3, .slice o_g k_g c_g)]
  rw [eW]; clear eW d0 d1 d2 d3 f0 f1 xs
  replace hs := hs.u0 kb_b2 xs' ho5; clear xs'
  refine hK _ _ rfl trivial ?_; clear hK K
  apply wpSq_end
  refine hK14 _ _ ?_
  refine wp_seq_k ?_
  intro K15 hK15
  refine wp_seq_k ?_
  intro K16 hK16
  refine rg [0, 1] ?_
  refine sq ?_
  refine .mv ?_
  refine sq ?_
  refine .r0 ?_
  apply wpSq_end
  refine hK16 _ _ ?_
  refine cf ?_
  refine wp_skip ?_
  refine hK15 _ _ ?_
  refine wp_seq_k ?_
  intro K17 hK17
  refine wp_label ?_
  refine hK17 _ _ ?_
  refine wp_seq_k ?_
  intro K18 hK18
  refine wp_seq_k ?_
  intro K19 hK19
  refine rg [0, 1, 2] ?_
  refine sq ?_
  refine .r4 hs.g0.f4 ?_
  refine sq ?_
  refine .s4 hs.g1 (fun _ => hs.u1 kb_b1) ?_; clear hs; intro w_6 hs hd6 ho6
  refine sq ?_
  refine .mv ?_
  apply wpSq_end
  refine hK19 _ _ ?_
  refine wp_ret ?_
  refine hSr _ _ _ ?_
  try dsimp only [Exit.then, Exit.inBlock]
  obtain ⟨r0_0, r0_1, r0_2, r0_3⟩ := hs.g1.f4
  refine bodyPost_ret (v := (.tuple #[(.agg #[.bool false, .slice none 0 0, .bool n_g, .slice o_g k_g c_g]), (.int .i64 0)])) (by simp [results, Tryz.results20, go_sem, r0_0, r0_1, r0_2, r0_3]) rfl ?_
  have k4_6 := (ko hd5 ho5).o hd6 ho6
  replace g := g.k k4_6
  exact ⟨_, rfl, .mk' (zc_zero w_6) g, hs.b⟩
set_option maxHeartbeats 8000000 in
set_option maxRecDepth 20000 in
theorem parse_im_dm (w : World) (hsz : s.size ≤ 65536) (hc : CutIs s A D R) (hA : (A.toList == [43]) = false) (hR : (R.toList == [105]) = true) (hD : (D.toList == []) = false) (hM : (A.toList == [45]) = true) (hz : zok D = true) (hsz : D.size ≤ 65536) :
    Calls Tryz.prog 20 #[.string s] w fun e w' => ∃ r, e = .returned (.tuple #[r, .int .i64 0]) ∧ PC w' r 0 (-(zvl D)) ∧ Below w.heap.size w w' := by
  have HC := hide hc
  have hsz' : (65536 < (s.size : Int)) = False := eq_false (by omega)
  have HZ := hide (And.intro hz hsz)
  have HL := hide (zvl_len hsz hz)
  clear hz
  clear hc
  go_enter Tryz.func20, Tryz.ntmps20
  have hs := St.nil w
  refine wp_seq_k ?_
  intro K1 hK1
  refine rg [0, 1] ?_
  refine sq ?_
  refine .al hs ?_; clear hs; intro p_b1 w_1 hs n1 kb_b1
  refine sq ?_
  refine .mv ?_
  apply wpSq_end
  refine hK1 _ _ ?_
  refine wp_scope_k 9 ?_
  intro S hSr hSn hSg
  refine wp_seq_k ?_
  intro K2 hK2
  refine wp_seq_k ?_
  intro K3 hK3
  refine rg [0, 1, 2] ?_
  refine sq ?_
  refine .mv ?_
  refine sq ?_
  refine .r0 ?_
  refine sq ?_
  refine .r0 ?_
  apply wpSq_end
  refine hK3 _ _ ?_
  refine cf ?_
  refine wp_skip ?_
  refine hK2 _ _ ?_
  refine wp_seq_k ?_
  intro K4 hK4
  refine rg [0] ?_
  refine sq ?_
  refine .al hs ?_; clear hs; intro p_b2 w_2 hs n2 kb_b2
  apply wpSq_end
  refine hK4 _ _ ?_
  refine wp_seq_k ?_
  intro K5 hK5
  refine rg [0] ?_
  refine sq ?_
  refine .mv ?_
  apply wpSq_end
  refine hK5 _ _ ?_
  refine wp_seq_k ?_
  intro K6 hK6
  refine rg [0, 1, 2, 3, 4, 5, 6, 7, 8] ?_
  refine sq ?_
  refine .mv ?_
  refine sq ?_
  intro K hK
  go_big_op
  go_fit (HC.out _)
  rintro e w_3 ⟨rfl, hb_3⟩
  replace hs := hs.bl hb_3
  refine hK _ _ rfl trivial ?_
  clear hK K
  refine sq ?_
  refine .mv ?_
  refine sq ?_
  refine .r0 ?_
  refine sq ?_
  refine .r0 ?_
  refine sq ?_
  refine .r0 ?_
  refine sq ?_
  refine .mv ?_
  refine sq ?_
  refine .mv ?_
  refine sq ?_
  refine .mv ?_
  apply wpSq_end
  refine hK6 _ _ ?_
  refine wp_seq_k ?_
  intro K7 hK7
  refine wp_seq_k ?_
  intro K8 hK8
  refine rg [0, 1] ?_
  refine sq ?_
  refine .mv ?_
  refine sq ?_
  refine .r0 ?_
  apply wpSq_end
  refine hK8 _ _ ?_
  refine cf ?_
  refine wp_skip ?_
  refine hK7 _ _ ?_
  refine wp_seq_k ?_
  intro K9 hK9
  refine wp_seq_k ?_
  intro K10 hK10
  refine rg [0, 1] ?_
  refine sq ?_
  refine .mv ?_
  refine sq ?_
  refine .r0 ?_
  apply wpSq_end
  refine hK10 _ _ ?_
  refine ct ?_
  refine wp_goto ?_
  refine hSg _ _ _ _ _ rfl ?_
  refine wp_seq_k ?_
  intro K11 hK11
  refine wp_skip ?_
  refine hK11 _ _ ?_
  refine wp_seq_k ?_
  intro K12 hK12
  refine wp_seq_k ?_
  intro K13 hK13
  refine rg [0, 1] ?_
  refine sq ?_
  refine .mv ?_
  refine sq ?_
  refine .r0 ?_
  apply wpSq_end
  refine hK13 _ _ ?_
  refine cf ?_
  refine wp_skip ?_
  refine hK12 _ _ ?_
  refine wp_seq_k ?_
  intro K14 hK14
  refine rg [0, 1, 2, 3, 4, 5, 6] ?_
  refine sq ?_
  refine .mv ?_
  refine sq ?_
  intro K hK
  go_big_op
  go_fit (zparse_ok D _ HZ.out.2 HZ.out.1)
  rintro e w_4 ⟨v_g, rfl, g, hb_4⟩
  replace hs := hs.bl hb_4
  obtain ⟨n_g, o_g, k_g, c_g, rfl⟩ := g.open2
  have Lg := hide (g.lenOf (HL.out))
  refine hK _ _ rfl trivial ?_
  clear hK K
  refine sq ?_
  refine .mv ?_
  refine sq ?_
  refine .r0 ?_
  refine sq ?_
  refine .r0 ?_
  refine sq ?_
  refine .r0 ?_
  refine sq ?_
  intro K hK
  have xs := hs.g0
  obtain ⟨d0, d1, d2, d3⟩ := hs.g0.f4
  have f0 := xs.free 2; have f1 := xs.free 3
  go_big_op
  have hd5 := xs.nod rfl rfl
  obtain ⟨w_5, eW, xs', ho5⟩ : ∃ w', ((w_4.setCell ⟨p_b2, 2, none⟩ (.bool n_g)).setCell ⟨p_b2, 3, none⟩ (.slice o_g k_g c_g)) = w' ∧ Bs w' p_b2 #[.bool false, .slice none 0 0, .bool n_g, .slice o_g k_g c_g] 29 ∧ Only p_b2 w_4 w' := xs.setN [(2, .bool n_g), (3, .slice o_g k_g c_g)]
  rw [eW]; clear eW d0 d1 d2 d3 f0 f1 xs
  replace hs := hs.u0 kb_b2 xs' ho5; clear xs'
  refine hK _ _ rfl trivial ?_; clear hK K
  apply wpSq_end
  refine hK14 _ _ ?_
  refine wp_seq_k ?_
  intro K15 hK15
  refine wp_seq_k ?_
  intro K16 hK16
  refine rg [0, 1] ?_
  refine sq ?_
  refine .mv ?_
  refine sq ?_
  refine .r0 ?_
  apply wpSq_end
  refine hK16 _ _ ?_
  refine ct ?_
  refine rg [0, 1, 2, 3, 4] ?_
  refine sq ?_
  refine .r0 ?_
  refine sq ?_
  refine .r4 hs.g0.f4 ?_
  refine sq ?_
  intro K hK
  have k4_5 := ko hd5 ho5
  replace g := g.k k4_5
  go_big_op
  go_fit (zneg_any (g.zn Lg.out) (by omega) )
  rintro e w_6 ⟨v_o, rfl, o, hb_6⟩
  replace hs := hs.bl hb_6
  replace o := o.rd
  obtain ⟨n_o, o_o, k_o, c_o, rfl⟩ := o.open2
  have Lo := hide (o.lenOf (zlen_neg (Lg.out)))
  refine hK _ _ rfl trivial ?_
  clear hK K
  refine sq ?_
  refine .r0 ?_
  refine sq ?_
  intro K hK
  have xs := hs.g0
  obtain ⟨d0, d1, d2, d3⟩ := hs.g0.f4
  have f0 := xs.free 2; have f1 := xs.free 3
  go_big_op
  have hd7 := xs.nod rfl rfl
  obtain ⟨w_7, eW, xs', ho7⟩ : ∃ w', ((w_6.setCell ⟨p_b2, 2, none⟩ (.bool n_o)).setCell ⟨p_b2, 3, none⟩ (.slice o_o k_o c_o)) = w' ∧ Bs w' p_b2 #[.bool false, .slice none 0 0, .bool n_o, .slice o_o k_o c_o] 29 ∧ Only p_b2 w_6 w' := xs.setN [(2, .bool n_o), (3, .slice o_o k_o c_o)]
  rw [eW]; clear eW d0 d1 d2 d3 f0 f1 xs
  replace hs := hs.u0 kb_b2 xs' ho7; clear xs'
  refine hK _ _ rfl trivial ?_; clear hK K
  apply wpSq_end
  refine hK15 _ _ ?_
  refine wp_seq_k ?_
  intro K17 hK17
  refine wp_label ?_
  refine hK17 _ _ ?_
  refine wp_seq_k ?_
  intro K18 hK18
  refine wp_seq_k ?_
  intro K19 hK19
  refine rg [0, 1, 2] ?_
  refine sq ?_
  refine .r4 hs.g0.f4 ?_
  refine sq ?_
  refine .s4 hs.g1 (fun _ => hs.u1 kb_b1) ?_; clear hs; intro w_8 hs hd8 ho8
  refine sq ?_
  refine .mv ?_
  apply wpSq_end
  refine hK19 _ _ ?_
  refine wp_ret ?_
  refine hSr _ _ _ ?_
  try dsimp only [Exit.then, Exit.inBlock]
  obtain ⟨r0_0, r0_1, r0_2, r0_3⟩ := hs.g1.f4
  refine bodyPost_ret (v := (.tuple #[(.agg #[.bool false, .slice none 0 0, .bool n_o, .slice o_o k_o c_o]), (.int .i64 0)])) (by simp [results, Tryz.results20, go_sem, r0_0, r0_1, r0_2, r0_3]) rfl ?_
  have k6_8 := (ko hd7 ho7).o hd8 ho8
  replace o := o.k k6_8
  exact ⟨_, rfl, .mk' (zc_zero w_8) o, hs.b⟩
set_option maxHeartbeats 8000000 in
set_option maxRecDepth 20000 in
theorem parse_both_ep (w : World) (hsz : s.size ≤ 65536) (hc : CutIs s A D R) (hA : (A.toList == [43]) = false) (hR : (R.toList == [105]) = false) (hR0 : (R.toList == []) = false) (hz0 : zok (A ++ D) = true) (hAD : (A ++ D).size ≤ 65536) (hc2 : CutIs R A2 D2 R2) (hR2 : (R2.toList == [105]) = true) (hD : (D2.toList == []) = true) (hM : (A2.toList == [45]) = false) :
    Calls Tryz.prog 20 #[.string s] w fun e w' => ∃ r, e = .returned (.tuple #[r, .int .i64 0]) ∧ PC w' r (zvl (A ++ D)) (1) ∧ Below w.heap.size w w' := by
  have HC := hide hc
  have hsz' : (65536 < (s.size : Int)) = False := eq_false (by omega)
  have HC2 := hide hc2
  have HZ0 := hide (And.intro hz0 hAD)
  have HL0 := hide (zvl_len hAD hz0)
  have hsz0 : A.size + D.size ≤ 65536 := by rw [← ByteArray.size_append]; exact hAD
  clear hz0 hc2
  have H1 := hide (And.intro (show zok ⟨#[49]⟩ = true by kernel_rfl) (show zvl ⟨#[49]⟩ = 1 by kernel_rfl))
  clear hc
  go_enter Tryz.func20, Tryz.ntmps20
  have hs := St.nil w
  refine wp_seq_k ?_
  intro K1 hK1
  refine rg [0, 1] ?_
  refine sq ?_
  refine .al hs ?_; clear hs; intro p_b1 w_1 hs n1 kb_b1
  refine sq ?_
  refine .mv ?_
  apply wpSq_end
  refine hK1 _ _ ?_
  refine wp_scope_k 9 ?_
  intro S hSr hSn hSg
  refine wp_seq_k ?_
  intro K2 hK2
  refine wp_seq_k ?_
  intro K3 hK3
  refine rg [0, 1, 2] ?_
  refine sq ?_
  refine .mv ?_
  refine sq ?_
  refine .r0 ?_
  refine sq ?_
  refine .r0 ?_
  apply wpSq_end
  refine hK3 _ _ ?_
  refine cf ?_
  refine wp_skip ?_
  refine hK2 _ _ ?_
  refine wp_seq_k ?_
  intro K4 hK4
  refine rg [0] ?_
  refine sq ?_
  refine .al hs ?_; clear hs; intro p_b2 w_2 hs n2 kb_b2
  apply wpSq_end
  refine hK4 _ _ ?_
  refine wp_seq_k ?_
  intro K5 hK5
  refine rg [0] ?_
  refine sq ?_
  refine .mv ?_
  apply wpSq_end
  refine hK5 _ _ ?_
  refine wp_seq_k ?_
  intro K6 hK6
  refine rg [0, 1, 2, 3, 4, 5, 6, 7, 8] ?_
  refine sq ?_
  refine .mv ?_
  refine sq ?_
  intro K hK
  go_big_op
  go_fit (HC.out _)
  rintro e w_3 ⟨rfl, hb_3⟩
  replace hs := hs.bl hb_3
  refine hK _ _ rfl trivial ?_
  clear hK K
  refine sq ?_
  refine .mv ?_
  refine sq ?_
  refine .r0 ?_
  refine sq ?_
  refine .r0 ?_
  refine sq ?_
  refine .r0 ?_
  refine sq ?_
  refine .mv ?_
  refine sq ?_
  refine .mv ?_
  refine sq ?_
  refine .mv ?_
  apply wpSq_end
  refine hK6 _ _ ?_
  refine wp_seq_k ?_
  intro K7 hK7
  refine wp_seq_k ?_
  intro K8 hK8
  refine rg [0, 1] ?_
  refine sq ?_
  refine .mv ?_
  refine sq ?_
  refine .r0 ?_
  apply wpSq_end
  refine hK8 _ _ ?_
  refine cf ?_
  refine wp_skip ?_
  refine hK7 _ _ ?_
  refine wp_seq_k ?_
  intro K9 hK9
  refine wp_seq_k ?_
  intro K10 hK10
  refine rg [0, 1] ?_
  refine sq ?_
  refine .mv ?_
  refine sq ?_
  refine .r0 ?_
  apply wpSq_end
  refine hK10 _ _ ?_
  refine cf ?_
  refine wp_skip ?_
  refine hK9 _ _ ?_
  refine wp_seq_k ?_
  intro K11 hK11
  refine rg [0, 1, 2, 3, 4, 5, 6, 7, 8, 9] ?_
  refine sq ?_
  refine .mv ?_
  refine sq ?_
  refine .mv ?_
  refine sq ?_
  refine .r0 ?_
  refine sq ?_
  intro K hK
  go_big_op
  go_fit (zparse_ok (A ++ D) _ HZ0.out.2 HZ0.out.1)
  rintro e w_4 ⟨v_r, rfl, r, hb_4⟩
  replace hs := hs.bl hb_4
  obtain ⟨n_r, o_r, k_r, c_r, rfl⟩ := r.open2
  have Lr := hide (r.lenOf (HL0.out))
  refine hK _ _ rfl trivial ?_
  clear hK K
  refine sq ?_
  refine .mv ?_
  refine sq ?_
  refine .r0 ?_
  refine sq ?_
  refine .r0 ?_
  refine sq ?_
  refine .r0 ?_
  refine sq ?_
  intro K hK
  have xs := hs.g0
  obtain ⟨d0, d1, d2, d3⟩ := hs.g0.f4
  have f0 := xs.free 0; have f1 := xs.free 1
  go_big_op
  have hd5 := xs.nod rfl rfl
  obtain ⟨w_5, eW, xs', ho5⟩ : ∃ w', ((w_4.setCell ⟨p_b2, 0, none⟩ (.bool n_r)).setCell ⟨p_b2, 1, none⟩ (.slice o_r k_r c_r)) = w' ∧ Bs w' p_b2 #[.bool n_r, .slice o_r k_r c_r, .bool false, .slice none 0 0] 29 ∧ Only p_b2 w_4 w' := xs.setN [(0, .bool n_r), (1, .slice o_r k_r c_r)]
  rw [eW]; clear eW d0 d1 d2 d3 f0 f1 xs
  replace hs := hs.u0 kb_b2 xs' ho5; clear xs'
  refine hK _ _ rfl trivial ?_; clear hK K
  refine sq ?_
  refine .mv ?_
  apply wpSq_end
  refine hK11 _ _ ?_
  refine wp_seq_k ?_
  intro K12 hK12
  refine wp_seq_k ?_
  intro K13 hK13
  refine rg [0, 1] ?_
  refine sq ?_
  refine .mv ?_
  refine sq ?_
  refine .r0 ?_
  apply wpSq_end
  refine hK13 _ _ ?_
  refine cf ?_
  refine wp_skip ?_
  refine hK12 _ _ ?_
  refine wp_seq_k ?_
  intro K14 hK14
  refine wp_seq_k ?_
  intro K15 hK15
  refine rg [0, 1] ?_
  refine sq ?_
  refine .mv ?_
  refine sq ?_
  refine .r0 ?_
  apply wpSq_end
  refine hK15 _ _ ?_
  refine cf ?_
  refine wp_skip ?_
  refine hK14 _ _ ?_
  refine wp_seq_k ?_
  intro K16 hK16
  refine rg [0, 1, 2, 3, 4, 5, 6, 7, 8] ?_
  refine sq ?_
  refine .mv ?_
  refine sq ?_
  intro K hK
  go_big_op
  go_fit (HC2.out _)
  rintro e w_6 ⟨rfl, hb_6⟩
  replace hs := hs.bl hb_6
  refine hK _ _ rfl trivial ?_
  clear hK K
  refine sq ?_
  refine .mv ?_
  refine sq ?_
  refine .r0 ?_
  refine sq ?_
  refine .r0 ?_
  refine sq ?_
  refine .r0 ?_
  refine sq ?_
  refine .mv ?_
  refine sq ?_
  refine .mv ?_
  refine sq ?_
  refine .mv ?_
  apply wpSq_end
  refine hK16 _ _ ?_
  refine wp_seq_k ?_
  intro K17 hK17
  refine wp_seq_k ?_
  intro K18 hK18
  refine rg [0, 1] ?_
  refine sq ?_
  refine .mv ?_
  refine sq ?_
  refine .r0 ?_
  apply wpSq_end
  refine hK18 _ _ ?_
  refine cf ?_
  refine wp_skip ?_
  refine hK17 _ _ ?_
  refine wp_seq_k ?_
  intro K19 hK19
  refine wp_label ?_
  refine hK19 _ _ ?_
  refine wp_seq_k ?_
  intro K20 hK20
  refine wp_seq_k ?_
  intro K21 hK21
  refine rg [0, 1] ?_
  refine sq ?_
  refine .mv ?_
  refine sq ?_
  refine .r0 ?_
  apply wpSq_end
  refine hK21 _ _ ?_
  refine ct ?_
  refine rg [0] ?_
  refine sq ?_
  refine .mv ?_
  apply wpSq_end
  refine hK20 _ _ ?_
  refine wp_seq_k ?_
  intro K22 hK22
  refine rg [0, 1, 2, 3, 4, 5, 6] ?_
  refine sq ?_
  refine .mv ?_
  refine sq ?_
  intro K hK
  go_big_op
  go_fit (zparse_ok ⟨#[49]⟩ _ (by decide) H1.out.1)
  rintro e w_7 ⟨v_g, rfl, g, hb_7⟩
  replace hs := hs.bl hb_7
  obtain ⟨n_g, o_g, k_g, c_g, rfl⟩ := g.open2
  rw [H1.out.2] at g
  refine hK _ _ rfl trivial ?_
  clear hK K
  refine sq ?_
  refine .mv ?_
  refine sq ?_
  refine .r0 ?_
  refine sq ?_
  refine .r0 ?_
  refine sq ?_
  refine .r0 ?_
  refine sq ?_
  intro K hK
  have xs := hs.g0
  obtain ⟨d0, d1, d2, d3⟩ := hs.g0.f4
  have f0 := xs.free 2; have f1 := xs.free 3
  go_big_op
  have hd8 := xs.nod rfl rfl
  obtain ⟨w_8, eW, xs', ho8⟩ : ∃ w', ((w_7.setCell ⟨p_b2, 2, none⟩ (.bool n_g)).setCell ⟨p_b2, 3, none⟩ (.slice o_g k_g c_g)) = w' ∧ Bs w' p_b2 #[.bool n_r, .slice o_r k_r c_r, .bool n_g, .slice o_g k_g c_g] 29 ∧ Only p_b2 w_7 w' := xs.setN [(2, .bool n_g), (3, .slice o_g k_g c_g)]
  rw [eW]; clear eW d0 d1 d2 d3 f0 f1 xs
  replace hs := hs.u0 kb_b2 xs' ho8; clear xs'
  refine hK _ _ rfl trivial ?_; clear hK K
  apply wpSq_end
  refine hK22 _ _ ?_
  refine wp_seq_k ?_
  intro K23 hK23
  refine wp_seq_k ?_
  intro K24 hK24
  refine rg [0, 1] ?_
  refine sq ?_
  refine .mv ?_
  refine sq ?_
  refine .r0 ?_
  apply wpSq_end
  refine hK24 _ _ ?_
  have Lg := hide (show (dig (Int.natAbs 1)).length ≤ 1 by decide)
  refine cf ?_
  refine wp_skip ?_
  refine hK23 _ _ ?_
  refine wp_seq_k ?_
  intro K25 hK25
  refine wp_label ?_
  refine hK25 _ _ ?_
  refine wp_seq_k ?_
  intro K26 hK26
  refine wp_seq_k ?_
  intro K27 hK27
  refine rg [0, 1, 2] ?_
  refine sq ?_
  refine .r4 hs.g0.f4 ?_
  refine sq ?_
  refine .s4 hs.g1 (fun _ => hs.u1 kb_b1) ?_; clear hs; intro w_9 hs hd9 ho9
  refine sq ?_
  refine .mv ?_
  apply wpSq_end
  refine hK27 _ _ ?_
  refine wp_ret ?_
  refine hSr _ _ _ ?_
  try dsimp only [Exit.then, Exit.inBlock]
  obtain ⟨r0_0, r0_1, r0_2, r0_3⟩ := hs.g1.f4
  refine bodyPost_ret (v := (.tuple #[(.agg #[.bool n_r, .slice o_r k_r c_r, .bool n_g, .slice o_g k_g c_g]), (.int .i64 0)])) (by simp [results, Tryz.results20, go_sem, r0_0, r0_1, r0_2, r0_3]) rfl ?_
  have k4_9 := ((((ko hd5 ho5).b hb_6).b hb_7).o hd8 ho8).o hd9 ho9
  replace r := r.k k4_9
  have k7_9 := (ko hd8 ho8).o hd9 ho9
  replace g := g.k k7_9
  exact ⟨_, rfl, .mk' r g, hs.b⟩
set_option maxHeartbeats 8000000 in
set_option maxRecDepth 20000 in
theorem parse_both_em (w : World) (hsz : s.size ≤ 65536) (hc : CutIs s A D R) (hA : (A.toList == [43]) = false) (hR : (R.toList == [105]) = false) (hR0 : (R.toList == []) = false) (hz0 : zok (A ++ D) = true) (hAD : (A ++ D).size ≤ 65536) (hc2 : CutIs R A2 D2 R2) (hR2 : (R2.toList == [105]) = true) (hD : (D2.toList == []) = true) (hM : (A2.toList == [45]) = true) :
    Calls Tryz.prog 20 #[.string s] w fun e w' => ∃ r, e = .returned (.tuple #[r, .int .i64 0]) ∧ PC w' r (zvl (A ++ D)) (-1) ∧ Below w.heap.size w w' := by
  have HC := hide hc
  have hsz' : (65536 < (s.size : Int)) = False := eq_false (by omega)
  have HC2 := hide hc2
  have HZ0 := hide (And.intro hz0 hAD)
  have HL0 := hide (zvl_len hAD hz0)
  have hsz0 : A.size + D.size ≤ 65536 := by rw [← ByteArray.size_append]; exact hAD
  clear hz0 hc2
  have H1 := hide (And.intro (show zok ⟨#[49]⟩ = true by kernel_rfl) (show zvl ⟨#[49]⟩ = 1 by kernel_rfl))
  clear hc
  go_enter Tryz.func20, Tryz.ntmps20
  have hs := St.nil w
  refine wp_seq_k ?_
  intro K1 hK1
  refine rg [0, 1] ?_
  refine sq ?_
  refine .al hs ?_; clear hs; intro p_b1 w_1 hs n1 kb_b1
  refine sq ?_
  refine .mv ?_
  apply wpSq_end
  refine hK1 _ _ ?_
  refine wp_scope_k 9 ?_
  intro S hSr hSn hSg
  refine wp_seq_k ?_
  intro K2 hK2
  refine wp_seq_k ?_
  intro K3 hK3
  refine rg [0, 1, 2] ?_
  refine sq ?_
  refine .mv ?_
  refine sq ?_
  refine .r0 ?_
  refine sq ?_
  refine .r0 ?_
  apply wpSq_end
  refine hK3 _ _ ?_
  refine cf ?_
  refine wp_skip ?_
  refine hK2 _ _ ?_
  refine wp_seq_k ?_
  intro K4 hK4
  refine rg [0] ?_
  refine sq ?_
  refine .al hs ?_; clear hs; intro p_b2 w_2 hs n2 kb_b2
  apply wpSq_end
  refine hK4 _ _ ?_
  refine wp_seq_k ?_
  intro K5 hK5
  refine rg [0] ?_
  refine sq ?_
  refine .mv ?_
  apply wpSq_end
  refine hK5 _ _ ?_
  refine wp_seq_k ?_
  intro K6 hK6
  refine rg [0, 1, 2, 3, 4, 5, 6, 7, 8] ?_
  refine sq ?_
  refine .mv ?_
  refine sq ?_
  intro K hK
  go_big_op
  go_fit (HC.out _)
  rintro e w_3 ⟨rfl, hb_3⟩
  replace hs := hs.bl hb_3
  refine hK _ _ rfl trivial ?_
  clear hK K
  refine sq ?_
  refine .mv ?_
  refine sq ?_
  refine .r0 ?_
  refine sq ?_
  refine .r0 ?_
  refine sq ?_
  refine .r0 ?_
  refine sq ?_
  refine .mv ?_
  refine sq ?_
  refine .mv ?_
  refine sq ?_
  refine .mv ?_
  apply wpSq_end
  refine hK6 _ _ ?_
  refine wp_seq_k ?_
  intro K7 hK7
  refine wp_seq_k ?_
  intro K8 hK8
  refine rg [0, 1] ?_
  refine sq ?_
  refine .mv ?_
  refine sq ?_
  refine .r0 ?_
  apply wpSq_end
  refine hK8 _ _ ?_
  refine cf ?_
  refine wp_skip ?_
  refine hK7 _ _ ?_
  refine wp_seq_k ?_
  intro K9 hK9
  refine wp_seq_k ?_
  intro K10 hK10
  refine rg [0, 1] ?_
  refine sq ?_
  refine .mv ?_
  refine sq ?_
  refine .r0 ?_
  apply wpSq_end
  refine hK10 _ _ ?_
  refine cf ?_
  refine wp_skip ?_
  refine hK9 _ _ ?_
  refine wp_seq_k ?_
  intro K11 hK11
  refine rg [0, 1, 2, 3, 4, 5, 6, 7, 8, 9] ?_
  refine sq ?_
  refine .mv ?_
  refine sq ?_
  refine .mv ?_
  refine sq ?_
  refine .r0 ?_
  refine sq ?_
  intro K hK
  go_big_op
  go_fit (zparse_ok (A ++ D) _ HZ0.out.2 HZ0.out.1)
  rintro e w_4 ⟨v_r, rfl, r, hb_4⟩
  replace hs := hs.bl hb_4
  obtain ⟨n_r, o_r, k_r, c_r, rfl⟩ := r.open2
  have Lr := hide (r.lenOf (HL0.out))
  refine hK _ _ rfl trivial ?_
  clear hK K
  refine sq ?_
  refine .mv ?_
  refine sq ?_
  refine .r0 ?_
  refine sq ?_
  refine .r0 ?_
  refine sq ?_
  refine .r0 ?_
  refine sq ?_
  intro K hK
  have xs := hs.g0
  obtain ⟨d0, d1, d2, d3⟩ := hs.g0.f4
  have f0 := xs.free 0; have f1 := xs.free 1
  go_big_op
  have hd5 := xs.nod rfl rfl
  obtain ⟨w_5, eW, xs', ho5⟩ : ∃ w', ((w_4.setCell ⟨p_b2, 0, none⟩ (.bool n_r)).setCell ⟨p_b2, 1, none⟩ (.slice o_r k_r c_r)) = w' ∧ Bs w' p_b2 #[.bool n_r, .slice o_r k_r c_r, .bool false, .slice none 0 0] 29 ∧ Only p_b2 w_4 w' := xs.setN [(0, .bool n_r), (1, .slice o_r k_r c_r)]
  rw [eW]; clear eW d0 d1 d2 d3 f0 f1 xs
  replace hs := hs.u0 kb_b2 xs' ho5; clear xs'
  refine hK _ _ rfl trivial ?_; clear hK K
  refine sq ?_
  refine .mv ?_
  apply wpSq_end
  refine hK11 _ _ ?_
  refine wp_seq_k ?_
  intro K12 hK12
  refine wp_seq_k ?_
  intro K13 hK13
  refine rg [0, 1] ?_
  refine sq ?_
  refine .mv ?_
  refine sq ?_
  refine .r0 ?_
  apply wpSq_end
  refine hK13 _ _ ?_
  refine cf ?_
  refine wp_skip ?_
  refine hK12 _ _ ?_
  refine wp_seq_k ?_
  intro K14 hK14
  refine wp_seq_k ?_
  intro K15 hK15
  refine rg [0, 1] ?_
  refine sq ?_
  refine .mv ?_
  refine sq ?_
  refine .r0 ?_
  apply wpSq_end
  refine hK15 _ _ ?_
  refine cf ?_
  refine wp_skip ?_
  refine hK14 _ _ ?_
  refine wp_seq_k ?_
  intro K16 hK16
  refine rg [0, 1, 2, 3, 4, 5, 6, 7, 8] ?_
  refine sq ?_
  refine .mv ?_
  refine sq ?_
  intro K hK
  go_big_op
  go_fit (HC2.out _)
  rintro e w_6 ⟨rfl, hb_6⟩
  replace hs := hs.bl hb_6
  refine hK _ _ rfl trivial ?_
  clear hK K
  refine sq ?_
  refine .mv ?_
  refine sq ?_
  refine .r0 ?_
  refine sq ?_
  refine .r0 ?_
  refine sq ?_
  refine .r0 ?_
  refine sq ?_
  refine .mv ?_
  refine sq ?_
  refine .mv ?_
  refine sq ?_
  refine .mv ?_
  apply wpSq_end
  refine hK16 _ _ ?_
  refine wp_seq_k ?_
  intro K17 hK17
  refine wp_seq_k ?_
  intro K18 hK18
  refine rg [0, 1] ?_
  refine sq ?_
  refine .mv ?_
  refine sq ?_
  refine .r0 ?_
  apply wpSq_end
  refine hK18 _ _ ?_
  refine cf ?_
  refine wp_skip ?_
  refine hK17 _ _ ?_
  refine wp_seq_k ?_
  intro K19 hK19
  refine wp_label ?_
  refine hK19 _ _ ?_
  refine wp_seq_k ?_
  intro K20 hK20
  refine wp_seq_k ?_
  intro K21 hK21
  refine rg [0, 1] ?_
  refine sq ?_
  refine .mv ?_
  refine sq ?_
  refine .r0 ?_
  apply wpSq_end
  refine hK21 _ _ ?_
  refine ct ?_
  refine rg [0] ?_
  refine sq ?_
  refine .mv ?_
  apply wpSq_end
  refine hK20 _ _ ?_
  refine wp_seq_k ?_
  intro K22 hK22
  refine rg [0, 1, 2, 3, 4, 5, 6] ?_
  refine sq ?_
  refine .mv ?_
  refine sq ?_
  intro K hK
  go_big_op
  go_fit (zparse_ok ⟨#[49]⟩ _ (by decide) H1.out.1)
  rintro e w_7 ⟨v_g, rfl, g, hb_7⟩
  replace hs := hs.bl hb_7
  obtain ⟨n_g, o_g, k_g, c_g, rfl⟩ := g.open2
  rw [H1.out.2] at g
  refine hK _ _ rfl trivial ?_
  clear hK K
  refine sq ?_
  refine .mv ?_
  refine sq ?_
  refine .r0 ?_
  refine sq ?_
  refine .r0 ?_
  refine sq ?_
  refine .r0 ?_
  refine sq ?_
  intro K hK
  have xs := hs.g0
  obtain ⟨d0, d1, d2, d3⟩ := hs.g0.f4
  have f0 := xs.free 2; have f1 := xs.free 3
  go_big_op
  have hd8 := xs.nod rfl rfl
  obtain ⟨w_8, eW, xs', ho8⟩ : ∃ w', ((w_7.setCell ⟨p_b2, 2, none⟩ (.bool n_g)).setCell ⟨p_b2, 3, none⟩ (.slice o_g k_g c_g)) = w' ∧ Bs w' p_b2 #[.bool n_r, .slice o_r k_r c_r, .bool n_g, .slice o_g k_g c_g] 29 ∧ Only p_b2 w_7 w' := xs.setN [(2, .bool n_g), (3, .slice o_g k_g c_g)]
  rw [eW]; clear eW d0 d1 d2 d3 f0 f1 xs
  replace hs := hs.u0 kb_b2 xs' ho8; clear xs'
  refine hK _ _ rfl trivial ?_; clear hK K
  apply wpSq_end
  refine hK22 _ _ ?_
  refine wp_seq_k ?_
  intro K23 hK23
  refine wp_seq_k ?_
  intro K24 hK24
  refine rg [0, 1] ?_
  refine sq ?_
  refine .mv ?_
  refine sq ?_
  refine .r0 ?_
  apply wpSq_end
  refine hK24 _ _ ?_
  have Lg := hide (show (dig (Int.natAbs 1)).length ≤ 1 by decide)
  refine ct ?_
  refine rg [0, 1, 2, 3, 4] ?_
  refine sq ?_
  refine .r0 ?_
  refine sq ?_
  refine .r4 hs.g0.f4 ?_
  refine sq ?_
  intro K hK
  have k7_8 := ko hd8 ho8
  replace g := g.k k7_8
  go_big_op
  go_fit (zneg_any (g.zn Lg.out) (by omega) )
  rintro e w_9 ⟨v_o, rfl, o, hb_9⟩
  replace hs := hs.bl hb_9
  replace o := o.rd
  obtain ⟨n_o, o_o, k_o, c_o, rfl⟩ := o.open2
  have Lo := hide (o.lenOf (zlen_neg (Lg.out)))
  refine hK _ _ rfl trivial ?_
  clear hK K
  refine sq ?_
  refine .r0 ?_
  refine sq ?_
  intro K hK
  have xs := hs.g0
  obtain ⟨d0, d1, d2, d3⟩ := hs.g0.f4
  have f0 := xs.free 2; have f1 := xs.free 3
  go_big_op
  have hd10 := xs.nod rfl rfl
  obtain ⟨w_10, eW, xs', ho10⟩ : ∃ w', ((w_9.setCell ⟨p_b2, 2, none⟩ (.bool n_o)).setCell ⟨p_b2, 3, none⟩ (.slice o_o k_o c_o)) = w' ∧ Bs w' p_b2 #[.bool n_r, .slice o_r k_r c_r, .bool n_o, .slice o_o k_o c_o] 29 ∧ Only p_b2 w_9 w' := xs.setN [(2, .bool n_o), (3, .slice o_o k_o c_o)]
  rw [eW]; clear eW d0 d1 d2 d3 f0 f1 xs
  replace hs := hs.u0 kb_b2 xs' ho10; clear xs'
  refine hK _ _ rfl trivial ?_; clear hK K
  apply wpSq_end
  refine hK23 _ _ ?_
  refine wp_seq_k ?_
  intro K25 hK25
  refine wp_label ?_
  refine hK25 _ _ ?_
  refine wp_seq_k ?_
  intro K26 hK26
  refine wp_seq_k ?_
  intro K27 hK27
  refine rg [0, 1, 2] ?_
  refine sq ?_
  refine .r4 hs.g0.f4 ?_
  refine sq ?_
  refine .s4 hs.g1 (fun _ => hs.u1 kb_b1) ?_; clear hs; intro w_11 hs hd11 ho11
  refine sq ?_
  refine .mv ?_
  apply wpSq_end
  refine hK27 _ _ ?_
  refine wp_ret ?_
  refine hSr _ _ _ ?_
  try dsimp only [Exit.then, Exit.inBlock]
  obtain ⟨r0_0, r0_1, r0_2, r0_3⟩ := hs.g1.f4
  refine bodyPost_ret (v := (.tuple #[(.agg #[.bool n_r, .slice o_r k_r c_r, .bool n_o, .slice o_o k_o c_o]), (.int .i64 0)])) (by simp [results, Tryz.results20, go_sem, r0_0, r0_1, r0_2, r0_3]) rfl ?_
  have k4_11 := ((((((ko hd5 ho5).b hb_6).b hb_7).o hd8 ho8).b hb_9).o hd10 ho10).o hd11 ho11
  replace r := r.k k4_11
  have k9_11 := (ko hd10 ho10).o hd11 ho11
  replace o := o.k k9_11
  exact ⟨_, rfl, .mk' r o, hs.b⟩
set_option maxHeartbeats 8000000 in
set_option maxRecDepth 20000 in
theorem parse_both_dp (w : World) (hsz : s.size ≤ 65536) (hc : CutIs s A D R) (hA : (A.toList == [43]) = false) (hR : (R.toList == [105]) = false) (hR0 : (R.toList == []) = false) (hz0 : zok (A ++ D) = true) (hAD : (A ++ D).size ≤ 65536) (hc2 : CutIs R A2 D2 R2) (hR2 : (R2.toList == [105]) = true) (hD : (D2.toList == []) = false) (hM : (A2.toList == [45]) = false) (hz : zok D2 = true) (hsz : D2.size ≤ 65536) :
    Calls Tryz.prog 20 #[.string s] w fun e w' => ∃ r, e = .returned (.tuple #[r, .int .i64 0]) ∧ PC w' r (zvl (A ++ D)) (zvl D2) ∧ Below w.heap.size w w' := by
  have HC := hide hc
  have hsz' : (65536 < (s.size : Int)) = False := eq_false (by omega)
  have HC2 := hide hc2
  have HZ0 := hide (And.intro hz0 hAD)
  have HL0 := hide (zvl_len hAD hz0)
  have hsz0 : A.size + D.size ≤ 65536 := by rw [← ByteArray.size_append]; exact hAD
  clear hz0 hc2
  have HZ := hide (And.intro hz hsz)
  have HL := hide (zvl_len hsz hz)
  clear hz
  clear hc
  go_enter Tryz.func20, Tryz.ntmps20
  have hs := St.nil w
  refine wp_seq_k ?_
  intro K1 hK1
  refine rg [0, 1] ?_
  refine sq ?_
  refine .al hs ?_; clear hs; intro p_b1 w_1 hs n1 kb_b1
  refine sq ?_
  refine .mv ?_
  apply wpSq_end
  refine hK1 _ _ ?_
  refine wp_scope_k 9 ?_
  intro S hSr hSn hSg
  refine wp_seq_k ?_
  intro K2 hK2
  refine wp_seq_k ?_
  intro K3 hK3
  refine rg [0, 1, 2] ?_
  refine sq ?_
  refine .mv ?_
  refine sq ?_
  refine .r0 ?_
  refine sq ?_
  refine .r0 ?_
  apply wpSq_end
  refine hK3 _ _ ?_
  refine cf ?_
  refine wp_skip ?_
  refine hK2 _ _ ?_
  refine wp_seq_k ?_
  intro K4 hK4
  refine rg [0] ?_
  refine sq ?_
  refine .al hs ?_; clear hs; intro p_b2 w_2 hs n2 kb_b2
  apply wpSq_end
  refine hK4 _ _ ?_
  refine wp_seq_k ?_
  intro K5 hK5
  refine rg [0] ?_
  refine sq ?_
  refine .mv ?_
  apply wpSq_end
  refine hK5 _ _ ?_
  refine wp_seq_k ?_
  intro K6 hK6
  refine rg [0, 1, 2, 3, 4, 5, 6, 7, 8] ?_
  refine sq ?_
  refine .mv ?_
  refine sq ?_
  intro K hK
  go_big_op
  go_fit (HC.out _)
  rintro e w_3 ⟨rfl, hb_3⟩
  replace hs := hs.bl hb_3
  refine hK _ _ rfl trivial ?_
  clear hK K
  refine sq ?_
  refine .mv ?_
  refine sq ?_
  refine .r0 ?_
  refine sq ?_
  refine .r0 ?_
  refine sq ?_
  refine .r0 ?_
  refine sq ?_
  refine .mv ?_
  refine sq ?_
  refine .mv ?_
  refine sq ?_
  refine .mv ?_
  apply wpSq_end
  refine hK6 _ _ ?_
  refine wp_seq_k ?_
  intro K7 hK7
  refine wp_seq_k ?_
  intro K8 hK8
  refine rg [0, 1] ?_
  refine sq ?_
  refine .mv ?_
  refine sq ?_
  refine .r0 ?_
  apply wpSq_end
  refine hK8 _ _ ?_
  refine cf ?_
  refine wp_skip ?_
  refine hK7 _ _ ?_
  refine wp_seq_k ?_
  intro K9 hK9
  refine wp_seq_k ?_
  intro K10 hK10
  refine rg [0, 1] ?_
  refine sq ?_
  refine .mv ?_
  refine sq ?_
  refine .r0 ?_
  apply wpSq_end
  refine hK10 _ _ ?_
  refine cf ?_
  refine wp_skip ?_
  refine hK9 _ _ ?_
  refine wp_seq_k ?_
  intro K11 hK11
  refine rg [0, 1, 2, 3, 4, 5, 6, 7, 8, 9] ?_
  refine sq ?_
  refine .mv ?_
  refine sq ?_
  refine .mv ?_
  refine sq ?_
  refine .r0 ?_
  refine sq ?_
  intro K hK
  go_big_op
  go_fit (zparse_ok (A ++ D) _ HZ0.out.2 HZ0.out.1)
  rintro e w_4 ⟨v_r, rfl, r, hb_4⟩
  replace hs := hs.bl hb_4
  obtain ⟨n_r, o_r, k_r, c_r, rfl⟩ := r.open2
  have Lr := hide (r.lenOf (HL0.out))
  refine hK _ _ rfl trivial ?_
  clear hK K
  refine sq ?_
  refine .mv ?_
  refine sq ?_
  refine .r0 ?_
  refine sq ?_
  refine .r0 ?_
  refine sq ?_
  refine .r0 ?_
  refine sq ?_
  intro K hK
  have xs := hs.g0
  obtain ⟨d0, d1, d2, d3⟩ := hs.g0.f4
  have f0 := xs.free 0; have f1 := xs.free 1
  go_big_op
  have hd5 := xs.nod rfl rfl
  obtain ⟨w_5, eW, xs', ho5⟩ : ∃ w', ((w_4.setCell ⟨p_b2, 0, none⟩ (.bool n_r)).setCell ⟨p_b2, 1, none⟩ (.slice o_r k_r c_r)) = w' ∧ Bs w' p_b2 #[.bool n_r, .slice o_r k_r c_r, .bool false, .slice none 0 0] 29 ∧ Only p_b2 w_4 w' := xs.setN [(0, .bool n_r), (1, .slice o_r k_r c_r)]
  rw [eW]; clear eW d0 d1 d2 d3 f0 f1 xs
  replace hs := hs.u0 kb_b2 xs' ho5; clear xs'
  refine hK _ _ rfl trivial ?_; clear hK K
  refine sq ?_
  refine .mv ?_
  apply wpSq_end
  refine hK11 _ _ ?_
  refine wp_seq_k ?_
  intro K12 hK12
  refine wp_seq_k ?_
  intro K13 hK13
  refine rg [0, 1] ?_
  refine sq ?_
  refine .mv ?_
  refine sq ?_
  refine .r0 ?_
  apply wpSq_end
  refine hK13 _ _ ?_
  refine cf ?_
  refine wp_skip ?_
  refine hK12 _ _ ?_
  refine wp_seq_k ?_
  intro K14 hK14
  refine wp_seq_k ?_
  intro K15 hK15
  refine rg [0, 1] ?_
  refine sq ?_
  refine .mv ?_
  refine sq ?_
  refine .r0 ?_
  apply wpSq_end
  refine hK15 _ _ ?_
  refine cf ?_
  refine wp_skip ?_
  refine hK14 _ _ ?_
  refine wp_seq_k ?_
  intro K16 hK16
  refine rg [0, 1, 2, 3, 4, 5, 6, 7, 8] ?_
  refine sq ?_
  refine .mv ?_
  refine sq ?_
  intro K hK
  go_big_op
  go_fit (HC2.out _)
  rintro e w_6 ⟨rfl, hb_6⟩
  replace hs := hs.bl hb_6
  refine hK _ _ rfl trivial ?_
  clear hK K
  refine sq ?_
  refine .mv ?_
  refine sq ?_
  refine .r0 ?_
  refine sq ?_
  refine .r0 ?_
  refine sq ?_
  refine .r0 ?_
  refine sq ?_
  refine .mv ?_
  refine sq ?_
  refine .mv ?_
  refine sq ?_
  refine .mv ?_
  apply wpSq_end
  refine hK16 _ _ ?_
  refine wp_seq_k ?_
  intro K17 hK17
  refine wp_seq_k ?_
  intro K18 hK18
  refine rg [0, 1] ?_
  refine sq ?_
  refine .mv ?_
  refine sq ?_
  refine .r0 ?_
  apply wpSq_end
  refine hK18 _ _ ?_
  refine cf ?_
  refine wp_skip ?_
  refine hK17 _ _ ?_
  refine wp_seq_k ?_
  intro K19 hK19
  refine wp_label ?_
  refine hK19 _ _ ?_
  refine wp_seq_k ?_
  intro K20 hK20
  refine wp_seq_k ?_
  intro K21 hK21
  refine rg [0, 1] ?_
  refine sq ?_
  refine .mv ?_
  refine sq ?_
  refine .r0 ?_
  apply wpSq_end
  refine hK21 _ _ ?_
  refine cf ?_
  refine wp_skip ?_
  refine hK20 _ _ ?_
  refine wp_seq_k ?_
  intro K22 hK22
  refine rg [0, 1, 2, 3, 4, 5, 6] ?_
  refine sq ?_
  refine .mv ?_
  refine sq ?_
  intro K hK
  go_big_op
  go_fit (zparse_ok D2 _ HZ.out.2 HZ.out.1)
  rintro e w_7 ⟨v_g, rfl, g, hb_7⟩
  replace hs := hs.bl hb_7
  obtain ⟨n_g, o_g, k_g, c_g, rfl⟩ := g.open2
  have Lg := hide (g.lenOf (HL.out))
  refine hK _ _ rfl trivial ?_
  clear hK K
  refine sq ?_
  refine .mv ?_
  refine sq ?_
  refine .r0 ?_
  refine sq ?_
  refine .r0 ?_
  refine sq ?_
  refine .r0 ?_
  refine sq ?_
  intro K hK
  have xs := hs.g0
  obtain ⟨d0, d1, d2, d3⟩ := hs.g0.f4
  have f0 := xs.free 2; have f1 := xs.free 3
  go_big_op
  have hd8 := xs.nod rfl rfl
  obtain ⟨w_8, eW, xs', ho8⟩ : ∃ w', ((w_7.setCell ⟨p_b2, 2, none⟩ (.bool n_g)).setCell ⟨p_b2, 3, none⟩ (.slice o_g k_g c_g)) = w' ∧ Bs w' p_b2 #[.bool n_r, .slice o_r k_r c_r, .bool n_g, .slice o_g k_g c_g] 29 ∧ Only p_b2 w_7 w' := xs.setN [(2, .bool n_g), (3, .slice o_g k_g c_g)]
  rw [eW]; clear eW d0 d1 d2 d3 f0 f1 xs
  replace hs := hs.u0 kb_b2 xs' ho8; clear xs'
  refine hK _ _ rfl trivial ?_; clear hK K
  apply wpSq_end
  refine hK22 _ _ ?_
  refine wp_seq_k ?_
  intro K23 hK23
  refine wp_seq_k ?_
  intro K24 hK24
  refine rg [0, 1] ?_
  refine sq ?_
  refine .mv ?_
  refine sq ?_
  refine .r0 ?_
  apply wpSq_end
  refine hK24 _ _ ?_
  refine cf ?_
  refine wp_skip ?_
  refine hK23 _ _ ?_
  refine wp_seq_k ?_
  intro K25 hK25
  refine wp_label ?_
  refine hK25 _ _ ?_
  refine wp_seq_k ?_
  intro K26 hK26
  refine wp_seq_k ?_
  intro K27 hK27
  refine rg [0, 1, 2] ?_
  refine sq ?_
  refine .r4 hs.g0.f4 ?_
  refine sq ?_
  refine .s4 hs.g1 (fun _ => hs.u1 kb_b1) ?_; clear hs; intro w_9 hs hd9 ho9
  refine sq ?_
  refine .mv ?_
  apply wpSq_end
  refine hK27 _ _ ?_
  refine wp_ret ?_
  refine hSr _ _ _ ?_
  try dsimp only [Exit.then, Exit.inBlock]
  obtain ⟨r0_0, r0_1, r0_2, r0_3⟩ := hs.g1.f4
  refine bodyPost_ret (v := (.tuple #[(.agg #[.bool n_r, .slice o_r k_r c_r, .bool n_g, .slice o_g k_g c_g]), (.int .i64 0)])) (by simp [results, Tryz.results20, go_sem, r0_0, r0_1, r0_2, r0_3]) rfl ?_
  have k4_9 := ((((ko hd5 ho5).b hb_6).b hb_7).o hd8 ho8).o hd9 ho9
  replace r := r.k k4_9
  have k7_9 := (ko hd8 ho8).o hd9 ho9
  replace g := g.k k7_9
  exact ⟨_, rfl, .mk' r g, hs.b⟩
set_option maxHeartbeats 8000000 in
set_option maxRecDepth 20000 in
theorem parse_both_dm (w : World) (hsz : s.size ≤ 65536) (hc : CutIs s A D R) (hA : (A.toList == [43]) = false) (hR : (R.toList == [105]) = false) (hR0 : (R.toList == []) = false) (hz0 : zok (A ++ D) = true) (hAD : (A ++ D).size ≤ 65536) (hc2 : CutIs R A2 D2 R2) (hR2 : (R2.toList == [105]) = true) (hD : (D2.toList == []) = false) (hM : (A2.toList == [45]) = true) (hz : zok D2 = true) (hsz : D2.size ≤ 65536) :
    Calls Tryz.prog 20 #[.string s] w fun e w' => ∃ r, e = .returned (.tuple #[r, .int .i64 0]) ∧ PC w' r (zvl (A ++ D)) (-(zvl D2)) ∧ Below w.heap.size w w' := by
  have HC := hide hc
  have hsz' : (65536 < (s.size : Int)) = False := eq_false (by omega)
  have HC2 := hide hc2
  have HZ0 := hide (And.intro hz0 hAD)
  have HL0 := hide (zvl_len hAD hz0)
  have hsz0 : A.size + D.size ≤ 65536 := by rw [← ByteArray.size_append]; exact hAD
  clear hz0 hc2
  have HZ := hide (And.intro hz hsz)
  have HL := hide (zvl_len hsz hz)
  clear hz
  clear hc
  go_enter Tryz.func20, Tryz.ntmps20
  have hs := St.nil w
  refine wp_seq_k ?_
  intro K1 hK1
  refine rg [0, 1] ?_
  refine sq ?_
  refine .al hs ?_; clear hs; intro p_b1 w_1 hs n1 kb_b1
  refine sq ?_
  refine .mv ?_
  apply wpSq_end
  refine hK1 _ _ ?_
  refine wp_scope_k 9 ?_
  intro S hSr hSn hSg
  refine wp_seq_k ?_
  intro K2 hK2
  refine wp_seq_k ?_
  intro K3 hK3
  refine rg [0, 1, 2] ?_
  refine sq ?_
  refine .mv ?_
  refine sq ?_
  refine .r0 ?_
  refine sq ?_
  refine .r0 ?_
  apply wpSq_end
  refine hK3 _ _ ?_
  refine cf ?_
  refine wp_skip ?_
  refine hK2 _ _ ?_
  refine wp_seq_k ?_
  intro K4 hK4
  refine rg [0] ?_
  refine sq ?_
  refine .al hs ?_; clear hs; intro p_b2 w_2 hs n2 kb_b2
  apply wpSq_end
  refine hK4 _ _ ?_
  refine wp_seq_k ?_
  intro K5 hK5
  refine rg [0] ?_
  refine sq ?_
  refine .mv ?_
  apply wpSq_end
  refine hK5 _ _ ?_
  refine wp_seq_k ?_
  intro K6 hK6
  refine rg [0, 1, 2, 3, 4, 5, 6, 7, 8] ?_
  refine sq ?_
  refine .mv ?_
  refine sq ?_
  intro K hK
  go_big_op
  go_fit (HC.out _)
  rintro e w_3 ⟨rfl, hb_3⟩
  replace hs := hs.bl hb_3
  refine hK _ _ rfl trivial ?_
  clear hK K
  refine sq ?_
  refine .mv ?_
  refine sq ?_
  refine .r0 ?_
  refine sq ?_
  refine .r0 ?_
  refine sq ?_
  refine .r0 ?_
  refine sq ?_
  refine .mv ?_
  refine sq ?_
  refine .mv ?_
  refine sq ?_
  refine .mv ?_
  apply wpSq_end
  refine hK6 _ _ ?_
  refine wp_seq_k ?_
  intro K7 hK7
  refine wp_seq_k ?_
  intro K8 hK8
  refine rg [0, 1] ?_
  refine sq ?_
  refine .mv ?_
  refine sq ?_
  refine .r0 ?_
  apply wpSq_end
  refine hK8 _ _ ?_
  refine cf ?_
  refine wp_skip ?_
  refine hK7 _ _ ?_
  refine wp_seq_k ?_
  intro K9 hK9
  refine wp_seq_k ?_
  intro K10 hK10
  refine rg [0, 1] ?_
  refine sq ?_
  refine .mv ?_
  refine sq ?_
  refine .r0 ?_
  apply wpSq_end
  refine hK10 _ _ ?_
  refine cf ?_
  refine wp_skip ?_
  refine hK9 _ _ ?_
  refine wp_seq_k ?_
  intro K11 hK11
  refine rg [0, 1, 2, 3, 4, 5, 6, 7, 8, 9] ?_
  refine sq ?_
  refine .mv ?_
  refine sq ?_
  refine .mv ?_
  refine sq ?_
  refine .r0 ?_
  refine sq ?_
  intro K hK
  go_big_op
  go_fit (zparse_ok (A ++ D) _ HZ0.out.2 HZ0.out.1)
  rintro e w_4 ⟨v_r, rfl, r, hb_4⟩
  replace hs := hs.bl hb_4
  obtain ⟨n_r, o_r, k_r, c_r, rfl⟩ := r.open2
  have Lr := hide (r.lenOf (HL0.out))
  refine hK _ _ rfl trivial ?_
  clear hK K
  refine sq ?_
  refine .mv ?_
  refine sq ?_
  refine .r0 ?_
  refine sq ?_
  refine .r0 ?_
  refine sq ?_
  refine .r0 ?_
  refine sq ?_
  intro K hK
  have xs := hs.g0
  obtain ⟨d0, d1, d2, d3⟩ := hs.g0.f4
  have f0 := xs.free 0; have f1 := xs.free 1
  go_big_op
  have hd5 := xs.nod rfl rfl
  obtain ⟨w_5, eW, xs', ho5⟩ : ∃ w', ((w_4.setCell ⟨p_b2, 0, none⟩ (.bool n_r)).setCell ⟨p_b2, 1, none⟩ (.slice o_r k_r c_r)) = w' ∧ Bs w' p_b2 #[.bool n_r, .slice o_r k_r c_r, .bool false, .slice none 0 0] 29 ∧ Only p_b2 w_4 w' := xs.setN [(0, .bool n_r), (1, .slice o_r k_r c_r)]
  rw [eW]; clear eW d0 d1 d2 d3 f0 f1 xs
  replace hs := hs.u0 kb_b2 xs' ho5; clear xs'
  refine hK _ _ rfl trivial ?_; clear hK K
  refine sq ?_
  refine .mv ?_
  apply wpSq_end
  refine hK11 _ _ ?_
  refine wp_seq_k ?_
  intro K12 hK12
  refine wp_seq_k ?_
  intro K13 hK13
  refine rg [0, 1] ?_
  refine sq ?_
  refine .mv ?_
  refine sq ?_
  refine .r0 ?_
  apply wpSq_end
  refine hK13 _ _ ?_
  refine cf ?_
  refine wp_skip ?_
  refine hK12 _ _ ?_
  refine wp_seq_k ?_
  intro K14 hK14
  refine wp_seq_k ?_
  intro K15 hK15
  refine rg [0, 1] ?_
  refine sq ?_
  refine .mv ?_
  refine sq ?_
  refine .r0 ?_
  apply wpSq_end
  refine hK15 _ _ ?_
  refine cf ?_
  refine wp_skip ?_
  refine hK14 _ _ ?_
  refine wp_seq_k ?_
  intro K16 hK16
  refine rg [0, 1, 2, 3, 4, 5, 6, 7, 8] ?_
  refine sq ?_
  refine .mv ?_
  refine sq ?_
  intro K hK
  go_big_op
  go_fit (HC2.out _)
  rintro e w_6 ⟨rfl, hb_6⟩
  replace hs := hs.bl hb_6
  refine hK _ _ rfl trivial ?_
  clear hK K
  refine sq ?_
  refine .mv ?_
  refine sq ?_
  refine .r0 ?_
  refine sq ?_
  refine .r0 ?_
  refine sq ?_
  refine .r0 ?_
  refine sq ?_
  refine .mv ?_
  refine sq ?_
  refine .mv ?_
  refine sq ?_
  refine .mv ?_
  apply wpSq_end
  refine hK16 _ _ ?_
  refine wp_seq_k ?_
  intro K17 hK17
  refine wp_seq_k ?_
  intro K18 hK18
  refine rg [0, 1] ?_
  refine sq ?_
  refine .mv ?_
  refine sq ?_
  refine .r0 ?_
  apply wpSq_end
  refine hK18 _ _ ?_
  refine cf ?_
  refine wp_skip ?_
  refine hK17 _ _ ?_
  refine wp_seq_k ?_
  intro K19 hK19
  refine wp_label ?_
  refine hK19 _ _ ?_
  refine wp_seq_k ?_
  intro K20 hK20
  refine wp_seq_k ?_
  intro K21 hK21
  refine rg [0, 1] ?_
  refine sq ?_
  refine .mv ?_
  refine sq ?_
  refine .r0 ?_
  apply wpSq_end
  refine hK21 _ _ ?_
  refine cf ?_
  refine wp_skip ?_
  refine hK20 _ _ ?_
  refine wp_seq_k ?_
  intro K22 hK22
  refine rg [0, 1, 2, 3, 4, 5, 6] ?_
  refine sq ?_
  refine .mv ?_
  refine sq ?_
  intro K hK
  go_big_op
  go_fit (zparse_ok D2 _ HZ.out.2 HZ.out.1)
  rintro e w_7 ⟨v_g, rfl, g, hb_7⟩
  replace hs := hs.bl hb_7
  obtain ⟨n_g, o_g, k_g, c_g, rfl⟩ := g.open2
  have Lg := hide (g.lenOf (HL.out))
  refine hK _ _ rfl trivial ?_
  clear hK K
  refine sq ?_
  refine .mv ?_
  refine sq ?_
  refine .r0 ?_
  refine sq ?_
  refine .r0 ?_
  refine sq ?_
  refine .r0 ?_
  refine sq ?_
  intro K hK
  have xs := hs.g0
  obtain ⟨d0, d1, d2, d3⟩ := hs.g0.f4
  have f0 := xs.free 2; have f1 := xs.free 3
  go_big_op
  have hd8 := xs.nod rfl rfl
  obtain ⟨w_8, eW, xs', ho8⟩ : ∃ w', ((w_7.setCell ⟨p_b2, 2, none⟩ (.bool n_g)).setCell ⟨p_b2, 3, none⟩ (.slice o_g k_g c_g)) = w' ∧ Bs w' p_b2 #[.bool n_r, .slice o_r k_r c_r, .bool n_g, .slice o_g k_g c_g] 29 ∧ Only p_b2 w_7 w' := xs.setN [(2, .bool n_g), (3, .slice o_g k_g c_g)]
  rw [eW]; clear eW d0 d1 d2 d3 f0 f1 xs
  replace hs := hs.u0 kb_b2 xs' ho8; clear xs'
  refine hK _ _ rfl trivial ?_; clear hK K
  apply wpSq_end
  refine hK22 _ _ ?_
  refine wp_seq_k ?_
  intro K23 hK23
  refine wp_seq_k ?_
  intro K24 hK24
  refine rg [0, 1] ?_
  refine sq ?_
  refine .mv ?_
  refine sq ?_
  refine .r0 ?_
  apply wpSq_end
  refine hK24 _ _ ?_
  refine ct ?_
  refine rg [0, 1, 2, 3, 4] ?_
  refine sq ?_
  refine .r0 ?_
  refine sq ?_
  refine .r4 hs.g0.f4 ?_
  refine sq ?_
  intro K hK
  have k7_8 := ko hd8 ho8
  replace g := g.k k7_8
  go_big_op
  go_fit (zneg_any (g.zn Lg.out) (by omega) )
  rintro e w_9 ⟨v_o, rfl, o, hb_9⟩
  replace hs := hs.bl hb_9
  replace o := o.rd
  obtain ⟨n_o, o_o, k_o, c_o, rfl⟩ := o.open2
  have Lo := hide (o.lenOf (zlen_neg (Lg.out)))
  refine hK _ _ rfl trivial ?_
  clear hK K
  refine sq ?_
  refine .r0 ?_
  refine sq ?_
  intro K hK
  have xs := hs.g0
  obtain ⟨d0, d1, d2, d3⟩ := hs.g0.f4
  have f0 := xs.free 2; have f1 := xs.free 3
  go_big_op
  have hd10 := xs.nod rfl rfl
  obtain ⟨w_10, eW, xs', ho10⟩ : ∃ w', ((w_9.setCell ⟨p_b2, 2, none⟩ (.bool n_o)).setCell ⟨p_b2, 3, none⟩ (.slice o_o k_o c_o)) = w' ∧ Bs w' p_b2 #[.bool n_r, .slice o_r k_r c_r, .bool n_o, .slice o_o k_o c_o] 29 ∧ Only p_b2 w_9 w' := xs.setN [(2, .bool n_o), (3, .slice o_o k_o c_o)]
  rw [eW]; clear eW d0 d1 d2 d3 f0 f1 xs
  replace hs := hs.u0 kb_b2 xs' ho10; clear xs'
  refine hK _ _ rfl trivial ?_; clear hK K
  apply wpSq_end
  refine hK23 _ _ ?_
  refine wp_seq_k ?_
  intro K25 hK25
  refine wp_label ?_
  refine hK25 _ _ ?_
  refine wp_seq_k ?_
  intro K26 hK26
  refine wp_seq_k ?_
  intro K27 hK27
  refine rg [0, 1, 2] ?_
  refine sq ?_
  refine .r4 hs.g0.f4 ?_
  refine sq ?_
  refine .s4 hs.g1 (fun _ => hs.u1 kb_b1) ?_; clear hs; intro w_11 hs hd11 ho11
  refine sq ?_
  refine .mv ?_
  apply wpSq_end
  refine hK27 _ _ ?_
  refine wp_ret ?_
  refine hSr _ _ _ ?_
  try dsimp only [Exit.then, Exit.inBlock]
  obtain ⟨r0_0, r0_1, r0_2, r0_3⟩ := hs.g1.f4
  refine bodyPost_ret (v := (.tuple #[(.agg #[.bool n_r, .slice o_r k_r c_r, .bool n_o, .slice o_o k_o c_o]), (.int .i64 0)])) (by simp [results, Tryz.results20, go_sem, r0_0, r0_1, r0_2, r0_3]) rfl ?_
  have k4_11 := ((((((ko hd5 ho5).b hb_6).b hb_7).o hd8 ho8).b hb_9).o hd10 ho10).o hd11 ho11
  replace r := r.k k4_11
  have k9_11 := (ko hd10 ho10).o hd11 ho11
  replace o := o.k k9_11
  exact ⟨_, rfl, .mk' r o, hs.b⟩
end
open Lib
theorem b8_nat (d : Nat) (h : d < 10) : (UInt8.ofNat (48 + d)).toNat = 48 + d := by
  rw [UInt8.toNat_ofNat']
  omega
theorem isD_b8 (d : Nat) (h : d < 10) : isD (UInt8.ofNat (48 + d)) = true := by
  unfold isD
  rw [b8_nat d h]
  exact decide_eq_true (by omega)
theorem dec_one (d : Nat) (h : d < 10) : decDigits d = [UInt8.ofNat (48 + d)] := by
  rw [decDigits, dif_pos h]
theorem dec_more (n : Nat) (h : ¬ n < 10) : decDigits n = decDigits (n / 10) ++ [UInt8.ofNat (48 + n % 10)] := by
  rw [decDigits, dif_neg h]
theorem dec_facts (n : Nat) : (decDigits n).all isD = true ∧ pval (decDigits n) = n ∧ 0 < (decDigits n).length ∧ (0 < n → ∃ c, (decDigits n)[0]? = some c ∧ 48 < c.toNat) := by
  induction n using Nat.strongRecOn with
  | ind n ih =>
    by_cases h : n < 10
    · rw [dec_one n h]
      refine ⟨by rw [List.all_cons, isD_b8 n h]; rfl, ?_, by simp, fun hp => ⟨_, rfl, by rw [b8_nat n h]; omega⟩⟩
      simp only [pval, List.foldl_cons, List.foldl_nil, b8_nat n h]
      omega
    · rw [dec_more n h]
      obtain ⟨h1, h2, h3, h4⟩ := ih (n / 10) (by omega)
      refine ⟨by rw [List.all_append, h1, List.all_cons, isD_b8 (n % 10) (by omega)]; rfl, ?_, by simp, fun _ => ?_⟩
      · rw [pval_snoc, h2, b8_nat _ (by omega)]; omega
      · obtain ⟨c, hc, hk⟩ := h4 (by omega)
        exact ⟨c, by rw [List.getElem?_append_left h3]; exact hc, hk⟩
theorem minus_no' {s : ByteArray} (h : digitsB s.data.toList = true) : minusB s = false := by
  have h0 := digits_pos h
  rw [minus_at s h0]
  have h1 := digits_all' h
  have h2 : s[0] ∈ s.data.toList := by
    have : s[0] = s.data.toList[0]'(by rw [← Lib.size_eq]; exact h0) := rfl
    rw [this]; exact List.getElem_mem _
  have h3 := List.all_eq_true.1 h1 _ h2
  unfold isD at h3
  have h4 := of_decide_eq_true h3
  rw [beq_eq_false_iff_ne]
  omega
/-- A whole number's text, as a list. -/
def zlist (z : Int) : List UInt8 := if z < 0 then (45 : UInt8) :: decDigits z.natAbs else decDigits z.natAbs
theorem dec_digits (n : Nat) : digitsB (decDigits n) = true := by
  obtain ⟨h1, _, h3, _⟩ := dec_facts n
  unfold digitsB
  rw [h1, Bool.true_and]
  cases h : decDigits n with
  | nil => rw [h] at h3; exact absurd h3 (by decide)
  | cons c l => rfl
theorem ext_one {s : ByteArray} {c : UInt8} {l : List UInt8} (hs : s.data.toList = c :: l) : (s.extract 1 s.size).data.toList = l := by
  rw [extract_data, hs, size_eq, hs]
  simp
theorem minus_zlist {s : ByteArray} {z : Int} (hs : s.data.toList = zlist z) : minusB s = decide (z < 0) := by
  unfold zlist at hs
  by_cases h : z < 0
  · rw [if_pos h] at hs
    unfold minusB
    rw [decide_eq_true h, size_eq, hs, extract_toList, hs]
    simp
  · rw [if_neg h] at hs
    rw [decide_eq_false h]
    exact minus_no' (by rw [hs]; exact dec_digits _)
theorem zok_zlist {s : ByteArray} {z : Int} (hs : s.data.toList = zlist z) : zok s = true ∧ zvl s = z := by
  have hm := minus_zlist hs
  unfold zlist at hs
  unfold zok zvl
  by_cases h : z < 0
  · rw [if_pos h] at hs
    rw [decide_eq_true h] at hm
    rw [if_pos hm, if_pos hm, ext_one hs, (dec_facts _).2.1]
    exact ⟨dec_digits _, by omega⟩
  · rw [if_neg h] at hs
    rw [decide_eq_false h] at hm
    rw [if_neg (by rw [hm]; exact Bool.false_ne_true), if_neg (by rw [hm]; exact Bool.false_ne_true), hs, (dec_facts _).2.1]
    exact ⟨dec_digits _, by omega⟩
def ofL (l : List UInt8) : ByteArray := ⟨l.toArray⟩
theorem ofL_list (l : List UInt8) : (ofL l).data.toList = l := by simp [ofL]
theorem ext_l {a b : ByteArray} (h : a.data.toList = b.data.toList) : a = b := by
  cases a; cases b
  simp only at h
  rw [Array.toList_inj.1 h]
theorem eq_ofL {a : ByteArray} {l : List UInt8} (h : a.data.toList = l) : a = ofL l := ext_l (by rw [ofL_list, h])
theorem ofL_size (l : List UInt8) : (ofL l).size = l.length := by rw [Lib.size_eq, ofL_list]
theorem ofL_app (a b : List UInt8) : ofL a ++ ofL b = ofL (a ++ b) := by
  refine ext_l ?_
  rw [ofL_list, ByteArray.data_append, Array.toList_append, ofL_list, ofL_list]
theorem tens_isD : ∀ c : UInt8, tens.contains c = isD c := by
  have key : ∀ n : Fin 256, tens.contains (UInt8.ofNat n.val) = isD (UInt8.ofNat n.val) := by decide +kernel
  intro c
  have := key ⟨c.toNat, c.toNat_lt⟩
  simpa using this
/-- What stands behind the digits. -/
theorem undig_app {d r : List UInt8} (hd : d.all isD = true) (hr : ∀ c, r.head? = some c → isD c = false) : undig (d ++ r) = r := by
  unfold undig Lib.trimLeftS
  rw [List.dropWhile_append_of_pos (fun c hc => by rw [tens_isD]; exact List.all_eq_true.1 hd c hc)]
  cases r with
  | nil => rfl
  | cons c r => rw [List.dropWhile_cons, tens_isD, hr c rfl]; simp
theorem unR_app {T : ByteArray} {d r : List UInt8} (hT : T.data.toList = d ++ r) (hd : d.all isD = true) (hr : ∀ c, r.head? = some c → isD c = false) : unR T = ofL r := by
  unfold unR
  rw [hT, undig_app hd hr]
  rfl
theorem unD_app {T : ByteArray} {d r : List UInt8} (hT : T.data.toList = d ++ r) (hd : d.all isD = true) (hr : ∀ c, r.head? = some c → isD c = false) : unD T = ofL d := by
  unfold unD
  rw [unR_app hT hd hr]
  refine ext_l ?_
  rw [Lib.extract_data, hT, ofL_list, ofL_size, Lib.size_eq, hT]
  simp
theorem ofL_toList (l : List UInt8) : (ofL l).toList = l := by rw [ByteArray.toList_eq, ofL_list]
theorem plusB_list {s : ByteArray} {l : List UInt8} (hs : s.data.toList = l) : plusB s = (l.head? == some 43) := by
  unfold plusB
  rw [Lib.extract_toList, Lib.size_eq, hs]
  cases l with
  | nil => rfl
  | cons c t => simp
theorem minusB_list {s : ByteArray} {l : List UInt8} (hs : s.data.toList = l) : minusB s = (l.head? == some 45) := by
  unfold minusB
  rw [Lib.extract_toList, Lib.size_eq, hs]
  cases l with
  | nil => rfl
  | cons c t => simp
theorem ext_zero {s : ByteArray} {c : UInt8} {l : List UInt8} (hs : s.data.toList = c :: l) : s.extract 0 1 = ofL [c] := by
  refine eq_ofL ?_
  rw [Lib.extract_data, hs]
  rfl
/-- What cutPart tells of a sign, digits and what stands behind. -/
theorem cutIs_of {s : ByteArray} {sg d r : List UInt8} (hs : s.size ≤ 65536) (h : s.data.toList = sg ++ (d ++ r)) (hsg : (sg = [] ∧ ∀ c, (d ++ r).head? = some c → c ≠ 43 ∧ c ≠ 45) ∨ sg = [43] ∨ sg = [45])
    (hd : d.all isD = true) (hr : ∀ c, r.head? = some c → isD c = false) : CutIs s (ofL sg) (ofL d) (ofL r) := by
  intro w
  rcases hsg with ⟨rfl, hh⟩ | rfl | rfl
  · rw [List.nil_append] at h
    have hp : plusB s = false := by
      rw [plusB_list h]
      cases hc : (d ++ r).head? with
      | none => rfl
      | some c => have := (hh c hc).1; simpa using this
    have hm : minusB s = false := by
      rw [minusB_list h]
      cases hc : (d ++ r).head? with
      | none => rfl
      | some c => have := (hh c hc).2; simpa using this
    have := cut_none s w hs hp hm
    rw [unR_app h hd hr, unD_app h hd hr] at this
    exact this
  · replace h : s.data.toList = 43 :: (d ++ r) := h
    have hp : plusB s = true := by rw [plusB_list h]; rfl
    have hT := ext_one h
    have := cut_plus s w hs hp
    rw [unR_app hT hd hr, unD_app hT hd hr, ext_zero h] at this
    exact this
  · replace h : s.data.toList = 45 :: (d ++ r) := h
    have hp : plusB s = false := by rw [plusB_list h]; rfl
    have hm : minusB s = true := by rw [minusB_list h]; rfl
    have hT := ext_one h
    have := cut_minus s w hs hp hm
    rw [unR_app hT hd hr, unD_app hT hd hr, ext_zero h] at this
    exact this
theorem isD_ne {c : UInt8} (h : isD c = true) : c ≠ 43 ∧ c ≠ 45 ∧ c ≠ 105 := by
  unfold isD at h
  have h2 := of_decide_eq_true h
  refine ⟨?_, ?_, ?_⟩ <;> (rintro rfl; revert h2; decide)
/-- The sign that a whole number's text begins with. -/
def zsg (z : Int) : List UInt8 := if z < 0 then [45] else []
theorem zlist_eq (z : Int) : zlist z = zsg z ++ Lib.decDigits z.natAbs := by unfold zlist zsg; split <;> rfl
theorem zsg_ok (z : Int) (r : List UInt8) : (zsg z = [] ∧ ∀ c, (Lib.decDigits z.natAbs ++ r).head? = some c → c ≠ 43 ∧ c ≠ 45) ∨ zsg z = [43] ∨ zsg z = [45] := by
  unfold zsg
  by_cases h : z < 0
  · rw [if_pos h]; exact .inr (.inr rfl)
  · rw [if_neg h]
    refine .inl ⟨rfl, fun c hc => ?_⟩
    obtain ⟨h1, _, h3, _⟩ := dec_facts z.natAbs
    cases hd : Lib.decDigits z.natAbs with
    | nil => rw [hd] at h3; exact absurd h3 (by decide)
    | cons b l =>
      rw [hd] at hc h1
      simp only [List.cons_append, List.head?_cons, Option.some.injEq] at hc
      subst hc
      rw [List.all_cons, Bool.and_eq_true] at h1
      exact ⟨(isD_ne h1.1).1, (isD_ne h1.1).2.1⟩
theorem zcut {s : ByteArray} {z : Int} {r : List UInt8} (hs : s.size ≤ 65536) (h : s.data.toList = zlist z ++ r) (hr : ∀ c, r.head? = some c → isD c = false) :
    CutIs s (ofL (zsg z)) (ofL (Lib.decDigits z.natAbs)) (ofL r) :=
  cutIs_of hs (by rw [h, zlist_eq, List.append_assoc]) (zsg_ok z r) (dec_facts _).1 hr
theorem zsg_plus (z : Int) : ((ofL (zsg z)).toList == [43]) = false := by rw [ofL_toList]; unfold zsg; split <;> rfl
theorem zpart (z : Int) : zok (ofL (zsg z) ++ ofL (Lib.decDigits z.natAbs)) = true ∧ zvl (ofL (zsg z) ++ ofL (Lib.decDigits z.natAbs)) = z :=
  zok_zlist (by rw [ofL_app, ofL_list, zlist_eq])
/-- An imaginary part's text: a sign, an amount or none, i. -/
def zam (y : Int) (am : List UInt8) : Prop := (am = [] ∧ y.natAbs = 1) ∨ am = Lib.decDigits y.natAbs
theorem zam_digits {y : Int} {am : List UInt8} (h : zam y am) : am.all isD = true := by
  rcases h with ⟨rfl, _⟩ | rfl
  · rfl
  · exact (dec_facts _).1
theorem i_head : ∀ c, ([105] : List UInt8).head? = some c → isD c = false := by
  intro c hc
  simp only [List.head?_cons, Option.some.injEq] at hc
  subst hc; decide
theorem icut {s : ByteArray} {y : Int} {sg am : List UInt8} (hs : s.size ≤ 65536) (ha : zam y am) (h : s.data.toList = sg ++ (am ++ [105])) (hsg : sg = [] ∨ sg = [43] ∨ sg = [45]) :
    CutIs s (ofL sg) (ofL am) (ofL [105]) := by
  refine cutIs_of hs h ?_ (zam_digits ha) i_head
  rcases hsg with rfl | h | h
  · refine .inl ⟨rfl, fun c hc => ?_⟩
    have hd := zam_digits ha
    cases am with
    | nil => simp only [List.nil_append, List.head?_cons, Option.some.injEq] at hc; subst hc; exact ⟨by decide, by decide⟩
    | cons b l =>
      simp only [List.cons_append, List.head?_cons, Option.some.injEq] at hc
      subst hc
      rw [List.all_cons, Bool.and_eq_true] at hd
      exact ⟨(isD_ne hd.1).1, (isD_ne hd.1).2.1⟩
  · exact .inr (.inl h)
  · exact .inr (.inr h)
theorem dec_ok (n : Nat) : zok (ofL (Lib.decDigits n)) = true ∧ zvl (ofL (Lib.decDigits n)) = (n : Int) := by
  have := zok_zlist (s := ofL (Lib.decDigits n)) (z := (n : Int)) (by rw [ofL_list]; unfold zlist; rw [if_neg (by omega), Int.natAbs_natCast])
  exact this
theorem dec_ne (n : Nat) : ((ofL (Lib.decDigits n)).toList == []) = false := by
  rw [ofL_toList]
  have h := (dec_facts n).2.2.1
  cases hd : Lib.decDigits n with
  | nil => rw [hd] at h; exact absurd h (by decide)
  | cons c l => rfl
/-- The text of a number without a real part, read back: sg is minus just if it is below 0. -/
theorem parse_i {y : Int} {sg am : List UInt8} (w : World) (ha : zam y am) (hsg : sg = if y < 0 then [45] else []) (hs : (ofL (sg ++ (am ++ [105]))).size ≤ 65536) :
    Calls Tryz.prog 20 #[.string (ofL (sg ++ (am ++ [105])))] w fun e w' => ∃ r, e = .returned (.tuple #[r, .int .i64 0]) ∧ PC w' r 0 y ∧ Below w.heap.size w w' := by
  have hc := icut (s := ofL (sg ++ (am ++ [105]))) hs ha (ofL_list _) (by rw [hsg]; split; exact .inr (.inr rfl); exact .inl rfl)
  have hl : am.length ≤ 65536 := by rw [ofL_size] at hs; simp only [List.length_append] at hs; omega
  by_cases hy : y < 0
  · rw [if_pos hy] at hsg
    have hA : ((ofL sg).toList == [43]) = false := by rw [ofL_toList, hsg]; rfl
    have hM : ((ofL sg).toList == [45]) = true := by rw [ofL_toList, hsg]; rfl
    rcases ha with ⟨h0, h1⟩ | h0
    · have hp := parse_im_em w hs hc hA (by rw [ofL_toList]; rfl) (by rw [ofL_toList, h0]; rfl) hM
      rw [show (-1 : Int) = y by omega] at hp; exact hp
    · have hp := parse_im_dm w hs hc hA (by rw [ofL_toList]; rfl) (by rw [h0]; exact dec_ne _) hM (by rw [h0]; exact (dec_ok _).1) (by rw [ofL_size]; exact hl)
      rw [h0, (dec_ok _).2, show -((y.natAbs : Nat) : Int) = y by omega] at hp
      rw [h0]; exact hp
  · rw [if_neg hy] at hsg
    have hA : ((ofL sg).toList == [43]) = false := by rw [ofL_toList, hsg]; rfl
    have hM : ((ofL sg).toList == [45]) = false := by rw [ofL_toList, hsg]; rfl
    rcases ha with ⟨h0, h1⟩ | h0
    · have hp := parse_im_ep w hs hc hA (by rw [ofL_toList]; rfl) (by rw [ofL_toList, h0]; rfl) hM
      rw [show (1 : Int) = y by omega] at hp; exact hp
    · have hp := parse_im_dp w hs hc hA (by rw [ofL_toList]; rfl) (by rw [h0]; exact dec_ne _) hM (by rw [h0]; exact (dec_ok _).1) (by rw [ofL_size]; exact hl)
      rw [h0, (dec_ok _).2, show ((y.natAbs : Nat) : Int) = y by omega] at hp
      rw [h0]; exact hp
/-- The text of both parts, read back. -/
theorem parse_xy {x y : Int} {sg am : List UInt8} (w : World) (ha : zam y am) (hsg : sg = if y < 0 then [45] else [43]) (hs : (ofL (zlist x ++ (sg ++ (am ++ [105])))).size ≤ 65536) :
    Calls Tryz.prog 20 #[.string (ofL (zlist x ++ (sg ++ (am ++ [105]))))] w fun e w' => ∃ r, e = .returned (.tuple #[r, .int .i64 0]) ∧ PC w' r x y ∧ Below w.heap.size w w' := by
  have hz := hs
  rw [ofL_size] at hz
  simp only [List.length_append] at hz
  have hc := zcut (s := ofL (zlist x ++ (sg ++ (am ++ [105])))) (z := x) (r := sg ++ (am ++ [105])) hs (ofL_list _) (by
    intro c hc
    rw [hsg] at hc
    split at hc <;> (simp only [List.cons_append, List.head?_cons, Option.some.injEq] at hc; subst hc; decide))
  have hs2 : (ofL (sg ++ (am ++ [105]))).size ≤ 65536 := by rw [ofL_size]; simp only [List.length_append]; omega
  have hc2 := icut (s := ofL (sg ++ (am ++ [105]))) hs2 ha (ofL_list _) (by rw [hsg]; split; exact .inr (.inr rfl); exact .inr (.inl rfl))
  have hR : ((ofL (sg ++ (am ++ [105]))).toList == [105]) = false := by rw [ofL_toList, hsg]; split <;> rfl
  have hR0 : ((ofL (sg ++ (am ++ [105]))).toList == []) = false := by rw [ofL_toList, hsg]; split <;> rfl
  have hAD : (ofL (zsg x) ++ ofL (Lib.decDigits x.natAbs)).size ≤ 65536 := by rw [ofL_app, ← zlist_eq, ofL_size]; omega
  have hl : am.length ≤ 65536 := by omega
  have h105 : ((ofL [105]).toList == [105]) = true := by rw [ofL_toList]; rfl
  by_cases hy : y < 0
  · rw [if_pos hy] at hsg
    have hM : ((ofL sg).toList == [45]) = true := by rw [ofL_toList, hsg]; rfl
    rcases ha with ⟨h0, h1⟩ | h0
    · have hp := parse_both_em w hs hc (zsg_plus x) hR hR0 (zpart x).1 hAD hc2 h105 (by rw [ofL_toList, h0]; rfl) hM
      rw [(zpart x).2, show (-1 : Int) = y by omega] at hp; exact hp
    · have hp := parse_both_dm w hs hc (zsg_plus x) hR hR0 (zpart x).1 hAD hc2 h105 (by rw [h0]; exact dec_ne _) hM (by rw [h0]; exact (dec_ok _).1) (by rw [ofL_size]; exact hl)
      rw [(zpart x).2, h0, (dec_ok _).2, show -((y.natAbs : Nat) : Int) = y by omega] at hp
      rw [h0]; exact hp
  · rw [if_neg hy] at hsg
    have hM : ((ofL sg).toList == [45]) = false := by rw [ofL_toList, hsg]; rfl
    rcases ha with ⟨h0, h1⟩ | h0
    · have hp := parse_both_ep w hs hc (zsg_plus x) hR hR0 (zpart x).1 hAD hc2 h105 (by rw [ofL_toList, h0]; rfl) hM
      rw [(zpart x).2, show (1 : Int) = y by omega] at hp; exact hp
    · have hp := parse_both_dp w hs hc (zsg_plus x) hR hR0 (zpart x).1 hAD hc2 h105 (by rw [h0]; exact dec_ne _) hM (by rw [h0]; exact (dec_ok _).1) (by rw [ofL_size]; exact hl)
      rw [(zpart x).2, h0, (dec_ok _).2, show ((y.natAbs : Nat) : Int) = y by omega] at hp
      rw [h0]; exact hp
section
variable {s A D R A2 D2 R2 : ByteArray}
set_option maxHeartbeats 8000000 in
set_option maxRecDepth 20000 in
theorem parse_plus (w : World) (hsz : s.size ≤ 65536) (hc : CutIs s A D R) (hA : (A.toList == [43]) = true) :
    Calls Tryz.prog 20 #[.string s] w fun e w' => e = .returned (.tuple #[.agg #[.bool false, .slice none 0 0, .bool false, .slice none 0 0], .int .i64 7]) ∧ Below w.heap.size w w' := by
  have HC := hide hc
  have hsz' : (65536 < (s.size : Int)) = False := eq_false (by omega)
  clear hc
  go_enter Tryz.func20, Tryz.ntmps20
  have hs := St.nil w
  refine wp_seq_k ?_
  intro K1 hK1
  refine rg [0, 1] ?_
  refine sq ?_
  refine .al hs ?_; clear hs; intro p_b1 w_1 hs n1 kb_b1
  refine sq ?_
  refine .mv ?_
  apply wpSq_end
  refine hK1 _ _ ?_
  refine wp_scope_k 9 ?_
  intro S hSr hSn hSg
  refine wp_seq_k ?_
  intro K2 hK2
  refine wp_seq_k ?_
  intro K3 hK3
  refine rg [0, 1, 2] ?_
  refine sq ?_
  refine .mv ?_
  refine sq ?_
  refine .r0 ?_
  refine sq ?_
  refine .r0 ?_
  apply wpSq_end
  refine hK3 _ _ ?_
  refine cf ?_
  refine wp_skip ?_
  refine hK2 _ _ ?_
  refine wp_seq_k ?_
  intro K4 hK4
  refine rg [0] ?_
  refine sq ?_
  refine .al hs ?_; clear hs; intro p_b2 w_2 hs n2 kb_b2
  apply wpSq_end
  refine hK4 _ _ ?_
  refine wp_seq_k ?_
  intro K5 hK5
  refine rg [0] ?_
  refine sq ?_
  refine .mv ?_
  apply wpSq_end
  refine hK5 _ _ ?_
  refine wp_seq_k ?_
  intro K6 hK6
  refine rg [0, 1, 2, 3, 4, 5, 6, 7, 8] ?_
  refine sq ?_
  refine .mv ?_
  refine sq ?_
  intro K hK
  go_big_op
  go_fit (HC.out _)
  rintro e w_3 ⟨rfl, hb_3⟩
  replace hs := hs.bl hb_3
  refine hK _ _ rfl trivial ?_
  clear hK K
  refine sq ?_
  refine .mv ?_
  refine sq ?_
  refine .r0 ?_
  refine sq ?_
  refine .r0 ?_
  refine sq ?_
  refine .r0 ?_
  refine sq ?_
  refine .mv ?_
  refine sq ?_
  refine .mv ?_
  refine sq ?_
  refine .mv ?_
  apply wpSq_end
  refine hK6 _ _ ?_
  refine wp_seq_k ?_
  intro K7 hK7
  refine wp_seq_k ?_
  intro K8 hK8
  refine rg [0, 1] ?_
  refine sq ?_
  refine .mv ?_
  refine sq ?_
  refine .r0 ?_
  apply wpSq_end
  refine hK8 _ _ ?_
  refine ct ?_
  refine wp_goto ?_
  refine hSg _ _ _ _ _ rfl ?_
  refine wp_seq_k ?_
  intro K9 hK9
  refine wp_skip ?_
  refine hK9 _ _ ?_
  refine wp_seq_k ?_
  intro K10 hK10
  refine rg [0, 1, 2] ?_
  refine sq ?_
  refine .r0 ?_
  refine sq ?_
  refine .s4 hs.g1 (fun _ => hs.u1 kb_b1) ?_; clear hs; intro w_4 hs hd4 ho4
  refine sq ?_
  refine .mv ?_
  apply wpSq_end
  refine hK10 _ _ ?_
  refine wp_ret ?_
  refine hSr _ _ _ ?_
  try dsimp only [Exit.then, Exit.inBlock]
  obtain ⟨r0_0, r0_1, r0_2, r0_3⟩ := hs.g1.f4
  refine bodyPost_ret (v := (.tuple #[(.agg #[.bool false, .slice none 0 0, .bool false, .slice none 0 0]), (.int .i64 7)])) (by simp [results, Tryz.results20, go_sem, r0_0, r0_1, r0_2, r0_3]) rfl ?_
  have hb := hs.b
  exact ⟨rfl, hb⟩
set_option maxHeartbeats 8000000 in
set_option maxRecDepth 20000 in
theorem parse_no1 (w : World) (hsz : s.size ≤ 65536) (hc : CutIs s A D R) (hA : (A.toList == [43]) = false) (hR : (R.toList == [105]) = false) (hz : zok (A ++ D) = false) (hAD : (A ++ D).size ≤ 65536) :
    Calls Tryz.prog 20 #[.string s] w fun e w' => e = .returned (.tuple #[.agg #[.bool false, .slice none 0 0, .bool false, .slice none 0 0], .int .i64 7]) ∧ Below w.heap.size w w' := by
  have HC := hide hc
  have HZ := hide (And.intro hz hAD)
  have hsz : A.size + D.size ≤ 65536 := by rw [← ByteArray.size_append]; exact hAD
  have hsz' : (65536 < (s.size : Int)) = False := eq_false (by omega)
  clear hc hz
  go_enter Tryz.func20, Tryz.ntmps20
  have hs := St.nil w
  refine wp_seq_k ?_
  intro K1 hK1
  refine rg [0, 1] ?_
  refine sq ?_
  refine .al hs ?_; clear hs; intro p_b1 w_1 hs n1 kb_b1
  refine sq ?_
  refine .mv ?_
  apply wpSq_end
  refine hK1 _ _ ?_
  refine wp_scope_k 9 ?_
  intro S hSr hSn hSg
  refine wp_seq_k ?_
  intro K2 hK2
  refine wp_seq_k ?_
  intro K3 hK3
  refine rg [0, 1, 2] ?_
  refine sq ?_
  refine .mv ?_
  refine sq ?_
  refine .r0 ?_
  refine sq ?_
  refine .r0 ?_
  apply wpSq_end
  refine hK3 _ _ ?_
  refine cf ?_
  refine wp_skip ?_
  refine hK2 _ _ ?_
  refine wp_seq_k ?_
  intro K4 hK4
  refine rg [0] ?_
  refine sq ?_
  refine .al hs ?_; clear hs; intro p_b2 w_2 hs n2 kb_b2
  apply wpSq_end
  refine hK4 _ _ ?_
  refine wp_seq_k ?_
  intro K5 hK5
  refine rg [0] ?_
  refine sq ?_
  refine .mv ?_
  apply wpSq_end
  refine hK5 _ _ ?_
  refine wp_seq_k ?_
  intro K6 hK6
  refine rg [0, 1, 2, 3, 4, 5, 6, 7, 8] ?_
  refine sq ?_
  refine .mv ?_
  refine sq ?_
  intro K hK
  go_big_op
  go_fit (HC.out _)
  rintro e w_3 ⟨rfl, hb_3⟩
  replace hs := hs.bl hb_3
  refine hK _ _ rfl trivial ?_
  clear hK K
  refine sq ?_
  refine .mv ?_
  refine sq ?_
  refine .r0 ?_
  refine sq ?_
  refine .r0 ?_
  refine sq ?_
  refine .r0 ?_
  refine sq ?_
  refine .mv ?_
  refine sq ?_
  refine .mv ?_
  refine sq ?_
  refine .mv ?_
  apply wpSq_end
  refine hK6 _ _ ?_
  refine wp_seq_k ?_
  intro K7 hK7
  refine wp_seq_k ?_
  intro K8 hK8
  refine rg [0, 1] ?_
  refine sq ?_
  refine .mv ?_
  refine sq ?_
  refine .r0 ?_
  apply wpSq_end
  refine hK8 _ _ ?_
  refine cf ?_
  refine wp_skip ?_
  refine hK7 _ _ ?_
  refine wp_seq_k ?_
  intro K9 hK9
  refine wp_seq_k ?_
  intro K10 hK10
  refine rg [0, 1] ?_
  refine sq ?_
  refine .mv ?_
  refine sq ?_
  refine .r0 ?_
  apply wpSq_end
  refine hK10 _ _ ?_
  refine cf ?_
  refine wp_skip ?_
  refine hK9 _ _ ?_
  refine wp_seq_k ?_
  intro K11 hK11
  refine rg [0, 1, 2, 3, 4, 5, 6, 7, 8, 9] ?_
  refine sq ?_
  refine .mv ?_
  refine sq ?_
  refine .mv ?_
  refine sq ?_
  refine .r0 ?_
  refine sq ?_
  intro K hK
  go_big_op
  go_fit (zparse_no (A ++ D) _ HZ.out.2 HZ.out.1)
  rintro e w_4 ⟨rfl, hb_4⟩
  replace hs := hs.bl hb_4
  refine hK _ _ rfl trivial ?_
  clear hK K
  refine sq ?_
  refine .mv ?_
  refine sq ?_
  refine .r0 ?_
  refine sq ?_
  refine .r0 ?_
  refine sq ?_
  refine .r0 ?_
  refine sq ?_
  intro K hK
  have xs := hs.g0
  obtain ⟨d0, d1, d2, d3⟩ := hs.g0.f4
  have f0 := xs.free 0; have f1 := xs.free 1
  go_big_op
  have hd5 := xs.nod rfl rfl
  obtain ⟨w_5, eW, xs', ho5⟩ : ∃ w', ((w_4.setCell ⟨p_b2, 0, none⟩ (.bool false)).setCell ⟨p_b2, 1, none⟩ (.slice none 0 0)) = w' ∧ Bs w' p_b2 #[.bool false, .slice none 0 0, .bool false, .slice none 0 0] 29 ∧ Only p_b2 w_4 w' := xs.setN [(0, .bool false), (1, .slice none 0 0)]
  rw [eW]; clear eW d0 d1 d2 d3 f0 f1 xs
  replace hs := hs.u0 kb_b2 xs' ho5; clear xs'
  refine hK _ _ rfl trivial ?_; clear hK K
  refine sq ?_
  refine .mv ?_
  apply wpSq_end
  refine hK11 _ _ ?_
  refine wp_seq_k ?_
  intro K12 hK12
  refine wp_seq_k ?_
  intro K13 hK13
  refine rg [0, 1] ?_
  refine sq ?_
  refine .mv ?_
  refine sq ?_
  refine .r0 ?_
  apply wpSq_end
  refine hK13 _ _ ?_
  refine ct ?_
  refine wp_goto ?_
  refine hSg _ _ _ _ _ rfl ?_
  refine wp_seq_k ?_
  intro K14 hK14
  refine wp_skip ?_
  refine hK14 _ _ ?_
  refine wp_seq_k ?_
  intro K15 hK15
  refine rg [0, 1, 2] ?_
  refine sq ?_
  refine .r0 ?_
  refine sq ?_
  refine .s4 hs.g1 (fun _ => hs.u1 kb_b1) ?_; clear hs; intro w_6 hs hd6 ho6
  refine sq ?_
  refine .mv ?_
  apply wpSq_end
  refine hK15 _ _ ?_
  refine wp_ret ?_
  refine hSr _ _ _ ?_
  try dsimp only [Exit.then, Exit.inBlock]
  obtain ⟨r0_0, r0_1, r0_2, r0_3⟩ := hs.g1.f4
  refine bodyPost_ret (v := (.tuple #[(.agg #[.bool false, .slice none 0 0, .bool false, .slice none 0 0]), (.int .i64 7)])) (by simp [results, Tryz.results20, go_sem, r0_0, r0_1, r0_2, r0_3]) rfl ?_
  have hb := hs.b
  exact ⟨rfl, hb⟩
set_option maxHeartbeats 8000000 in
set_option maxRecDepth 20000 in
theorem parse_no2 (w : World) (hsz : s.size ≤ 65536) (hc : CutIs s A D R) (hA : (A.toList == [43]) = false) (hR : (R.toList == [105]) = false) (hR0 : (R.toList == []) = false) (hz0 : zok (A ++ D) = true) (hAD : (A ++ D).size ≤ 65536) (hc2 : CutIs R A2 D2 R2) (hR2 : (R2.toList == [105]) = false) :
    Calls Tryz.prog 20 #[.string s] w fun e w' => e = .returned (.tuple #[.agg #[.bool false, .slice none 0 0, .bool false, .slice none 0 0], .int .i64 7]) ∧ Below w.heap.size w w' := by
  have HC := hide hc
  have hsz' : (65536 < (s.size : Int)) = False := eq_false (by omega)
  have HC2 := hide hc2
  have HZ0 := hide (And.intro hz0 hAD)
  have HL0 := hide (zvl_len hAD hz0)
  have hsz0 : A.size + D.size ≤ 65536 := by rw [← ByteArray.size_append]; exact hAD
  clear hz0 hc2 hc
  go_enter Tryz.func20, Tryz.ntmps20
  have hs := St.nil w
  refine wp_seq_k ?_
  intro K1 hK1
  refine rg [0, 1] ?_
  refine sq ?_
  refine .al hs ?_; clear hs; intro p_b1 w_1 hs n1 kb_b1
  refine sq ?_
  refine .mv ?_
  apply wpSq_end
  refine hK1 _ _ ?_
  refine wp_scope_k 9 ?_
  intro S hSr hSn hSg
  refine wp_seq_k ?_
  intro K2 hK2
  refine wp_seq_k ?_
  intro K3 hK3
  refine rg [0, 1, 2] ?_
  refine sq ?_
  refine .mv ?_
  refine sq ?_
  refine .r0 ?_
  refine sq ?_
  refine .r0 ?_
  apply wpSq_end
  refine hK3 _ _ ?_
  refine cf ?_
  refine wp_skip ?_
  refine hK2 _ _ ?_
  refine wp_seq_k ?_
  intro K4 hK4
  refine rg [0] ?_
  refine sq ?_
  refine .al hs ?_; clear hs; intro p_b2 w_2 hs n2 kb_b2
  apply wpSq_end
  refine hK4 _ _ ?_
  refine wp_seq_k ?_
  intro K5 hK5
  refine rg [0] ?_
  refine sq ?_
  refine .mv ?_
  apply wpSq_end
  refine hK5 _ _ ?_
  refine wp_seq_k ?_
  intro K6 hK6
  refine rg [0, 1, 2, 3, 4, 5, 6, 7, 8] ?_
  refine sq ?_
  refine .mv ?_
  refine sq ?_
  intro K hK
  go_big_op
  go_fit (HC.out _)
  rintro e w_3 ⟨rfl, hb_3⟩
  replace hs := hs.bl hb_3
  refine hK _ _ rfl trivial ?_
  clear hK K
  refine sq ?_
  refine .mv ?_
  refine sq ?_
  refine .r0 ?_
  refine sq ?_
  refine .r0 ?_
  refine sq ?_
  refine .r0 ?_
  refine sq ?_
  refine .mv ?_
  refine sq ?_
  refine .mv ?_
  refine sq ?_
  refine .mv ?_
  apply wpSq_end
  refine hK6 _ _ ?_
  refine wp_seq_k ?_
  intro K7 hK7
  refine wp_seq_k ?_
  intro K8 hK8
  refine rg [0, 1] ?_
  refine sq ?_
  refine .mv ?_
  refine sq ?_
  refine .r0 ?_
  apply wpSq_end
  refine hK8 _ _ ?_
  refine cf ?_
  refine wp_skip ?_
  refine hK7 _ _ ?_
  refine wp_seq_k ?_
  intro K9 hK9
  refine wp_seq_k ?_
  intro K10 hK10
  refine rg [0, 1] ?_
  refine sq ?_
  refine .mv ?_
  refine sq ?_
  refine .r0 ?_
  apply wpSq_end
  refine hK10 _ _ ?_
  refine cf ?_
  refine wp_skip ?_
  refine hK9 _ _ ?_
  refine wp_seq_k ?_
  intro K11 hK11
  refine rg [0, 1, 2, 3, 4, 5, 6, 7, 8, 9] ?_
  refine sq ?_
  refine .mv ?_
  refine sq ?_
  refine .mv ?_
  refine sq ?_
  refine .r0 ?_
  refine sq ?_
  intro K hK
  go_big_op
  go_fit (zparse_ok (A ++ D) _ HZ0.out.2 HZ0.out.1)
  rintro e w_4 ⟨v_r, rfl, r, hb_4⟩
  replace hs := hs.bl hb_4
  obtain ⟨n_r, o_r, k_r, c_r, rfl⟩ := r.open2
  have Lr := hide (r.lenOf (HL0.out))
  refine hK _ _ rfl trivial ?_
  clear hK K
  refine sq ?_
  refine .mv ?_
  refine sq ?_
  refine .r0 ?_
  refine sq ?_
  refine .r0 ?_
  refine sq ?_
  refine .r0 ?_
  refine sq ?_
  intro K hK
  have xs := hs.g0
  obtain ⟨d0, d1, d2, d3⟩ := hs.g0.f4
  have f0 := xs.free 0; have f1 := xs.free 1
  go_big_op
  have hd5 := xs.nod rfl rfl
  obtain ⟨w_5, eW, xs', ho5⟩ : ∃ w', ((w_4.setCell ⟨p_b2, 0, none⟩ (.bool n_r)).setCell ⟨p_b2, 1, none⟩ (.slice o_r k_r c_r)) = w' ∧ Bs w' p_b2 #[.bool n_r, .slice o_r k_r c_r, .bool false, .slice none 0 0] 29 ∧ Only p_b2 w_4 w' := xs.setN [(0, .bool n_r), (1, .slice o_r k_r c_r)]
  rw [eW]; clear eW d0 d1 d2 d3 f0 f1 xs
  replace hs := hs.u0 kb_b2 xs' ho5; clear xs'
  refine hK _ _ rfl trivial ?_; clear hK K
  refine sq ?_
  refine .mv ?_
  apply wpSq_end
  refine hK11 _ _ ?_
  refine wp_seq_k ?_
  intro K12 hK12
  refine wp_seq_k ?_
  intro K13 hK13
  refine rg [0, 1] ?_
  refine sq ?_
  refine .mv ?_
  refine sq ?_
  refine .r0 ?_
  apply wpSq_end
  refine hK13 _ _ ?_
  refine cf ?_
  refine wp_skip ?_
  refine hK12 _ _ ?_
  refine wp_seq_k ?_
  intro K14 hK14
  refine wp_seq_k ?_
  intro K15 hK15
  refine rg [0, 1] ?_
  refine sq ?_
  refine .mv ?_
  refine sq ?_
  refine .r0 ?_
  apply wpSq_end
  refine hK15 _ _ ?_
  refine cf ?_
  refine wp_skip ?_
  refine hK14 _ _ ?_
  refine wp_seq_k ?_
  intro K16 hK16
  refine rg [0, 1, 2, 3, 4, 5, 6, 7, 8] ?_
  refine sq ?_
  refine .mv ?_
  refine sq ?_
  intro K hK
  go_big_op
  go_fit (HC2.out _)
  rintro e w_6 ⟨rfl, hb_6⟩
  replace hs := hs.bl hb_6
  refine hK _ _ rfl trivial ?_
  clear hK K
  refine sq ?_
  refine .mv ?_
  refine sq ?_
  refine .r0 ?_
  refine sq ?_
  refine .r0 ?_
  refine sq ?_
  refine .r0 ?_
  refine sq ?_
  refine .mv ?_
  refine sq ?_
  refine .mv ?_
  refine sq ?_
  refine .mv ?_
  apply wpSq_end
  refine hK16 _ _ ?_
  refine wp_seq_k ?_
  intro K17 hK17
  refine wp_seq_k ?_
  intro K18 hK18
  refine rg [0, 1] ?_
  refine sq ?_
  refine .mv ?_
  refine sq ?_
  refine .r0 ?_
  apply wpSq_end
  refine hK18 _ _ ?_
  refine ct ?_
  refine wp_goto ?_
  refine hSg _ _ _ _ _ rfl ?_
  refine wp_seq_k ?_
  intro K19 hK19
  refine wp_skip ?_
  refine hK19 _ _ ?_
  refine wp_seq_k ?_
  intro K20 hK20
  refine rg [0, 1, 2] ?_
  refine sq ?_
  refine .r0 ?_
  refine sq ?_
  refine .s4 hs.g1 (fun _ => hs.u1 kb_b1) ?_; clear hs; intro w_7 hs hd7 ho7
  refine sq ?_
  refine .mv ?_
  apply wpSq_end
  refine hK20 _ _ ?_
  refine wp_ret ?_
  refine hSr _ _ _ ?_
  try dsimp only [Exit.then, Exit.inBlock]
  obtain ⟨r0_0, r0_1, r0_2, r0_3⟩ := hs.g1.f4
  refine bodyPost_ret (v := (.tuple #[(.agg #[.bool false, .slice none 0 0, .bool false, .slice none 0 0]), (.int .i64 7)])) (by simp [results, Tryz.results20, go_sem, r0_0, r0_1, r0_2, r0_3]) rfl ?_
  have hb := hs.b
  exact ⟨rfl, hb⟩
end
end Go.Proofs.YtlomgfgedkkhkaaGreatDoor
