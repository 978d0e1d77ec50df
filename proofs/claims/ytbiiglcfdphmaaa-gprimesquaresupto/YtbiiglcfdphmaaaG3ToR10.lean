/- The reference's Gaussian integers; the law's is and g. -/
import Derived.Test.YtbiiglcfdphmaaaWkToG2
import Derived.Test.YtbiiglcfdphmaaaY8
import Derived.Test.YtbiiglcfdphmaaaZ8
import Derived.Test.YtbiiglcfdphmaaaR7
import Derived.Test.YtbiiglcfdphmaaaMx
import Derived.Test.YtbiiglcfdphmaaaR2aToR6
import Derived.Test.YtbiiglcfdphmaaaW8
import Derived.Test.YtbiiglcfdphmaaaR1
import Derived.Lib.Strings

namespace Go.Proofs.Ytbiiglcfdphmaaa
open Go Go.RowKit Dig
set_option linter.unusedVariables false

section
variable {w : World} {va vb : Value} {x y u v : Int} {l m k n : Nat}
set_option maxHeartbeats 4000000 in
set_option maxRecDepth 20000 in
theorem rgSame_any (ha : PC w va x y) (hq : PN w vb x l y m) (hl : l ≤ 100000000) (hm : m ≤ 100000000) :
    Calls Try.prog 43 #[va, vb] w fun e w' => e = .returned (.bool true) ∧ Below w.heap.size w w' := by
  obtain ⟨n_0a, o_0a, k_0a, c_0a, n_0b, o_0b, k_0b, c_0b, rfl, ha1, ha2⟩ := ha
  obtain ⟨n_1a, o_1a, k_1a, c_1a, n_1b, o_1b, k_1b, c_1b, rfl, hq1, hq2⟩ := hq
  go_enter Try.func43, Try.ntmps43
  have hs := St.nil w
  refine wp_seq_k ?_
  intro K1 hK1
  refine rg [0, 1, 2] ?_
  refine sq ?_
  refine .al hs ?_; clear hs; intro p_b1 w_1 hs n1 kb_b1
  refine sq ?_
  refine .al hs ?_; clear hs; intro p_b2 w_2 hs n2 kb_b2
  refine sq ?_
  refine .mv ?_
  apply wpSq_end
  refine hK1 _ _ ?_
  refine wp_seq_k ?_
  intro K2 hK2
  refine rg [0, 1, 2, 3, 4, 5, 6, 7, 8, 9, 10, 11, 12] ?_
  refine sq ?_
  refine .r0 ?_
  refine sq ?_
  refine .r4 hs.g1.f4 ?_
  refine sq ?_
  refine .r0 ?_
  refine sq ?_
  refine .r4 hs.g0.f4 ?_
  refine sq ?_
  intro K hK
  have k0_2 := (kb n1).b n2
  replace ha1 := ha1.k k0_2
  replace hq1 := hq1.k k0_2
  go_big_op
  go_fit (rsame_zz ha1 hq1 (by omega) )
  rintro e w_3 ⟨rfl, hb_3⟩
  replace hs := hs.bl hb_3
  refine hK _ _ rfl trivial ?_
  clear hK K
  refine sq ?_
  refine .mv ?_
  refine sq ?_
  refine .r0 ?_
  refine sq ?_
  refine .r4 hs.g1.f4 ?_
  refine sq ?_
  refine .r0 ?_
  refine sq ?_
  refine .r4 hs.g0.f4 ?_
  refine sq ?_
  intro K hK
  have k0_3 := k0_2.b hb_3
  replace ha2 := ha2.k k0_3
  replace hq2 := hq2.k k0_3
  go_big_op
  go_fit (rsame_zz ha2 hq2 (by omega) )
  rintro e w_4 ⟨rfl, hb_4⟩
  replace hs := hs.bl hb_4
  refine hK _ _ rfl trivial ?_
  clear hK K
  refine sq ?_
  refine .r0 ?_
  refine sq ?_
  refine .mv ?_
  apply wpSq_end
  refine hK2 _ _ ?_
  refine wp_ret ?_
  try dsimp only [Exit.then, Exit.inBlock]
  refine bodyPost_ret (v := (.bool true)) (by simp [results, Try.results43, go_sem]) rfl ?_
  have hb := hs.b
  exact ⟨rfl, hb⟩
set_option maxHeartbeats 4000000 in
set_option maxRecDepth 20000 in
theorem rgI_any (a b : Int) (w : World) (h1 : -9223372036854775808 ≤ a) (h2 : a ≤ 9223372036854775807) (h3 : -9223372036854775808 ≤ b) (h4 : b ≤ 9223372036854775807) :
    Calls Try.prog 37 #[.int .i64 a, .int .i64 b] w fun e w' => ∃ r, e = .returned r ∧ PC w' r a b ∧ Below w.heap.size w w' := by
  go_enter Try.func37, Try.ntmps37
  have hs := St.nil w
  refine wp_seq_k ?_
  intro K1 hK1
  refine rg [0] ?_
  refine sq ?_
  refine .al hs ?_; clear hs; intro p_b1 w_1 hs n1 kb_b1
  apply wpSq_end
  refine hK1 _ _ ?_
  refine wp_seq_k ?_
  intro K2 hK2
  refine rg [0, 1, 2, 3, 4, 5] ?_
  refine sq ?_
  refine .mv ?_
  refine sq ?_
  intro K hK
  go_big_op
  go_fit (ri_any a _ h1 h2)
  rintro e w_2 ⟨v_g1, rfl, g1, hb_2⟩
  replace hs := hs.bl hb_2
  replace g1 := g1.rd
  obtain ⟨n_g1, o_g1, k_g1, c_g1, rfl⟩ := g1.open2
  refine hK _ _ rfl trivial ?_
  clear hK K
  refine sq ?_
  refine .mv ?_
  refine sq ?_
  intro K hK
  go_big_op
  go_fit (ri_any b _ h3 h4)
  rintro e w_3 ⟨v_g2, rfl, g2, hb_3⟩
  replace hs := hs.bl hb_3
  replace g2 := g2.rd
  obtain ⟨n_g2, o_g2, k_g2, c_g2, rfl⟩ := g2.open2
  refine hK _ _ rfl trivial ?_
  clear hK K
  refine sq ?_
  refine .r0 ?_
  refine sq ?_
  refine .s4 hs.g0 (fun _ => hs.u0 kb_b1) ?_; clear hs; intro w_4 hs hd4 ho4
  apply wpSq_end
  refine hK2 _ _ ?_
  refine wp_ret ?_
  try dsimp only [Exit.then, Exit.inBlock]
  obtain ⟨r0_0, r0_1, r0_2, r0_3⟩ := hs.g0.f4
  refine bodyPost_ret (v := (.agg #[.bool n_g1, .slice o_g1 k_g1 c_g1, .bool n_g2, .slice o_g2 k_g2 c_g2])) (by simp [results, Try.results37, go_sem, r0_0, r0_1, r0_2, r0_3]) rfl ?_
  have k2_4 := (kb hb_3).o hd4 ho4
  replace g1 := g1.k k2_4
  have k3_4 := ko hd4 ho4
  replace g2 := g2.k k3_4
  exact ⟨_, rfl, .mk' g1 g2, hs.b⟩
set_option maxHeartbeats 4000000 in
set_option maxRecDepth 20000 in
theorem gFrom_any (a b : Int) (w : World) (h1 : -9223372036854775808 ≤ a) (h2 : a ≤ 9223372036854775807) (h3 : -9223372036854775808 ≤ b) (h4 : b ≤ 9223372036854775807) :
    Calls Try.prog 27 #[.int .i64 a, .int .i64 b] w fun e w' => ∃ r, e = .returned r ∧ PC w' r a b ∧ Below w.heap.size w w' := by
  go_enter Try.func27, Try.ntmps27
  have hs := St.nil w
  refine wp_seq_k ?_
  intro K1 hK1
  refine rg [0] ?_
  refine sq ?_
  refine .al hs ?_; clear hs; intro p_b1 w_1 hs n1 kb_b1
  apply wpSq_end
  refine hK1 _ _ ?_
  refine wp_seq_k ?_
  intro K2 hK2
  refine rg [0, 1, 2, 3, 4, 5] ?_
  refine sq ?_
  refine .mv ?_
  refine sq ?_
  intro K hK
  go_big_op
  go_fit (from_any a _ h1 h2)
  rintro e w_2 ⟨v_g1, rfl, g1, hb_2⟩
  replace hs := hs.bl hb_2
  replace g1 := g1.rd
  obtain ⟨n_g1, o_g1, k_g1, c_g1, rfl⟩ := g1.open2
  refine hK _ _ rfl trivial ?_
  clear hK K
  refine sq ?_
  refine .mv ?_
  refine sq ?_
  intro K hK
  go_big_op
  go_fit (from_any b _ h3 h4)
  rintro e w_3 ⟨v_g2, rfl, g2, hb_3⟩
  replace hs := hs.bl hb_3
  replace g2 := g2.rd
  obtain ⟨n_g2, o_g2, k_g2, c_g2, rfl⟩ := g2.open2
  refine hK _ _ rfl trivial ?_
  clear hK K
  refine sq ?_
  refine .r0 ?_
  refine sq ?_
  refine .s4 hs.g0 (fun _ => hs.u0 kb_b1) ?_; clear hs; intro w_4 hs hd4 ho4
  apply wpSq_end
  refine hK2 _ _ ?_
  refine wp_ret ?_
  try dsimp only [Exit.then, Exit.inBlock]
  obtain ⟨r0_0, r0_1, r0_2, r0_3⟩ := hs.g0.f4
  refine bodyPost_ret (v := (.agg #[.bool n_g1, .slice o_g1 k_g1 c_g1, .bool n_g2, .slice o_g2 k_g2 c_g2])) (by simp [results, Try.results27, go_sem, r0_0, r0_1, r0_2, r0_3]) rfl ?_
  have k2_4 := (kb hb_3).o hd4 ho4
  replace g1 := g1.k k2_4
  have k3_4 := ko hd4 ho4
  replace g2 := g2.k k3_4
  exact ⟨_, rfl, .mk' g1 g2, hs.b⟩
end
end Go.Proofs.Ytbiiglcfdphmaaa


/- gint: Turn, timesI, Canon; the reference's. -/
namespace Go.Proofs.Ytbiiglcfdphmaaa
open Go Go.RowKit Dig
set_option linter.unusedVariables false

section
variable {w : World} {va vb : Value} {x y u v : Int} {l m k n : Nat}
end
end Go.Proofs.Ytbiiglcfdphmaaa


/- zint.Int. -/
namespace Go.Proofs.Ytbiiglcfdphmaaa
open Go.RowKit Dig

theorem take1 {ds : List Nat} (h : 0 < ds.length) : ds.take 1 = [ds[0]?.getD 0] := by
  match ds, h with
  | d :: _, _ => rfl
theorem take2 {ds : List Nat} (h : 1 < ds.length) : ds.take 2 = [ds[0]?.getD 0, ds[1]?.getD 0] := by
  match ds, h with
  | _ :: _ :: _, _ => rfl
set_option maxHeartbeats 4000000 in
set_option maxRecDepth 20000 in
/-- zint.Int of a number within. -/
theorem int_any {w : World} {va : Value} {x : Int} {l : Nat} (ha : ZN w va x l) (hl : l ≤ 100000000) (hlo : -9223372036854775808 ≤ x) (hhi : x ≤ 9223372036854775807) :
    Calls Try.prog 74 #[va] w fun e w' => e = .returned (.tuple #[.int .i64 x, .bool true]) ∧ Below w.heap.size w w' := by
  obtain ⟨D, hD⟩ : ∃ D, zcmp x (-9223372036854775808) = D := ⟨_, rfl⟩
  have hD0 : 0 ≤ D := by rw [← hD]; exact zcmp_ge hlo
  have hD1 : (D < 0) = False := eq_false (by omega)
  obtain ⟨F, hF⟩ : ∃ F, zcmp x 9223372036854775807 = F := ⟨_, rfl⟩
  have hF0 : F ≤ 0 := by
    rw [← hF]; unfold zcmp
    split
    · omega
    · rw [if_pos (by omega)]; omega
  have hF1 : (0 < F) = False := eq_false (by omega)
  have E1 := hide hD
  have E2 := hide hF
  have LM := hide (zlen_i (-9223372036854775808) (by decide) (by decide))
  have LX := hide (zlen_i (9223372036854775807) (by decide) (by decide))
  clear hD hF
  obtain ⟨na, oa, ca, xs, rfl, hca, hxr, hzx, hxl⟩ := ha.open_
  have hv : val xs = x.natAbs := by rw [← hzx, zv_abs]
  have hdl : (dig (val xs)).length ≤ 2 := dig_length_le (show val xs < pw 2 from Nat.lt_of_lt_of_le (show val xs < 18446744073709551616 by omega) (by decide))
  go_enter Try.func74, Try.ntmps74
  have hb := Below.refl w.heap.size w
  have hp := Bk.new w na (.slice oa xs.length ca)
  replace ha := ha.alloc (.cells #[.bool na, (.slice oa xs.length ca)] 27)
  replace hxr := hxr.alloc (.cells #[.bool na, (.slice oa xs.length ca)] 27)
  replace hb := hb.alloc hb.size (.cells #[.bool na, (.slice oa xs.length ca)] 27)
  replace ha := ha.drew
  replace hxr := hxr.drew
  replace hp := hp.drew
  replace hb := hb.drew
  go_wp2_with fail
  refine wp_region_pl [(0, false), (1, true), (2, true), (3, false), (4, false), (5, false), (6, true), (7, true), (8, false), (9, false)] (fun w' => w'.cell? ⟨w.heap.size, 0, none⟩ = some (.bool na) ∧ w'.cell? ⟨w.heap.size, 1, none⟩ = some (.slice oa xs.length ca)) (by kernel_rfl) (by kernel_rfl) (by kernel_rfl) (by kernel_rfl) ⟨hp.facts.1, hp.facts.2.1⟩ ?_
  apply wpPl_ld
  case hi => rfl
  case h1 => intro w' hC K hK; obtain ⟨c0, c1⟩ := hC; (first | go_big_move | go_big_op); exact hK
  case hw => kernel_rfl
  case hv => kernel_rfl
  case hb => kernel_rfl
  case hp => kernel_rfl
  apply wpPl_call
  case hi => rfl
  case hw => kernel_rfl
  case h =>
  intro K hK
  have kb_1 := hb.size
  go_big_op
  go_fit (from_any (-9223372036854775808) _ (by decide) (by decide))
  rintro e w_1 ⟨v1, rfl, g1, hb_1⟩
  replace ha := ha.below hb_1 (Nat.le_refl _)
  replace hxr := hxr.below hb_1 (Nat.le_refl _)
  replace hp := hp.below hb_1 (Nat.le_refl _)
  replace hb := hb.trans (hb_1.mono hb.size)
  refine hK _ _ rfl ⟨hp.facts.1, hp.facts.2.1⟩ ?_
  clear hK K hb_1
  replace g1 := g1.rd
  apply wpPl_call
  case hi => rfl
  case hw => kernel_rfl
  case h =>
  intro K hK
  have kb_2 := hb.size
  go_big_op
  go_fit (zcmp_any ha (g1.zn LM.out) (by omega) (by decide))
  rintro e w_2 ⟨rfl, hb_2⟩
  replace ha := ha.below hb_2 (Nat.le_refl _)
  replace hxr := hxr.below hb_2 (Nat.le_refl _)
  replace hp := hp.below hb_2 (Nat.le_refl _)
  replace g1 := g1.below hb_2 (Nat.le_refl _)
  replace hb := hb.trans (hb_2.mono hb.size)
  refine hK _ _ rfl ⟨hp.facts.1, hp.facts.2.1⟩ ?_
  clear hK K hb_2
  rw [E1.out]
  clear g1
  apply wpPl_ld
  case hi => rfl
  case h1 => intro w' hC K hK; obtain ⟨c0, c1⟩ := hC; (first | go_big_move | go_big_op); exact hK
  case hw => kernel_rfl
  case hv => kernel_rfl
  case hb => kernel_rfl
  case hp => kernel_rfl
  apply wpPl_ld
  case hi => rfl
  case h1 => intro w' hC K hK; obtain ⟨c0, c1⟩ := hC; (first | go_big_move | go_big_op); exact hK
  case hw => kernel_rfl
  case hv => kernel_rfl
  case hb => kernel_rfl
  case hp => kernel_rfl
  apply wpPl_ld
  case hi => rfl
  case h1 => intro w' hC K hK; obtain ⟨c0, c1⟩ := hC; (first | go_big_move | go_big_op); exact hK
  case hw => kernel_rfl
  case hv => kernel_rfl
  case hb => kernel_rfl
  case hp => kernel_rfl
  apply wpPl_call
  case hi => rfl
  case hw => kernel_rfl
  case h =>
  intro K hK
  have kb_3 := hb.size
  go_big_op
  go_fit (from_any 9223372036854775807 _ (by decide) (by decide))
  rintro e w_3 ⟨v2, rfl, g2, hb_3⟩
  replace ha := ha.below hb_3 (Nat.le_refl _)
  replace hxr := hxr.below hb_3 (Nat.le_refl _)
  replace hp := hp.below hb_3 (Nat.le_refl _)
  replace hb := hb.trans (hb_3.mono hb.size)
  refine hK _ _ rfl ⟨hp.facts.1, hp.facts.2.1⟩ ?_
  clear hK K hb_3
  replace g2 := g2.rd
  apply wpPl_call
  case hi => rfl
  case hw => kernel_rfl
  case h =>
  intro K hK
  have kb_4 := hb.size
  go_big_op
  go_fit (zcmp_any ha (g2.zn LX.out) (by omega) (by decide))
  rintro e w_4 ⟨rfl, hb_4⟩
  replace ha := ha.below hb_4 (Nat.le_refl _)
  replace hxr := hxr.below hb_4 (Nat.le_refl _)
  replace hp := hp.below hb_4 (Nat.le_refl _)
  replace g2 := g2.below hb_4 (Nat.le_refl _)
  replace hb := hb.trans (hb_4.mono hb.size)
  refine hK _ _ rfl ⟨hp.facts.1, hp.facts.2.1⟩ ?_
  clear hK K hb_4
  rw [E2.out]
  clear g2
  apply wpPl_ld
  case hi => rfl
  case h1 => intro w' hC K hK; obtain ⟨c0, c1⟩ := hC; (first | go_big_move | go_big_op); exact hK
  case hw => kernel_rfl
  case hv => kernel_rfl
  case hb => kernel_rfl
  case hp => kernel_rfl
  apply wpPl_ld
  case hi => rfl
  case h1 => intro w' hC K hK; obtain ⟨c0, c1⟩ := hC; (first | go_big_move | go_big_op); exact hK
  case hw => kernel_rfl
  case hv => kernel_rfl
  case hb => kernel_rfl
  case hp => kernel_rfl
  apply wpPl_end
  have f_hp := hp.facts
  go_wp2_with fail
  refine (norm_rd hxr (by omega)).mono ?_
  rintro e w_5 ⟨s, rfl, hs, hb_5⟩
  replace ha := ha.below hb_5 (Nat.le_refl _)
  replace hxr := hxr.below hb_5 (Nat.le_refl _)
  replace hp := hp.below hb_5 (Nat.le_refl _)
  replace hb := hb.trans (hb_5.mono hb.size)
  clear hb_5
  replace hs := hs.rd
  clear f_hp
  obtain ⟨os, cs', rfl, hcs, oks, hcell⟩ := hs
  have hvd : val (dig (val xs)) = val xs := val_dig _
  generalize dig (val xs) = ds at *
  have HV := hide (And.intro hvd hv)
  have HDL := hide hdl
  clear hvd hv hdl
  go_wp2_with fail
  go_loop [4, 21] (fun u i => ∃ k : Nat, k ≤ ds.length ∧ i = .int .i64 (k : Int) ∧ u = .int .u64 ((val (ds.take k) : Nat) : Int)) (fun _ i => ds.length - (intOf i).toNat)
  case atStart => exact ⟨0, by omega, rfl, by simp [val]⟩
  case round =>
    obtain ⟨k, hk, rfl, rfl⟩ := hrel
    by_cases hlt : k < ds.length
    · obtain ⟨b, off, d, ho, gd, Hd⟩ := hcell.get hlt
      subst ho
      have hdb : d < 4294967296 := by rw [← Hd.out]; exact oks.get k
      have hk1 : k = 0 ∨ k = 1 := by have := HDL.out; omega
      rcases hk1 with rfl | rfl
      · rw [Nat.add_zero] at gd
        have hor : bits .or .u64 (0 : Int) (d : Int) = (d : Int) := by
          have h := or_low 0 d 0 d (by decide) (by decide) hdb (by omega)
          have e : IntKind.u64.wrap ((d : Int) * 2 ^ 0) = (d : Int) := by rw [IntKind.wrap_u64]; omega
          rw [e] at h
          exact h
        have hd1 : val (ds.take 1) = d := by rw [take1 hlt, Hd.out]; simp [val]
        have hv0 : val (ds.take 0) = 0 := rfl
        rw [hv0]
        have HD1 := hide hd1
        clear hd1 hv0
        go_wp2
        go_round
        case rel => exact ⟨1, by omega, rfl, by rw [HD1.out]⟩
        case measure => simp [intOf]; omega
      · obtain ⟨t, ht⟩ : ∃ t, val (ds.take 1) = t := ⟨_, rfl⟩
        have htb : t < 4294967296 := by rw [← ht, take1 (by omega)]; have := oks.get 0; simp only [val]; omega
        have hor := or_mid t d _ htb hdb rfl
        have HT := hide (show val (ds.take 2) = d * 4294967296 + t by rw [take2 hlt, ← ht, take1 (by omega), Hd.out]; simp [val]; omega)
        rw [ht]
        clear ht
        go_wp2
        go_round
        case rel => exact ⟨2, by omega, rfl, by rw [HT.out]; simp⟩
        case measure => simp [intOf]; omega
    · have hkn : k = ds.length := by omega
      have hV := HV.out
      have hV2 : val (ds.take k) = x.natAbs := by rw [hkn, List.take_length, hV.1, hV.2]
      rw [hV2]
      subst hkn
      obtain ⟨u, hu⟩ : ∃ u : Nat, x.natAbs = u := ⟨_, rfl⟩
      rw [hu]
      have hz := hzx
      unfold zv at hz
      rw [hV.1.symm.trans (hV.1.trans rfl)] at hz
      cases na
      · have hxu : (u : Int) = x := by rw [if_neg (by simp)] at hz; omega
        have hw1 : IntKind.i64.wrap (u : Int) = x := by rw [IntKind.wrap_i64]; omega
        clear hV hV2 hu hz hxu
        have f_hp := hp.facts
        go_wp2
        go_ret2
        exact ⟨rfl, hb⟩
      · have hxu : -(u : Int) = x := by rw [if_pos rfl] at hz; omega
        have hw1 : IntKind.i64.wrap (IntKind.u64.wrap (-(u : Int))) = x := by rw [IntKind.wrap_i64, IntKind.wrap_u64]; omega
        clear hV hV2 hu hz hxu
        have f_hp := hp.facts
        go_wp2
        go_ret2
        exact ⟨rfl, hb⟩
end Go.Proofs.Ytbiiglcfdphmaaa


/- nat.isDigits, groupValue and putGroup: what a text's digits are worth. -/
namespace Go.Proofs.Ytbiiglcfdphmaaa
open Go.RowKit Dig

end Go.Proofs.Ytbiiglcfdphmaaa


/- nat.Parse: the number of a text of digits, or the error. -/
namespace Go.Proofs.Ytbiiglcfdphmaaa
open Go.RowKit Dig

end Go.Proofs.Ytbiiglcfdphmaaa


/- The reference's Digits and Parse: what a text's digits are worth. -/
namespace Go.Proofs.Ytbiiglcfdphmaaa
open Go.RowKit Dig
end Go.Proofs.Ytbiiglcfdphmaaa

