/- The reference's elimination: what stands from column to column. -/
import Derived.Test.YtjfjlloibmebeaaGreatScToDt2
import Derived.Test.YtjfjlloibmebeaaGreatB2ToE13
import Derived.Test.YtjfjlloibmebeaaGreatGpToU4
import Derived.Test.YtjfjlloibmebeaaGreatI3ToN4
import Derived.Test.YtjfjlloibmebeaaGreatWkToM1

namespace Go.Proofs.YtjfjlloibmebeaaGreat
open Go Go.RowKit Dig
set_option linter.unusedVariables false
section
variable {n W c k p i j : Nat} {A0 A F : Nat → Nat → Int × Int} {g : Nat → Nat} {odd : Bool}
end
end Go.Proofs.YtjfjlloibmebeaaGreat


/- The reference's elimination: its walk. -/
namespace Go.Proofs.YtjfjlloibmebeaaGreat
open Go Go.RowKit Dig
set_option linter.unusedVariables false
section
variable {n W c k p : Nat} {A0 A F : Nat → Nat → Int × Int} {g : Nat → Nat} {odd : Bool}
end
section
variable {w : World} {la n W L ca : Nat} {oa : Option Addr} {A : List (List (Int × Int))}
end
end Go.Proofs.YtjfjlloibmebeaaGreat


/- gdet: Rank, Independent. -/
namespace Go.Proofs.YtjfjlloibmebeaaGreat
open Go Go.RowKit Dig
set_option linter.unusedVariables false
section
variable {w w0 : World} {l la n k L ca : Nat} {oa : Option Addr} {bs : List En} {A : List (List (Int × Int))}
end
end Go.Proofs.YtjfjlloibmebeaaGreat


/- The reference's Rank and Det. -/
namespace Go.Proofs.YtjfjlloibmebeaaGreat
open Go Go.RowKit Dig
set_option linter.unusedVariables false
section
variable {w : World} {la n W L ca r : Nat} {oa : Option Addr} {A : List (List (Int × Int))}
end
end Go.Proofs.YtjfjlloibmebeaaGreat


/- The law's g, simple, told, awake (gdet). -/
namespace Go.Proofs.YtjfjlloibmebeaaGreat
open Go Go.RowKit Dig
set_option linter.unusedVariables false
set_option maxHeartbeats 4000000 in
set_option maxRecDepth 20000 in
theorem g9_any (a b : Int) (w : World) (h1 : -9223372036854775808 ≤ a) (h2 : a ≤ 9223372036854775807) (h3 : -9223372036854775808 ≤ b) (h4 : b ≤ 9223372036854775807) :
    Calls Tryz.prog 91 #[.int .i64 a, .int .i64 b] w fun e w' => ∃ r, e = .returned r ∧ PC w' r a b ∧ Below w.heap.size w w' := by
  go_enter Tryz.func91, Tryz.ntmps91
  have hs := St.nil w
  refine wp_seq_k ?_
  intro K1 hK1
  refine rg [0] ?_
  refine sq ?_
  refine .al hs ?_; clear hs; intro p_b1 w_1 hs n1 kb_b1
  apply wpSq_end
  refine hK1 _ _ ?_
  refine wp_seq_k ?_
  intro K2 hK2
  refine rg [0, 1, 2, 3] ?_
  refine sq ?_
  refine .mv ?_
  refine sq ?_
  refine .mv ?_
  refine sq ?_
  intro K hK
  go_big_op
  go_fit (rgI_any a b _ h1 h2 h3 h4)
  rintro e w_2 ⟨_, rfl, ⟨n_ra, o_ra, k_ra, c_ra, n_rb, o_rb, k_rb, c_rb, rfl, r1, r2⟩, hb_2⟩
  replace hs := hs.bl hb_2
  refine hK _ _ rfl trivial ?_
  clear hK K
  refine sq ?_
  refine .s4 hs.g0 (fun _ => hs.u0 kb_b1) ?_; clear hs; intro w_3 hs hd3 ho3
  apply wpSq_end
  refine hK2 _ _ ?_
  refine wp_ret ?_
  try dsimp only [Exit.then, Exit.inBlock]
  obtain ⟨r0_0, r0_1, r0_2, r0_3⟩ := hs.g0.f4
  refine bodyPost_ret (v := (.agg #[.bool n_ra, .slice o_ra k_ra c_ra, .bool n_rb, .slice o_rb k_rb c_rb])) (by simp [results, Tryz.results91, go_sem, r0_0, r0_1, r0_2, r0_3]) rfl ?_
  have k2_3 := ko hd3 ho3
  replace r1 := r1.k k2_3
  replace r2 := r2.k k2_3
  exact ⟨_, rfl, .mk' r1 r2, hs.b⟩
set_option maxHeartbeats 4000000 in
set_option maxRecDepth 20000 in
theorem simple9_any (w : World) :
    Calls Tryz.prog 89 #[] w fun e w' => ∃ o c, e = .returned (.slice o 2 c) ∧ MC w' o [[(1, 0), (2, 0)], [(0, 1), (0, 0)]] ∧ Below w.heap.size w w' := by
  go_enter Tryz.func89, Tryz.ntmps89
  have hs := St.nil w
  refine wp_seq_k ?_
  intro K1 hK1
  refine rg [0] ?_
  refine sq ?_
  refine .mv ?_
  apply wpSq_end
  refine hK1 _ _ ?_
  refine wp_seq_k ?_
  intro K2 hK2
  refine rg [0, 1, 2, 3, 4, 5, 6, 7] ?_
  refine sq ?_
  intro K hK
  go_big_op
  go_fit (g9_any 1 0 _ (by decide) (by decide) (by decide) (by decide))
  rintro e w_1 ⟨_, rfl, ⟨n_aa, o_aa, k_aa, c_aa, n_ab, o_ab, k_ab, c_ab, rfl, a1, a2⟩, hb_1⟩
  replace hs := hs.bl hb_1
  have La1 := hide (a1.lenOf (zlen_small8 (z := 1) (by decide)))
  have La2 := hide (a2.lenOf (zlen_small8 (z := 0) (by decide)))
  refine hK _ _ rfl trivial ?_
  clear hK K
  refine sq ?_
  intro K hK
  go_big_op
  go_fit (g9_any 2 0 _ (by decide) (by decide) (by decide) (by decide))
  rintro e w_2 ⟨_, rfl, ⟨n_ba, o_ba, k_ba, c_ba, n_bb, o_bb, k_bb, c_bb, rfl, b1, b2⟩, hb_2⟩
  replace hs := hs.bl hb_2
  have Lb1 := hide (b1.lenOf (zlen_small8 (z := 2) (by decide)))
  have Lb2 := hide (b2.lenOf (zlen_small8 (z := 0) (by decide)))
  refine hK _ _ rfl trivial ?_
  clear hK K
  refine sq ?_
  refine .al hs ?_; clear hs; intro p_b1 w_3 hs n3 kb_b1
  refine sq ?_
  intro K hK
  go_big_op
  go_fit (g9_any 0 1 _ (by decide) (by decide) (by decide) (by decide))
  rintro e w_4 ⟨_, rfl, ⟨n_ca, o_ca, k_ca, c_ca, n_cb, o_cb, k_cb, c_cb, rfl, c1, c2⟩, hb_4⟩
  replace hs := hs.bl hb_4
  have Lc1 := hide (c1.lenOf (zlen_small8 (z := 0) (by decide)))
  have Lc2 := hide (c2.lenOf (zlen_small8 (z := 1) (by decide)))
  refine hK _ _ rfl trivial ?_
  clear hK K
  refine sq ?_
  intro K hK
  go_big_op
  go_fit (g9_any 0 0 _ (by decide) (by decide) (by decide) (by decide))
  rintro e w_5 ⟨_, rfl, ⟨n_da, o_da, k_da, c_da, n_db, o_db, k_db, c_db, rfl, d1, d2⟩, hb_5⟩
  replace hs := hs.bl hb_5
  have Ld1 := hide (d1.lenOf (zlen_small8 (z := 0) (by decide)))
  have Ld2 := hide (d2.lenOf (zlen_small8 (z := 0) (by decide)))
  refine hK _ _ rfl trivial ?_
  clear hK K
  refine sq ?_
  refine .al hs ?_; clear hs; intro p_b2 w_6 hs n6 kb_b2
  refine sq ?_
  refine .al hs ?_; clear hs; intro p_b3 w_7 hs n7 kb_b3
  refine sq ?_
  refine .mv ?_
  apply wpSq_end
  refine hK2 _ _ ?_
  refine wp_ret ?_
  have k1_7 := (((((kb hb_2).b n3).b hb_4).b hb_5).b n6).b n7
  replace a1 := a1.k k1_7
  replace a2 := a2.k k1_7
  have k2_7 := ((((kb n3).b hb_4).b hb_5).b n6).b n7
  replace b1 := b1.k k2_7
  replace b2 := b2.k k2_7
  have k4_7 := ((kb hb_5).b n6).b n7
  replace c1 := c1.k k4_7
  replace c2 := c2.k k4_7
  have k5_7 := (kb n6).b n7
  replace d1 := d1.k k5_7
  replace d2 := d2.k k5_7
  try dsimp only [Exit.then, Exit.inBlock]
  refine bodyPost_ret (v := (.slice (some ⟨p_b3, 0, none⟩) 2 2)) (by simp [results, Tryz.results89, go_sem]) rfl ?_
  exact ⟨_, _, rfl, mc2 hs.g0 (sc2 hs.g2 a1 a2 b1 b2) (sc2 hs.g1 c1 c2 d1 d2), hs.b⟩
section
variable {w : World} {va vb : Value} {x y : Int} {l m : Nat}
set_option maxHeartbeats 4000000 in
set_option maxRecDepth 20000 in
theorem told9_yes (ha : PC w va x y) (hq : PN w vb x l y m) (hl : l ≤ 80000000) (hm : m ≤ 80000000) :
    Calls Tryz.prog 90 #[va, .int .i64 0, vb, .int .i64 0] w fun e w' => e = .returned (.bool true) ∧ Below w.heap.size w w' := by
  obtain ⟨n_0a, o_0a, k_0a, c_0a, n_0b, o_0b, k_0b, c_0b, rfl, ha1, ha2⟩ := ha
  obtain ⟨n_2a, o_2a, k_2a, c_2a, n_2b, o_2b, k_2b, c_2b, rfl, hq1, hq2⟩ := hq
  go_enter Tryz.func90, Tryz.ntmps90
  have hs := St.nil w
  refine wp_seq_k ?_
  intro K1 hK1
  refine rg [0, 1, 2] ?_
  refine sq ?_
  refine .al hs ?_; clear hs; intro p_b1 w_1 hs n1 kb_b1
  refine sq ?_
  refine .al hs ?_; clear hs; intro p_b2 w_2 hs n2 kb_b2
  refine sq ?_
  refine .mv ?_
  apply wpSq_end
  refine hK1 _ _ ?_
  refine wp_seq_k ?_
  intro K2 hK2
  refine wp_seq_k ?_
  intro K3 hK3
  refine rg [0, 1] ?_
  refine sq ?_
  refine .mv ?_
  refine sq ?_
  refine .r0 ?_
  apply wpSq_end
  refine hK3 _ _ ?_
  refine cf ?_
  refine wp_skip ?_
  refine hK2 _ _ ?_
  refine wp_seq_k ?_
  intro K4 hK4
  refine rg [0, 1, 2, 3, 4, 5, 6, 7] ?_
  refine sq ?_
  refine .mv ?_
  refine sq ?_
  refine .r0 ?_
  refine sq ?_
  refine .mv ?_
  refine sq ?_
  refine .r4 hs.g1.f4 ?_
  refine sq ?_
  refine .r4 hs.g0.f4 ?_
  refine sq ?_
  intro K hK
  have k0_2 := (kb n1).b n2
  replace ha1 := ha1.k k0_2
  replace ha2 := ha2.k k0_2
  replace hq1 := hq1.k k0_2
  replace hq2 := hq2.k k0_2
  go_big_op
  go_fit (rgSame_any (PC.mk' ha1 ha2) (PN.mk' hq1 hq2) (by omega) (by omega) )
  rintro e w_3 ⟨rfl, hb_3⟩
  replace hs := hs.bl hb_3
  refine hK _ _ rfl trivial ?_
  clear hK K
  refine sq ?_
  refine .r0 ?_
  refine sq ?_
  refine .mv ?_
  apply wpSq_end
  refine hK4 _ _ ?_
  refine wp_ret ?_
  try dsimp only [Exit.then, Exit.inBlock]
  refine bodyPost_ret (v := (.bool true)) (by simp [results, Tryz.results90, go_sem]) rfl ?_
  have hb := hs.b
  exact ⟨rfl, hb⟩
end
theorem det_simple : Dt.det 2 (at2 [[(1, 0), (2, 0)], [(0, 1), (0, 0)]]) = ((0, -2) : Int × Int) := by decide +kernel
theorem minB_simple : MinB 2 2 67 (at2 [[(1, 0), (2, 0)], [(0, 1), (0, 0)]]) :=
  minB_of (T := 2) (b := fun _ => 1) (by decide) (by decide) fun i hi q hq => (bd_small (by decide)).at2
set_option maxHeartbeats 4000000 in
set_option maxRecDepth 20000 in
theorem awake9_any (w : World) :
    Calls Tryz.prog 19 #[] w fun e w' => e = .returned (.bool true) ∧ Below w.heap.size w w' := by
  go_enter Tryz.func19, Tryz.ntmps19
  have hs := St.nil w
  refine wp_seq_k ?_
  intro K1 hK1
  refine rg [0] ?_
  refine sq ?_
  refine .mv ?_
  apply wpSq_end
  refine hK1 _ _ ?_
  refine wp_seq_k ?_
  intro K2 hK2
  refine rg [0, 1, 2, 3, 4, 5, 6, 7] ?_
  refine sq ?_
  intro K hK
  go_big_op
  go_fit (simple9_any _)
  rintro e w_1 ⟨o_S, c_S, rfl, m_S, hb_1⟩
  replace hs := hs.bl hb_1
  refine hK _ _ rfl trivial ?_
  clear hK K
  refine sq ?_
  intro K hK
  go_big_op
  go_fit (det_ok (m_S.mn (bd_small (by decide))) rfl gd_simple rfl minB_simple (by decide) (by decide))
  rintro e w_2 ⟨_, rfl, ⟨n_da, o_da, k_da, c_da, n_db, o_db, k_db, c_db, rfl, d1, d2⟩, hb_2⟩
  replace m_S := m_S.bl hb_2; replace hs := hs.bl hb_2
  rw [det_simple] at d1 d2
  refine hK _ _ rfl trivial ?_
  clear hK K
  refine sq ?_
  refine .mv ?_
  refine sq ?_
  refine .r0 ?_
  refine sq ?_
  refine .r0 ?_
  refine sq ?_
  refine .al hs ?_; clear hs; intro p_b1 w_3 hs n3 kb_b1
  refine sq ?_
  refine .s4 hs.g0 (fun _ => hs.u0 kb_b1) ?_; clear hs; intro w_4 hs hd4 ho4
  refine sq ?_
  refine .mv ?_
  apply wpSq_end
  refine hK2 _ _ ?_
  refine wp_seq_k ?_
  intro K3 hK3
  refine wp_region_f4 [(0, false), (1, false), (2, true), (3, true), (4, false)] [] [] (fun _ => default) [0, 99, 99, 99, 99] [] (.c hs.g0 .n) fn fun w_5 n5 => ?_
  replace hs := hs.bl n5
  refine f4 ?_
  refine fmv ?_
  refine fl fun w_6 n6 => ?_
  replace hs := hs.bl n6
  intro K hK
  go_big_op
  go_fit (g9_any 0 (-2) _ (by decide) (by decide) (by decide) (by decide))
  rintro e w_7 ⟨_, rfl, ⟨n_aa, o_aa, k_aa, c_aa, n_ab, o_ab, k_ab, c_ab, rfl, a1, a2⟩, hb_7⟩
  replace hs := hs.bl hb_7
  have La1 := hide (a1.lenOf (zlen_small8 (z := 0) (by decide)))
  have La2 := hide (a2.lenOf (zlen_small8 (z := -2) (by decide)))
  refine hK _ _ rfl ⟨hb_7, (And.intro hs.g0 trivial)⟩ ?_
  clear hK K
  refine fl fun w_8 n8 => ?_
  replace hs := hs.bl n8
  intro K hK
  have k2_8 := (((((kb n3).o hd4 ho4).b n5).b n6).b hb_7).b n8
  replace d1 := d1.k k2_8
  replace d2 := d2.k k2_8
  have k7_8 := kb n8
  replace a1 := a1.k k7_8
  replace a2 := a2.k k7_8
  go_big_op
  go_fit (told9_yes (.mk' d1 d2) (.mk' (a1.zn La1.out) (a2.zn La2.out)) (by decide) (by decide))
  rintro e w_9 ⟨rfl, hb_9⟩
  replace hs := hs.bl hb_9
  refine hK _ _ rfl ⟨hb_9, (And.intro hs.g0 trivial)⟩ ?_
  clear hK K
  refine fmv ?_
  refine e0 hs ?_; clear hs; intro w_10 hs n10
  apply wpTail_end
  refine hK3 _ _ ?_
  refine wp_ret ?_
  try dsimp only [Exit.then, Exit.inBlock]
  refine bodyPost_ret (v := (.bool true)) (by simp [results, Tryz.results19, go_sem]) rfl ?_
  exact ⟨rfl, hs.b⟩
end Go.Proofs.YtjfjlloibmebeaaGreat


/- gdet: Adjugate, Inverse. -/
namespace Go.Proofs.YtjfjlloibmebeaaGreat
open Go Go.RowKit Dig
set_option linter.unusedVariables false
set_option linter.unusedSimpArgs false
theorem perm5 {α : Type} {a b c d e : α} {t z : List α} : (a :: b :: c :: d :: e :: (t ++ z)).Perm (c :: d :: a :: e :: b :: (z ++ t)) := by
  let f : Nat → α := fun i => if i = 0 then a else if i = 1 then b else if i = 2 then c else if i = 3 then d else e
  exact List.Perm.append (l₁ := [a, b, c, d, e]) (l₂ := [c, d, a, e, b]) ((show [0, 1, 2, 3, 4].Perm [2, 3, 0, 4, 1] by decide).map f) List.perm_append_comm
theorem perm5b {α : Type} {a b c d e : α} {t z : List α} : (a :: b :: c :: d :: e :: (t ++ z)).Perm (e :: b :: c :: d :: a :: (z ++ t)) := by
  let f : Nat → α := fun i => if i = 0 then a else if i = 1 then b else if i = 2 then c else if i = 3 then d else e
  exact List.Perm.append (l₁ := [a, b, c, d, e]) (l₂ := [e, b, c, d, a]) ((show [0, 1, 2, 3, 4].Perm [4, 1, 2, 3, 0] by decide).map f) List.perm_append_comm
theorem at2_one2 {n i j : Nat} (hi : i < n) (hj : j < n) : at2 (mkM n n one2) i j = Dt.one i j := by rw [at2_mkM hi hj]; rfl
section
variable {w : World} {la n L ca : Nat} {oa : Option Addr} {A : List (List (Int × Int))}
set_option maxHeartbeats 8000000 in
set_option maxRecDepth 20000 in
theorem adjugate_ok (ha : MN la w oa A) (hna : A.length = n) (h : gd A) (hk : wd A = n) (hB : MinB (n + n) (n + n) L (brd n (at2 A))) (hL : L ≤ 3000000) (hla : la ≤ 9000000) :
    Calls Tryz.prog 17 #[.slice oa n ca] w fun e w' => ∃ o c rs, e = .returned (.tuple #[.slice o n c, .int .i64 0]) ∧ rs.length = n ∧ St w (Mx w.heap.size (.slice o n c) rs) w' ∧ RD w' rs (mkM n n (adjE n (at2 A))) ∧ Below w.heap.size w w' := by
  have HA := hide ha
  have H := hide h
  have HK := hide hk
  have HB := hide hB
  have hn64 : n ≤ 64 := by have := h.1; omega
  have ES : decide (n = n) = true := decide_eq_true rfl
  have B1 := hide (show BdM (la + 1) (mkM n n one2) from bdM_mk fun i _ j _ => zl_one2 _ _ _)
  have HR1 := hide (show ∀ i, i < n → (rw_ (mkM n n one2) i).length = n from fun i hi => by simp [rw_, mkM, List.getD, hi])
  have HBD := hide (fun k B9 odd (hq : QA n (at2 A) k B9 odd) => fun m (_ : m ≤ k) i (hi : i < n + n) j (hj : j < n + n) => hq.2.1.bd hB (by omega) (by omega) m i hi j hj)
  have HAG := hide (show Agr (n + n) (n + n) 0 (brd n (at2 A)) (brd n (at2 A)) from fun i _ j _ _ _ => Dt.D_0.symm)
  have EB := hide (show mkM (n + n) (n + n) (brdG n n (at2 A) (at2 (mkM n n one2))) = mkM (n + n) (n + n) (brd n (at2 A)) from mkM_eq rfl rfl fun i hi j hj => by
    unfold brdG brd
    by_cases c : i < n
    · rw [if_pos c, if_pos c]
    · rw [if_neg c, if_neg c]
      by_cases e : j < n
      · rw [if_pos e, if_pos e, at2_one2 (by omega) e]
      · rw [if_neg e, if_neg e])
  clear ha h hk hB
  go_enter Tryz.func17, Tryz.ntmps17
  have hs := St.nil w
  refine wp_seq_k ?_
  intro K1 hK1
  refine rg [0, 1] ?_
  refine sq ?_
  refine .mv ?_
  refine sq ?_
  refine .mv ?_
  apply wpSq_end
  refine hK1 _ _ ?_
  refine wp_seq_k ?_
  intro K2 hK2
  refine wp_seq_k ?_
  intro K3 hK3
  refine rg [0, 1, 2] ?_
  refine sq ?_
  refine .mv ?_
  refine sq ?_
  intro K hK
  have hb := hs.b
  go_big_op
  go_fit (isSquare_ok (HA.out.bl stab_n hb) hna H.out HK.out)
  rintro e w_1 ⟨rfl, hb_1⟩
  clear hb
  replace hs := hs.bl hb_1
  rw [ES]
  refine hK _ _ rfl trivial ?_
  clear hK K
  refine sq ?_
  refine .r0 ?_
  apply wpSq_end
  refine hK3 _ _ ?_
  refine cf ?_
  refine wp_skip ?_
  refine hK2 _ _ ?_
  refine wp_seq_k ?_
  intro K4 hK4
  refine rg [0, 1, 2, 3] ?_
  refine sq ?_
  refine .mv ?_
  refine sq ?_
  refine .r0 ?_
  refine sq ?_
  refine .al hs ?_; clear hs; intro p_b1 w_2 hs n2 kb_b1
  refine sq ?_
  refine .s1 hs.g0 (fun _ => hs.u0 kb_b1) ?_; clear hs; intro w_3 hs hd3 ho3
  apply wpSq_end
  refine hK4 _ _ ?_
  refine wp_seq_k ?_
  intro K5 hK5
  refine rg [0, 1, 2, 3, 4, 5, 6] ?_
  refine sq ?_
  refine .r1 hs.g0.f1 ?_
  refine sq ?_
  intro K hK
  go_big_op
  go_fit (mIdent_ok hn64)
  rintro e w_4 ⟨o_I, c_I, rs_I, rfl, hl_I, hs_I, d_I, hb_4⟩
  replace hs := hs.mx hl_I hs_I; simp only [List.cons_append, List.nil_append] at hs
  refine hK _ _ rfl trivial ?_
  clear hK K
  refine sq ?_
  refine .mv ?_
  refine sq ?_
  refine .r0 ?_
  refine sq ?_
  refine .r0 ?_
  refine sq ?_
  refine .mv ?_
  refine sq ?_
  refine .mv ?_
  apply wpSq_end
  refine hK5 _ _ ?_
  refine wp_seq_k ?_
  intro K6 hK6
  refine wp_region_f4 [(0, false), (1, false), (3, false), (4, false), (2, true), (5, true)] [7, 8] [6] (fun j => (.cells #[.pointer none] 100)) [99, 99, 99, 0, 0, 99, 99, 99, 99] [] (.c hs.g1 .n) (fm fn) fun w_5 n5 => ?_
  replace hs := hs.bl n5
  have hlB := hs.lt; have hkB := hs.k
  refine fmv ?_
  refine fmv ?_
  refine f1 ?_
  refine f1 ?_
  refine fl fun w_6 n6 => ?_
  replace hs := hs.bl n6
  intro K hK
  have k4_6 := (kb n5).b n6
  replace d_I := d_I.k k4_6
  go_big_op
  go_fit (bordered_new (la := la) (lb := la + 1) (B := mkM n n one2) hs HA.out hna H.out HK.out ((MCof (c := c_I) hs (by simp) rfl (fun r hr ↦ by simp [List.mem_map_of_mem hr]) hl_I d_I).mn B1.out) len_mkM HR1.out (fun _ ↦ rfl) (by omega) (by omega) (by omega) (by omega))
  have bb7 := hs.b
  rintro e w_7 ⟨p_t, o_t, c_t, rs_t, rfl, kb_bt, hl_t, hd, HBL, hs', kp7⟩
  clear hs; have hs := hs'; clear hs'
  have bc7 := hs.b
  clear bb7 bc7
  rw [EB.out] at hd
  refine hK _ _ rfl ⟨HBL, (And.intro hs.g3 trivial)⟩ ?_
  clear hK K
  refine fl fun w_8 n8 => ?_
  replace hs := hs.bl n8
  intro K hK
  go_big_op
  go_fit (blank_any (r := n) (k := n) (by omega) (by omega))
  rintro e w_9 ⟨o_Z, c_Z, rs_Z, rfl, hl_Z, hs_Z, d_Z, hb_9⟩
  replace hs := hs.mx hl_Z hs_Z; simp only [List.cons_append, List.nil_append] at hs
  refine hK _ _ rfl ⟨hb_9, (And.intro hs.g4 trivial)⟩ ?_
  clear hK K
  refine e1t hs ((show AllT 100 _ from .ls (.ls (.bx (.ls (.bx (.app (.app .rows .rows) .rows))))))) hkB ?_; clear hs hlB hkB; intro w_10 p_b2 hs n10 kb_b2
  refine tl ?_
  refine .s1 hs.g0 (fun _ => hs.u0 kb_b2) ?_ (e := fun _ hs => (And.intro hs.g5 True.intro)); clear hs; intro w_11 hs hd11 ho11
  refine tl ?_
  refine .mv ?_ (e := (And.intro hs.g5 True.intro))
  apply wpTail_end
  refine hK6 _ _ ?_
  refine wp_seq_k ?_
  intro K7 hK7
  refine rg [0, 1, 2, 3, 4, 5, 6] ?_
  refine sq ?_
  refine .r1 hs.g0.f1 ?_
  refine sq ?_
  refine .r0 ?_
  refine sq ?_
  refine .r0 ?_
  refine sq ?_
  refine .r4 hs.g3.f4 ?_
  refine sq ?_
  refine .r0 ?_
  have hs : St w (ls w.heap.size 51 1 (.slice o_t (n + n) c_t) (n + n) (rs_t.map (·.v)) :: bx p_t #[.slice o_t (n + n) c_t, .int .i64 (n : Int), .int .i64 (n : Int), .bool false] 105 :: ((bx p_b2 #[.pointer (some ⟨p_t, 0, none⟩)] 100 :: bx p_b1 #[.int .i64 (n : Int)] 3 :: ls w.heap.size 51 1 (.slice o_Z n c_Z) n (rs_Z.map (·.v)) :: rs_Z.map (Rw.e w.heap.size)) ++ rs_t.map (Rw.e w.heap.size))) w_11 := (hs.sub (.cons_cons _ (.cons_cons _ (.cons_cons _ (.cons_cons _ (.cons _ (.cons_cons _ (List.Sublist.append (List.sublist_append_right _ _) (List.Sublist.refl _))))))))).perm perm5
  refine sq ?_
  intro K hK
  have k7_11 := (((kb n8).b hb_9).b n10).o hd11 ho11
  replace hd := hd.k k7_11
  go_big_op
  go_fit (eliminate_any (bs := bx p_b2 #[.pointer (some ⟨p_t, 0, none⟩)] 100 :: bx p_b1 #[.int .i64 (n : Int)] 3 :: ls w.heap.size 51 1 (.slice o_Z n c_Z) n (rs_Z.map (·.v)) :: rs_Z.map (Rw.e w.heap.size)) hs kb_bt entP_adj (pivS_adj kb_bt hn64 HB.out hL) ⟨_, List.Perm.refl _⟩ QA.zero HAG.out hl_t hd (by omega) (by omega) HBD.out hL)
  have bb12 := hs.b
  rintro e w_12 ⟨o9, c9, xs, r, A2, F2, odd2, rs2, rfl, hF, hQ, hL9, hA2, hl2, hd2, hs', kp12⟩
  clear hs; have hs := hs'; clear hs'
  have bc12 := hs.b
  clear bb12 bc12
  refine hK _ _ rfl trivial ?_
  clear hK K
  refine sq ?_
  refine .mv ?_
  apply wpSq_end
  refine hK7 _ _ ?_
  refine wp_seq_k ?_
  intro K8 hK8
  refine wp_seq_k ?_
  intro K9 hK9
  refine rg [0, 1, 2, 3] ?_
  refine sq ?_
  refine .mv ?_
  refine sq ?_
  refine .r0 ?_
  refine sq ?_
  refine .r1 hs.g4.f1 ?_
  refine sq ?_
  refine .r0 ?_
  apply wpSq_end
  refine hK9 _ _ ?_
  have HF := hide hF
  have HQ := hide hQ
  have HA2 := hide hA2
  have HADJ := hide (fun i j (hi : i < n) (hj : j < n) => hF.adj hQ hi hj)
  have hrn := hQ.1
  obtain ⟨G, hG⟩ : ∃ G, G = adjE n (at2 A) := ⟨_, rfl⟩
  rw [← hG] at HADJ
  have HG := hide hG
  clear hF hQ hA2
  by_cases hr : r = n
  · have HRN := hide hr
    have hge : n ≤ r := by omega
    clear hr hrn
    have HBF := hide (show ∀ i, i < n → ∀ j, j < n → zl L (F2 (n + i) (n + j)) from fun i hi j hj => by
      rw [HA2.out (n + i) (by omega) (n + j) (by omega) (by have := HRN.out; omega) (by have := HRN.out; omega)]
      exact HQ.out.2.1.bd HB.out (by omega) (by omega) _ _ (by omega) _ (by omega))
    have HGF := hide (show ∀ i, i < n → ∀ j, j < n → G i j = sgb odd2 (-(F2 (n + i) (n + j)).1, -(F2 (n + i) (n + j)).2) from fun i hi j hj => by
      have h1 := (HADJ.out i j hi hj).1 HRN.out
      rw [HA2.out (n + i) (by omega) (n + j) (by omega) (by have := HRN.out; omega) (by have := HRN.out; omega), HRN.out]
      exact h1)
    refine cf ?_
    refine wp_skip ?_
    refine hK8 _ _ ?_
    refine wp_seq_k ?_
    intro K10 hK10
    refine wp_seq_k ?_
    intro K11 hK11
    refine rg [0, 1, 2] ?_
    refine sq ?_
    refine .mv ?_
    refine sq ?_
    refine .r0 ?_
    refine sq ?_
    refine .mv ?_
    apply wpSq_end
    refine hK11 _ _ ?_
    refine wp_block ?_
    have k9_12 := ((kb n10).o hd11 ho11).t kp12
    replace d_Z := d_Z.k k9_12
    have hs := (hs.sub (.cons _ (List.Sublist.refl _))).perm (show List.Perm (_ :: _ :: _ :: _ :: _ :: (rs_Z.map (Rw.e w.heap.size) ++ rs2.map (Rw.e w.heap.size))) _ from perm5b)
    have hd13 := hs.2.1
    go_loopg [42] n (fun kz s42 wr => ∃ (i : Nat) (rs : List Rw), s42 = .int .i64 (i : Int) ∧ i + kz = n ∧ rs.length = n ∧ RD wr rs (mkM n n (fi G i 0)) ∧ RD wr rs2 (mkM (n + n) (n + n) F2) ∧ St w (ls w.heap.size 51 1 (.slice o_Z n c_Z) n (rs.map (·.v)) :: ((bx p_t #[.slice o_t (n + n) c_t, .int .i64 (n : Int), .int .i64 (n : Int), .bool odd2] 105 :: bx p_b2 #[.pointer (some ⟨p_t, 0, none⟩)] 100 :: bx p_b1 #[.int .i64 (n : Int)] 3 :: []) ++ ls w.heap.size 51 1 (.slice o_t (n + n) c_t) (n + n) (rs2.map (·.v)) :: (rs2.map (Rw.e w.heap.size) ++ rs.map (Rw.e w.heap.size)))) wr)
    case atStart => exact ⟨0, rs_Z, rfl, by omega, hl_Z, by rw [← fi_0]; exact d_Z, hd2, hs⟩
    case round =>
    clear hd d_Z hL9 hd2 d_I hs
    obtain ⟨i, rs, rfl, hin, hrl, hd, hd2, hs⟩ := hrel
    have HO := ‹∀ (a' : Act) (w' : World), Handed _ _ a' w' → _›
    obtain ⟨g1, hg1⟩ : ∃ g, gk = g := ⟨_, rfl⟩
    by_cases hi : i < n
    · have HI := hide hi
      have t3 : ((i : Int) < (n : Int)) = True := eq_true (by omega)
      obtain ⟨oi, ci, hvi⟩ := St.rowv (bs := (bx p_t #[.slice o_t (n + n) c_t, .int .i64 (n : Int), .int .i64 (n : Int), .bool odd2] 105 :: bx p_b2 #[.pointer (some ⟨p_t, 0, none⟩)] 100 :: bx p_b1 #[.int .i64 (n : Int)] 3 :: []) ++ ls w.heap.size 51 1 (.slice o_t (n + n) c_t) (n + n) (rs2.map (·.v)) :: rs2.map (Rw.e w.heap.size)) (by rw [List.append_assoc, List.cons_append]; exact hs) hd (p := i) (K := n) (by rw [len_mkM]; exact hi) (by rw [mkM_row hi]; simp)
      have LO : Lst wr w.heap.size 51 1 (.slice o_Z n c_Z) n _ := hs.1.1.1
      obtain ⟨gZ, curZ, rfl, xZ, hcZ⟩ := LO.box (by omega)
      have eI := hcZ _ _ hvi
      clear LO hcZ
      refine wp_seq_k ?_
      intro K12 hK12
      refine rg [0] ?_
      refine sq ?_
      refine .r0 ?_
      apply wpSq_end
      refine hK12 _ _ ?_
      refine wp_seq_k ?_
      intro K13 hK13
      refine ct ?_
      refine wp_skip ?_
      refine hK13 _ _ ?_
      refine wp_seq_k ?_
      intro K14 hK14
      refine wp_block ?_
      refine wp_seq_k ?_
      intro K15 hK15
      refine rg [0, 1, 2, 3, 4] ?_
      refine sq ?_
      refine .mv ?_
      refine sq ?_
      refine .r0 ?_
      refine sq ?_
      refine .r1 (xZ.cell _ eI) ?_
      refine sq ?_
      refine .mv ?_
      refine sq ?_
      refine .mv ?_
      apply wpSq_end
      refine hK15 _ _ ?_
      refine wp_seq_k ?_
      intro K16 hK16
      refine rg [0, 1, 2] ?_
      refine sq ?_
      refine .mv ?_
      refine sq ?_
      refine .r0 ?_
      refine sq ?_
      refine .mv ?_
      apply wpSq_end
      refine hK16 _ _ ?_
      refine wp_block ?_
      have hd14 := hs.2.1
      go_loopg [49] n (fun kz s49 wr => ∃ (j : Nat) (rs : List Rw), s49 = .int .i64 (j : Int) ∧ j + kz = n ∧ rs.length = n ∧ RD wr rs (mkM n n (fi G i j)) ∧ (rs.map (·.v))[i]? = some (.slice oi n ci) ∧ RD wr rs2 (mkM (n + n) (n + n) F2) ∧ St w (ls w.heap.size 51 1 (.slice (some ⟨gZ, 0, none⟩) n c_Z) n (rs.map (·.v)) :: ((bx p_t #[.slice o_t (n + n) c_t, .int .i64 (n : Int), .int .i64 (n : Int), .bool odd2] 105 :: bx p_b2 #[.pointer (some ⟨p_t, 0, none⟩)] 100 :: bx p_b1 #[.int .i64 (n : Int)] 3 :: []) ++ ls w.heap.size 51 1 (.slice o_t (n + n) c_t) (n + n) (rs2.map (·.v)) :: (rs2.map (Rw.e w.heap.size) ++ rs.map (Rw.e w.heap.size)))) wr)
      case atStart => exact ⟨0, rs, rfl, by omega, hrl, hd, hvi, hd2, hs⟩
      case round =>
      clear hrl hvi
      clear hd hd2 xZ hs
      obtain ⟨j, rs, rfl, hjn, hrl, hd, hri, hd2, hs⟩ := hrel
      have HRI := hide hri
      clear hri
      by_cases hj : j < n
      · have HJ := hide hj
        have t4 : ((j : Int) < (n : Int)) = True := eq_true (by omega)
        obtain ⟨r1, gr, cr, ys, r2, s1, gs, cs, zs, s2, er, hr1, hrv, hx, es, hs1, hsv, hy, hs⟩ := hs.row2c (Cs := bx p_t #[.slice o_t (n + n) c_t, .int .i64 (n : Int), .int .i64 (n : Int), .bool odd2] 105 :: bx p_b2 #[.pointer (some ⟨p_t, 0, none⟩)] 100 :: bx p_b1 #[.int .i64 (n : Int)] 3 :: []) hd (p := i) (K := n) (by rw [len_mkM]; exact HI.out) (by rw [mkM_row HI.out]; simp) (by omega) hd2 (q := n + i) (J := n + n) (by rw [len_mkM]; have := HI.out; omega) (by rw [mkM_row (by have := HI.out; omega)]; simp) (by omega)
        have hri := HRI.out
        rw [hrv] at hri
        simp only [Option.some.injEq, Value.slice.injEq, true_and] at hri
        obtain ⟨rfl, rfl⟩ := hri
        have ES := hide es
        subst er
        have LT9 : Lst wr w.heap.size 51 1 (.slice o_t (n + n) c_t) (n + n) _ := hs.1.2.2.2.1.1
        obtain ⟨gT, curT, rfl, xT, hcT⟩ := LT9.box (by omega)
        have eT := hcT _ _ hsv
        have LS : Lst wr w.heap.size 38 4 (.slice (some ⟨gs, 0, none⟩) (n + n) cs) (n + n) zs := hs.1.2.2.1.1
        obtain ⟨gs', curS, eS, xS, hcS⟩ := LS.box (by omega)
        simp only [Option.some.injEq, Addr.mk.injEq, and_true] at eS
        obtain rfl : gs = gs' := eS
        rw [mkM_row (by have := HI.out; omega)] at hy
        obtain ⟨a1, a2, a3, a4, a5, a6, a7, a8, ee1, ee2, ee3, ee4, x1, x2⟩ := hy.els (n + j) (by simpa using hj)
        rw [show ((List.range (n + n)).map (F2 (n + i)))[n + j]'(by simpa using hj) = F2 (n + i) (n + j) by simp] at x1 x2
        replace ee1 := hcS _ _ ee1
        replace ee2 := hcS _ _ ee2
        replace ee3 := hcS _ _ ee3
        replace ee4 := hcS _ _ ee4
        have LX := hide (HBF.out i HI.out j hj)
        have HGE := hide (HGF.out i HI.out j hj)
        replace x1 := x1.zn LX.out.1
        replace x2 := x2.zn LX.out.2
        obtain ⟨X, hX⟩ : ∃ X, F2 (n + i) (n + j) = X := ⟨_, rfl⟩
        rw [hX] at x1 x2 LX HGE
        have LNG := hide (show zl L (-X.1, -X.2) from ⟨Nat.le_trans (Nat.le_of_eq (by rw [Int.natAbs_neg])) LX.out.1, Nat.le_trans (Nat.le_of_eq (by rw [Int.natAbs_neg])) LX.out.2⟩)
        clear LT9 hcT hsv LS hcS hy hrv hX es
        refine wp_seq_k ?_
        intro K17 hK17
        refine rg [0] ?_
        refine sq ?_
        refine .r0 ?_
        apply wpSq_end
        refine hK17 _ _ ?_
        refine wp_seq_k ?_
        intro K18 hK18
        refine ct ?_
        refine wp_skip ?_
        refine hK18 _ _ ?_
        refine wp_seq_k ?_
        intro K19 hK19
        refine wp_block ?_
        refine wp_seq_k ?_
        intro K20 hK20
        refine rg [0, 1] ?_
        refine sq ?_
        refine .mv ?_
        refine sq ?_
        refine .mv ?_
        apply wpSq_end
        refine hK20 _ _ ?_
        refine wp_region_f4 [(0, false), (1, false), (2, false), (3, false), (4, false), (5, false), (6, false), (7, false), (8, false), (9, false), (10, false), (11, false), (12, false), (13, false), (14, false), (15, false), (16, false), (17, true), (18, true), (19, false)] [20] [] (fun _ => default) [99, 99, 0, 0, 99, 99, 1, 2, 99, 99, 99, 3, 2, 99, 99, 99, 4, 99, 99, 99, 99] [] (.c hs.g5 (.c hs.g4 (.c hs.g6 (.c xT (.c xS .n))))) fn fun w_15 n15 => ?_
        replace xT := xT.bl n15; replace xS := xS.bl n15; replace hs := hs.bl n15
        refine fmv ?_
        refine fmv ?_
        refine f1 ?_
        refine f1 ?_
        refine f0 ?_
        refine f0 ?_
        refine f4 ?_
        refine f1 ?_
        refine fmv ?_
        refine f0 ?_
        refine f0 ?_
        apply wpFl_ld rfl rfl; (case h1 => intro w' hC K hK; have c0 := Bs.cell hC ((n + i)) eT; go_big_op; exact hK); iterate 4 kernel_rfl
        refine f1 ?_
        refine fmv ?_
        refine f0 ?_
        refine f0 ?_
        apply wpFl_ld rfl rfl; (case h1 => intro w' hC K hK; have c0 := Bs.cell hC (((n + j) * 4)) ee1; have c1 := Bs.cell hC (((n + j) * 4) + 1) ee2; have c2 := Bs.cell hC (((n + j) * 4) + 2) ee3; have c3 := Bs.cell hC (((n + j) * 4) + 3) ee4; go_big_op; exact hK); iterate 4 kernel_rfl
        refine fl fun w_16 n16 => ?_
        replace xT := xT.bl n16; replace xS := xS.bl n16; replace hs := hs.bl n16
        intro K hK
        have k0_2 := (kb n15).b n16
        replace x1 := x1.k k0_2
        replace x2 := x2.k k0_2
        go_big_op
        go_fit (gNeg_any (.mk' x1 x2) (by omega) (by omega))
        rintro e w_17 ⟨_, rfl, ⟨n_ga, o_ga, k_ga, c_ga, n_gb, o_gb, k_gb, c_gb, rfl, g1, g2⟩, hb_17⟩
        replace xT := xT.bl hb_17; replace xS := xS.bl hb_17; replace hs := hs.bl hb_17
        refine hK _ _ rfl ⟨hb_17, (And.intro hs.g5 (And.intro hs.g4 (And.intro hs.g6 (And.intro xT (And.intro xS trivial)))))⟩ ?_
        clear hK K
        refine fl fun w_18 n18 => ?_
        replace xT := xT.bl n18; replace xS := xS.bl n18; replace hs := hs.bl n18
        intro K hK
        have k3_4 := kb n18
        replace g1 := g1.k k3_4
        replace g2 := g2.k k3_4
        go_big_op
        go_fit (dsigned_any (L := L) hs.g4 (.mk' g1 g2) LNG.out hL)
        rintro e w_19 ⟨_, rfl, ⟨n_sa, o_sa, k_sa, c_sa, n_sb, o_sb, k_sb, c_sb, rfl, s1, s2⟩, hb_19⟩
        replace xT := xT.bl hb_19; replace xS := xS.bl hb_19; replace hs := hs.bl hb_19
        refine hK _ _ rfl ⟨hb_19, (And.intro hs.g5 (And.intro hs.g4 (And.intro hs.g6 (And.intro xT (And.intro xS trivial)))))⟩ ?_
        clear hK K
        refine f0 ?_
        refine e0 hs ?_; clear hs; intro w_20 hs n20
        replace xT := xT.bl n20; replace xS := xS.bl n20
        refine tl ?_
        refine .i4 0 hs (j := j) (by exact HJ.out) ?_ (e := fun _ hB hO => (And.intro (hs.g5.frame hO (hs.ne 5 0)) (And.intro (hs.g4.frame hO (hs.ne 4 0)) (And.intro (hs.g6.frame hO (hs.ne 6 0)) (And.intro (xT.frame hO (hs.ne 3 0)) (And.intro (xS.frame hO (hs.ne 2 0)) True.intro)))))); clear hs; intro w_21 hs kp21 hd21 ho21 hw21; simp only [List.set_cons_zero] at hs
        clear xT
        clear xS
        apply wpTail_end
        refine hK19 _ _ ?_
        refine rg [0, 1] ?_
        refine sq ?_
        refine .r0 ?_
        refine sq ?_
        refine .mv ?_
        apply wpSq_end
        have k0_7 := ((((k0_2.b hb_17).b n18).b hb_19).b n20).t kp21
        replace hd := hd.k k0_7
        replace hd2 := hd2.k k0_7
        replace hx := hx.k k0_7
        have k5_7 := (kb n20).t kp21
        replace s1 := s1.k k5_7
        replace s2 := s2.k k5_7
        refine ‹∀ (a' : Act) (w' : World), Handed _ _ a' w' → _› _ _ ?_
        have e9 := ES.out
        subst e9
        go_roundg (gk - 1)
        case rel => exact ⟨j + 1, _, by rfl, by omega, by simpa using hrl, RD.fi hd hr1 HI.out HJ.out hx (by rw [HGE.out]; exact s1) (by rw [HGE.out]; exact s2), (by rw [List.map_append, List.map_cons, List.getElem?_append_right (by simp [hr1])]; simp [hr1]), hd2, hs.unrow2c⟩
        case measure => omega
      · have HJ := hide (show j = n by omega)
        have t4 : ((j : Int) < (n : Int)) = False := eq_false (by omega)
        refine wp_seq_k ?_
        intro K17 hK17
        refine rg [0] ?_
        refine sq ?_
        refine .r0 ?_
        apply wpSq_end
        refine hK17 _ _ ?_
        refine wp_seq_k ?_
        intro K18 hK18
        refine cf ?_
        refine wp_exit ?_
        refine hK14 _ _ ?_
        refine rg [0, 1] ?_
        refine sq ?_
        refine .r0 ?_
        refine sq ?_
        refine .mv ?_
        apply wpSq_end
        have hd8 := hd
        rw [HJ.out, fi_row] at hd8
        refine HO _ _ ?_
        go_roundg (g1 - 1)
        case rel => exact ⟨i + 1, rs, by rfl, by omega, hrl, hd8, hd2, hs⟩
        case measure => omega
    · have HI := hide (show i = n by omega)
      have t3 : ((i : Int) < (n : Int)) = False := eq_false (by omega)
      refine wp_seq_k ?_
      intro K12 hK12
      refine rg [0] ?_
      refine sq ?_
      refine .r0 ?_
      apply wpSq_end
      refine hK12 _ _ ?_
      refine wp_seq_k ?_
      intro K13 hK13
      refine cf ?_
      refine wp_exit ?_
      refine hK10 _ _ ?_
      refine wp_seq_k ?_
      intro K14 hK14
      refine rg [0, 1, 2] ?_
      refine sq ?_
      refine .mv ?_
      refine sq ?_
      refine .mv ?_
      refine sq ?_
      refine .mv ?_
      apply wpSq_end
      refine hK14 _ _ ?_
      refine wp_ret ?_
      have hd8 := hd
      rw [HI.out, fi_end, HG.out] at hd8
      have hs9 := hs.sub (show List.Sublist (ls w.heap.size 51 1 (.slice o_Z n c_Z) n (rs.map (·.v)) :: rs.map (Rw.e w.heap.size)) (_ :: _ :: _ :: _ :: _ :: (rs2.map (Rw.e w.heap.size) ++ rs.map (Rw.e w.heap.size))) from .cons_cons _ (.cons _ (.cons _ (.cons _ (.cons _ (List.sublist_append_right _ _))))))
      try dsimp only [Exit.then, Exit.inBlock]
      refine bodyPost_ret (v := (.tuple #[(.slice o_Z n c_Z), (.int .i64 0)])) (by simp [results, Tryz.results17, go_sem]) rfl ?_
      exact ⟨_, _, rs, rfl, hrl, (by unfold Mx; rw [hrl]; exact hs9), hd8, hs.b⟩
  · have hlt : r < n := by omega
    have HR := hide hr
    clear hr
    refine ct ?_
    refine wp_seq_k ?_
    intro K10 hK10
    refine rg [0, 1, 2] ?_
    refine sq ?_
    refine .mv ?_
    refine sq ?_
    refine .mv ?_
    refine sq ?_
    refine .mv ?_
    apply wpSq_end
    refine hK10 _ _ ?_
    refine wp_ret ?_
    have k9_12 := ((kb n10).o hd11 ho11).t kp12
    replace d_Z := d_Z.k k9_12
    have hd9 : RD w_12 rs_Z (mkM n n (adjE n (at2 A))) := by
      rw [← HG.out, ← show mkM n n (fun _ _ => ((0 : Int), (0 : Int))) = mkM n n G from mkM_eq rfl rfl fun i hi j hj => ((HADJ.out i j hi hj).2 HR.out).symm]
      exact d_Z
    have hs9 := hs.sub (show List.Sublist (ls w.heap.size 51 1 (.slice o_Z n c_Z) n (rs_Z.map (·.v)) :: rs_Z.map (Rw.e w.heap.size)) (_ :: _ :: _ :: _ :: _ :: _ :: (rs_Z.map (Rw.e w.heap.size) ++ rs2.map (Rw.e w.heap.size))) from .cons _ (.cons _ (.cons _ (.cons _ (.cons _ (.cons_cons _ (List.sublist_append_left _ _)))))))
    try dsimp only [Exit.then, Exit.inBlock]
    refine bodyPost_ret (v := (.tuple #[(.slice o_Z n c_Z), (.int .i64 0)])) (by simp [results, Tryz.results17, go_sem]) rfl ?_
    exact ⟨_, _, rs_Z, rfl, hl_Z, (by unfold Mx; rw [hl_Z]; exact hs9), hd9, hs.b⟩
end
end Go.Proofs.YtjfjlloibmebeaaGreat


/- Own matrices whose numbers can be read, canonical or not. -/
namespace Go.Proofs.YtjfjlloibmebeaaGreat
open Go Go.RowKit Dig
set_option linter.unusedVariables false
variable {l : Nat}
section
variable {w0 w : World} {v : Value} {n p K : Nat} {rs r1 r2 : List Rw} {bs : List En} {Ms : List (List (Int × Int))}
end
section
variable {n k i j : Nat} {G : Nat → Nat → Int × Int}
end
end Go.Proofs.YtjfjlloibmebeaaGreat


/- A region that draws, at whose end two operations are ready at once: both orders (else as Rf). -/
namespace Go.Proofs.YtjfjlloibmebeaaGreat
open Go Go.RowKit Dig
set_option linter.unusedVariables false
section
variable {P : Program} {l : List Oper} {md : Region.Mode} {C : World → Prop}
end
section
variable {P : Program} {l : List Oper} {a : Act} {w : World}
end
end Go.Proofs.YtjfjlloibmebeaaGreat

