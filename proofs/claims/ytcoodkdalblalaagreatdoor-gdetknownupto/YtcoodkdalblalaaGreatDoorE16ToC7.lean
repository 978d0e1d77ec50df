/- The reference's Rank and Det. -/
import Derived.Test.YtcoodkdalblalaaGreatDoorC3ToE15
namespace Go.Proofs.YtcoodkdalblalaaGreatDoor
open Go Go.RowKit Dig
set_option linter.unusedVariables false
set_option linter.unusedSimpArgs false
theorem qC_same {p y D R : Int × Int} (hp : p ≠ 0) (hD : D ≠ 0) (h : p * R = D * y) : qC y p = qC R D := by
  obtain ⟨p1, p2⟩ := p
  obtain ⟨y1, y2⟩ := y
  obtain ⟨D1, D2⟩ := D
  obtain ⟨R1, R2⟩ := R
  have e1 : p1 * R1 - p2 * R2 = D1 * y1 - D2 * y2 := congrArg Prod.fst h
  have e2 : p1 * R2 + p2 * R1 = D1 * y2 + D2 * y1 := congrArg Prod.snd h
  have np : p1 * p1 + p2 * p2 ≠ 0 := fun e => hp (Prod.ext (gN_zero.1 e).1 (gN_zero.1 e).2)
  have nD : D1 * D1 + D2 * D2 ≠ 0 := fun e => hD (Prod.ext (gN_zero.1 e).1 (gN_zero.1 e).2)
  rw [qC_eq, qC_eq]
  refine Prod.ext ?_ ?_
  · show rv (y1 * p1 - y2 * -p2) 1 / rv (p1 * p1 + p2 * p2) 1 = rv (R1 * D1 - R2 * -D2) 1 / rv (D1 * D1 + D2 * D2) 1
    rw [← rv_quo, ← rv_quo, rv_eq (by rw [Int.mul_one]; exact np) (by rw [Int.mul_one]; exact nD)]
    have k1 : (y1 * p1 - y2 * -p2) * 1 * ((D1 * D1 + D2 * D2) * 1) = (D1 * y1 - D2 * y2) * (p1 * D1 - p2 * D2) + (D1 * y2 + D2 * y1) * (p1 * D2 + p2 * D1) := by grind
    have k2 : (R1 * D1 - R2 * -D2) * 1 * ((p1 * p1 + p2 * p2) * 1) = (p1 * R1 - p2 * R2) * (p1 * D1 - p2 * D2) + (p1 * R2 + p2 * R1) * (p1 * D2 + p2 * D1) := by grind
    rw [k1, k2, e1, e2]
  · show rv (y1 * -p2 + y2 * p1) 1 / rv (p1 * p1 + p2 * p2) 1 = rv (R1 * -D2 + R2 * D1) 1 / rv (D1 * D1 + D2 * D2) 1
    rw [← rv_quo, ← rv_quo, rv_eq (by rw [Int.mul_one]; exact np) (by rw [Int.mul_one]; exact nD)]
    have k1 : (y1 * -p2 + y2 * p1) * 1 * ((D1 * D1 + D2 * D2) * 1) = (D1 * y2 + D2 * y1) * (p1 * D1 - p2 * D2) - (D1 * y1 - D2 * y2) * (p1 * D2 + p2 * D1) := by grind
    have k2 : (R1 * -D2 + R2 * D1) * 1 * ((p1 * p1 + p2 * p2) * 1) = (p1 * R2 + p2 * R1) * (p1 * D1 - p2 * D2) - (p1 * R1 - p2 * R2) * (p1 * D2 + p2 * D1) := by grind
    rw [k1, k2, e1, e2]
section
variable {w : World} {la lv n k m L L1 L2 LG ca cv r : Nat} {oa ov : Option Addr} {A : List (List (Int × Int))} {V : List (Int × Int)}
/-- Of rows or of none. -/
theorem solve_any (ha : MN la w oa A) (hna : A.length = n) (h : gd A) (hk : wd A = k) (hv : SN lv w ov V) (hnv : V.length = m) (hKk : 0 < n → m = k) (hm : m ≤ 2000000)
    (hB : MinB (n + 1) (m + n) L (brdG n m (at2 A) fun _ => at1 V)) (hL : L ≤ 3300000) (hB2 : MinB n k L2 (at2 A)) (hL2 : L2 ≤ 1100000) (hla : la ≤ 10000000) (hlv : lv ≤ 10000000) :
    Calls Tryz.prog 16 #[.slice oa n ca, .slice ov m cv] w fun e w' => SolvP n k m L2 L (at2 A) (at1 V) e w' ∧ Below w.heap.size w w' := by
  rcases Nat.eq_zero_or_pos n with h0 | h0
  · refine solve_zero ha hna h hk hv hnv h0 ?_ hm hB hL hB2 hla hlv
    have : A = [] := List.eq_nil_of_length_eq_zero (by omega)
    rw [← hk, this]; rfl
  · obtain rfl := hKk h0
    exact solve_pos ha hna h hk hv hnv h0 hB hL hB2 hL2 hla hlv
end
set_option maxHeartbeats 4000000 in
set_option maxRecDepth 20000 in
theorem g9_any (a b : Int) (w : World) (h1 : -9223372036854775808 ≤ a) (h2 : a ≤ 9223372036854775807) (h3 : -9223372036854775808 ≤ b) (h4 : b ≤ 9223372036854775807) :
    Calls Tryz.prog 4 #[.int .i64 a, .int .i64 b] w fun e w' => ∃ r, e = .returned r ∧ PC w' r a b ∧ Below w.heap.size w w' := by
  go_enter Tryz.func4, Tryz.ntmps4
  have hs := St.nil w
  refine wp_seq_k ?_
  intro K1 hK1
  refine rg [0] ?_
  refine sq ?_
  refine .al hs ?_; clear hs; intro p_b1 w_1 hs n1 kb_b1
  apply wpSq_end
  refine hK1 _ _ ?_
  refine wp_seq_k ?_
  intro K2 hK2
  refine rg [0, 1, 2, 3] ?_
  refine sq ?_
  refine .mv ?_
  refine sq ?_
  refine .mv ?_
  refine sq ?_
  intro K hK
  go_big_op
  go_fit (rgI_any a b _ h1 h2 h3 h4)
  rintro e w_2 ⟨_, rfl, ⟨n_ra, o_ra, k_ra, c_ra, n_rb, o_rb, k_rb, c_rb, rfl, r1, r2⟩, hb_2⟩
  replace hs := hs.bl hb_2
  refine hK _ _ rfl trivial ?_
  clear hK K
  refine sq ?_
  refine .s4 hs.g0 (fun _ => hs.u0 kb_b1) ?_; clear hs; intro w_3 hs hd3 ho3
  apply wpSq_end
  refine hK2 _ _ ?_
  refine wp_ret ?_
  try dsimp only [Exit.then, Exit.inBlock]
  obtain ⟨r0_0, r0_1, r0_2, r0_3⟩ := hs.g0.f4
  refine bodyPost_ret (v := (.agg #[.bool n_ra, .slice o_ra k_ra c_ra, .bool n_rb, .slice o_rb k_rb c_rb])) (by simp [results, Tryz.results4, go_sem, r0_0, r0_1, r0_2, r0_3]) rfl ?_
  have k2_3 := ko hd3 ho3
  replace r1 := r1.k k2_3
  replace r2 := r2.k k2_3
  exact ⟨_, rfl, .mk' r1 r2, hs.b⟩
set_option maxHeartbeats 4000000 in
set_option maxRecDepth 20000 in
theorem simple9_any (w : World) :
    Calls Tryz.prog 10 #[] w fun e w' => ∃ o c, e = .returned (.slice o 2 c) ∧ MC w' o [[(1, 0), (2, 0)], [(0, 1), (0, 0)]] ∧ Below w.heap.size w w' := by
  go_enter Tryz.func10, Tryz.ntmps10
  have hs := St.nil w
  refine wp_seq_k ?_
  intro K1 hK1
  refine rg [0] ?_
  refine sq ?_
  refine .mv ?_
  apply wpSq_end
  refine hK1 _ _ ?_
  refine wp_seq_k ?_
  intro K2 hK2
  refine rg [0, 1, 2, 3, 4, 5, 6, 7] ?_
  refine sq ?_
  intro K hK
  go_big_op
  go_fit (g9_any 1 0 _ (by decide) (by decide) (by decide) (by decide))
  rintro e w_1 ⟨_, rfl, ⟨n_aa, o_aa, k_aa, c_aa, n_ab, o_ab, k_ab, c_ab, rfl, a1, a2⟩, hb_1⟩
  replace hs := hs.bl hb_1
  have La1 := hide (a1.lenOf (zlen_small8 (z := 1) (by decide)))
  have La2 := hide (a2.lenOf (zlen_small8 (z := 0) (by decide)))
  refine hK _ _ rfl trivial ?_
  clear hK K
  refine sq ?_
  intro K hK
  go_big_op
  go_fit (g9_any 2 0 _ (by decide) (by decide) (by decide) (by decide))
  rintro e w_2 ⟨_, rfl, ⟨n_ba, o_ba, k_ba, c_ba, n_bb, o_bb, k_bb, c_bb, rfl, b1, b2⟩, hb_2⟩
  replace hs := hs.bl hb_2
  have Lb1 := hide (b1.lenOf (zlen_small8 (z := 2) (by decide)))
  have Lb2 := hide (b2.lenOf (zlen_small8 (z := 0) (by decide)))
  refine hK _ _ rfl trivial ?_
  clear hK K
  refine sq ?_
  refine .al hs ?_; clear hs; intro p_b1 w_3 hs n3 kb_b1
  refine sq ?_
  intro K hK
  go_big_op
  go_fit (g9_any 0 1 _ (by decide) (by decide) (by decide) (by decide))
  rintro e w_4 ⟨_, rfl, ⟨n_ca, o_ca, k_ca, c_ca, n_cb, o_cb, k_cb, c_cb, rfl, c1, c2⟩, hb_4⟩
  replace hs := hs.bl hb_4
  have Lc1 := hide (c1.lenOf (zlen_small8 (z := 0) (by decide)))
  have Lc2 := hide (c2.lenOf (zlen_small8 (z := 1) (by decide)))
  refine hK _ _ rfl trivial ?_
  clear hK K
  refine sq ?_
  intro K hK
  go_big_op
  go_fit (g9_any 0 0 _ (by decide) (by decide) (by decide) (by decide))
  rintro e w_5 ⟨_, rfl, ⟨n_da, o_da, k_da, c_da, n_db, o_db, k_db, c_db, rfl, d1, d2⟩, hb_5⟩
  replace hs := hs.bl hb_5
  have Ld1 := hide (d1.lenOf (zlen_small8 (z := 0) (by decide)))
  have Ld2 := hide (d2.lenOf (zlen_small8 (z := 0) (by decide)))
  refine hK _ _ rfl trivial ?_
  clear hK K
  refine sq ?_
  refine .al hs ?_; clear hs; intro p_b2 w_6 hs n6 kb_b2
  refine sq ?_
  refine .al hs ?_; clear hs; intro p_b3 w_7 hs n7 kb_b3
  refine sq ?_
  refine .mv ?_
  apply wpSq_end
  refine hK2 _ _ ?_
  refine wp_ret ?_
  have k1_7 := (((((kb hb_2).b n3).b hb_4).b hb_5).b n6).b n7
  replace a1 := a1.k k1_7
  replace a2 := a2.k k1_7
  have k2_7 := ((((kb n3).b hb_4).b hb_5).b n6).b n7
  replace b1 := b1.k k2_7
  replace b2 := b2.k k2_7
  have k4_7 := ((kb hb_5).b n6).b n7
  replace c1 := c1.k k4_7
  replace c2 := c2.k k4_7
  have k5_7 := (kb n6).b n7
  replace d1 := d1.k k5_7
  replace d2 := d2.k k5_7
  try dsimp only [Exit.then, Exit.inBlock]
  refine bodyPost_ret (v := (.slice (some ⟨p_b3, 0, none⟩) 2 2)) (by simp [results, Tryz.results10, go_sem]) rfl ?_
  exact ⟨_, _, rfl, mc2 hs.g0 (sc2 hs.g2 a1 a2 b1 b2) (sc2 hs.g1 c1 c2 d1 d2), hs.b⟩
section
variable {w : World} {va vb : Value} {x y : Int} {l m : Nat}
set_option maxHeartbeats 4000000 in
set_option maxRecDepth 20000 in
theorem told9_yes (ha : PC w va x y) (hq : PN w vb x l y m) (hl : l ≤ 80000000) (hm : m ≤ 80000000) :
    Calls Tryz.prog 8 #[va, .int .i64 0, vb, .int .i64 0] w fun e w' => e = .returned (.bool true) ∧ Below w.heap.size w w' := by
  obtain ⟨n_0a, o_0a, k_0a, c_0a, n_0b, o_0b, k_0b, c_0b, rfl, ha1, ha2⟩ := ha
  obtain ⟨n_2a, o_2a, k_2a, c_2a, n_2b, o_2b, k_2b, c_2b, rfl, hq1, hq2⟩ := hq
  go_enter Tryz.func8, Tryz.ntmps8
  have hs := St.nil w
  refine wp_seq_k ?_
  intro K1 hK1
  refine rg [0, 1, 2] ?_
  refine sq ?_
  refine .al hs ?_; clear hs; intro p_b1 w_1 hs n1 kb_b1
  refine sq ?_
  refine .al hs ?_; clear hs; intro p_b2 w_2 hs n2 kb_b2
  refine sq ?_
  refine .mv ?_
  apply wpSq_end
  refine hK1 _ _ ?_
  refine wp_seq_k ?_
  intro K2 hK2
  refine wp_seq_k ?_
  intro K3 hK3
  refine rg [0, 1] ?_
  refine sq ?_
  refine .mv ?_
  refine sq ?_
  refine .r0 ?_
  apply wpSq_end
  refine hK3 _ _ ?_
  refine cf ?_
  refine wp_skip ?_
  refine hK2 _ _ ?_
  refine wp_seq_k ?_
  intro K4 hK4
  refine rg [0, 1, 2, 3, 4, 5, 6, 7] ?_
  refine sq ?_
  refine .mv ?_
  refine sq ?_
  refine .r0 ?_
  refine sq ?_
  refine .mv ?_
  refine sq ?_
  refine .r4 hs.g1.f4 ?_
  refine sq ?_
  refine .r4 hs.g0.f4 ?_
  refine sq ?_
  intro K hK
  have k0_2 := (kb n1).b n2
  replace ha1 := ha1.k k0_2
  replace ha2 := ha2.k k0_2
  replace hq1 := hq1.k k0_2
  replace hq2 := hq2.k k0_2
  go_big_op
  go_fit (rgSame_any (PC.mk' ha1 ha2) (PN.mk' hq1 hq2) (by omega) (by omega) )
  rintro e w_3 ⟨rfl, hb_3⟩
  replace hs := hs.bl hb_3
  refine hK _ _ rfl trivial ?_
  clear hK K
  refine sq ?_
  refine .r0 ?_
  refine sq ?_
  refine .mv ?_
  apply wpSq_end
  refine hK4 _ _ ?_
  refine wp_ret ?_
  try dsimp only [Exit.then, Exit.inBlock]
  refine bodyPost_ret (v := (.bool true)) (by simp [results, Tryz.results8, go_sem]) rfl ?_
  have hb := hs.b
  exact ⟨rfl, hb⟩
end
theorem det_simple : Dt.det 2 (at2 [[(1, 0), (2, 0)], [(0, 1), (0, 0)]]) = ((0, -2) : Int × Int) := by decide +kernel
theorem minB_simple : MinB 2 2 67 (at2 [[(1, 0), (2, 0)], [(0, 1), (0, 0)]]) :=
  minB_of (T := 2) (b := fun _ => 1) (by decide) (by decide) fun i hi q hq => (bd_small (by decide)).at2
set_option maxHeartbeats 4000000 in
set_option maxRecDepth 20000 in
theorem awake9_any (w : World) :
    Calls Tryz.prog 7 #[] w fun e w' => e = .returned (.bool true) ∧ Below w.heap.size w w' := by
  go_enter Tryz.func7, Tryz.ntmps7
  have hs := St.nil w
  refine wp_seq_k ?_
  intro K1 hK1
  refine rg [0] ?_
  refine sq ?_
  refine .mv ?_
  apply wpSq_end
  refine hK1 _ _ ?_
  refine wp_seq_k ?_
  intro K2 hK2
  refine rg [0, 1, 2, 3, 4, 5, 6, 7] ?_
  refine sq ?_
  intro K hK
  go_big_op
  go_fit (simple9_any _)
  rintro e w_1 ⟨o_S, c_S, rfl, m_S, hb_1⟩
  replace hs := hs.bl hb_1
  refine hK _ _ rfl trivial ?_
  clear hK K
  refine sq ?_
  intro K hK
  go_big_op
  go_fit (det_ok (m_S.mn (bd_small (by decide))) rfl gd_simple rfl minB_simple (by decide) (by decide))
  rintro e w_2 ⟨_, rfl, ⟨n_da, o_da, k_da, c_da, n_db, o_db, k_db, c_db, rfl, d1, d2⟩, hb_2⟩
  replace m_S := m_S.bl hb_2; replace hs := hs.bl hb_2
  rw [det_simple] at d1 d2
  refine hK _ _ rfl trivial ?_
  clear hK K
  refine sq ?_
  refine .mv ?_
  refine sq ?_
  refine .r0 ?_
  refine sq ?_
  refine .r0 ?_
  refine sq ?_
  refine .al hs ?_; clear hs; intro p_b1 w_3 hs n3 kb_b1
  refine sq ?_
  refine .s4 hs.g0 (fun _ => hs.u0 kb_b1) ?_; clear hs; intro w_4 hs hd4 ho4
  refine sq ?_
  refine .mv ?_
  apply wpSq_end
  refine hK2 _ _ ?_
  refine wp_seq_k ?_
  intro K3 hK3
  refine wp_region_f4 [(0, false), (1, false), (2, true), (3, true), (4, false)] [] [] (fun _ => default) [0, 99, 99, 99, 99] [] (.c hs.g0 .n) fn fun w_5 n5 => ?_
  replace hs := hs.bl n5
  refine f4 ?_
  refine fmv ?_
  refine fl fun w_6 n6 => ?_
  replace hs := hs.bl n6
  intro K hK
  go_big_op
  go_fit (g9_any 0 (-2) _ (by decide) (by decide) (by decide) (by decide))
  rintro e w_7 ⟨_, rfl, ⟨n_aa, o_aa, k_aa, c_aa, n_ab, o_ab, k_ab, c_ab, rfl, a1, a2⟩, hb_7⟩
  replace hs := hs.bl hb_7
  have La1 := hide (a1.lenOf (zlen_small8 (z := 0) (by decide)))
  have La2 := hide (a2.lenOf (zlen_small8 (z := -2) (by decide)))
  refine hK _ _ rfl ⟨hb_7, (And.intro hs.g0 trivial)⟩ ?_
  clear hK K
  refine fl fun w_8 n8 => ?_
  replace hs := hs.bl n8
  intro K hK
  have k2_8 := (((((kb n3).o hd4 ho4).b n5).b n6).b hb_7).b n8
  replace d1 := d1.k k2_8
  replace d2 := d2.k k2_8
  have k7_8 := kb n8
  replace a1 := a1.k k7_8
  replace a2 := a2.k k7_8
  go_big_op
  go_fit (told9_yes (.mk' d1 d2) (.mk' (a1.zn La1.out) (a2.zn La2.out)) (by decide) (by decide))
  rintro e w_9 ⟨rfl, hb_9⟩
  replace hs := hs.bl hb_9
  refine hK _ _ rfl ⟨hb_9, (And.intro hs.g0 trivial)⟩ ?_
  clear hK K
  refine fmv ?_
  refine e0 hs ?_; clear hs; intro w_10 hs n10
  apply wpTail_end
  refine hK3 _ _ ?_
  refine wp_ret ?_
  try dsimp only [Exit.then, Exit.inBlock]
  refine bodyPost_ret (v := (.bool true)) (by simp [results, Tryz.results7, go_sem]) rfl ?_
  exact ⟨rfl, hs.b⟩
set_option linter.unusedSectionVars false
/-- The reference's numbers, over its determinant. -/
def QL (n m : Nat) (M : Nat → Nat → Int × Int) (v : Nat → Int × Int) : List (Rat × Rat) := (List.range n).map fun i => qC (yR n m M v i) (Dt.det n (gG m M))
section
variable {w : World} {n k m ca cv r : Nat} {oa ov : Option Addr} {A : List (List (Int × Int))} {V : List (Int × Int)}
theorem solve_minB (hT : Tot 1048576 A) (hn : A.length = n) (h64 : n ≤ 64) (hv : SN 1048576 w ov V) : MinB (n + 1) (m + n) 2099153 (brdG n m (at2 A) fun _ => at1 V) := by
  obtain ⟨b, hb, hbd⟩ := hT
  subst hn
  exact minB_brd (b := b) (d := fun _ => 1048576) (T := 1048576) (D := 1048576) (by omega) hb (by rw [sN_one]; omega) (fun i hi q _ => by
    unfold at2; rw [rw_eq hi]; exact (hbd i hi).at1) (fun _ _ _ _ => hv.bd.at1)
variable (ha : MN 1048576 w oa A) (hna : A.length = n) (h : gd A) (hk : wd A = k) (hv : SN 1048576 w ov V) (hnv : V.length = m) (hKk : 0 < n → m = k) (hm : m ≤ 1048576) (hT : Tot 1048576 A)
include ha hna h hk hv hnv hKk hm hT
theorem p_all : Calls Tryz.prog 16 #[.slice oa n ca, .slice ov m cv] w fun e w' => SolvP n k m 1048641 2099153 (at2 A) (at1 V) e w' ∧ Below w.heap.size w w' :=
  have h64 : n ≤ 64 := by have := h.1; omega
  solve_any ha hna h hk hv hnv hKk (by omega) (solve_minB hT hna h64 hv) (by omega) (hT.minB hna h64) (by omega) (by omega) (by omega)
theorem p_dep (hr : Dt.Rk n k (at2 A) r) (hlt : r < n) : Calls Tryz.prog 16 #[.slice oa n ca, .slice ov m cv] w fun e w' => e = .returned (.tuple #[.slice none 0 0, .int .i64 3]) ∧ Below w.heap.size w w' :=
  Calls.mono (p_all ha hna h hk hv hnv hKk hm hT) fun e w' ⟨h1, h2⟩ => ⟨by
    rcases h1 with ⟨_, _, _, h1⟩ | ⟨h1, _⟩ | ⟨h1, _⟩
    · exact h1
    · have := Dt.Rk.eq noz one_ne h1 hr; omega
    · have := Dt.Rk.eq noz one_ne h1 hr; omega, h2⟩
theorem p_no (hr : Dt.Rk n k (at2 A) n) (hS : ∀ p x, ¬ Sol n m (at2 A) (at1 V) p x) : Calls Tryz.prog 16 #[.slice oa n ca, .slice ov m cv] w fun e w' => e = .returned (.tuple #[.slice none 0 0, .int .i64 10]) ∧ Below w.heap.size w w' :=
  Calls.mono (p_all ha hna h hk hv hnv hKk hm hT) fun e w' ⟨h1, h2⟩ => ⟨by
    rcases h1 with ⟨_, h3, h1, _⟩ | ⟨_, _, h1⟩ | ⟨_, p, y, h1, _⟩
    · have := Dt.Rk.eq noz one_ne h1 hr; omega
    · exact h1
    · exact absurd h1 (hS p y), h2⟩
theorem p_yes {p0 : Int × Int} {x0 : Nat → Int × Int} (hr : Dt.Rk n k (at2 A) n) (hD : Dt.det n (gG m (at2 A)) ≠ 0) (hS : Sol n m (at2 A) (at1 V) p0 x0) : Calls Tryz.prog 16 #[.slice oa n ca, .slice ov m cv] w fun e w' => ∃ o c, e = .returned (.tuple #[.slice o n c, .int .i64 0]) ∧ LQ w' o (QL n m (at2 A) (at1 V)) ∧ Below w.heap.size w w' :=
  Calls.mono (p_all ha hna h hk hv hnv hKk hm hT) fun e w' ⟨h1, h2⟩ => by
    rcases h1 with ⟨_, h3, h1, _⟩ | ⟨_, h1, _⟩ | ⟨_, p, y, h1, _, o, c, h3, h4⟩
    · have := Dt.Rk.eq noz one_ne h1 hr; omega
    · exact absurd hS (h1 p0 x0)
    · refine ⟨o, c, h3, ?_, h2⟩
      have e : (List.range n).map (fun i => qC (y i) p) = QL n m (at2 A) (at1 V) := List.map_congr_left fun i hi => qC_same h1.1 hD (yR_eq h1 (List.mem_range.1 hi))
      rw [← e]; exact h4
end
end Go.Proofs.YtcoodkdalblalaaGreatDoor
