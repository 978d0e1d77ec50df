/- Plain mathematics of shifts, for nat's and the reference's. -/
import Derived.Deep.CutBlock
import Derived.Deep.DeepCutAuto
import Derived.BigQuiet
import Derived.Deep.DeepFit
import Derived.Deep.QuietTactic
import Derived.Deep.LoopGhost
import Derived.Test.YtcoodkdalblalaaGreatDoorWkToG2
namespace Go.Proofs.YtcoodkdalblalaaGreatDoor
open Go Go.RowKit Dig
set_option linter.unusedVariables false
section
variable {w : World} {va vb : Value} {x y u v : Int} {l m k n : Nat}
set_option maxHeartbeats 4000000 in
set_option maxRecDepth 20000 in
theorem rgSame_any (ha : PC w va x y) (hq : PN w vb x l y m) (hl : l ≤ 100000000) (hm : m ≤ 100000000) :
    Calls Tryz.prog 26 #[va, vb] w fun e w' => e = .returned (.bool true) ∧ Below w.heap.size w w' := by
  obtain ⟨n_0a, o_0a, k_0a, c_0a, n_0b, o_0b, k_0b, c_0b, rfl, ha1, ha2⟩ := ha
  obtain ⟨n_1a, o_1a, k_1a, c_1a, n_1b, o_1b, k_1b, c_1b, rfl, hq1, hq2⟩ := hq
  go_enter Tryz.func26, Tryz.ntmps26
  have hs := St.nil w
  refine wp_seq_k ?_
  intro K1 hK1
  refine rg [0, 1, 2] ?_
  refine sq ?_
  refine .al hs ?_; clear hs; intro p_b1 w_1 hs n1 kb_b1
  refine sq ?_
  refine .al hs ?_; clear hs; intro p_b2 w_2 hs n2 kb_b2
  refine sq ?_
  refine .mv ?_
  apply wpSq_end
  refine hK1 _ _ ?_
  refine wp_seq_k ?_
  intro K2 hK2
  refine rg [0, 1, 2, 3, 4, 5, 6, 7, 8, 9, 10, 11, 12] ?_
  refine sq ?_
  refine .r0 ?_
  refine sq ?_
  refine .r4 hs.g1.f4 ?_
  refine sq ?_
  refine .r0 ?_
  refine sq ?_
  refine .r4 hs.g0.f4 ?_
  refine sq ?_
  intro K hK
  have k0_2 := (kb n1).b n2
  replace ha1 := ha1.k k0_2
  replace hq1 := hq1.k k0_2
  go_big_op
  go_fit (rsame_zz ha1 hq1 (by omega) )
  rintro e w_3 ⟨rfl, hb_3⟩
  replace hs := hs.bl hb_3
  refine hK _ _ rfl trivial ?_
  clear hK K
  refine sq ?_
  refine .mv ?_
  refine sq ?_
  refine .r0 ?_
  refine sq ?_
  refine .r4 hs.g1.f4 ?_
  refine sq ?_
  refine .r0 ?_
  refine sq ?_
  refine .r4 hs.g0.f4 ?_
  refine sq ?_
  intro K hK
  have k0_3 := k0_2.b hb_3
  replace ha2 := ha2.k k0_3
  replace hq2 := hq2.k k0_3
  go_big_op
  go_fit (rsame_zz ha2 hq2 (by omega) )
  rintro e w_4 ⟨rfl, hb_4⟩
  replace hs := hs.bl hb_4
  refine hK _ _ rfl trivial ?_
  clear hK K
  refine sq ?_
  refine .r0 ?_
  refine sq ?_
  refine .mv ?_
  apply wpSq_end
  refine hK2 _ _ ?_
  refine wp_ret ?_
  try dsimp only [Exit.then, Exit.inBlock]
  refine bodyPost_ret (v := (.bool true)) (by simp [results, Tryz.results26, go_sem]) rfl ?_
  have hb := hs.b
  exact ⟨rfl, hb⟩
set_option maxHeartbeats 4000000 in
set_option maxRecDepth 20000 in
theorem rgI_any (a b : Int) (w : World) (h1 : -9223372036854775808 ≤ a) (h2 : a ≤ 9223372036854775807) (h3 : -9223372036854775808 ≤ b) (h4 : b ≤ 9223372036854775807) :
    Calls Tryz.prog 18 #[.int .i64 a, .int .i64 b] w fun e w' => ∃ r, e = .returned r ∧ PC w' r a b ∧ Below w.heap.size w w' := by
  go_enter Tryz.func18, Tryz.ntmps18
  have hs := St.nil w
  refine wp_seq_k ?_
  intro K1 hK1
  refine rg [0] ?_
  refine sq ?_
  refine .al hs ?_; clear hs; intro p_b1 w_1 hs n1 kb_b1
  apply wpSq_end
  refine hK1 _ _ ?_
  refine wp_seq_k ?_
  intro K2 hK2
  refine rg [0, 1, 2, 3, 4, 5] ?_
  refine sq ?_
  refine .mv ?_
  refine sq ?_
  intro K hK
  go_big_op
  go_fit (ri_any a _ h1 h2)
  rintro e w_2 ⟨v_g1, rfl, g1, hb_2⟩
  replace hs := hs.bl hb_2
  replace g1 := g1.rd
  obtain ⟨n_g1, o_g1, k_g1, c_g1, rfl⟩ := g1.open2
  refine hK _ _ rfl trivial ?_
  clear hK K
  refine sq ?_
  refine .mv ?_
  refine sq ?_
  intro K hK
  go_big_op
  go_fit (ri_any b _ h3 h4)
  rintro e w_3 ⟨v_g2, rfl, g2, hb_3⟩
  replace hs := hs.bl hb_3
  replace g2 := g2.rd
  obtain ⟨n_g2, o_g2, k_g2, c_g2, rfl⟩ := g2.open2
  refine hK _ _ rfl trivial ?_
  clear hK K
  refine sq ?_
  refine .r0 ?_
  refine sq ?_
  refine .s4 hs.g0 (fun _ => hs.u0 kb_b1) ?_; clear hs; intro w_4 hs hd4 ho4
  apply wpSq_end
  refine hK2 _ _ ?_
  refine wp_ret ?_
  try dsimp only [Exit.then, Exit.inBlock]
  obtain ⟨r0_0, r0_1, r0_2, r0_3⟩ := hs.g0.f4
  refine bodyPost_ret (v := (.agg #[.bool n_g1, .slice o_g1 k_g1 c_g1, .bool n_g2, .slice o_g2 k_g2 c_g2])) (by simp [results, Tryz.results18, go_sem, r0_0, r0_1, r0_2, r0_3]) rfl ?_
  have k2_4 := (kb hb_3).o hd4 ho4
  replace g1 := g1.k k2_4
  have k3_4 := ko hd4 ho4
  replace g2 := g2.k k3_4
  exact ⟨_, rfl, .mk' g1 g2, hs.b⟩
set_option maxHeartbeats 4000000 in
set_option maxRecDepth 20000 in
theorem gFrom_any (a b : Int) (w : World) (h1 : -9223372036854775808 ≤ a) (h2 : a ≤ 9223372036854775807) (h3 : -9223372036854775808 ≤ b) (h4 : b ≤ 9223372036854775807) :
    Calls Tryz.prog 22 #[.int .i64 a, .int .i64 b] w fun e w' => ∃ r, e = .returned r ∧ PC w' r a b ∧ Below w.heap.size w w' := by
  go_enter Tryz.func22, Tryz.ntmps22
  have hs := St.nil w
  refine wp_seq_k ?_
  intro K1 hK1
  refine rg [0] ?_
  refine sq ?_
  refine .al hs ?_; clear hs; intro p_b1 w_1 hs n1 kb_b1
  apply wpSq_end
  refine hK1 _ _ ?_
  refine wp_seq_k ?_
  intro K2 hK2
  refine rg [0, 1, 2, 3, 4, 5] ?_
  refine sq ?_
  refine .mv ?_
  refine sq ?_
  intro K hK
  go_big_op
  go_fit (from_any a _ h1 h2)
  rintro e w_2 ⟨v_g1, rfl, g1, hb_2⟩
  replace hs := hs.bl hb_2
  replace g1 := g1.rd
  obtain ⟨n_g1, o_g1, k_g1, c_g1, rfl⟩ := g1.open2
  refine hK _ _ rfl trivial ?_
  clear hK K
  refine sq ?_
  refine .mv ?_
  refine sq ?_
  intro K hK
  go_big_op
  go_fit (from_any b _ h3 h4)
  rintro e w_3 ⟨v_g2, rfl, g2, hb_3⟩
  replace hs := hs.bl hb_3
  replace g2 := g2.rd
  obtain ⟨n_g2, o_g2, k_g2, c_g2, rfl⟩ := g2.open2
  refine hK _ _ rfl trivial ?_
  clear hK K
  refine sq ?_
  refine .r0 ?_
  refine sq ?_
  refine .s4 hs.g0 (fun _ => hs.u0 kb_b1) ?_; clear hs; intro w_4 hs hd4 ho4
  apply wpSq_end
  refine hK2 _ _ ?_
  refine wp_ret ?_
  try dsimp only [Exit.then, Exit.inBlock]
  obtain ⟨r0_0, r0_1, r0_2, r0_3⟩ := hs.g0.f4
  refine bodyPost_ret (v := (.agg #[.bool n_g1, .slice o_g1 k_g1 c_g1, .bool n_g2, .slice o_g2 k_g2 c_g2])) (by simp [results, Tryz.results22, go_sem, r0_0, r0_1, r0_2, r0_3]) rfl ?_
  have k2_4 := (kb hb_3).o hd4 ho4
  replace g1 := g1.k k2_4
  have k3_4 := ko hd4 ho4
  replace g2 := g2.k k3_4
  exact ⟨_, rfl, .mk' g1 g2, hs.b⟩
end
theorem SV.opC {w : World} {o : Option Addr} {ps : List (Int × Int)} {j : Nat} (h : SC w o ps) (hj : j < ps.length) :
    ∃ g off cur ty fz n1 o1 k1 c1 n2 o2 k2 c2, o = some ⟨g, off, none⟩ ∧ Bs w g cur ty fz ∧ cur[off + j * 4]? = some (.bool n1) ∧ cur[off + j * 4 + 1]? = some (.slice o1 k1 c1) ∧ cur[off + j * 4 + 2]? = some (.bool n2) ∧ cur[off + j * 4 + 3]? = some (.slice o2 k2 c2) ∧
      ZC w (.agg #[.bool n1, .slice o1 k1 c1]) (at1 ps j).1 ∧ ZC w (.agg #[.bool n2, .slice o2 k2 c2]) (at1 ps j).2 := by
  obtain ⟨g, off, cur, ty, fz, rfl, x, hr⟩ := h.box (by omega)
  obtain ⟨n1, o1, k1, c1, n2, o2, k2, c2, e1, e2, e3, e4, h1, h2⟩ := hr j hj
  rw [← at1_eq hj] at h1 h2
  exact ⟨g, off, cur, ty, fz, n1, o1, k1, c1, n2, o2, k2, c2, rfl, x, e1, e2, e3, e4, h1, h2⟩
theorem MV.rowC {w : World} {om : Option Addr} {Ms : List (List (Int × Int))} {i : Nat} (h : MC w om Ms) (hi : i < Ms.length) :
    ∃ g off cur ty fz oi ci, om = some ⟨g, off, none⟩ ∧ Bs w g cur ty fz ∧ cur[off + i]? = some (.slice oi (rw_ Ms i).length ci) ∧ SC w oi (rw_ Ms i) := by
  obtain ⟨g, off, cur, ty, fz, rfl, x, hr⟩ := h.box (by omega)
  obtain ⟨o, c, e, hs⟩ := hr i hi
  rw [← rw_eq hi] at e hs
  exact ⟨g, off, cur, ty, fz, o, c, rfl, x, e, hs⟩
section
variable {w : World} {l n k cm c1 c2 : Nat} {om o1 o2 : Option Addr} {Ms : List (List (Int × Int))} {ps : List (Int × Int)}
set_option maxHeartbeats 4000000 in
set_option maxRecDepth 20000 in
theorem vsame_any (h1 : SC w o1 ps) (h2 : SN l w o2 ps) (hn : ps.length = n) (hl : n ≤ 1000000000) (hl2 : l ≤ 100000000) :
    Calls Tryz.prog 83 #[.slice o1 n c1, .slice o2 n c2] w fun e w' => e = .returned (.bool true) ∧ Below w.heap.size w w' := by
  have H1 := hide h1
  have H2 := hide h2
  clear h1 h2
  have t1 : ((n : Int) != (n : Int)) = false := by simp
  go_enter Tryz.func83, Tryz.ntmps83
  have hs := St.nil w
  refine wp_seq_k ?_
  intro K1 hK1
  refine rg [0] ?_
  refine sq ?_
  refine .mv ?_
  apply wpSq_end
  refine hK1 _ _ ?_
  refine wp_seq_k ?_
  intro K2 hK2
  refine wp_seq_k ?_
  intro K3 hK3
  refine rg [0, 1, 2, 3, 4] ?_
  refine sq ?_
  refine .mv ?_
  refine sq ?_
  refine .r0 ?_
  refine sq ?_
  refine .mv ?_
  refine sq ?_
  refine .r0 ?_
  refine sq ?_
  refine .r0 ?_
  apply wpSq_end
  refine hK3 _ _ ?_
  refine cf ?_
  refine wp_skip ?_
  refine hK2 _ _ ?_
  refine wp_seq_k ?_
  intro K4 hK4
  refine wp_seq_k ?_
  intro K5 hK5
  refine rg [0] ?_
  refine sq ?_
  refine .mv ?_
  apply wpSq_end
  refine hK5 _ _ ?_
  refine wp_block ?_
  have hd1 := hs.2.1
  go_loopg [5] n (fun kk s5 wr => ∃ i : Nat, s5 = .int .i64 (i : Int) ∧ i + kk = n ∧ St w [] wr)
  case atStart => exact ⟨0, rfl, by omega, hs⟩
  case round =>
  clear hs
  obtain ⟨i, rfl, hik, hs⟩ := hrel
  by_cases hi : i < n
  · obtain ⟨g1, off1, cur1, ty1, fz1, a1, a2, a3, a4, a5, a6, a7, a8, rfl, x1, e1, e2, e3, e4, z1, z2⟩ := H1.out.opC (j := i) (by omega)
    obtain ⟨g2, off2, cur2, ty2, fz2, d1, d2, d3, d4, d5, d6, d7, d8, rfl, x2, e5, e6, e7, e8, z3, z4⟩ := H2.out.op (j := i) (by omega)
    replace z1 : ZC wr (.agg #[.bool a1, .slice a2 a3 a4]) (at1 ps i).1 := z1.bl hs.b
    replace z2 : ZC wr (.agg #[.bool a5, .slice a6 a7 a8]) (at1 ps i).2 := z2.bl hs.b
    replace z3 : ZN wr (.agg #[.bool d1, .slice d2 d3 d4]) (at1 ps i).1 l := z3.bl hs.b
    replace z4 : ZN wr (.agg #[.bool d5, .slice d6 d7 d8]) (at1 ps i).2 l := z4.bl hs.b
    replace x1 := x1.bl hs.b
    replace x2 := x2.bl hs.b
    have Lz1 := hide z3.len
    have Lz2 := hide z4.len
    generalize at1 ps i = p at *
    refine wp_seq_k ?_
    intro K6 hK6
    refine wp_seq_k ?_
    intro K7 hK7
    refine rg [0, 1, 2, 3] ?_
    refine sq ?_
    refine .mv ?_
    refine sq ?_
    refine .mv ?_
    refine sq ?_
    refine .r0 ?_
    refine sq ?_
    refine .r0 ?_
    apply wpSq_end
    refine hK7 _ _ ?_
    refine ct ?_
    refine wp_skip ?_
    refine hK6 _ _ ?_
    refine wp_seq_k ?_
    intro K8 hK8
    refine wp_block ?_
    refine wp_seq_k ?_
    intro K9 hK9
    refine wp_region_f4 [(0, false), (1, false), (2, false), (3, false), (4, false), (5, false), (6, false), (7, false), (8, true), (9, false)] [] [] (fun _ => default) [99, 99, 99, 0, 99, 99, 99, 1, 99, 99] [] (.c x1 (.c x2 .n)) fn fun w_2 n2 => ?_
    replace x1 := x1.bl n2; replace x2 := x2.bl n2; replace hs := hs.bl n2
    refine fmv ?_
    refine fmv ?_
    refine f0 ?_
    apply wpFl_ld rfl rfl; (case h1 => intro w' hC K hK; have c0 := Bs.cell hC ((off1 + i * 4)) e1; have c1 := Bs.cell hC ((off1 + i * 4) + 1) e2; have c2 := Bs.cell hC ((off1 + i * 4) + 2) e3; have c3 := Bs.cell hC ((off1 + i * 4) + 3) e4; go_big_op; exact hK); iterate 4 kernel_rfl
    refine fmv ?_
    refine fmv ?_
    refine f0 ?_
    apply wpFl_ld rfl rfl; (case h1 => intro w' hC K hK; have c0 := Bs.cell hC ((off2 + i * 4)) e5; have c1 := Bs.cell hC ((off2 + i * 4) + 1) e6; have c2 := Bs.cell hC ((off2 + i * 4) + 2) e7; have c3 := Bs.cell hC ((off2 + i * 4) + 3) e8; go_big_op; exact hK); iterate 4 kernel_rfl
    refine fl fun w_3 n3 => ?_
    replace x1 := x1.bl n3; replace x2 := x2.bl n3; replace hs := hs.bl n3
    intro K hK
    have k0_2 := (kb n2).b n3
    replace z1 := z1.k k0_2
    replace z2 := z2.k k0_2
    replace z3 := z3.k k0_2
    replace z4 := z4.k k0_2
    go_big_op
    go_fit (rgSame_any (PC.mk' z1 z2) (PN.mk' z3 z4) (by omega) (by omega) )
    rintro e w_4 ⟨rfl, hb_4⟩
    replace x1 := x1.bl hb_4; replace x2 := x2.bl hb_4; replace hs := hs.bl hb_4
    refine hK _ _ rfl ⟨hb_4, (And.intro x1 (And.intro x2 trivial))⟩ ?_
    clear hK K
    refine f0 ?_
    refine e0 hs ?_; clear hs; intro w_5 hs n5
    replace x1 := x1.bl n5; replace x2 := x2.bl n5
    apply wpTail_end
    refine hK9 _ _ ?_
    refine cf ?_
    refine wp_skip ?_
    refine hK8 _ _ ?_
    refine rg [0, 1, 2] ?_
    refine sq ?_
    refine .mv ?_
    refine sq ?_
    refine .r0 ?_
    refine sq ?_
    refine .mv ?_
    apply wpSq_end
    refine ‹∀ (a' : Act) (w' : World), Handed _ _ a' w' → _› _ _ ?_
    go_roundg (gk - 1)
    case rel => exact ⟨i + 1, by rfl, by omega, hs⟩
    case measure => omega
  · have HX := hide hi
    refine wp_seq_k ?_
    intro K6 hK6
    refine wp_seq_k ?_
    intro K7 hK7
    refine rg [0, 1, 2, 3] ?_
    refine sq ?_
    refine .mv ?_
    refine sq ?_
    refine .mv ?_
    refine sq ?_
    refine .r0 ?_
    refine sq ?_
    refine .r0 ?_
    apply wpSq_end
    refine hK7 _ _ ?_
    refine cf ?_
    refine wp_exit ?_
    refine hK4 _ _ ?_
    refine wp_seq_k ?_
    intro K8 hK8
    refine rg [0] ?_
    refine sq ?_
    refine .mv ?_
    apply wpSq_end
    refine hK8 _ _ ?_
    refine wp_ret ?_
    try dsimp only [Exit.then, Exit.inBlock]
    refine bodyPost_ret (v := (.bool true)) (by simp [results, Tryz.results83, go_sem]) rfl ?_
    exact ⟨rfl, hs.b⟩
set_option maxHeartbeats 4000000 in
set_option maxRecDepth 20000 in
theorem msame_any (h1 : MC w o1 Ms) (h2 : MN l w o2 Ms) (hn : Ms.length = n) (hl : n ≤ 1000000000) (hr : ∀ r ∈ Ms, r.length ≤ 1000000000) (hl2 : l ≤ 100000000) :
    Calls Tryz.prog 48 #[.slice o1 n c1, .slice o2 n c2] w fun e w' => e = .returned (.bool true) ∧ Below w.heap.size w w' := by
  have H1 := hide h1
  have H2 := hide h2
  have HR := hide (show ∀ i, i < n → (rw_ Ms i).length ≤ 1000000000 from fun i hi => by rw [rw_eq (by omega)]; exact hr _ (List.getElem_mem _))
  clear h1 h2 hr
  have t1 : ((n : Int) != (n : Int)) = false := by simp
  go_enter Tryz.func48, Tryz.ntmps48
  have hs := St.nil w
  refine wp_seq_k ?_
  intro K1 hK1
  refine rg [0] ?_
  refine sq ?_
  refine .mv ?_
  apply wpSq_end
  refine hK1 _ _ ?_
  refine wp_seq_k ?_
  intro K2 hK2
  refine wp_seq_k ?_
  intro K3 hK3
  refine rg [0, 1, 2, 3, 4] ?_
  refine sq ?_
  refine .mv ?_
  refine sq ?_
  refine .r0 ?_
  refine sq ?_
  refine .mv ?_
  refine sq ?_
  refine .r0 ?_
  refine sq ?_
  refine .r0 ?_
  apply wpSq_end
  refine hK3 _ _ ?_
  refine cf ?_
  refine wp_skip ?_
  refine hK2 _ _ ?_
  refine wp_seq_k ?_
  intro K4 hK4
  refine wp_seq_k ?_
  intro K5 hK5
  refine rg [0] ?_
  refine sq ?_
  refine .mv ?_
  apply wpSq_end
  refine hK5 _ _ ?_
  refine wp_block ?_
  have hd1 := hs.2.1
  go_loopg [5] n (fun kk s5 wr => ∃ i : Nat, s5 = .int .i64 (i : Int) ∧ i + kk = n ∧ St w [] wr)
  case atStart => exact ⟨0, rfl, by omega, hs⟩
  case round =>
  clear hs
  obtain ⟨i, rfl, hik, hs⟩ := hrel
  by_cases hi : i < n
  · obtain ⟨g1, off1, cur1, ty1, fz1, oi, ci, rfl, x1, e1, s1⟩ := H1.out.rowC (i := i) (by omega)
    obtain ⟨g2, off2, cur2, ty2, fz2, oj, cj, rfl, x2, e2, s2⟩ := H2.out.row (i := i) (by omega)
    replace x1 := x1.bl hs.b
    replace x2 := x2.bl hs.b
    have HS1 := hide s1
    have HS2 := hide s2
    have hk := HR.out i hi
    obtain ⟨u, hu⟩ : ∃ u, (rw_ Ms i).length = u := ⟨_, rfl⟩
    rw [hu] at e1 e2 hk
    have HU := hide hu
    clear s1 s2 hu
    generalize rw_ Ms i = p at *
    refine wp_seq_k ?_
    intro K6 hK6
    refine wp_seq_k ?_
    intro K7 hK7
    refine rg [0, 1, 2, 3] ?_
    refine sq ?_
    refine .mv ?_
    refine sq ?_
    refine .mv ?_
    refine sq ?_
    refine .r0 ?_
    refine sq ?_
    refine .r0 ?_
    apply wpSq_end
    refine hK7 _ _ ?_
    refine ct ?_
    refine wp_skip ?_
    refine hK6 _ _ ?_
    refine wp_seq_k ?_
    intro K8 hK8
    refine wp_block ?_
    refine wp_seq_k ?_
    intro K9 hK9
    refine wp_region_f4 [(0, false), (1, false), (2, false), (3, false), (4, false), (5, false), (6, false), (7, false), (8, true), (9, false)] [] [] (fun _ => default) [99, 99, 99, 0, 99, 99, 99, 1, 99, 99] [] (.c x1 (.c x2 .n)) fn fun w_2 n2 => ?_
    replace x1 := x1.bl n2; replace x2 := x2.bl n2; replace hs := hs.bl n2
    refine fmv ?_
    refine fmv ?_
    refine f0 ?_
    apply wpFl_ld rfl rfl; (case h1 => intro w' hC K hK; have c0 := Bs.cell hC ((off1 + i)) e1; go_big_op; exact hK); iterate 4 kernel_rfl
    refine fmv ?_
    refine fmv ?_
    refine f0 ?_
    apply wpFl_ld rfl rfl; (case h1 => intro w' hC K hK; have c0 := Bs.cell hC ((off2 + i)) e2; go_big_op; exact hK); iterate 4 kernel_rfl
    refine fl fun w_3 n3 => ?_
    replace x1 := x1.bl n3; replace x2 := x2.bl n3; replace hs := hs.bl n3
    intro K hK
    have hb := hs.b
    go_big_op
    go_fit (vsame_any (HS1.out.bl stab_c hb) (HS2.out.bl stab_n hb) HU.out hk hl2)
    rintro e w_4 ⟨rfl, hb_4⟩
    clear hb
    replace x1 := x1.bl hb_4; replace x2 := x2.bl hb_4; replace hs := hs.bl hb_4
    refine hK _ _ rfl ⟨hb_4, (And.intro x1 (And.intro x2 trivial))⟩ ?_
    clear hK K
    refine f0 ?_
    refine e0 hs ?_; clear hs; intro w_5 hs n5
    replace x1 := x1.bl n5; replace x2 := x2.bl n5
    apply wpTail_end
    refine hK9 _ _ ?_
    refine cf ?_
    refine wp_skip ?_
    refine hK8 _ _ ?_
    refine rg [0, 1, 2] ?_
    refine sq ?_
    refine .mv ?_
    refine sq ?_
    refine .r0 ?_
    refine sq ?_
    refine .mv ?_
    apply wpSq_end
    refine ‹∀ (a' : Act) (w' : World), Handed _ _ a' w' → _› _ _ ?_
    go_roundg (gk - 1)
    case rel => exact ⟨i + 1, by rfl, by omega, hs⟩
    case measure => omega
  · have HX := hide hi
    refine wp_seq_k ?_
    intro K6 hK6
    refine wp_seq_k ?_
    intro K7 hK7
    refine rg [0, 1, 2, 3] ?_
    refine sq ?_
    refine .mv ?_
    refine sq ?_
    refine .mv ?_
    refine sq ?_
    refine .r0 ?_
    refine sq ?_
    refine .r0 ?_
    apply wpSq_end
    refine hK7 _ _ ?_
    refine cf ?_
    refine wp_exit ?_
    refine hK4 _ _ ?_
    refine wp_seq_k ?_
    intro K8 hK8
    refine rg [0] ?_
    refine sq ?_
    refine .mv ?_
    apply wpSq_end
    refine hK8 _ _ ?_
    refine wp_ret ?_
    try dsimp only [Exit.then, Exit.inBlock]
    refine bodyPost_ret (v := (.bool true)) (by simp [results, Tryz.results48, go_sem]) rfl ?_
    exact ⟨rfl, hs.b⟩
end
end Go.Proofs.YtcoodkdalblalaaGreatDoor
