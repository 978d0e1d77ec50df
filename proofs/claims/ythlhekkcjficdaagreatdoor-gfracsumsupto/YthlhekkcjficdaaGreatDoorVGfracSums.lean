/- GfracSums: the law's walk. -/
import Derived.Test.YthlhekkcjficdaaGreatDoorX8ToX11
namespace Go.Proofs.YthlhekkcjficdaaGreatDoor
open Go Go.RowKit Dig
set_option linter.unusedVariables false
theorem num_zero' {r : Rat} : r.num = 0 ↔ r = 0 := ⟨fun h => by rw [← rv_self r, h]; exact (rv_nul (den_ne r)).2 rfl, fun h => by rw [h]; rfl⟩
theorem rcmp_zero (a b : Rat) : rcmp a b = 0 ↔ a - b = 0 := by
  unfold rcmp
  constructor
  · intro h
    split at h
    · exact absurd h (by decide)
    · split at h
      · grind
      · exact absurd h (by decide)
  · intro h
    have : a = b := by grind
    subst this
    rw [if_neg (by grind), if_pos rfl]
section
variable {w : World} {va vb : Value} {x y u v p q s t : Int} {l m k n l2 m2 k2 n2 : Nat}
/-- Whether two are one. -/
theorem gfEqual_dec (ha : CN w va x l y m u k v n) (hq : CN w vb p l2 q m2 s k2 t n2) (hl : l ≤ 10000000) (hm : m ≤ 10000000) (hk : k ≤ 10000000) (hn : n ≤ 10000000) (hl2 : l2 ≤ 10000000) (hm2 : m2 ≤ 10000000) (hk2 : k2 ≤ 10000000) (hn2 : n2 ≤ 10000000) (hy : y ≠ 0) (hv : v ≠ 0) (hq0 : q ≠ 0) (ht : t ≠ 0) :
    Calls Tryz.prog 27 #[va, vb] w fun e w' => e = .returned (.tuple #[.bool (decide ((rv x y - rv p q).num = 0 ∧ (rv u v - rv s t).num = 0)), .int .i64 0]) ∧ Below w.heap.size w w' := by
  have h1 : qcmp x y p q = 0 ↔ (rv x y - rv p q).num = 0 := by rw [qcmp_rv hy hq0, rcmp_zero, num_zero']
  have h2 : qcmp u v s t = 0 ↔ (rv u v - rv s t).num = 0 := by rw [qcmp_rv hv ht, rcmp_zero, num_zero']
  by_cases c1 : qcmp x y p q = 0
  · by_cases c2 : qcmp u v s t = 0
    · rw [decide_eq_true ⟨h1.1 c1, h2.1 c2⟩]
      exact gfEqual_yes ha hq hl hm hk hn hl2 hm2 hk2 hn2 hy hv hq0 ht c1 c2
    · rw [decide_eq_false (fun h => c2 (h2.2 h.2))]
      exact gfEqual_no2 ha hq hl hm hk hn hl2 hm2 hk2 hn2 hy hv hq0 ht c1 c2
  · rw [decide_eq_false (fun h => c1 (h1.2 h.1))]
    exact gfEqual_no1 ha hq hl hm hk hn hl2 hm2 hk2 hn2 hy hv hq0 ht c1
theorem r7Null_dec (ha : CN w va x l y m u k v n) (hl : l ≤ 10000000) (hm : m ≤ 10000000) (hk : k ≤ 10000000) (hn : n ≤ 10000000) (hy : y ≠ 0) (hv : v ≠ 0) :
    Calls Tryz.prog 32 #[va] w fun e w' => e = .returned (.bool (decide (x = 0 ∧ u = 0))) ∧ Below w.heap.size w w' := by
  by_cases c1 : x = 0
  · by_cases c2 : u = 0
    · rw [decide_eq_true ⟨c1, c2⟩]; exact r7Null_yes ha hl hm hk hn c1 c2
    · rw [decide_eq_false (fun h => c2 h.2)]; exact r7Null_no2 ha hl hm hk hn c1 c2 hv
  · rw [decide_eq_false (fun h => c1 h.1)]; exact r7Null_no1 ha hl hm hk hn c1 hy
set_option maxHeartbeats 8000000 in
set_option maxRecDepth 20000 in
theorem sums7_bad1 (ha : CN w va x l y m u k v n) (hq : CN w vb p l2 q m2 s k2 t n2) (hl : l ≤ 1048576) (hm : m ≤ 1048576) (hk : k ≤ 1048576) (hn : n ≤ 1048576) (hl2 : l2 ≤ 1048576) (hm2 : m2 ≤ 1048576) (hk2 : k2 ≤ 1048576) (hn2 : n2 ≤ 1048576) (h : y = 0 ∨ v = 0) (htab : Lib.TabIs Tryz.prog w p10 .u64 Lib.pow10Tab)
    (hQ : ∀ w' va vb, CN w' va x l y m u k v n → CN w' vb p l2 q m2 s k2 t n2 → Calls Tryz.prog 9 #[va, vb] w' fun e w'' => e = .returned (.tuple #[.agg #[.bool false, .slice none 0 0, .bool false, .slice none 0 0, .bool false, .slice none 0 0, .bool false, .slice none 0 0], .int .i64 5]) ∧ Below w'.heap.size w' w'')
    (hB : (y = 0 ∨ v = 0) ∨ (q = 0 ∨ t = 0)) :
    Calls Tryz.prog 4 #[va, vb] w fun e w' => e = .returned (.bool true) ∧ Below w.heap.size w w' := by
  have htabs := Lib.tabBelow_of_tabIs htab
  have HB := hide hB
  have HQ := hide hQ
  have H := hide h
  clear hB hQ h
  obtain ⟨n_0a, o_0a, k_0a, c_0a, n_0b, o_0b, k_0b, c_0b, n_0c, o_0c, k_0c, c_0c, n_0d, o_0d, k_0d, c_0d, rfl, ha1, ha2, ha3, ha4⟩ := ha
  obtain ⟨n_1a, o_1a, k_1a, c_1a, n_1b, o_1b, k_1b, c_1b, n_1c, o_1c, k_1c, c_1c, n_1d, o_1d, k_1d, c_1d, rfl, hq1, hq2, hq3, hq4⟩ := hq
  go_enter Tryz.func4, Tryz.ntmps4
  have hs := St.nil w
  refine wp_seq_k ?_
  intro K1 hK1
  refine rg [0, 1, 2] ?_
  refine sq ?_
  refine .al hs ?_; clear hs; intro p_b1 w_1 hs n1 kb_b1
  refine sq ?_
  refine .al hs ?_; clear hs; intro p_b2 w_2 hs n2 kb_b2
  refine sq ?_
  refine .mv ?_
  apply wpSq_end
  refine hK1 _ _ ?_
  refine wp_seq_k ?_
  intro K2 hK2
  refine rg [0, 1, 2, 3, 4, 5, 6, 7, 8] ?_
  refine sq ?_
  intro K hK
  have d0 : w_2.cell? ⟨p_b1, 0, none⟩ = some (.bool n_0a) := hs.g1.cell 0 rfl
  have d1 : w_2.cell? ⟨p_b1, 1, none⟩ = some (.slice o_0a k_0a c_0a) := hs.g1.cell 1 rfl
  have d2 : w_2.cell? ⟨p_b1, 2, none⟩ = some (.bool n_0b) := hs.g1.cell 2 rfl
  have d3 : w_2.cell? ⟨p_b1, 3, none⟩ = some (.slice o_0b k_0b c_0b) := hs.g1.cell 3 rfl
  have d4 : w_2.cell? ⟨p_b1, 4, none⟩ = some (.bool n_0c) := hs.g1.cell 4 rfl
  have d5 : w_2.cell? ⟨p_b1, 5, none⟩ = some (.slice o_0c k_0c c_0c) := hs.g1.cell 5 rfl
  have d6 : w_2.cell? ⟨p_b1, 6, none⟩ = some (.bool n_0d) := hs.g1.cell 6 rfl
  have d7 : w_2.cell? ⟨p_b1, 7, none⟩ = some (.slice o_0d k_0d c_0d) := hs.g1.cell 7 rfl
  go_big_op; refine hK _ _ rfl trivial ?_; clear hK K d0 d1 d2 d3 d4 d5 d6 d7
  refine sq ?_
  intro K hK
  have d0 : w_2.cell? ⟨p_b2, 0, none⟩ = some (.bool n_1a) := hs.g0.cell 0 rfl
  have d1 : w_2.cell? ⟨p_b2, 1, none⟩ = some (.slice o_1a k_1a c_1a) := hs.g0.cell 1 rfl
  have d2 : w_2.cell? ⟨p_b2, 2, none⟩ = some (.bool n_1b) := hs.g0.cell 2 rfl
  have d3 : w_2.cell? ⟨p_b2, 3, none⟩ = some (.slice o_1b k_1b c_1b) := hs.g0.cell 3 rfl
  have d4 : w_2.cell? ⟨p_b2, 4, none⟩ = some (.bool n_1c) := hs.g0.cell 4 rfl
  have d5 : w_2.cell? ⟨p_b2, 5, none⟩ = some (.slice o_1c k_1c c_1c) := hs.g0.cell 5 rfl
  have d6 : w_2.cell? ⟨p_b2, 6, none⟩ = some (.bool n_1d) := hs.g0.cell 6 rfl
  have d7 : w_2.cell? ⟨p_b2, 7, none⟩ = some (.slice o_1d k_1d c_1d) := hs.g0.cell 7 rfl
  go_big_op; refine hK _ _ rfl trivial ?_; clear hK K d0 d1 d2 d3 d4 d5 d6 d7
  refine sq ?_
  intro K hK
  have k0_2 := (kb n1).b n2
  replace ha1 := ha1.k k0_2
  replace ha2 := ha2.k k0_2
  replace ha3 := ha3.k k0_2
  replace ha4 := ha4.k k0_2
  replace hq1 := hq1.k k0_2
  replace hq2 := hq2.k k0_2
  replace hq3 := hq3.k k0_2
  replace hq4 := hq4.k k0_2
  go_big_op
  go_fit (gfAdd_bad (CN.mk' ha1 ha2 ha3 ha4) (CN.mk' hq1 hq2 hq3 hq4) (by omega) (by omega) (by omega) (by omega) (by omega) (by omega) (by omega) (by omega) HB.out)
  rintro e w_3 ⟨rfl, hb_3⟩
  replace hs := hs.bl hb_3
  refine hK _ _ rfl trivial ?_
  clear hK K
  refine sq ?_
  refine .mv ?_
  refine sq ?_
  refine .r0 ?_
  refine sq ?_
  refine .r0 ?_
  refine sq ?_
  refine .al hs ?_; clear hs; intro p_b3 w_4 hs n4 kb_b3
  refine sq ?_
  intro K hK
  have xs := hs.g0
  have d0 : w_4.cell? ⟨p_b3, 0, none⟩ = some (.bool false) := hs.g0.cell 0 rfl
  have d1 : w_4.cell? ⟨p_b3, 1, none⟩ = some (.slice none 0 0) := hs.g0.cell 1 rfl
  have d2 : w_4.cell? ⟨p_b3, 2, none⟩ = some (.bool false) := hs.g0.cell 2 rfl
  have d3 : w_4.cell? ⟨p_b3, 3, none⟩ = some (.slice none 0 0) := hs.g0.cell 3 rfl
  have d4 : w_4.cell? ⟨p_b3, 4, none⟩ = some (.bool false) := hs.g0.cell 4 rfl
  have d5 : w_4.cell? ⟨p_b3, 5, none⟩ = some (.slice none 0 0) := hs.g0.cell 5 rfl
  have d6 : w_4.cell? ⟨p_b3, 6, none⟩ = some (.bool false) := hs.g0.cell 6 rfl
  have d7 : w_4.cell? ⟨p_b3, 7, none⟩ = some (.slice none 0 0) := hs.g0.cell 7 rfl
  have f0 := xs.free 0; have f1 := xs.free 1; have f2 := xs.free 2; have f3 := xs.free 3; have f4 := xs.free 4; have f5 := xs.free 5; have f6 := xs.free 6; have f7 := xs.free 7
  go_big_op
  have hd5 := xs.nod rfl rfl
  obtain ⟨w_5_0, eW, xs_0, ho_0⟩ : ∃ w', ((((w_4.setCell ⟨p_b3, 0, none⟩ (.bool false)).setCell ⟨p_b3, 1, none⟩ (.slice none 0 0)).setCell ⟨p_b3, 2, none⟩ (.bool false)).setCell ⟨p_b3, 3, none⟩ (.slice none 0 0)) = w' ∧ Bs w' p_b3 #[.bool false, .slice none 0 0, .bool false, .slice none 0 0, .bool false, .slice none 0 0, .bool false, .slice none 0 0] 28 ∧ Only p_b3 w_4 w' := xs.setN [(0, .bool false), (1, .slice none 0 0), (2, .bool false), (3, .slice none 0 0)]
  rw [eW]; clear eW
  obtain ⟨w_5, eW, xs', ho_4⟩ : ∃ w', ((((w_5_0.setCell ⟨p_b3, 4, none⟩ (.bool false)).setCell ⟨p_b3, 5, none⟩ (.slice none 0 0)).setCell ⟨p_b3, 6, none⟩ (.bool false)).setCell ⟨p_b3, 7, none⟩ (.slice none 0 0)) = w' ∧ Bs w' p_b3 #[.bool false, .slice none 0 0, .bool false, .slice none 0 0, .bool false, .slice none 0 0, .bool false, .slice none 0 0] 28 ∧ Only p_b3 w_5_0 w' := xs_0.setN [(4, .bool false), (5, .slice none 0 0), (6, .bool false), (7, .slice none 0 0)]
  rw [eW]; clear eW xs_0
  have ho5 := (ho_0.trans ho_4)
  clear ho_0 ho_4 d0 d1 d2 d3 d4 d5 d6 d7 f0 f1 f2 f3 f4 f5 f6 f7 xs
  replace hs := hs.u0 kb_b3 xs' ho5; clear xs'
  refine hK _ _ rfl trivial ?_; clear hK K
  refine sq ?_
  refine .mv ?_
  apply wpSq_end
  refine hK2 _ _ ?_
  refine wp_seq_k ?_
  intro K3 hK3
  refine rg [0, 1, 2, 3, 4, 5, 6, 7, 8] ?_
  refine sq ?_
  intro K hK
  have d0 : w_5.cell? ⟨p_b1, 0, none⟩ = some (.bool n_0a) := hs.g2.cell 0 rfl
  have d1 : w_5.cell? ⟨p_b1, 1, none⟩ = some (.slice o_0a k_0a c_0a) := hs.g2.cell 1 rfl
  have d2 : w_5.cell? ⟨p_b1, 2, none⟩ = some (.bool n_0b) := hs.g2.cell 2 rfl
  have d3 : w_5.cell? ⟨p_b1, 3, none⟩ = some (.slice o_0b k_0b c_0b) := hs.g2.cell 3 rfl
  have d4 : w_5.cell? ⟨p_b1, 4, none⟩ = some (.bool n_0c) := hs.g2.cell 4 rfl
  have d5 : w_5.cell? ⟨p_b1, 5, none⟩ = some (.slice o_0c k_0c c_0c) := hs.g2.cell 5 rfl
  have d6 : w_5.cell? ⟨p_b1, 6, none⟩ = some (.bool n_0d) := hs.g2.cell 6 rfl
  have d7 : w_5.cell? ⟨p_b1, 7, none⟩ = some (.slice o_0d k_0d c_0d) := hs.g2.cell 7 rfl
  go_big_op; refine hK _ _ rfl trivial ?_; clear hK K d0 d1 d2 d3 d4 d5 d6 d7
  refine sq ?_
  intro K hK
  have d0 : w_5.cell? ⟨p_b2, 0, none⟩ = some (.bool n_1a) := hs.g1.cell 0 rfl
  have d1 : w_5.cell? ⟨p_b2, 1, none⟩ = some (.slice o_1a k_1a c_1a) := hs.g1.cell 1 rfl
  have d2 : w_5.cell? ⟨p_b2, 2, none⟩ = some (.bool n_1b) := hs.g1.cell 2 rfl
  have d3 : w_5.cell? ⟨p_b2, 3, none⟩ = some (.slice o_1b k_1b c_1b) := hs.g1.cell 3 rfl
  have d4 : w_5.cell? ⟨p_b2, 4, none⟩ = some (.bool n_1c) := hs.g1.cell 4 rfl
  have d5 : w_5.cell? ⟨p_b2, 5, none⟩ = some (.slice o_1c k_1c c_1c) := hs.g1.cell 5 rfl
  have d6 : w_5.cell? ⟨p_b2, 6, none⟩ = some (.bool n_1d) := hs.g1.cell 6 rfl
  have d7 : w_5.cell? ⟨p_b2, 7, none⟩ = some (.slice o_1d k_1d c_1d) := hs.g1.cell 7 rfl
  go_big_op; refine hK _ _ rfl trivial ?_; clear hK K d0 d1 d2 d3 d4 d5 d6 d7
  refine sq ?_
  intro K hK
  have k2_5 := ((kb hb_3).b n4).o hd5 ho5
  replace ha1 := ha1.k k2_5
  replace ha2 := ha2.k k2_5
  replace ha3 := ha3.k k2_5
  replace ha4 := ha4.k k2_5
  replace hq1 := hq1.k k2_5
  replace hq2 := hq2.k k2_5
  replace hq3 := hq3.k k2_5
  replace hq4 := hq4.k k2_5
  go_big_op
  go_fit (gfSub_bad (CN.mk' ha1 ha2 ha3 ha4) (CN.mk' hq1 hq2 hq3 hq4) (by omega) (by omega) (by omega) (by omega) (by omega) (by omega) (by omega) (by omega) HB.out)
  rintro e w_6 ⟨rfl, hb_6⟩
  replace hs := hs.bl hb_6
  refine hK _ _ rfl trivial ?_
  clear hK K
  refine sq ?_
  refine .mv ?_
  refine sq ?_
  refine .r0 ?_
  refine sq ?_
  refine .r0 ?_
  refine sq ?_
  refine .al hs ?_; clear hs; intro p_b4 w_7 hs n7 kb_b4
  refine sq ?_
  intro K hK
  have xs := hs.g0
  have d0 : w_7.cell? ⟨p_b4, 0, none⟩ = some (.bool false) := hs.g0.cell 0 rfl
  have d1 : w_7.cell? ⟨p_b4, 1, none⟩ = some (.slice none 0 0) := hs.g0.cell 1 rfl
  have d2 : w_7.cell? ⟨p_b4, 2, none⟩ = some (.bool false) := hs.g0.cell 2 rfl
  have d3 : w_7.cell? ⟨p_b4, 3, none⟩ = some (.slice none 0 0) := hs.g0.cell 3 rfl
  have d4 : w_7.cell? ⟨p_b4, 4, none⟩ = some (.bool false) := hs.g0.cell 4 rfl
  have d5 : w_7.cell? ⟨p_b4, 5, none⟩ = some (.slice none 0 0) := hs.g0.cell 5 rfl
  have d6 : w_7.cell? ⟨p_b4, 6, none⟩ = some (.bool false) := hs.g0.cell 6 rfl
  have d7 : w_7.cell? ⟨p_b4, 7, none⟩ = some (.slice none 0 0) := hs.g0.cell 7 rfl
  have f0 := xs.free 0; have f1 := xs.free 1; have f2 := xs.free 2; have f3 := xs.free 3; have f4 := xs.free 4; have f5 := xs.free 5; have f6 := xs.free 6; have f7 := xs.free 7
  go_big_op
  have hd8 := xs.nod rfl rfl
  obtain ⟨w_8_0, eW, xs_0, ho_0⟩ : ∃ w', ((((w_7.setCell ⟨p_b4, 0, none⟩ (.bool false)).setCell ⟨p_b4, 1, none⟩ (.slice none 0 0)).setCell ⟨p_b4, 2, none⟩ (.bool false)).setCell ⟨p_b4, 3, none⟩ (.slice none 0 0)) = w' ∧ Bs w' p_b4 #[.bool false, .slice none 0 0, .bool false, .slice none 0 0, .bool false, .slice none 0 0, .bool false, .slice none 0 0] 28 ∧ Only p_b4 w_7 w' := xs.setN [(0, .bool false), (1, .slice none 0 0), (2, .bool false), (3, .slice none 0 0)]
  rw [eW]; clear eW
  obtain ⟨w_8, eW, xs', ho_4⟩ : ∃ w', ((((w_8_0.setCell ⟨p_b4, 4, none⟩ (.bool false)).setCell ⟨p_b4, 5, none⟩ (.slice none 0 0)).setCell ⟨p_b4, 6, none⟩ (.bool false)).setCell ⟨p_b4, 7, none⟩ (.slice none 0 0)) = w' ∧ Bs w' p_b4 #[.bool false, .slice none 0 0, .bool false, .slice none 0 0, .bool false, .slice none 0 0, .bool false, .slice none 0 0] 28 ∧ Only p_b4 w_8_0 w' := xs_0.setN [(4, .bool false), (5, .slice none 0 0), (6, .bool false), (7, .slice none 0 0)]
  rw [eW]; clear eW xs_0
  have ho8 := (ho_0.trans ho_4)
  clear ho_0 ho_4 d0 d1 d2 d3 d4 d5 d6 d7 f0 f1 f2 f3 f4 f5 f6 f7 xs
  replace hs := hs.u0 kb_b4 xs' ho8; clear xs'
  refine hK _ _ rfl trivial ?_; clear hK K
  refine sq ?_
  refine .mv ?_
  apply wpSq_end
  refine hK3 _ _ ?_
  refine wp_seq_k ?_
  intro K4 hK4
  refine rg [0, 1, 2, 3, 4, 5, 6, 7, 8] ?_
  refine sq ?_
  intro K hK
  have d0 : w_8.cell? ⟨p_b1, 0, none⟩ = some (.bool n_0a) := hs.g3.cell 0 rfl
  have d1 : w_8.cell? ⟨p_b1, 1, none⟩ = some (.slice o_0a k_0a c_0a) := hs.g3.cell 1 rfl
  have d2 : w_8.cell? ⟨p_b1, 2, none⟩ = some (.bool n_0b) := hs.g3.cell 2 rfl
  have d3 : w_8.cell? ⟨p_b1, 3, none⟩ = some (.slice o_0b k_0b c_0b) := hs.g3.cell 3 rfl
  have d4 : w_8.cell? ⟨p_b1, 4, none⟩ = some (.bool n_0c) := hs.g3.cell 4 rfl
  have d5 : w_8.cell? ⟨p_b1, 5, none⟩ = some (.slice o_0c k_0c c_0c) := hs.g3.cell 5 rfl
  have d6 : w_8.cell? ⟨p_b1, 6, none⟩ = some (.bool n_0d) := hs.g3.cell 6 rfl
  have d7 : w_8.cell? ⟨p_b1, 7, none⟩ = some (.slice o_0d k_0d c_0d) := hs.g3.cell 7 rfl
  go_big_op; refine hK _ _ rfl trivial ?_; clear hK K d0 d1 d2 d3 d4 d5 d6 d7
  refine sq ?_
  intro K hK
  have d0 : w_8.cell? ⟨p_b2, 0, none⟩ = some (.bool n_1a) := hs.g2.cell 0 rfl
  have d1 : w_8.cell? ⟨p_b2, 1, none⟩ = some (.slice o_1a k_1a c_1a) := hs.g2.cell 1 rfl
  have d2 : w_8.cell? ⟨p_b2, 2, none⟩ = some (.bool n_1b) := hs.g2.cell 2 rfl
  have d3 : w_8.cell? ⟨p_b2, 3, none⟩ = some (.slice o_1b k_1b c_1b) := hs.g2.cell 3 rfl
  have d4 : w_8.cell? ⟨p_b2, 4, none⟩ = some (.bool n_1c) := hs.g2.cell 4 rfl
  have d5 : w_8.cell? ⟨p_b2, 5, none⟩ = some (.slice o_1c k_1c c_1c) := hs.g2.cell 5 rfl
  have d6 : w_8.cell? ⟨p_b2, 6, none⟩ = some (.bool n_1d) := hs.g2.cell 6 rfl
  have d7 : w_8.cell? ⟨p_b2, 7, none⟩ = some (.slice o_1d k_1d c_1d) := hs.g2.cell 7 rfl
  go_big_op; refine hK _ _ rfl trivial ?_; clear hK K d0 d1 d2 d3 d4 d5 d6 d7
  refine sq ?_
  intro K hK
  have k5_8 := ((kb hb_6).b n7).o hd8 ho8
  replace ha1 := ha1.k k5_8
  replace ha2 := ha2.k k5_8
  replace ha3 := ha3.k k5_8
  replace ha4 := ha4.k k5_8
  replace hq1 := hq1.k k5_8
  replace hq2 := hq2.k k5_8
  replace hq3 := hq3.k k5_8
  replace hq4 := hq4.k k5_8
  go_big_op
  go_fit (gfMul_bad (CN.mk' ha1 ha2 ha3 ha4) (CN.mk' hq1 hq2 hq3 hq4) (by omega) (by omega) (by omega) (by omega) (by omega) (by omega) (by omega) (by omega) HB.out)
  rintro e w_9 ⟨rfl, hb_9⟩
  replace hs := hs.bl hb_9
  refine hK _ _ rfl trivial ?_
  clear hK K
  refine sq ?_
  refine .mv ?_
  refine sq ?_
  refine .r0 ?_
  refine sq ?_
  refine .r0 ?_
  refine sq ?_
  refine .al hs ?_; clear hs; intro p_b5 w_10 hs n10 kb_b5
  refine sq ?_
  intro K hK
  have xs := hs.g0
  have d0 : w_10.cell? ⟨p_b5, 0, none⟩ = some (.bool false) := hs.g0.cell 0 rfl
  have d1 : w_10.cell? ⟨p_b5, 1, none⟩ = some (.slice none 0 0) := hs.g0.cell 1 rfl
  have d2 : w_10.cell? ⟨p_b5, 2, none⟩ = some (.bool false) := hs.g0.cell 2 rfl
  have d3 : w_10.cell? ⟨p_b5, 3, none⟩ = some (.slice none 0 0) := hs.g0.cell 3 rfl
  have d4 : w_10.cell? ⟨p_b5, 4, none⟩ = some (.bool false) := hs.g0.cell 4 rfl
  have d5 : w_10.cell? ⟨p_b5, 5, none⟩ = some (.slice none 0 0) := hs.g0.cell 5 rfl
  have d6 : w_10.cell? ⟨p_b5, 6, none⟩ = some (.bool false) := hs.g0.cell 6 rfl
  have d7 : w_10.cell? ⟨p_b5, 7, none⟩ = some (.slice none 0 0) := hs.g0.cell 7 rfl
  have f0 := xs.free 0; have f1 := xs.free 1; have f2 := xs.free 2; have f3 := xs.free 3; have f4 := xs.free 4; have f5 := xs.free 5; have f6 := xs.free 6; have f7 := xs.free 7
  go_big_op
  have hd11 := xs.nod rfl rfl
  obtain ⟨w_11_0, eW, xs_0, ho_0⟩ : ∃ w', ((((w_10.setCell ⟨p_b5, 0, none⟩ (.bool false)).setCell ⟨p_b5, 1, none⟩ (.slice none 0 0)).setCell ⟨p_b5, 2, none⟩ (.bool false)).setCell ⟨p_b5, 3, none⟩ (.slice none 0 0)) = w' ∧ Bs w' p_b5 #[.bool false, .slice none 0 0, .bool false, .slice none 0 0, .bool false, .slice none 0 0, .bool false, .slice none 0 0] 28 ∧ Only p_b5 w_10 w' := xs.setN [(0, .bool false), (1, .slice none 0 0), (2, .bool false), (3, .slice none 0 0)]
  rw [eW]; clear eW
  obtain ⟨w_11, eW, xs', ho_4⟩ : ∃ w', ((((w_11_0.setCell ⟨p_b5, 4, none⟩ (.bool false)).setCell ⟨p_b5, 5, none⟩ (.slice none 0 0)).setCell ⟨p_b5, 6, none⟩ (.bool false)).setCell ⟨p_b5, 7, none⟩ (.slice none 0 0)) = w' ∧ Bs w' p_b5 #[.bool false, .slice none 0 0, .bool false, .slice none 0 0, .bool false, .slice none 0 0, .bool false, .slice none 0 0] 28 ∧ Only p_b5 w_11_0 w' := xs_0.setN [(4, .bool false), (5, .slice none 0 0), (6, .bool false), (7, .slice none 0 0)]
  rw [eW]; clear eW xs_0
  have ho11 := (ho_0.trans ho_4)
  clear ho_0 ho_4 d0 d1 d2 d3 d4 d5 d6 d7 f0 f1 f2 f3 f4 f5 f6 f7 xs
  replace hs := hs.u0 kb_b5 xs' ho11; clear xs'
  refine hK _ _ rfl trivial ?_; clear hK K
  refine sq ?_
  refine .mv ?_
  apply wpSq_end
  refine hK4 _ _ ?_
  refine wp_seq_k ?_
  intro K5 hK5
  refine rg [0, 1, 2, 3, 4, 5, 6, 7, 8] ?_
  refine sq ?_
  intro K hK
  have d0 : w_11.cell? ⟨p_b1, 0, none⟩ = some (.bool n_0a) := hs.g4.cell 0 rfl
  have d1 : w_11.cell? ⟨p_b1, 1, none⟩ = some (.slice o_0a k_0a c_0a) := hs.g4.cell 1 rfl
  have d2 : w_11.cell? ⟨p_b1, 2, none⟩ = some (.bool n_0b) := hs.g4.cell 2 rfl
  have d3 : w_11.cell? ⟨p_b1, 3, none⟩ = some (.slice o_0b k_0b c_0b) := hs.g4.cell 3 rfl
  have d4 : w_11.cell? ⟨p_b1, 4, none⟩ = some (.bool n_0c) := hs.g4.cell 4 rfl
  have d5 : w_11.cell? ⟨p_b1, 5, none⟩ = some (.slice o_0c k_0c c_0c) := hs.g4.cell 5 rfl
  have d6 : w_11.cell? ⟨p_b1, 6, none⟩ = some (.bool n_0d) := hs.g4.cell 6 rfl
  have d7 : w_11.cell? ⟨p_b1, 7, none⟩ = some (.slice o_0d k_0d c_0d) := hs.g4.cell 7 rfl
  go_big_op; refine hK _ _ rfl trivial ?_; clear hK K d0 d1 d2 d3 d4 d5 d6 d7
  refine sq ?_
  intro K hK
  have d0 : w_11.cell? ⟨p_b2, 0, none⟩ = some (.bool n_1a) := hs.g3.cell 0 rfl
  have d1 : w_11.cell? ⟨p_b2, 1, none⟩ = some (.slice o_1a k_1a c_1a) := hs.g3.cell 1 rfl
  have d2 : w_11.cell? ⟨p_b2, 2, none⟩ = some (.bool n_1b) := hs.g3.cell 2 rfl
  have d3 : w_11.cell? ⟨p_b2, 3, none⟩ = some (.slice o_1b k_1b c_1b) := hs.g3.cell 3 rfl
  have d4 : w_11.cell? ⟨p_b2, 4, none⟩ = some (.bool n_1c) := hs.g3.cell 4 rfl
  have d5 : w_11.cell? ⟨p_b2, 5, none⟩ = some (.slice o_1c k_1c c_1c) := hs.g3.cell 5 rfl
  have d6 : w_11.cell? ⟨p_b2, 6, none⟩ = some (.bool n_1d) := hs.g3.cell 6 rfl
  have d7 : w_11.cell? ⟨p_b2, 7, none⟩ = some (.slice o_1d k_1d c_1d) := hs.g3.cell 7 rfl
  go_big_op; refine hK _ _ rfl trivial ?_; clear hK K d0 d1 d2 d3 d4 d5 d6 d7
  refine sq ?_
  intro K hK
  have k8_11 := ((kb hb_9).b n10).o hd11 ho11
  replace ha1 := ha1.k k8_11
  replace ha2 := ha2.k k8_11
  replace ha3 := ha3.k k8_11
  replace ha4 := ha4.k k8_11
  replace hq1 := hq1.k k8_11
  replace hq2 := hq2.k k8_11
  replace hq3 := hq3.k k8_11
  replace hq4 := hq4.k k8_11
  go_big_op
  go_fit (HQ.out _ _ _ (.mk' ha1 ha2 ha3 ha4) (.mk' hq1 hq2 hq3 hq4))
  rintro e w_12 ⟨rfl, hb_12⟩
  replace hs := hs.bl hb_12
  refine hK _ _ rfl trivial ?_
  clear hK K
  refine sq ?_
  refine .mv ?_
  refine sq ?_
  refine .r0 ?_
  refine sq ?_
  refine .r0 ?_
  refine sq ?_
  refine .al hs ?_; clear hs; intro p_b6 w_13 hs n13 kb_b6
  refine sq ?_
  intro K hK
  have xs := hs.g0
  have d0 : w_13.cell? ⟨p_b6, 0, none⟩ = some (.bool false) := hs.g0.cell 0 rfl
  have d1 : w_13.cell? ⟨p_b6, 1, none⟩ = some (.slice none 0 0) := hs.g0.cell 1 rfl
  have d2 : w_13.cell? ⟨p_b6, 2, none⟩ = some (.bool false) := hs.g0.cell 2 rfl
  have d3 : w_13.cell? ⟨p_b6, 3, none⟩ = some (.slice none 0 0) := hs.g0.cell 3 rfl
  have d4 : w_13.cell? ⟨p_b6, 4, none⟩ = some (.bool false) := hs.g0.cell 4 rfl
  have d5 : w_13.cell? ⟨p_b6, 5, none⟩ = some (.slice none 0 0) := hs.g0.cell 5 rfl
  have d6 : w_13.cell? ⟨p_b6, 6, none⟩ = some (.bool false) := hs.g0.cell 6 rfl
  have d7 : w_13.cell? ⟨p_b6, 7, none⟩ = some (.slice none 0 0) := hs.g0.cell 7 rfl
  have f0 := xs.free 0; have f1 := xs.free 1; have f2 := xs.free 2; have f3 := xs.free 3; have f4 := xs.free 4; have f5 := xs.free 5; have f6 := xs.free 6; have f7 := xs.free 7
  go_big_op
  have hd14 := xs.nod rfl rfl
  obtain ⟨w_14_0, eW, xs_0, ho_0⟩ : ∃ w', ((((w_13.setCell ⟨p_b6, 0, none⟩ (.bool false)).setCell ⟨p_b6, 1, none⟩ (.slice none 0 0)).setCell ⟨p_b6, 2, none⟩ (.bool false)).setCell ⟨p_b6, 3, none⟩ (.slice none 0 0)) = w' ∧ Bs w' p_b6 #[.bool false, .slice none 0 0, .bool false, .slice none 0 0, .bool false, .slice none 0 0, .bool false, .slice none 0 0] 28 ∧ Only p_b6 w_13 w' := xs.setN [(0, .bool false), (1, .slice none 0 0), (2, .bool false), (3, .slice none 0 0)]
  rw [eW]; clear eW
  obtain ⟨w_14, eW, xs', ho_4⟩ : ∃ w', ((((w_14_0.setCell ⟨p_b6, 4, none⟩ (.bool false)).setCell ⟨p_b6, 5, none⟩ (.slice none 0 0)).setCell ⟨p_b6, 6, none⟩ (.bool false)).setCell ⟨p_b6, 7, none⟩ (.slice none 0 0)) = w' ∧ Bs w' p_b6 #[.bool false, .slice none 0 0, .bool false, .slice none 0 0, .bool false, .slice none 0 0, .bool false, .slice none 0 0] 28 ∧ Only p_b6 w_14_0 w' := xs_0.setN [(4, .bool false), (5, .slice none 0 0), (6, .bool false), (7, .slice none 0 0)]
  rw [eW]; clear eW xs_0
  have ho14 := (ho_0.trans ho_4)
  clear ho_0 ho_4 d0 d1 d2 d3 d4 d5 d6 d7 f0 f1 f2 f3 f4 f5 f6 f7 xs
  replace hs := hs.u0 kb_b6 xs' ho14; clear xs'
  refine hK _ _ rfl trivial ?_; clear hK K
  refine sq ?_
  refine .mv ?_
  apply wpSq_end
  refine hK5 _ _ ?_
  refine wp_seq_k ?_
  intro K6 hK6
  refine rg [0, 1, 2, 3, 4, 5, 6, 7] ?_
  refine sq ?_
  intro K hK
  have d0 : w_14.cell? ⟨p_b1, 0, none⟩ = some (.bool n_0a) := hs.g5.cell 0 rfl
  have d1 : w_14.cell? ⟨p_b1, 1, none⟩ = some (.slice o_0a k_0a c_0a) := hs.g5.cell 1 rfl
  have d2 : w_14.cell? ⟨p_b1, 2, none⟩ = some (.bool n_0b) := hs.g5.cell 2 rfl
  have d3 : w_14.cell? ⟨p_b1, 3, none⟩ = some (.slice o_0b k_0b c_0b) := hs.g5.cell 3 rfl
  have d4 : w_14.cell? ⟨p_b1, 4, none⟩ = some (.bool n_0c) := hs.g5.cell 4 rfl
  have d5 : w_14.cell? ⟨p_b1, 5, none⟩ = some (.slice o_0c k_0c c_0c) := hs.g5.cell 5 rfl
  have d6 : w_14.cell? ⟨p_b1, 6, none⟩ = some (.bool n_0d) := hs.g5.cell 6 rfl
  have d7 : w_14.cell? ⟨p_b1, 7, none⟩ = some (.slice o_0d k_0d c_0d) := hs.g5.cell 7 rfl
  go_big_op; refine hK _ _ rfl trivial ?_; clear hK K d0 d1 d2 d3 d4 d5 d6 d7
  refine sq ?_
  intro K hK
  have d0 : w_14.cell? ⟨p_b2, 0, none⟩ = some (.bool n_1a) := hs.g4.cell 0 rfl
  have d1 : w_14.cell? ⟨p_b2, 1, none⟩ = some (.slice o_1a k_1a c_1a) := hs.g4.cell 1 rfl
  have d2 : w_14.cell? ⟨p_b2, 2, none⟩ = some (.bool n_1b) := hs.g4.cell 2 rfl
  have d3 : w_14.cell? ⟨p_b2, 3, none⟩ = some (.slice o_1b k_1b c_1b) := hs.g4.cell 3 rfl
  have d4 : w_14.cell? ⟨p_b2, 4, none⟩ = some (.bool n_1c) := hs.g4.cell 4 rfl
  have d5 : w_14.cell? ⟨p_b2, 5, none⟩ = some (.slice o_1c k_1c c_1c) := hs.g4.cell 5 rfl
  have d6 : w_14.cell? ⟨p_b2, 6, none⟩ = some (.bool n_1d) := hs.g4.cell 6 rfl
  have d7 : w_14.cell? ⟨p_b2, 7, none⟩ = some (.slice o_1d k_1d c_1d) := hs.g4.cell 7 rfl
  go_big_op; refine hK _ _ rfl trivial ?_; clear hK K d0 d1 d2 d3 d4 d5 d6 d7
  refine sq ?_
  intro K hK
  have k11_14 := ((kb hb_12).b n13).o hd14 ho14
  replace ha1 := ha1.k k11_14
  replace ha2 := ha2.k k11_14
  replace ha3 := ha3.k k11_14
  replace ha4 := ha4.k k11_14
  replace hq1 := hq1.k k11_14
  replace hq2 := hq2.k k11_14
  replace hq3 := hq3.k k11_14
  replace hq4 := hq4.k k11_14
  go_big_op
  go_fit (gfEqual_bad (.mk' ha1 ha2 ha3 ha4) (.mk' hq1 hq2 hq3 hq4) (by omega) (by omega) (by omega) (by omega) (by omega) (by omega) (by omega) (by omega) HB.out)
  rintro e w_15 ⟨rfl, hb_15⟩
  replace hs := hs.bl hb_15
  refine hK _ _ rfl trivial ?_
  clear hK K
  refine sq ?_
  refine .mv ?_
  refine sq ?_
  refine .r0 ?_
  refine sq ?_
  refine .r0 ?_
  refine sq ?_
  refine .mv ?_
  refine sq ?_
  refine .mv ?_
  apply wpSq_end
  refine hK6 _ _ ?_
  refine wp_seq_k ?_
  intro K7 hK7
  refine wp_seq_k ?_
  intro K8 hK8
  refine rg [0, 1] ?_
  refine sq ?_
  intro K hK
  have hb := hs.b
  go_big_op
  go_fit (awake7_any _ (htabs _ hb))
  rintro e w_16 ⟨rfl, hb_16⟩
  clear hb
  replace hs := hs.bl hb_16
  refine hK _ _ rfl trivial ?_
  clear hK K
  refine sq ?_
  refine .r0 ?_
  apply wpSq_end
  refine hK8 _ _ ?_
  refine cf ?_
  refine wp_skip ?_
  refine hK7 _ _ ?_
  refine wp_seq_k ?_
  intro K9 hK9
  refine wp_seq_k ?_
  intro K10 hK10
  refine rg [0, 1, 2, 3, 4, 5] ?_
  refine sq ?_
  intro K hK
  have d0 : w_16.cell? ⟨p_b1, 0, none⟩ = some (.bool n_0a) := hs.g5.cell 0 rfl
  have d1 : w_16.cell? ⟨p_b1, 1, none⟩ = some (.slice o_0a k_0a c_0a) := hs.g5.cell 1 rfl
  have d2 : w_16.cell? ⟨p_b1, 2, none⟩ = some (.bool n_0b) := hs.g5.cell 2 rfl
  have d3 : w_16.cell? ⟨p_b1, 3, none⟩ = some (.slice o_0b k_0b c_0b) := hs.g5.cell 3 rfl
  have d4 : w_16.cell? ⟨p_b1, 4, none⟩ = some (.bool n_0c) := hs.g5.cell 4 rfl
  have d5 : w_16.cell? ⟨p_b1, 5, none⟩ = some (.slice o_0c k_0c c_0c) := hs.g5.cell 5 rfl
  have d6 : w_16.cell? ⟨p_b1, 6, none⟩ = some (.bool n_0d) := hs.g5.cell 6 rfl
  have d7 : w_16.cell? ⟨p_b1, 7, none⟩ = some (.slice o_0d k_0d c_0d) := hs.g5.cell 7 rfl
  go_big_op; refine hK _ _ rfl trivial ?_; clear hK K d0 d1 d2 d3 d4 d5 d6 d7
  refine sq ?_
  intro K hK
  have k14_16 := (kb hb_15).b hb_16
  replace ha1 := ha1.k k14_16
  replace ha2 := ha2.k k14_16
  replace ha3 := ha3.k k14_16
  replace ha4 := ha4.k k14_16
  go_big_op
  go_fit (r7Bad_yes (CN.mk' ha1 ha2 ha3 ha4) (by omega) (by omega) (by omega) (by omega) H.out)
  rintro e w_17 ⟨rfl, hb_17⟩
  replace hs := hs.bl hb_17
  refine hK _ _ rfl trivial ?_
  clear hK K
  refine sq ?_
  refine .mv ?_
  refine sk ?_
  refine sk ?_
  refine sq ?_
  refine .r0 ?_
  apply wpSq_end
  refine hK10 _ _ ?_
  refine ct ?_
  refine wp_seq_k ?_
  intro K11 hK11
  refine rg [0, 1, 2, 3, 4, 5, 6, 7, 8, 9, 10, 11, 12, 13, 14, 15, 16, 17, 18, 19, 20, 21, 22, 23, 24, 25, 26, 27, 28, 29, 30] ?_
  refine sq ?_
  intro K hK
  have d0 : w_17.cell? ⟨p_b3, 0, none⟩ = some (.bool false) := hs.g3.cell 0 rfl
  have d1 : w_17.cell? ⟨p_b3, 1, none⟩ = some (.slice none 0 0) := hs.g3.cell 1 rfl
  have d2 : w_17.cell? ⟨p_b3, 2, none⟩ = some (.bool false) := hs.g3.cell 2 rfl
  have d3 : w_17.cell? ⟨p_b3, 3, none⟩ = some (.slice none 0 0) := hs.g3.cell 3 rfl
  have d4 : w_17.cell? ⟨p_b3, 4, none⟩ = some (.bool false) := hs.g3.cell 4 rfl
  have d5 : w_17.cell? ⟨p_b3, 5, none⟩ = some (.slice none 0 0) := hs.g3.cell 5 rfl
  have d6 : w_17.cell? ⟨p_b3, 6, none⟩ = some (.bool false) := hs.g3.cell 6 rfl
  have d7 : w_17.cell? ⟨p_b3, 7, none⟩ = some (.slice none 0 0) := hs.g3.cell 7 rfl
  go_big_op; refine hK _ _ rfl trivial ?_; clear hK K d0 d1 d2 d3 d4 d5 d6 d7
  refine sq ?_
  refine .mv ?_
  refine sq ?_
  intro K hK
  have d0 : w_17.cell? ⟨p_b3, 0, none⟩ = some (.bool false) := hs.g3.cell 0 rfl
  have d1 : w_17.cell? ⟨p_b3, 1, none⟩ = some (.slice none 0 0) := hs.g3.cell 1 rfl
  have d2 : w_17.cell? ⟨p_b3, 2, none⟩ = some (.bool false) := hs.g3.cell 2 rfl
  have d3 : w_17.cell? ⟨p_b3, 3, none⟩ = some (.slice none 0 0) := hs.g3.cell 3 rfl
  have d4 : w_17.cell? ⟨p_b3, 4, none⟩ = some (.bool false) := hs.g3.cell 4 rfl
  have d5 : w_17.cell? ⟨p_b3, 5, none⟩ = some (.slice none 0 0) := hs.g3.cell 5 rfl
  have d6 : w_17.cell? ⟨p_b3, 6, none⟩ = some (.bool false) := hs.g3.cell 6 rfl
  have d7 : w_17.cell? ⟨p_b3, 7, none⟩ = some (.slice none 0 0) := hs.g3.cell 7 rfl
  go_big_op; refine hK _ _ rfl trivial ?_; clear hK K d0 d1 d2 d3 d4 d5 d6 d7
  refine sq ?_
  intro K hK
  go_big_op
  go_fit (told7_err _ 5 (by decide))
  rintro e w_18 ⟨rfl, hb_18⟩
  replace hs := hs.bl hb_18
  refine hK _ _ rfl trivial ?_
  clear hK K
  refine sq ?_
  refine .mv ?_
  refine sq ?_
  intro K hK
  have d0 : w_18.cell? ⟨p_b4, 0, none⟩ = some (.bool false) := hs.g2.cell 0 rfl
  have d1 : w_18.cell? ⟨p_b4, 1, none⟩ = some (.slice none 0 0) := hs.g2.cell 1 rfl
  have d2 : w_18.cell? ⟨p_b4, 2, none⟩ = some (.bool false) := hs.g2.cell 2 rfl
  have d3 : w_18.cell? ⟨p_b4, 3, none⟩ = some (.slice none 0 0) := hs.g2.cell 3 rfl
  have d4 : w_18.cell? ⟨p_b4, 4, none⟩ = some (.bool false) := hs.g2.cell 4 rfl
  have d5 : w_18.cell? ⟨p_b4, 5, none⟩ = some (.slice none 0 0) := hs.g2.cell 5 rfl
  have d6 : w_18.cell? ⟨p_b4, 6, none⟩ = some (.bool false) := hs.g2.cell 6 rfl
  have d7 : w_18.cell? ⟨p_b4, 7, none⟩ = some (.slice none 0 0) := hs.g2.cell 7 rfl
  go_big_op; refine hK _ _ rfl trivial ?_; clear hK K d0 d1 d2 d3 d4 d5 d6 d7
  refine sq ?_
  refine .mv ?_
  refine sq ?_
  intro K hK
  have d0 : w_18.cell? ⟨p_b4, 0, none⟩ = some (.bool false) := hs.g2.cell 0 rfl
  have d1 : w_18.cell? ⟨p_b4, 1, none⟩ = some (.slice none 0 0) := hs.g2.cell 1 rfl
  have d2 : w_18.cell? ⟨p_b4, 2, none⟩ = some (.bool false) := hs.g2.cell 2 rfl
  have d3 : w_18.cell? ⟨p_b4, 3, none⟩ = some (.slice none 0 0) := hs.g2.cell 3 rfl
  have d4 : w_18.cell? ⟨p_b4, 4, none⟩ = some (.bool false) := hs.g2.cell 4 rfl
  have d5 : w_18.cell? ⟨p_b4, 5, none⟩ = some (.slice none 0 0) := hs.g2.cell 5 rfl
  have d6 : w_18.cell? ⟨p_b4, 6, none⟩ = some (.bool false) := hs.g2.cell 6 rfl
  have d7 : w_18.cell? ⟨p_b4, 7, none⟩ = some (.slice none 0 0) := hs.g2.cell 7 rfl
  go_big_op; refine hK _ _ rfl trivial ?_; clear hK K d0 d1 d2 d3 d4 d5 d6 d7
  refine sq ?_
  intro K hK
  go_big_op
  go_fit (told7_err _ 5 (by decide))
  rintro e w_19 ⟨rfl, hb_19⟩
  replace hs := hs.bl hb_19
  refine hK _ _ rfl trivial ?_
  clear hK K
  refine sq ?_
  refine .r0 ?_
  refine sq ?_
  refine .mv ?_
  refine sq ?_
  intro K hK
  have d0 : w_19.cell? ⟨p_b5, 0, none⟩ = some (.bool false) := hs.g1.cell 0 rfl
  have d1 : w_19.cell? ⟨p_b5, 1, none⟩ = some (.slice none 0 0) := hs.g1.cell 1 rfl
  have d2 : w_19.cell? ⟨p_b5, 2, none⟩ = some (.bool false) := hs.g1.cell 2 rfl
  have d3 : w_19.cell? ⟨p_b5, 3, none⟩ = some (.slice none 0 0) := hs.g1.cell 3 rfl
  have d4 : w_19.cell? ⟨p_b5, 4, none⟩ = some (.bool false) := hs.g1.cell 4 rfl
  have d5 : w_19.cell? ⟨p_b5, 5, none⟩ = some (.slice none 0 0) := hs.g1.cell 5 rfl
  have d6 : w_19.cell? ⟨p_b5, 6, none⟩ = some (.bool false) := hs.g1.cell 6 rfl
  have d7 : w_19.cell? ⟨p_b5, 7, none⟩ = some (.slice none 0 0) := hs.g1.cell 7 rfl
  go_big_op; refine hK _ _ rfl trivial ?_; clear hK K d0 d1 d2 d3 d4 d5 d6 d7
  refine sq ?_
  refine .mv ?_
  refine sq ?_
  intro K hK
  have d0 : w_19.cell? ⟨p_b5, 0, none⟩ = some (.bool false) := hs.g1.cell 0 rfl
  have d1 : w_19.cell? ⟨p_b5, 1, none⟩ = some (.slice none 0 0) := hs.g1.cell 1 rfl
  have d2 : w_19.cell? ⟨p_b5, 2, none⟩ = some (.bool false) := hs.g1.cell 2 rfl
  have d3 : w_19.cell? ⟨p_b5, 3, none⟩ = some (.slice none 0 0) := hs.g1.cell 3 rfl
  have d4 : w_19.cell? ⟨p_b5, 4, none⟩ = some (.bool false) := hs.g1.cell 4 rfl
  have d5 : w_19.cell? ⟨p_b5, 5, none⟩ = some (.slice none 0 0) := hs.g1.cell 5 rfl
  have d6 : w_19.cell? ⟨p_b5, 6, none⟩ = some (.bool false) := hs.g1.cell 6 rfl
  have d7 : w_19.cell? ⟨p_b5, 7, none⟩ = some (.slice none 0 0) := hs.g1.cell 7 rfl
  go_big_op; refine hK _ _ rfl trivial ?_; clear hK K d0 d1 d2 d3 d4 d5 d6 d7
  refine sq ?_
  intro K hK
  go_big_op
  go_fit (told7_err _ 5 (by decide))
  rintro e w_20 ⟨rfl, hb_20⟩
  replace hs := hs.bl hb_20
  refine hK _ _ rfl trivial ?_
  clear hK K
  refine sq ?_
  refine .r0 ?_
  refine sq ?_
  refine .mv ?_
  refine sq ?_
  intro K hK
  have d0 : w_20.cell? ⟨p_b6, 0, none⟩ = some (.bool false) := hs.g0.cell 0 rfl
  have d1 : w_20.cell? ⟨p_b6, 1, none⟩ = some (.slice none 0 0) := hs.g0.cell 1 rfl
  have d2 : w_20.cell? ⟨p_b6, 2, none⟩ = some (.bool false) := hs.g0.cell 2 rfl
  have d3 : w_20.cell? ⟨p_b6, 3, none⟩ = some (.slice none 0 0) := hs.g0.cell 3 rfl
  have d4 : w_20.cell? ⟨p_b6, 4, none⟩ = some (.bool false) := hs.g0.cell 4 rfl
  have d5 : w_20.cell? ⟨p_b6, 5, none⟩ = some (.slice none 0 0) := hs.g0.cell 5 rfl
  have d6 : w_20.cell? ⟨p_b6, 6, none⟩ = some (.bool false) := hs.g0.cell 6 rfl
  have d7 : w_20.cell? ⟨p_b6, 7, none⟩ = some (.slice none 0 0) := hs.g0.cell 7 rfl
  go_big_op; refine hK _ _ rfl trivial ?_; clear hK K d0 d1 d2 d3 d4 d5 d6 d7
  refine sq ?_
  refine .mv ?_
  refine sq ?_
  intro K hK
  have d0 : w_20.cell? ⟨p_b6, 0, none⟩ = some (.bool false) := hs.g0.cell 0 rfl
  have d1 : w_20.cell? ⟨p_b6, 1, none⟩ = some (.slice none 0 0) := hs.g0.cell 1 rfl
  have d2 : w_20.cell? ⟨p_b6, 2, none⟩ = some (.bool false) := hs.g0.cell 2 rfl
  have d3 : w_20.cell? ⟨p_b6, 3, none⟩ = some (.slice none 0 0) := hs.g0.cell 3 rfl
  have d4 : w_20.cell? ⟨p_b6, 4, none⟩ = some (.bool false) := hs.g0.cell 4 rfl
  have d5 : w_20.cell? ⟨p_b6, 5, none⟩ = some (.slice none 0 0) := hs.g0.cell 5 rfl
  have d6 : w_20.cell? ⟨p_b6, 6, none⟩ = some (.bool false) := hs.g0.cell 6 rfl
  have d7 : w_20.cell? ⟨p_b6, 7, none⟩ = some (.slice none 0 0) := hs.g0.cell 7 rfl
  go_big_op; refine hK _ _ rfl trivial ?_; clear hK K d0 d1 d2 d3 d4 d5 d6 d7
  refine sq ?_
  intro K hK
  go_big_op
  go_fit (told7_err _ 5 (by decide))
  rintro e w_21 ⟨rfl, hb_21⟩
  replace hs := hs.bl hb_21
  refine hK _ _ rfl trivial ?_
  clear hK K
  refine sq ?_
  refine .r0 ?_
  refine sq ?_
  refine .mv ?_
  refine sq ?_
  refine .mv ?_
  refine sq ?_
  refine .r0 ?_
  refine sq ?_
  refine .r0 ?_
  refine sq ?_
  refine .mv ?_
  refine sq ?_
  refine .mv ?_
  refine sq ?_
  refine .r0 ?_
  refine sq ?_
  refine .r0 ?_
  refine sq ?_
  refine .mv ?_
  apply wpSq_end
  refine hK11 _ _ ?_
  refine wp_ret ?_
  try dsimp only [Exit.then, Exit.inBlock]
  refine bodyPost_ret (v := (.bool true)) (by simp [results, Tryz.results4, go_sem]) rfl ?_
  have hb := hs.b
  exact ⟨rfl, hb⟩
set_option maxHeartbeats 8000000 in
set_option maxRecDepth 20000 in
theorem sums7_bad2 (ha : CN w va x l y m u k v n) (hq : CN w vb p l2 q m2 s k2 t n2) (hl : l ≤ 1048576) (hm : m ≤ 1048576) (hk : k ≤ 1048576) (hn : n ≤ 1048576) (hl2 : l2 ≤ 1048576) (hm2 : m2 ≤ 1048576) (hk2 : k2 ≤ 1048576) (hn2 : n2 ≤ 1048576) (hy : y ≠ 0) (hv : v ≠ 0) (h : q = 0 ∨ t = 0) (htab : Lib.TabIs Tryz.prog w p10 .u64 Lib.pow10Tab)
    (hQ : ∀ w' va vb, CN w' va x l y m u k v n → CN w' vb p l2 q m2 s k2 t n2 → Calls Tryz.prog 9 #[va, vb] w' fun e w'' => e = .returned (.tuple #[.agg #[.bool false, .slice none 0 0, .bool false, .slice none 0 0, .bool false, .slice none 0 0, .bool false, .slice none 0 0], .int .i64 5]) ∧ Below w'.heap.size w' w'')
    (hB : (y = 0 ∨ v = 0) ∨ (q = 0 ∨ t = 0)) :
    Calls Tryz.prog 4 #[va, vb] w fun e w' => e = .returned (.bool true) ∧ Below w.heap.size w w' := by
  have htabs := Lib.tabBelow_of_tabIs htab
  have HB := hide hB
  have HQ := hide hQ
  have H := hide h
  have HA := hide (And.intro hy hv)
  clear hB hQ h hy hv
  obtain ⟨n_0a, o_0a, k_0a, c_0a, n_0b, o_0b, k_0b, c_0b, n_0c, o_0c, k_0c, c_0c, n_0d, o_0d, k_0d, c_0d, rfl, ha1, ha2, ha3, ha4⟩ := ha
  obtain ⟨n_1a, o_1a, k_1a, c_1a, n_1b, o_1b, k_1b, c_1b, n_1c, o_1c, k_1c, c_1c, n_1d, o_1d, k_1d, c_1d, rfl, hq1, hq2, hq3, hq4⟩ := hq
  go_enter Tryz.func4, Tryz.ntmps4
  have hs := St.nil w
  refine wp_seq_k ?_
  intro K1 hK1
  refine rg [0, 1, 2] ?_
  refine sq ?_
  refine .al hs ?_; clear hs; intro p_b1 w_1 hs n1 kb_b1
  refine sq ?_
  refine .al hs ?_; clear hs; intro p_b2 w_2 hs n2 kb_b2
  refine sq ?_
  refine .mv ?_
  apply wpSq_end
  refine hK1 _ _ ?_
  refine wp_seq_k ?_
  intro K2 hK2
  refine rg [0, 1, 2, 3, 4, 5, 6, 7, 8] ?_
  refine sq ?_
  intro K hK
  have d0 : w_2.cell? ⟨p_b1, 0, none⟩ = some (.bool n_0a) := hs.g1.cell 0 rfl
  have d1 : w_2.cell? ⟨p_b1, 1, none⟩ = some (.slice o_0a k_0a c_0a) := hs.g1.cell 1 rfl
  have d2 : w_2.cell? ⟨p_b1, 2, none⟩ = some (.bool n_0b) := hs.g1.cell 2 rfl
  have d3 : w_2.cell? ⟨p_b1, 3, none⟩ = some (.slice o_0b k_0b c_0b) := hs.g1.cell 3 rfl
  have d4 : w_2.cell? ⟨p_b1, 4, none⟩ = some (.bool n_0c) := hs.g1.cell 4 rfl
  have d5 : w_2.cell? ⟨p_b1, 5, none⟩ = some (.slice o_0c k_0c c_0c) := hs.g1.cell 5 rfl
  have d6 : w_2.cell? ⟨p_b1, 6, none⟩ = some (.bool n_0d) := hs.g1.cell 6 rfl
  have d7 : w_2.cell? ⟨p_b1, 7, none⟩ = some (.slice o_0d k_0d c_0d) := hs.g1.cell 7 rfl
  go_big_op; refine hK _ _ rfl trivial ?_; clear hK K d0 d1 d2 d3 d4 d5 d6 d7
  refine sq ?_
  intro K hK
  have d0 : w_2.cell? ⟨p_b2, 0, none⟩ = some (.bool n_1a) := hs.g0.cell 0 rfl
  have d1 : w_2.cell? ⟨p_b2, 1, none⟩ = some (.slice o_1a k_1a c_1a) := hs.g0.cell 1 rfl
  have d2 : w_2.cell? ⟨p_b2, 2, none⟩ = some (.bool n_1b) := hs.g0.cell 2 rfl
  have d3 : w_2.cell? ⟨p_b2, 3, none⟩ = some (.slice o_1b k_1b c_1b) := hs.g0.cell 3 rfl
  have d4 : w_2.cell? ⟨p_b2, 4, none⟩ = some (.bool n_1c) := hs.g0.cell 4 rfl
  have d5 : w_2.cell? ⟨p_b2, 5, none⟩ = some (.slice o_1c k_1c c_1c) := hs.g0.cell 5 rfl
  have d6 : w_2.cell? ⟨p_b2, 6, none⟩ = some (.bool n_1d) := hs.g0.cell 6 rfl
  have d7 : w_2.cell? ⟨p_b2, 7, none⟩ = some (.slice o_1d k_1d c_1d) := hs.g0.cell 7 rfl
  go_big_op; refine hK _ _ rfl trivial ?_; clear hK K d0 d1 d2 d3 d4 d5 d6 d7
  refine sq ?_
  intro K hK
  have k0_2 := (kb n1).b n2
  replace ha1 := ha1.k k0_2
  replace ha2 := ha2.k k0_2
  replace ha3 := ha3.k k0_2
  replace ha4 := ha4.k k0_2
  replace hq1 := hq1.k k0_2
  replace hq2 := hq2.k k0_2
  replace hq3 := hq3.k k0_2
  replace hq4 := hq4.k k0_2
  go_big_op
  go_fit (gfAdd_bad (CN.mk' ha1 ha2 ha3 ha4) (CN.mk' hq1 hq2 hq3 hq4) (by omega) (by omega) (by omega) (by omega) (by omega) (by omega) (by omega) (by omega) HB.out)
  rintro e w_3 ⟨rfl, hb_3⟩
  replace hs := hs.bl hb_3
  refine hK _ _ rfl trivial ?_
  clear hK K
  refine sq ?_
  refine .mv ?_
  refine sq ?_
  refine .r0 ?_
  refine sq ?_
  refine .r0 ?_
  refine sq ?_
  refine .al hs ?_; clear hs; intro p_b3 w_4 hs n4 kb_b3
  refine sq ?_
  intro K hK
  have xs := hs.g0
  have d0 : w_4.cell? ⟨p_b3, 0, none⟩ = some (.bool false) := hs.g0.cell 0 rfl
  have d1 : w_4.cell? ⟨p_b3, 1, none⟩ = some (.slice none 0 0) := hs.g0.cell 1 rfl
  have d2 : w_4.cell? ⟨p_b3, 2, none⟩ = some (.bool false) := hs.g0.cell 2 rfl
  have d3 : w_4.cell? ⟨p_b3, 3, none⟩ = some (.slice none 0 0) := hs.g0.cell 3 rfl
  have d4 : w_4.cell? ⟨p_b3, 4, none⟩ = some (.bool false) := hs.g0.cell 4 rfl
  have d5 : w_4.cell? ⟨p_b3, 5, none⟩ = some (.slice none 0 0) := hs.g0.cell 5 rfl
  have d6 : w_4.cell? ⟨p_b3, 6, none⟩ = some (.bool false) := hs.g0.cell 6 rfl
  have d7 : w_4.cell? ⟨p_b3, 7, none⟩ = some (.slice none 0 0) := hs.g0.cell 7 rfl
  have f0 := xs.free 0; have f1 := xs.free 1; have f2 := xs.free 2; have f3 := xs.free 3; have f4 := xs.free 4; have f5 := xs.free 5; have f6 := xs.free 6; have f7 := xs.free 7
  go_big_op
  have hd5 := xs.nod rfl rfl
  obtain ⟨w_5_0, eW, xs_0, ho_0⟩ : ∃ w', ((((w_4.setCell ⟨p_b3, 0, none⟩ (.bool false)).setCell ⟨p_b3, 1, none⟩ (.slice none 0 0)).setCell ⟨p_b3, 2, none⟩ (.bool false)).setCell ⟨p_b3, 3, none⟩ (.slice none 0 0)) = w' ∧ Bs w' p_b3 #[.bool false, .slice none 0 0, .bool false, .slice none 0 0, .bool false, .slice none 0 0, .bool false, .slice none 0 0] 28 ∧ Only p_b3 w_4 w' := xs.setN [(0, .bool false), (1, .slice none 0 0), (2, .bool false), (3, .slice none 0 0)]
  rw [eW]; clear eW
  obtain ⟨w_5, eW, xs', ho_4⟩ : ∃ w', ((((w_5_0.setCell ⟨p_b3, 4, none⟩ (.bool false)).setCell ⟨p_b3, 5, none⟩ (.slice none 0 0)).setCell ⟨p_b3, 6, none⟩ (.bool false)).setCell ⟨p_b3, 7, none⟩ (.slice none 0 0)) = w' ∧ Bs w' p_b3 #[.bool false, .slice none 0 0, .bool false, .slice none 0 0, .bool false, .slice none 0 0, .bool false, .slice none 0 0] 28 ∧ Only p_b3 w_5_0 w' := xs_0.setN [(4, .bool false), (5, .slice none 0 0), (6, .bool false), (7, .slice none 0 0)]
  rw [eW]; clear eW xs_0
  have ho5 := (ho_0.trans ho_4)
  clear ho_0 ho_4 d0 d1 d2 d3 d4 d5 d6 d7 f0 f1 f2 f3 f4 f5 f6 f7 xs
  replace hs := hs.u0 kb_b3 xs' ho5; clear xs'
  refine hK _ _ rfl trivial ?_; clear hK K
  refine sq ?_
  refine .mv ?_
  apply wpSq_end
  refine hK2 _ _ ?_
  refine wp_seq_k ?_
  intro K3 hK3
  refine rg [0, 1, 2, 3, 4, 5, 6, 7, 8] ?_
  refine sq ?_
  intro K hK
  have d0 : w_5.cell? ⟨p_b1, 0, none⟩ = some (.bool n_0a) := hs.g2.cell 0 rfl
  have d1 : w_5.cell? ⟨p_b1, 1, none⟩ = some (.slice o_0a k_0a c_0a) := hs.g2.cell 1 rfl
  have d2 : w_5.cell? ⟨p_b1, 2, none⟩ = some (.bool n_0b) := hs.g2.cell 2 rfl
  have d3 : w_5.cell? ⟨p_b1, 3, none⟩ = some (.slice o_0b k_0b c_0b) := hs.g2.cell 3 rfl
  have d4 : w_5.cell? ⟨p_b1, 4, none⟩ = some (.bool n_0c) := hs.g2.cell 4 rfl
  have d5 : w_5.cell? ⟨p_b1, 5, none⟩ = some (.slice o_0c k_0c c_0c) := hs.g2.cell 5 rfl
  have d6 : w_5.cell? ⟨p_b1, 6, none⟩ = some (.bool n_0d) := hs.g2.cell 6 rfl
  have d7 : w_5.cell? ⟨p_b1, 7, none⟩ = some (.slice o_0d k_0d c_0d) := hs.g2.cell 7 rfl
  go_big_op; refine hK _ _ rfl trivial ?_; clear hK K d0 d1 d2 d3 d4 d5 d6 d7
  refine sq ?_
  intro K hK
  have d0 : w_5.cell? ⟨p_b2, 0, none⟩ = some (.bool n_1a) := hs.g1.cell 0 rfl
  have d1 : w_5.cell? ⟨p_b2, 1, none⟩ = some (.slice o_1a k_1a c_1a) := hs.g1.cell 1 rfl
  have d2 : w_5.cell? ⟨p_b2, 2, none⟩ = some (.bool n_1b) := hs.g1.cell 2 rfl
  have d3 : w_5.cell? ⟨p_b2, 3, none⟩ = some (.slice o_1b k_1b c_1b) := hs.g1.cell 3 rfl
  have d4 : w_5.cell? ⟨p_b2, 4, none⟩ = some (.bool n_1c) := hs.g1.cell 4 rfl
  have d5 : w_5.cell? ⟨p_b2, 5, none⟩ = some (.slice o_1c k_1c c_1c) := hs.g1.cell 5 rfl
  have d6 : w_5.cell? ⟨p_b2, 6, none⟩ = some (.bool n_1d) := hs.g1.cell 6 rfl
  have d7 : w_5.cell? ⟨p_b2, 7, none⟩ = some (.slice o_1d k_1d c_1d) := hs.g1.cell 7 rfl
  go_big_op; refine hK _ _ rfl trivial ?_; clear hK K d0 d1 d2 d3 d4 d5 d6 d7
  refine sq ?_
  intro K hK
  have k2_5 := ((kb hb_3).b n4).o hd5 ho5
  replace ha1 := ha1.k k2_5
  replace ha2 := ha2.k k2_5
  replace ha3 := ha3.k k2_5
  replace ha4 := ha4.k k2_5
  replace hq1 := hq1.k k2_5
  replace hq2 := hq2.k k2_5
  replace hq3 := hq3.k k2_5
  replace hq4 := hq4.k k2_5
  go_big_op
  go_fit (gfSub_bad (CN.mk' ha1 ha2 ha3 ha4) (CN.mk' hq1 hq2 hq3 hq4) (by omega) (by omega) (by omega) (by omega) (by omega) (by omega) (by omega) (by omega) HB.out)
  rintro e w_6 ⟨rfl, hb_6⟩
  replace hs := hs.bl hb_6
  refine hK _ _ rfl trivial ?_
  clear hK K
  refine sq ?_
  refine .mv ?_
  refine sq ?_
  refine .r0 ?_
  refine sq ?_
  refine .r0 ?_
  refine sq ?_
  refine .al hs ?_; clear hs; intro p_b4 w_7 hs n7 kb_b4
  refine sq ?_
  intro K hK
  have xs := hs.g0
  have d0 : w_7.cell? ⟨p_b4, 0, none⟩ = some (.bool false) := hs.g0.cell 0 rfl
  have d1 : w_7.cell? ⟨p_b4, 1, none⟩ = some (.slice none 0 0) := hs.g0.cell 1 rfl
  have d2 : w_7.cell? ⟨p_b4, 2, none⟩ = some (.bool false) := hs.g0.cell 2 rfl
  have d3 : w_7.cell? ⟨p_b4, 3, none⟩ = some (.slice none 0 0) := hs.g0.cell 3 rfl
  have d4 : w_7.cell? ⟨p_b4, 4, none⟩ = some (.bool false) := hs.g0.cell 4 rfl
  have d5 : w_7.cell? ⟨p_b4, 5, none⟩ = some (.slice none 0 0) := hs.g0.cell 5 rfl
  have d6 : w_7.cell? ⟨p_b4, 6, none⟩ = some (.bool false) := hs.g0.cell 6 rfl
  have d7 : w_7.cell? ⟨p_b4, 7, none⟩ = some (.slice none 0 0) := hs.g0.cell 7 rfl
  have f0 := xs.free 0; have f1 := xs.free 1; have f2 := xs.free 2; have f3 := xs.free 3; have f4 := xs.free 4; have f5 := xs.free 5; have f6 := xs.free 6; have f7 := xs.free 7
  go_big_op
  have hd8 := xs.nod rfl rfl
  obtain ⟨w_8_0, eW, xs_0, ho_0⟩ : ∃ w', ((((w_7.setCell ⟨p_b4, 0, none⟩ (.bool false)).setCell ⟨p_b4, 1, none⟩ (.slice none 0 0)).setCell ⟨p_b4, 2, none⟩ (.bool false)).setCell ⟨p_b4, 3, none⟩ (.slice none 0 0)) = w' ∧ Bs w' p_b4 #[.bool false, .slice none 0 0, .bool false, .slice none 0 0, .bool false, .slice none 0 0, .bool false, .slice none 0 0] 28 ∧ Only p_b4 w_7 w' := xs.setN [(0, .bool false), (1, .slice none 0 0), (2, .bool false), (3, .slice none 0 0)]
  rw [eW]; clear eW
  obtain ⟨w_8, eW, xs', ho_4⟩ : ∃ w', ((((w_8_0.setCell ⟨p_b4, 4, none⟩ (.bool false)).setCell ⟨p_b4, 5, none⟩ (.slice none 0 0)).setCell ⟨p_b4, 6, none⟩ (.bool false)).setCell ⟨p_b4, 7, none⟩ (.slice none 0 0)) = w' ∧ Bs w' p_b4 #[.bool false, .slice none 0 0, .bool false, .slice none 0 0, .bool false, .slice none 0 0, .bool false, .slice none 0 0] 28 ∧ Only p_b4 w_8_0 w' := xs_0.setN [(4, .bool false), (5, .slice none 0 0), (6, .bool false), (7, .slice none 0 0)]
  rw [eW]; clear eW xs_0
  have ho8 := (ho_0.trans ho_4)
  clear ho_0 ho_4 d0 d1 d2 d3 d4 d5 d6 d7 f0 f1 f2 f3 f4 f5 f6 f7 xs
  replace hs := hs.u0 kb_b4 xs' ho8; clear xs'
  refine hK _ _ rfl trivial ?_; clear hK K
  refine sq ?_
  refine .mv ?_
  apply wpSq_end
  refine hK3 _ _ ?_
  refine wp_seq_k ?_
  intro K4 hK4
  refine rg [0, 1, 2, 3, 4, 5, 6, 7, 8] ?_
  refine sq ?_
  intro K hK
  have d0 : w_8.cell? ⟨p_b1, 0, none⟩ = some (.bool n_0a) := hs.g3.cell 0 rfl
  have d1 : w_8.cell? ⟨p_b1, 1, none⟩ = some (.slice o_0a k_0a c_0a) := hs.g3.cell 1 rfl
  have d2 : w_8.cell? ⟨p_b1, 2, none⟩ = some (.bool n_0b) := hs.g3.cell 2 rfl
  have d3 : w_8.cell? ⟨p_b1, 3, none⟩ = some (.slice o_0b k_0b c_0b) := hs.g3.cell 3 rfl
  have d4 : w_8.cell? ⟨p_b1, 4, none⟩ = some (.bool n_0c) := hs.g3.cell 4 rfl
  have d5 : w_8.cell? ⟨p_b1, 5, none⟩ = some (.slice o_0c k_0c c_0c) := hs.g3.cell 5 rfl
  have d6 : w_8.cell? ⟨p_b1, 6, none⟩ = some (.bool n_0d) := hs.g3.cell 6 rfl
  have d7 : w_8.cell? ⟨p_b1, 7, none⟩ = some (.slice o_0d k_0d c_0d) := hs.g3.cell 7 rfl
  go_big_op; refine hK _ _ rfl trivial ?_; clear hK K d0 d1 d2 d3 d4 d5 d6 d7
  refine sq ?_
  intro K hK
  have d0 : w_8.cell? ⟨p_b2, 0, none⟩ = some (.bool n_1a) := hs.g2.cell 0 rfl
  have d1 : w_8.cell? ⟨p_b2, 1, none⟩ = some (.slice o_1a k_1a c_1a) := hs.g2.cell 1 rfl
  have d2 : w_8.cell? ⟨p_b2, 2, none⟩ = some (.bool n_1b) := hs.g2.cell 2 rfl
  have d3 : w_8.cell? ⟨p_b2, 3, none⟩ = some (.slice o_1b k_1b c_1b) := hs.g2.cell 3 rfl
  have d4 : w_8.cell? ⟨p_b2, 4, none⟩ = some (.bool n_1c) := hs.g2.cell 4 rfl
  have d5 : w_8.cell? ⟨p_b2, 5, none⟩ = some (.slice o_1c k_1c c_1c) := hs.g2.cell 5 rfl
  have d6 : w_8.cell? ⟨p_b2, 6, none⟩ = some (.bool n_1d) := hs.g2.cell 6 rfl
  have d7 : w_8.cell? ⟨p_b2, 7, none⟩ = some (.slice o_1d k_1d c_1d) := hs.g2.cell 7 rfl
  go_big_op; refine hK _ _ rfl trivial ?_; clear hK K d0 d1 d2 d3 d4 d5 d6 d7
  refine sq ?_
  intro K hK
  have k5_8 := ((kb hb_6).b n7).o hd8 ho8
  replace ha1 := ha1.k k5_8
  replace ha2 := ha2.k k5_8
  replace ha3 := ha3.k k5_8
  replace ha4 := ha4.k k5_8
  replace hq1 := hq1.k k5_8
  replace hq2 := hq2.k k5_8
  replace hq3 := hq3.k k5_8
  replace hq4 := hq4.k k5_8
  go_big_op
  go_fit (gfMul_bad (CN.mk' ha1 ha2 ha3 ha4) (CN.mk' hq1 hq2 hq3 hq4) (by omega) (by omega) (by omega) (by omega) (by omega) (by omega) (by omega) (by omega) HB.out)
  rintro e w_9 ⟨rfl, hb_9⟩
  replace hs := hs.bl hb_9
  refine hK _ _ rfl trivial ?_
  clear hK K
  refine sq ?_
  refine .mv ?_
  refine sq ?_
  refine .r0 ?_
  refine sq ?_
  refine .r0 ?_
  refine sq ?_
  refine .al hs ?_; clear hs; intro p_b5 w_10 hs n10 kb_b5
  refine sq ?_
  intro K hK
  have xs := hs.g0
  have d0 : w_10.cell? ⟨p_b5, 0, none⟩ = some (.bool false) := hs.g0.cell 0 rfl
  have d1 : w_10.cell? ⟨p_b5, 1, none⟩ = some (.slice none 0 0) := hs.g0.cell 1 rfl
  have d2 : w_10.cell? ⟨p_b5, 2, none⟩ = some (.bool false) := hs.g0.cell 2 rfl
  have d3 : w_10.cell? ⟨p_b5, 3, none⟩ = some (.slice none 0 0) := hs.g0.cell 3 rfl
  have d4 : w_10.cell? ⟨p_b5, 4, none⟩ = some (.bool false) := hs.g0.cell 4 rfl
  have d5 : w_10.cell? ⟨p_b5, 5, none⟩ = some (.slice none 0 0) := hs.g0.cell 5 rfl
  have d6 : w_10.cell? ⟨p_b5, 6, none⟩ = some (.bool false) := hs.g0.cell 6 rfl
  have d7 : w_10.cell? ⟨p_b5, 7, none⟩ = some (.slice none 0 0) := hs.g0.cell 7 rfl
  have f0 := xs.free 0; have f1 := xs.free 1; have f2 := xs.free 2; have f3 := xs.free 3; have f4 := xs.free 4; have f5 := xs.free 5; have f6 := xs.free 6; have f7 := xs.free 7
  go_big_op
  have hd11 := xs.nod rfl rfl
  obtain ⟨w_11_0, eW, xs_0, ho_0⟩ : ∃ w', ((((w_10.setCell ⟨p_b5, 0, none⟩ (.bool false)).setCell ⟨p_b5, 1, none⟩ (.slice none 0 0)).setCell ⟨p_b5, 2, none⟩ (.bool false)).setCell ⟨p_b5, 3, none⟩ (.slice none 0 0)) = w' ∧ Bs w' p_b5 #[.bool false, .slice none 0 0, .bool false, .slice none 0 0, .bool false, .slice none 0 0, .bool false, .slice none 0 0] 28 ∧ Only p_b5 w_10 w' := xs.setN [(0, .bool false), (1, .slice none 0 0), (2, .bool false), (3, .slice none 0 0)]
  rw [eW]; clear eW
  obtain ⟨w_11, eW, xs', ho_4⟩ : ∃ w', ((((w_11_0.setCell ⟨p_b5, 4, none⟩ (.bool false)).setCell ⟨p_b5, 5, none⟩ (.slice none 0 0)).setCell ⟨p_b5, 6, none⟩ (.bool false)).setCell ⟨p_b5, 7, none⟩ (.slice none 0 0)) = w' ∧ Bs w' p_b5 #[.bool false, .slice none 0 0, .bool false, .slice none 0 0, .bool false, .slice none 0 0, .bool false, .slice none 0 0] 28 ∧ Only p_b5 w_11_0 w' := xs_0.setN [(4, .bool false), (5, .slice none 0 0), (6, .bool false), (7, .slice none 0 0)]
  rw [eW]; clear eW xs_0
  have ho11 := (ho_0.trans ho_4)
  clear ho_0 ho_4 d0 d1 d2 d3 d4 d5 d6 d7 f0 f1 f2 f3 f4 f5 f6 f7 xs
  replace hs := hs.u0 kb_b5 xs' ho11; clear xs'
  refine hK _ _ rfl trivial ?_; clear hK K
  refine sq ?_
  refine .mv ?_
  apply wpSq_end
  refine hK4 _ _ ?_
  refine wp_seq_k ?_
  intro K5 hK5
  refine rg [0, 1, 2, 3, 4, 5, 6, 7, 8] ?_
  refine sq ?_
  intro K hK
  have d0 : w_11.cell? ⟨p_b1, 0, none⟩ = some (.bool n_0a) := hs.g4.cell 0 rfl
  have d1 : w_11.cell? ⟨p_b1, 1, none⟩ = some (.slice o_0a k_0a c_0a) := hs.g4.cell 1 rfl
  have d2 : w_11.cell? ⟨p_b1, 2, none⟩ = some (.bool n_0b) := hs.g4.cell 2 rfl
  have d3 : w_11.cell? ⟨p_b1, 3, none⟩ = some (.slice o_0b k_0b c_0b) := hs.g4.cell 3 rfl
  have d4 : w_11.cell? ⟨p_b1, 4, none⟩ = some (.bool n_0c) := hs.g4.cell 4 rfl
  have d5 : w_11.cell? ⟨p_b1, 5, none⟩ = some (.slice o_0c k_0c c_0c) := hs.g4.cell 5 rfl
  have d6 : w_11.cell? ⟨p_b1, 6, none⟩ = some (.bool n_0d) := hs.g4.cell 6 rfl
  have d7 : w_11.cell? ⟨p_b1, 7, none⟩ = some (.slice o_0d k_0d c_0d) := hs.g4.cell 7 rfl
  go_big_op; refine hK _ _ rfl trivial ?_; clear hK K d0 d1 d2 d3 d4 d5 d6 d7
  refine sq ?_
  intro K hK
  have d0 : w_11.cell? ⟨p_b2, 0, none⟩ = some (.bool n_1a) := hs.g3.cell 0 rfl
  have d1 : w_11.cell? ⟨p_b2, 1, none⟩ = some (.slice o_1a k_1a c_1a) := hs.g3.cell 1 rfl
  have d2 : w_11.cell? ⟨p_b2, 2, none⟩ = some (.bool n_1b) := hs.g3.cell 2 rfl
  have d3 : w_11.cell? ⟨p_b2, 3, none⟩ = some (.slice o_1b k_1b c_1b) := hs.g3.cell 3 rfl
  have d4 : w_11.cell? ⟨p_b2, 4, none⟩ = some (.bool n_1c) := hs.g3.cell 4 rfl
  have d5 : w_11.cell? ⟨p_b2, 5, none⟩ = some (.slice o_1c k_1c c_1c) := hs.g3.cell 5 rfl
  have d6 : w_11.cell? ⟨p_b2, 6, none⟩ = some (.bool n_1d) := hs.g3.cell 6 rfl
  have d7 : w_11.cell? ⟨p_b2, 7, none⟩ = some (.slice o_1d k_1d c_1d) := hs.g3.cell 7 rfl
  go_big_op; refine hK _ _ rfl trivial ?_; clear hK K d0 d1 d2 d3 d4 d5 d6 d7
  refine sq ?_
  intro K hK
  have k8_11 := ((kb hb_9).b n10).o hd11 ho11
  replace ha1 := ha1.k k8_11
  replace ha2 := ha2.k k8_11
  replace ha3 := ha3.k k8_11
  replace ha4 := ha4.k k8_11
  replace hq1 := hq1.k k8_11
  replace hq2 := hq2.k k8_11
  replace hq3 := hq3.k k8_11
  replace hq4 := hq4.k k8_11
  go_big_op
  go_fit (HQ.out _ _ _ (.mk' ha1 ha2 ha3 ha4) (.mk' hq1 hq2 hq3 hq4))
  rintro e w_12 ⟨rfl, hb_12⟩
  replace hs := hs.bl hb_12
  refine hK _ _ rfl trivial ?_
  clear hK K
  refine sq ?_
  refine .mv ?_
  refine sq ?_
  refine .r0 ?_
  refine sq ?_
  refine .r0 ?_
  refine sq ?_
  refine .al hs ?_; clear hs; intro p_b6 w_13 hs n13 kb_b6
  refine sq ?_
  intro K hK
  have xs := hs.g0
  have d0 : w_13.cell? ⟨p_b6, 0, none⟩ = some (.bool false) := hs.g0.cell 0 rfl
  have d1 : w_13.cell? ⟨p_b6, 1, none⟩ = some (.slice none 0 0) := hs.g0.cell 1 rfl
  have d2 : w_13.cell? ⟨p_b6, 2, none⟩ = some (.bool false) := hs.g0.cell 2 rfl
  have d3 : w_13.cell? ⟨p_b6, 3, none⟩ = some (.slice none 0 0) := hs.g0.cell 3 rfl
  have d4 : w_13.cell? ⟨p_b6, 4, none⟩ = some (.bool false) := hs.g0.cell 4 rfl
  have d5 : w_13.cell? ⟨p_b6, 5, none⟩ = some (.slice none 0 0) := hs.g0.cell 5 rfl
  have d6 : w_13.cell? ⟨p_b6, 6, none⟩ = some (.bool false) := hs.g0.cell 6 rfl
  have d7 : w_13.cell? ⟨p_b6, 7, none⟩ = some (.slice none 0 0) := hs.g0.cell 7 rfl
  have f0 := xs.free 0; have f1 := xs.free 1; have f2 := xs.free 2; have f3 := xs.free 3; have f4 := xs.free 4; have f5 := xs.free 5; have f6 := xs.free 6; have f7 := xs.free 7
  go_big_op
  have hd14 := xs.nod rfl rfl
  obtain ⟨w_14_0, eW, xs_0, ho_0⟩ : ∃ w', ((((w_13.setCell ⟨p_b6, 0, none⟩ (.bool false)).setCell ⟨p_b6, 1, none⟩ (.slice none 0 0)).setCell ⟨p_b6, 2, none⟩ (.bool false)).setCell ⟨p_b6, 3, none⟩ (.slice none 0 0)) = w' ∧ Bs w' p_b6 #[.bool false, .slice none 0 0, .bool false, .slice none 0 0, .bool false, .slice none 0 0, .bool false, .slice none 0 0] 28 ∧ Only p_b6 w_13 w' := xs.setN [(0, .bool false), (1, .slice none 0 0), (2, .bool false), (3, .slice none 0 0)]
  rw [eW]; clear eW
  obtain ⟨w_14, eW, xs', ho_4⟩ : ∃ w', ((((w_14_0.setCell ⟨p_b6, 4, none⟩ (.bool false)).setCell ⟨p_b6, 5, none⟩ (.slice none 0 0)).setCell ⟨p_b6, 6, none⟩ (.bool false)).setCell ⟨p_b6, 7, none⟩ (.slice none 0 0)) = w' ∧ Bs w' p_b6 #[.bool false, .slice none 0 0, .bool false, .slice none 0 0, .bool false, .slice none 0 0, .bool false, .slice none 0 0] 28 ∧ Only p_b6 w_14_0 w' := xs_0.setN [(4, .bool false), (5, .slice none 0 0), (6, .bool false), (7, .slice none 0 0)]
  rw [eW]; clear eW xs_0
  have ho14 := (ho_0.trans ho_4)
  clear ho_0 ho_4 d0 d1 d2 d3 d4 d5 d6 d7 f0 f1 f2 f3 f4 f5 f6 f7 xs
  replace hs := hs.u0 kb_b6 xs' ho14; clear xs'
  refine hK _ _ rfl trivial ?_; clear hK K
  refine sq ?_
  refine .mv ?_
  apply wpSq_end
  refine hK5 _ _ ?_
  refine wp_seq_k ?_
  intro K6 hK6
  refine rg [0, 1, 2, 3, 4, 5, 6, 7] ?_
  refine sq ?_
  intro K hK
  have d0 : w_14.cell? ⟨p_b1, 0, none⟩ = some (.bool n_0a) := hs.g5.cell 0 rfl
  have d1 : w_14.cell? ⟨p_b1, 1, none⟩ = some (.slice o_0a k_0a c_0a) := hs.g5.cell 1 rfl
  have d2 : w_14.cell? ⟨p_b1, 2, none⟩ = some (.bool n_0b) := hs.g5.cell 2 rfl
  have d3 : w_14.cell? ⟨p_b1, 3, none⟩ = some (.slice o_0b k_0b c_0b) := hs.g5.cell 3 rfl
  have d4 : w_14.cell? ⟨p_b1, 4, none⟩ = some (.bool n_0c) := hs.g5.cell 4 rfl
  have d5 : w_14.cell? ⟨p_b1, 5, none⟩ = some (.slice o_0c k_0c c_0c) := hs.g5.cell 5 rfl
  have d6 : w_14.cell? ⟨p_b1, 6, none⟩ = some (.bool n_0d) := hs.g5.cell 6 rfl
  have d7 : w_14.cell? ⟨p_b1, 7, none⟩ = some (.slice o_0d k_0d c_0d) := hs.g5.cell 7 rfl
  go_big_op; refine hK _ _ rfl trivial ?_; clear hK K d0 d1 d2 d3 d4 d5 d6 d7
  refine sq ?_
  intro K hK
  have d0 : w_14.cell? ⟨p_b2, 0, none⟩ = some (.bool n_1a) := hs.g4.cell 0 rfl
  have d1 : w_14.cell? ⟨p_b2, 1, none⟩ = some (.slice o_1a k_1a c_1a) := hs.g4.cell 1 rfl
  have d2 : w_14.cell? ⟨p_b2, 2, none⟩ = some (.bool n_1b) := hs.g4.cell 2 rfl
  have d3 : w_14.cell? ⟨p_b2, 3, none⟩ = some (.slice o_1b k_1b c_1b) := hs.g4.cell 3 rfl
  have d4 : w_14.cell? ⟨p_b2, 4, none⟩ = some (.bool n_1c) := hs.g4.cell 4 rfl
  have d5 : w_14.cell? ⟨p_b2, 5, none⟩ = some (.slice o_1c k_1c c_1c) := hs.g4.cell 5 rfl
  have d6 : w_14.cell? ⟨p_b2, 6, none⟩ = some (.bool n_1d) := hs.g4.cell 6 rfl
  have d7 : w_14.cell? ⟨p_b2, 7, none⟩ = some (.slice o_1d k_1d c_1d) := hs.g4.cell 7 rfl
  go_big_op; refine hK _ _ rfl trivial ?_; clear hK K d0 d1 d2 d3 d4 d5 d6 d7
  refine sq ?_
  intro K hK
  have k11_14 := ((kb hb_12).b n13).o hd14 ho14
  replace ha1 := ha1.k k11_14
  replace ha2 := ha2.k k11_14
  replace ha3 := ha3.k k11_14
  replace ha4 := ha4.k k11_14
  replace hq1 := hq1.k k11_14
  replace hq2 := hq2.k k11_14
  replace hq3 := hq3.k k11_14
  replace hq4 := hq4.k k11_14
  go_big_op
  go_fit (gfEqual_bad (.mk' ha1 ha2 ha3 ha4) (.mk' hq1 hq2 hq3 hq4) (by omega) (by omega) (by omega) (by omega) (by omega) (by omega) (by omega) (by omega) HB.out)
  rintro e w_15 ⟨rfl, hb_15⟩
  replace hs := hs.bl hb_15
  refine hK _ _ rfl trivial ?_
  clear hK K
  refine sq ?_
  refine .mv ?_
  refine sq ?_
  refine .r0 ?_
  refine sq ?_
  refine .r0 ?_
  refine sq ?_
  refine .mv ?_
  refine sq ?_
  refine .mv ?_
  apply wpSq_end
  refine hK6 _ _ ?_
  refine wp_seq_k ?_
  intro K7 hK7
  refine wp_seq_k ?_
  intro K8 hK8
  refine rg [0, 1] ?_
  refine sq ?_
  intro K hK
  have hb := hs.b
  go_big_op
  go_fit (awake7_any _ (htabs _ hb))
  rintro e w_16 ⟨rfl, hb_16⟩
  clear hb
  replace hs := hs.bl hb_16
  refine hK _ _ rfl trivial ?_
  clear hK K
  refine sq ?_
  refine .r0 ?_
  apply wpSq_end
  refine hK8 _ _ ?_
  refine cf ?_
  refine wp_skip ?_
  refine hK7 _ _ ?_
  refine wp_seq_k ?_
  intro K9 hK9
  refine wp_seq_k ?_
  intro K10 hK10
  refine rg [0, 1, 2, 3, 4, 5] ?_
  refine sq ?_
  intro K hK
  have d0 : w_16.cell? ⟨p_b1, 0, none⟩ = some (.bool n_0a) := hs.g5.cell 0 rfl
  have d1 : w_16.cell? ⟨p_b1, 1, none⟩ = some (.slice o_0a k_0a c_0a) := hs.g5.cell 1 rfl
  have d2 : w_16.cell? ⟨p_b1, 2, none⟩ = some (.bool n_0b) := hs.g5.cell 2 rfl
  have d3 : w_16.cell? ⟨p_b1, 3, none⟩ = some (.slice o_0b k_0b c_0b) := hs.g5.cell 3 rfl
  have d4 : w_16.cell? ⟨p_b1, 4, none⟩ = some (.bool n_0c) := hs.g5.cell 4 rfl
  have d5 : w_16.cell? ⟨p_b1, 5, none⟩ = some (.slice o_0c k_0c c_0c) := hs.g5.cell 5 rfl
  have d6 : w_16.cell? ⟨p_b1, 6, none⟩ = some (.bool n_0d) := hs.g5.cell 6 rfl
  have d7 : w_16.cell? ⟨p_b1, 7, none⟩ = some (.slice o_0d k_0d c_0d) := hs.g5.cell 7 rfl
  go_big_op; refine hK _ _ rfl trivial ?_; clear hK K d0 d1 d2 d3 d4 d5 d6 d7
  refine sq ?_
  intro K hK
  have k14_16 := (kb hb_15).b hb_16
  replace ha1 := ha1.k k14_16
  replace ha2 := ha2.k k14_16
  replace ha3 := ha3.k k14_16
  replace ha4 := ha4.k k14_16
  go_big_op
  go_fit (r7Bad_no (CN.mk' ha1 ha2 ha3 ha4) (by omega) (by omega) (by omega) (by omega) HA.out.1 HA.out.2)
  rintro e w_17 ⟨rfl, hb_17⟩
  replace hs := hs.bl hb_17
  refine hK _ _ rfl trivial ?_
  clear hK K
  refine sq ?_
  refine .mv ?_
  refine sq ?_
  intro K hK
  have d0 : w_17.cell? ⟨p_b2, 0, none⟩ = some (.bool n_1a) := hs.g4.cell 0 rfl
  have d1 : w_17.cell? ⟨p_b2, 1, none⟩ = some (.slice o_1a k_1a c_1a) := hs.g4.cell 1 rfl
  have d2 : w_17.cell? ⟨p_b2, 2, none⟩ = some (.bool n_1b) := hs.g4.cell 2 rfl
  have d3 : w_17.cell? ⟨p_b2, 3, none⟩ = some (.slice o_1b k_1b c_1b) := hs.g4.cell 3 rfl
  have d4 : w_17.cell? ⟨p_b2, 4, none⟩ = some (.bool n_1c) := hs.g4.cell 4 rfl
  have d5 : w_17.cell? ⟨p_b2, 5, none⟩ = some (.slice o_1c k_1c c_1c) := hs.g4.cell 5 rfl
  have d6 : w_17.cell? ⟨p_b2, 6, none⟩ = some (.bool n_1d) := hs.g4.cell 6 rfl
  have d7 : w_17.cell? ⟨p_b2, 7, none⟩ = some (.slice o_1d k_1d c_1d) := hs.g4.cell 7 rfl
  go_big_op; refine hK _ _ rfl trivial ?_; clear hK K d0 d1 d2 d3 d4 d5 d6 d7
  refine sq ?_
  intro K hK
  have k14_17 := k14_16.b hb_17
  replace hq1 := hq1.k k14_17
  replace hq2 := hq2.k k14_17
  replace hq3 := hq3.k k14_17
  replace hq4 := hq4.k k14_17
  go_big_op
  go_fit (r7Bad_yes (CN.mk' hq1 hq2 hq3 hq4) (by omega) (by omega) (by omega) (by omega) H.out)
  rintro e w_18 ⟨rfl, hb_18⟩
  replace hs := hs.bl hb_18
  refine hK _ _ rfl trivial ?_
  clear hK K
  refine sq ?_
  refine .r0 ?_
  apply wpSq_end
  refine hK10 _ _ ?_
  refine ct ?_
  refine wp_seq_k ?_
  intro K11 hK11
  refine rg [0, 1, 2, 3, 4, 5, 6, 7, 8, 9, 10, 11, 12, 13, 14, 15, 16, 17, 18, 19, 20, 21, 22, 23, 24, 25, 26, 27, 28, 29, 30] ?_
  refine sq ?_
  intro K hK
  have d0 : w_18.cell? ⟨p_b3, 0, none⟩ = some (.bool false) := hs.g3.cell 0 rfl
  have d1 : w_18.cell? ⟨p_b3, 1, none⟩ = some (.slice none 0 0) := hs.g3.cell 1 rfl
  have d2 : w_18.cell? ⟨p_b3, 2, none⟩ = some (.bool false) := hs.g3.cell 2 rfl
  have d3 : w_18.cell? ⟨p_b3, 3, none⟩ = some (.slice none 0 0) := hs.g3.cell 3 rfl
  have d4 : w_18.cell? ⟨p_b3, 4, none⟩ = some (.bool false) := hs.g3.cell 4 rfl
  have d5 : w_18.cell? ⟨p_b3, 5, none⟩ = some (.slice none 0 0) := hs.g3.cell 5 rfl
  have d6 : w_18.cell? ⟨p_b3, 6, none⟩ = some (.bool false) := hs.g3.cell 6 rfl
  have d7 : w_18.cell? ⟨p_b3, 7, none⟩ = some (.slice none 0 0) := hs.g3.cell 7 rfl
  go_big_op; refine hK _ _ rfl trivial ?_; clear hK K d0 d1 d2 d3 d4 d5 d6 d7
  refine sq ?_
  refine .mv ?_
  refine sq ?_
  intro K hK
  have d0 : w_18.cell? ⟨p_b3, 0, none⟩ = some (.bool false) := hs.g3.cell 0 rfl
  have d1 : w_18.cell? ⟨p_b3, 1, none⟩ = some (.slice none 0 0) := hs.g3.cell 1 rfl
  have d2 : w_18.cell? ⟨p_b3, 2, none⟩ = some (.bool false) := hs.g3.cell 2 rfl
  have d3 : w_18.cell? ⟨p_b3, 3, none⟩ = some (.slice none 0 0) := hs.g3.cell 3 rfl
  have d4 : w_18.cell? ⟨p_b3, 4, none⟩ = some (.bool false) := hs.g3.cell 4 rfl
  have d5 : w_18.cell? ⟨p_b3, 5, none⟩ = some (.slice none 0 0) := hs.g3.cell 5 rfl
  have d6 : w_18.cell? ⟨p_b3, 6, none⟩ = some (.bool false) := hs.g3.cell 6 rfl
  have d7 : w_18.cell? ⟨p_b3, 7, none⟩ = some (.slice none 0 0) := hs.g3.cell 7 rfl
  go_big_op; refine hK _ _ rfl trivial ?_; clear hK K d0 d1 d2 d3 d4 d5 d6 d7
  refine sq ?_
  intro K hK
  go_big_op
  go_fit (told7_err _ 5 (by decide))
  rintro e w_19 ⟨rfl, hb_19⟩
  replace hs := hs.bl hb_19
  refine hK _ _ rfl trivial ?_
  clear hK K
  refine sq ?_
  refine .mv ?_
  refine sq ?_
  intro K hK
  have d0 : w_19.cell? ⟨p_b4, 0, none⟩ = some (.bool false) := hs.g2.cell 0 rfl
  have d1 : w_19.cell? ⟨p_b4, 1, none⟩ = some (.slice none 0 0) := hs.g2.cell 1 rfl
  have d2 : w_19.cell? ⟨p_b4, 2, none⟩ = some (.bool false) := hs.g2.cell 2 rfl
  have d3 : w_19.cell? ⟨p_b4, 3, none⟩ = some (.slice none 0 0) := hs.g2.cell 3 rfl
  have d4 : w_19.cell? ⟨p_b4, 4, none⟩ = some (.bool false) := hs.g2.cell 4 rfl
  have d5 : w_19.cell? ⟨p_b4, 5, none⟩ = some (.slice none 0 0) := hs.g2.cell 5 rfl
  have d6 : w_19.cell? ⟨p_b4, 6, none⟩ = some (.bool false) := hs.g2.cell 6 rfl
  have d7 : w_19.cell? ⟨p_b4, 7, none⟩ = some (.slice none 0 0) := hs.g2.cell 7 rfl
  go_big_op; refine hK _ _ rfl trivial ?_; clear hK K d0 d1 d2 d3 d4 d5 d6 d7
  refine sq ?_
  refine .mv ?_
  refine sq ?_
  intro K hK
  have d0 : w_19.cell? ⟨p_b4, 0, none⟩ = some (.bool false) := hs.g2.cell 0 rfl
  have d1 : w_19.cell? ⟨p_b4, 1, none⟩ = some (.slice none 0 0) := hs.g2.cell 1 rfl
  have d2 : w_19.cell? ⟨p_b4, 2, none⟩ = some (.bool false) := hs.g2.cell 2 rfl
  have d3 : w_19.cell? ⟨p_b4, 3, none⟩ = some (.slice none 0 0) := hs.g2.cell 3 rfl
  have d4 : w_19.cell? ⟨p_b4, 4, none⟩ = some (.bool false) := hs.g2.cell 4 rfl
  have d5 : w_19.cell? ⟨p_b4, 5, none⟩ = some (.slice none 0 0) := hs.g2.cell 5 rfl
  have d6 : w_19.cell? ⟨p_b4, 6, none⟩ = some (.bool false) := hs.g2.cell 6 rfl
  have d7 : w_19.cell? ⟨p_b4, 7, none⟩ = some (.slice none 0 0) := hs.g2.cell 7 rfl
  go_big_op; refine hK _ _ rfl trivial ?_; clear hK K d0 d1 d2 d3 d4 d5 d6 d7
  refine sq ?_
  intro K hK
  go_big_op
  go_fit (told7_err _ 5 (by decide))
  rintro e w_20 ⟨rfl, hb_20⟩
  replace hs := hs.bl hb_20
  refine hK _ _ rfl trivial ?_
  clear hK K
  refine sq ?_
  refine .r0 ?_
  refine sq ?_
  refine .mv ?_
  refine sq ?_
  intro K hK
  have d0 : w_20.cell? ⟨p_b5, 0, none⟩ = some (.bool false) := hs.g1.cell 0 rfl
  have d1 : w_20.cell? ⟨p_b5, 1, none⟩ = some (.slice none 0 0) := hs.g1.cell 1 rfl
  have d2 : w_20.cell? ⟨p_b5, 2, none⟩ = some (.bool false) := hs.g1.cell 2 rfl
  have d3 : w_20.cell? ⟨p_b5, 3, none⟩ = some (.slice none 0 0) := hs.g1.cell 3 rfl
  have d4 : w_20.cell? ⟨p_b5, 4, none⟩ = some (.bool false) := hs.g1.cell 4 rfl
  have d5 : w_20.cell? ⟨p_b5, 5, none⟩ = some (.slice none 0 0) := hs.g1.cell 5 rfl
  have d6 : w_20.cell? ⟨p_b5, 6, none⟩ = some (.bool false) := hs.g1.cell 6 rfl
  have d7 : w_20.cell? ⟨p_b5, 7, none⟩ = some (.slice none 0 0) := hs.g1.cell 7 rfl
  go_big_op; refine hK _ _ rfl trivial ?_; clear hK K d0 d1 d2 d3 d4 d5 d6 d7
  refine sq ?_
  refine .mv ?_
  refine sq ?_
  intro K hK
  have d0 : w_20.cell? ⟨p_b5, 0, none⟩ = some (.bool false) := hs.g1.cell 0 rfl
  have d1 : w_20.cell? ⟨p_b5, 1, none⟩ = some (.slice none 0 0) := hs.g1.cell 1 rfl
  have d2 : w_20.cell? ⟨p_b5, 2, none⟩ = some (.bool false) := hs.g1.cell 2 rfl
  have d3 : w_20.cell? ⟨p_b5, 3, none⟩ = some (.slice none 0 0) := hs.g1.cell 3 rfl
  have d4 : w_20.cell? ⟨p_b5, 4, none⟩ = some (.bool false) := hs.g1.cell 4 rfl
  have d5 : w_20.cell? ⟨p_b5, 5, none⟩ = some (.slice none 0 0) := hs.g1.cell 5 rfl
  have d6 : w_20.cell? ⟨p_b5, 6, none⟩ = some (.bool false) := hs.g1.cell 6 rfl
  have d7 : w_20.cell? ⟨p_b5, 7, none⟩ = some (.slice none 0 0) := hs.g1.cell 7 rfl
  go_big_op; refine hK _ _ rfl trivial ?_; clear hK K d0 d1 d2 d3 d4 d5 d6 d7
  refine sq ?_
  intro K hK
  go_big_op
  go_fit (told7_err _ 5 (by decide))
  rintro e w_21 ⟨rfl, hb_21⟩
  replace hs := hs.bl hb_21
  refine hK _ _ rfl trivial ?_
  clear hK K
  refine sq ?_
  refine .r0 ?_
  refine sq ?_
  refine .mv ?_
  refine sq ?_
  intro K hK
  have d0 : w_21.cell? ⟨p_b6, 0, none⟩ = some (.bool false) := hs.g0.cell 0 rfl
  have d1 : w_21.cell? ⟨p_b6, 1, none⟩ = some (.slice none 0 0) := hs.g0.cell 1 rfl
  have d2 : w_21.cell? ⟨p_b6, 2, none⟩ = some (.bool false) := hs.g0.cell 2 rfl
  have d3 : w_21.cell? ⟨p_b6, 3, none⟩ = some (.slice none 0 0) := hs.g0.cell 3 rfl
  have d4 : w_21.cell? ⟨p_b6, 4, none⟩ = some (.bool false) := hs.g0.cell 4 rfl
  have d5 : w_21.cell? ⟨p_b6, 5, none⟩ = some (.slice none 0 0) := hs.g0.cell 5 rfl
  have d6 : w_21.cell? ⟨p_b6, 6, none⟩ = some (.bool false) := hs.g0.cell 6 rfl
  have d7 : w_21.cell? ⟨p_b6, 7, none⟩ = some (.slice none 0 0) := hs.g0.cell 7 rfl
  go_big_op; refine hK _ _ rfl trivial ?_; clear hK K d0 d1 d2 d3 d4 d5 d6 d7
  refine sq ?_
  refine .mv ?_
  refine sq ?_
  intro K hK
  have d0 : w_21.cell? ⟨p_b6, 0, none⟩ = some (.bool false) := hs.g0.cell 0 rfl
  have d1 : w_21.cell? ⟨p_b6, 1, none⟩ = some (.slice none 0 0) := hs.g0.cell 1 rfl
  have d2 : w_21.cell? ⟨p_b6, 2, none⟩ = some (.bool false) := hs.g0.cell 2 rfl
  have d3 : w_21.cell? ⟨p_b6, 3, none⟩ = some (.slice none 0 0) := hs.g0.cell 3 rfl
  have d4 : w_21.cell? ⟨p_b6, 4, none⟩ = some (.bool false) := hs.g0.cell 4 rfl
  have d5 : w_21.cell? ⟨p_b6, 5, none⟩ = some (.slice none 0 0) := hs.g0.cell 5 rfl
  have d6 : w_21.cell? ⟨p_b6, 6, none⟩ = some (.bool false) := hs.g0.cell 6 rfl
  have d7 : w_21.cell? ⟨p_b6, 7, none⟩ = some (.slice none 0 0) := hs.g0.cell 7 rfl
  go_big_op; refine hK _ _ rfl trivial ?_; clear hK K d0 d1 d2 d3 d4 d5 d6 d7
  refine sq ?_
  intro K hK
  go_big_op
  go_fit (told7_err _ 5 (by decide))
  rintro e w_22 ⟨rfl, hb_22⟩
  replace hs := hs.bl hb_22
  refine hK _ _ rfl trivial ?_
  clear hK K
  refine sq ?_
  refine .r0 ?_
  refine sq ?_
  refine .mv ?_
  refine sq ?_
  refine .mv ?_
  refine sq ?_
  refine .r0 ?_
  refine sq ?_
  refine .r0 ?_
  refine sq ?_
  refine .mv ?_
  refine sq ?_
  refine .mv ?_
  refine sq ?_
  refine .r0 ?_
  refine sq ?_
  refine .r0 ?_
  refine sq ?_
  refine .mv ?_
  apply wpSq_end
  refine hK11 _ _ ?_
  refine wp_ret ?_
  try dsimp only [Exit.then, Exit.inBlock]
  refine bodyPost_ret (v := (.bool true)) (by simp [results, Tryz.results4, go_sem]) rfl ?_
  have hb := hs.b
  exact ⟨rfl, hb⟩
set_option maxHeartbeats 8000000 in
set_option maxRecDepth 20000 in
theorem sums7_zero (ha : CN w va x l y m u k v n) (hq : CN w vb p l2 q m2 s k2 t n2) (hl : l ≤ 1048576) (hm : m ≤ 1048576) (hk : k ≤ 1048576) (hn : n ≤ 1048576) (hl2 : l2 ≤ 1048576) (hm2 : m2 ≤ 1048576) (hk2 : k2 ≤ 1048576) (hn2 : n2 ≤ 1048576) (hy : y ≠ 0) (hv : v ≠ 0) (hq0 : q ≠ 0) (ht : t ≠ 0) (h0 : p = 0 ∧ s = 0) (htab : Lib.TabIs Tryz.prog w p10 .u64 Lib.pow10Tab) :
    Calls Tryz.prog 4 #[va, vb] w fun e w' => e = .returned (.bool true) ∧ Below w.heap.size w w' := by
  have htabs := Lib.tabBelow_of_tabIs htab
  have HA := hide (And.intro hy hv)
  have HB := hide (And.intro hq0 ht)
  have H0 := hide h0
  have HD := hide den_ne
  obtain ⟨B, hB⟩ : ∃ B, decide ((rv x y - rv p q).num = 0 ∧ (rv u v - rv s t).num = 0) = B := ⟨_, rfl⟩
  have HE := hide hB
  clear hy hv hq0 ht h0 hB
  obtain ⟨n_0a, o_0a, k_0a, c_0a, n_0b, o_0b, k_0b, c_0b, n_0c, o_0c, k_0c, c_0c, n_0d, o_0d, k_0d, c_0d, rfl, ha1, ha2, ha3, ha4⟩ := ha
  obtain ⟨n_1a, o_1a, k_1a, c_1a, n_1b, o_1b, k_1b, c_1b, n_1c, o_1c, k_1c, c_1c, n_1d, o_1d, k_1d, c_1d, rfl, hq1, hq2, hq3, hq4⟩ := hq
  go_enter Tryz.func4, Tryz.ntmps4
  have hs := St.nil w
  refine wp_seq_k ?_
  intro K1 hK1
  refine rg [0, 1, 2] ?_
  refine sq ?_
  refine .al hs ?_; clear hs; intro p_b1 w_1 hs n1 kb_b1
  refine sq ?_
  refine .al hs ?_; clear hs; intro p_b2 w_2 hs n2 kb_b2
  refine sq ?_
  refine .mv ?_
  apply wpSq_end
  refine hK1 _ _ ?_
  refine wp_seq_k ?_
  intro K2 hK2
  refine rg [0, 1, 2, 3, 4, 5, 6, 7, 8] ?_
  refine sq ?_
  intro K hK
  have d0 : w_2.cell? ⟨p_b1, 0, none⟩ = some (.bool n_0a) := hs.g1.cell 0 rfl
  have d1 : w_2.cell? ⟨p_b1, 1, none⟩ = some (.slice o_0a k_0a c_0a) := hs.g1.cell 1 rfl
  have d2 : w_2.cell? ⟨p_b1, 2, none⟩ = some (.bool n_0b) := hs.g1.cell 2 rfl
  have d3 : w_2.cell? ⟨p_b1, 3, none⟩ = some (.slice o_0b k_0b c_0b) := hs.g1.cell 3 rfl
  have d4 : w_2.cell? ⟨p_b1, 4, none⟩ = some (.bool n_0c) := hs.g1.cell 4 rfl
  have d5 : w_2.cell? ⟨p_b1, 5, none⟩ = some (.slice o_0c k_0c c_0c) := hs.g1.cell 5 rfl
  have d6 : w_2.cell? ⟨p_b1, 6, none⟩ = some (.bool n_0d) := hs.g1.cell 6 rfl
  have d7 : w_2.cell? ⟨p_b1, 7, none⟩ = some (.slice o_0d k_0d c_0d) := hs.g1.cell 7 rfl
  go_big_op; refine hK _ _ rfl trivial ?_; clear hK K d0 d1 d2 d3 d4 d5 d6 d7
  refine sq ?_
  intro K hK
  have d0 : w_2.cell? ⟨p_b2, 0, none⟩ = some (.bool n_1a) := hs.g0.cell 0 rfl
  have d1 : w_2.cell? ⟨p_b2, 1, none⟩ = some (.slice o_1a k_1a c_1a) := hs.g0.cell 1 rfl
  have d2 : w_2.cell? ⟨p_b2, 2, none⟩ = some (.bool n_1b) := hs.g0.cell 2 rfl
  have d3 : w_2.cell? ⟨p_b2, 3, none⟩ = some (.slice o_1b k_1b c_1b) := hs.g0.cell 3 rfl
  have d4 : w_2.cell? ⟨p_b2, 4, none⟩ = some (.bool n_1c) := hs.g0.cell 4 rfl
  have d5 : w_2.cell? ⟨p_b2, 5, none⟩ = some (.slice o_1c k_1c c_1c) := hs.g0.cell 5 rfl
  have d6 : w_2.cell? ⟨p_b2, 6, none⟩ = some (.bool n_1d) := hs.g0.cell 6 rfl
  have d7 : w_2.cell? ⟨p_b2, 7, none⟩ = some (.slice o_1d k_1d c_1d) := hs.g0.cell 7 rfl
  go_big_op; refine hK _ _ rfl trivial ?_; clear hK K d0 d1 d2 d3 d4 d5 d6 d7
  refine sq ?_
  intro K hK
  have k0_2 := (kb n1).b n2
  replace ha1 := ha1.k k0_2
  replace ha2 := ha2.k k0_2
  replace ha3 := ha3.k k0_2
  replace ha4 := ha4.k k0_2
  replace hq1 := hq1.k k0_2
  replace hq2 := hq2.k k0_2
  replace hq3 := hq3.k k0_2
  replace hq4 := hq4.k k0_2
  go_big_op
  go_fit (gfAdd_ok (CN.mk' ha1 ha2 ha3 ha4) (CN.mk' hq1 hq2 hq3 hq4) (by omega) (by omega) (by omega) (by omega) (by omega) (by omega) (by omega) (by omega) HA.out.1 HA.out.2 HB.out.1 HB.out.2)
  rintro e w_3 ⟨_, rfl, ⟨n_ad1, o_ad1, k_ad1, c_ad1, n_ad2, o_ad2, k_ad2, c_ad2, n_ad3, o_ad3, k_ad3, c_ad3, n_ad4, o_ad4, k_ad4, c_ad4, rfl, ad1, ad2, ad3, ad4⟩, hb_3⟩
  replace hs := hs.bl hb_3
  have Lad1 := hide (ad1.lenOf ((r7s_len (HA.out.1) (HA.out.2) (HB.out.1) (HB.out.2) (ha1.len) (ha2.len) (ha3.len) (ha4.len) (hq1.len) (hq2.len) (hq3.len) (hq4.len)).1.1))
  have Lad2 := hide (ad2.lenOf ((r7s_len (HA.out.1) (HA.out.2) (HB.out.1) (HB.out.2) (ha1.len) (ha2.len) (ha3.len) (ha4.len) (hq1.len) (hq2.len) (hq3.len) (hq4.len)).1.2.1))
  have Lad3 := hide (ad3.lenOf ((r7s_len (HA.out.1) (HA.out.2) (HB.out.1) (HB.out.2) (ha1.len) (ha2.len) (ha3.len) (ha4.len) (hq1.len) (hq2.len) (hq3.len) (hq4.len)).1.2.2.1))
  have Lad4 := hide (ad4.lenOf ((r7s_len (HA.out.1) (HA.out.2) (HB.out.1) (HB.out.2) (ha1.len) (ha2.len) (ha3.len) (ha4.len) (hq1.len) (hq2.len) (hq3.len) (hq4.len)).1.2.2.2))
  refine hK _ _ rfl trivial ?_
  clear hK K
  refine sq ?_
  refine .mv ?_
  refine sq ?_
  refine .r0 ?_
  refine sq ?_
  refine .r0 ?_
  refine sq ?_
  refine .al hs ?_; clear hs; intro p_b3 w_4 hs n4 kb_b3
  refine sq ?_
  intro K hK
  have xs := hs.g0
  have d0 : w_4.cell? ⟨p_b3, 0, none⟩ = some (.bool false) := hs.g0.cell 0 rfl
  have d1 : w_4.cell? ⟨p_b3, 1, none⟩ = some (.slice none 0 0) := hs.g0.cell 1 rfl
  have d2 : w_4.cell? ⟨p_b3, 2, none⟩ = some (.bool false) := hs.g0.cell 2 rfl
  have d3 : w_4.cell? ⟨p_b3, 3, none⟩ = some (.slice none 0 0) := hs.g0.cell 3 rfl
  have d4 : w_4.cell? ⟨p_b3, 4, none⟩ = some (.bool false) := hs.g0.cell 4 rfl
  have d5 : w_4.cell? ⟨p_b3, 5, none⟩ = some (.slice none 0 0) := hs.g0.cell 5 rfl
  have d6 : w_4.cell? ⟨p_b3, 6, none⟩ = some (.bool false) := hs.g0.cell 6 rfl
  have d7 : w_4.cell? ⟨p_b3, 7, none⟩ = some (.slice none 0 0) := hs.g0.cell 7 rfl
  have f0 := xs.free 0; have f1 := xs.free 1; have f2 := xs.free 2; have f3 := xs.free 3; have f4 := xs.free 4; have f5 := xs.free 5; have f6 := xs.free 6; have f7 := xs.free 7
  go_big_op
  have hd5 := xs.nod rfl rfl
  obtain ⟨w_5_0, eW, xs_0, ho_0⟩ : ∃ w', ((((w_4.setCell ⟨p_b3, 0, none⟩ (.bool n_ad1)).setCell ⟨p_b3, 1, none⟩ (.slice o_ad1 k_ad1 c_ad1)).setCell ⟨p_b3, 2, none⟩ (.bool n_ad2)).setCell ⟨p_b3, 3, none⟩ (.slice o_ad2 k_ad2 c_ad2)) = w' ∧ Bs w' p_b3 #[.bool n_ad1, .slice o_ad1 k_ad1 c_ad1, .bool n_ad2, .slice o_ad2 k_ad2 c_ad2, .bool false, .slice none 0 0, .bool false, .slice none 0 0] 28 ∧ Only p_b3 w_4 w' := xs.setN [(0, .bool n_ad1), (1, .slice o_ad1 k_ad1 c_ad1), (2, .bool n_ad2), (3, .slice o_ad2 k_ad2 c_ad2)]
  rw [eW]; clear eW
  obtain ⟨w_5, eW, xs', ho_4⟩ : ∃ w', ((((w_5_0.setCell ⟨p_b3, 4, none⟩ (.bool n_ad3)).setCell ⟨p_b3, 5, none⟩ (.slice o_ad3 k_ad3 c_ad3)).setCell ⟨p_b3, 6, none⟩ (.bool n_ad4)).setCell ⟨p_b3, 7, none⟩ (.slice o_ad4 k_ad4 c_ad4)) = w' ∧ Bs w' p_b3 #[.bool n_ad1, .slice o_ad1 k_ad1 c_ad1, .bool n_ad2, .slice o_ad2 k_ad2 c_ad2, .bool n_ad3, .slice o_ad3 k_ad3 c_ad3, .bool n_ad4, .slice o_ad4 k_ad4 c_ad4] 28 ∧ Only p_b3 w_5_0 w' := xs_0.setN [(4, .bool n_ad3), (5, .slice o_ad3 k_ad3 c_ad3), (6, .bool n_ad4), (7, .slice o_ad4 k_ad4 c_ad4)]
  rw [eW]; clear eW xs_0
  have ho5 := (ho_0.trans ho_4)
  clear ho_0 ho_4 d0 d1 d2 d3 d4 d5 d6 d7 f0 f1 f2 f3 f4 f5 f6 f7 xs
  replace hs := hs.u0 kb_b3 xs' ho5; clear xs'
  refine hK _ _ rfl trivial ?_; clear hK K
  refine sq ?_
  refine .mv ?_
  apply wpSq_end
  refine hK2 _ _ ?_
  refine wp_seq_k ?_
  intro K3 hK3
  refine rg [0, 1, 2, 3, 4, 5, 6, 7, 8] ?_
  refine sq ?_
  intro K hK
  have d0 : w_5.cell? ⟨p_b1, 0, none⟩ = some (.bool n_0a) := hs.g2.cell 0 rfl
  have d1 : w_5.cell? ⟨p_b1, 1, none⟩ = some (.slice o_0a k_0a c_0a) := hs.g2.cell 1 rfl
  have d2 : w_5.cell? ⟨p_b1, 2, none⟩ = some (.bool n_0b) := hs.g2.cell 2 rfl
  have d3 : w_5.cell? ⟨p_b1, 3, none⟩ = some (.slice o_0b k_0b c_0b) := hs.g2.cell 3 rfl
  have d4 : w_5.cell? ⟨p_b1, 4, none⟩ = some (.bool n_0c) := hs.g2.cell 4 rfl
  have d5 : w_5.cell? ⟨p_b1, 5, none⟩ = some (.slice o_0c k_0c c_0c) := hs.g2.cell 5 rfl
  have d6 : w_5.cell? ⟨p_b1, 6, none⟩ = some (.bool n_0d) := hs.g2.cell 6 rfl
  have d7 : w_5.cell? ⟨p_b1, 7, none⟩ = some (.slice o_0d k_0d c_0d) := hs.g2.cell 7 rfl
  go_big_op; refine hK _ _ rfl trivial ?_; clear hK K d0 d1 d2 d3 d4 d5 d6 d7
  refine sq ?_
  intro K hK
  have d0 : w_5.cell? ⟨p_b2, 0, none⟩ = some (.bool n_1a) := hs.g1.cell 0 rfl
  have d1 : w_5.cell? ⟨p_b2, 1, none⟩ = some (.slice o_1a k_1a c_1a) := hs.g1.cell 1 rfl
  have d2 : w_5.cell? ⟨p_b2, 2, none⟩ = some (.bool n_1b) := hs.g1.cell 2 rfl
  have d3 : w_5.cell? ⟨p_b2, 3, none⟩ = some (.slice o_1b k_1b c_1b) := hs.g1.cell 3 rfl
  have d4 : w_5.cell? ⟨p_b2, 4, none⟩ = some (.bool n_1c) := hs.g1.cell 4 rfl
  have d5 : w_5.cell? ⟨p_b2, 5, none⟩ = some (.slice o_1c k_1c c_1c) := hs.g1.cell 5 rfl
  have d6 : w_5.cell? ⟨p_b2, 6, none⟩ = some (.bool n_1d) := hs.g1.cell 6 rfl
  have d7 : w_5.cell? ⟨p_b2, 7, none⟩ = some (.slice o_1d k_1d c_1d) := hs.g1.cell 7 rfl
  go_big_op; refine hK _ _ rfl trivial ?_; clear hK K d0 d1 d2 d3 d4 d5 d6 d7
  refine sq ?_
  intro K hK
  have k2_5 := ((kb hb_3).b n4).o hd5 ho5
  replace ha1 := ha1.k k2_5
  replace ha2 := ha2.k k2_5
  replace ha3 := ha3.k k2_5
  replace ha4 := ha4.k k2_5
  replace hq1 := hq1.k k2_5
  replace hq2 := hq2.k k2_5
  replace hq3 := hq3.k k2_5
  replace hq4 := hq4.k k2_5
  go_big_op
  go_fit (gfSub_ok (CN.mk' ha1 ha2 ha3 ha4) (CN.mk' hq1 hq2 hq3 hq4) (by omega) (by omega) (by omega) (by omega) (by omega) (by omega) (by omega) (by omega) HA.out.1 HA.out.2 HB.out.1 HB.out.2)
  rintro e w_6 ⟨_, rfl, ⟨n_su1, o_su1, k_su1, c_su1, n_su2, o_su2, k_su2, c_su2, n_su3, o_su3, k_su3, c_su3, n_su4, o_su4, k_su4, c_su4, rfl, su1, su2, su3, su4⟩, hb_6⟩
  replace hs := hs.bl hb_6
  have Lsu1 := hide (su1.lenOf ((r7s_len (HA.out.1) (HA.out.2) (HB.out.1) (HB.out.2) (ha1.len) (ha2.len) (ha3.len) (ha4.len) (hq1.len) (hq2.len) (hq3.len) (hq4.len)).2.1))
  have Lsu2 := hide (su2.lenOf ((r7s_len (HA.out.1) (HA.out.2) (HB.out.1) (HB.out.2) (ha1.len) (ha2.len) (ha3.len) (ha4.len) (hq1.len) (hq2.len) (hq3.len) (hq4.len)).2.2.1))
  have Lsu3 := hide (su3.lenOf ((r7s_len (HA.out.1) (HA.out.2) (HB.out.1) (HB.out.2) (ha1.len) (ha2.len) (ha3.len) (ha4.len) (hq1.len) (hq2.len) (hq3.len) (hq4.len)).2.2.2.1))
  have Lsu4 := hide (su4.lenOf ((r7s_len (HA.out.1) (HA.out.2) (HB.out.1) (HB.out.2) (ha1.len) (ha2.len) (ha3.len) (ha4.len) (hq1.len) (hq2.len) (hq3.len) (hq4.len)).2.2.2.2))
  refine hK _ _ rfl trivial ?_
  clear hK K
  refine sq ?_
  refine .mv ?_
  refine sq ?_
  refine .r0 ?_
  refine sq ?_
  refine .r0 ?_
  refine sq ?_
  refine .al hs ?_; clear hs; intro p_b4 w_7 hs n7 kb_b4
  refine sq ?_
  intro K hK
  have xs := hs.g0
  have d0 : w_7.cell? ⟨p_b4, 0, none⟩ = some (.bool false) := hs.g0.cell 0 rfl
  have d1 : w_7.cell? ⟨p_b4, 1, none⟩ = some (.slice none 0 0) := hs.g0.cell 1 rfl
  have d2 : w_7.cell? ⟨p_b4, 2, none⟩ = some (.bool false) := hs.g0.cell 2 rfl
  have d3 : w_7.cell? ⟨p_b4, 3, none⟩ = some (.slice none 0 0) := hs.g0.cell 3 rfl
  have d4 : w_7.cell? ⟨p_b4, 4, none⟩ = some (.bool false) := hs.g0.cell 4 rfl
  have d5 : w_7.cell? ⟨p_b4, 5, none⟩ = some (.slice none 0 0) := hs.g0.cell 5 rfl
  have d6 : w_7.cell? ⟨p_b4, 6, none⟩ = some (.bool false) := hs.g0.cell 6 rfl
  have d7 : w_7.cell? ⟨p_b4, 7, none⟩ = some (.slice none 0 0) := hs.g0.cell 7 rfl
  have f0 := xs.free 0; have f1 := xs.free 1; have f2 := xs.free 2; have f3 := xs.free 3; have f4 := xs.free 4; have f5 := xs.free 5; have f6 := xs.free 6; have f7 := xs.free 7
  go_big_op
  have hd8 := xs.nod rfl rfl
  obtain ⟨w_8_0, eW, xs_0, ho_0⟩ : ∃ w', ((((w_7.setCell ⟨p_b4, 0, none⟩ (.bool n_su1)).setCell ⟨p_b4, 1, none⟩ (.slice o_su1 k_su1 c_su1)).setCell ⟨p_b4, 2, none⟩ (.bool n_su2)).setCell ⟨p_b4, 3, none⟩ (.slice o_su2 k_su2 c_su2)) = w' ∧ Bs w' p_b4 #[.bool n_su1, .slice o_su1 k_su1 c_su1, .bool n_su2, .slice o_su2 k_su2 c_su2, .bool false, .slice none 0 0, .bool false, .slice none 0 0] 28 ∧ Only p_b4 w_7 w' := xs.setN [(0, .bool n_su1), (1, .slice o_su1 k_su1 c_su1), (2, .bool n_su2), (3, .slice o_su2 k_su2 c_su2)]
  rw [eW]; clear eW
  obtain ⟨w_8, eW, xs', ho_4⟩ : ∃ w', ((((w_8_0.setCell ⟨p_b4, 4, none⟩ (.bool n_su3)).setCell ⟨p_b4, 5, none⟩ (.slice o_su3 k_su3 c_su3)).setCell ⟨p_b4, 6, none⟩ (.bool n_su4)).setCell ⟨p_b4, 7, none⟩ (.slice o_su4 k_su4 c_su4)) = w' ∧ Bs w' p_b4 #[.bool n_su1, .slice o_su1 k_su1 c_su1, .bool n_su2, .slice o_su2 k_su2 c_su2, .bool n_su3, .slice o_su3 k_su3 c_su3, .bool n_su4, .slice o_su4 k_su4 c_su4] 28 ∧ Only p_b4 w_8_0 w' := xs_0.setN [(4, .bool n_su3), (5, .slice o_su3 k_su3 c_su3), (6, .bool n_su4), (7, .slice o_su4 k_su4 c_su4)]
  rw [eW]; clear eW xs_0
  have ho8 := (ho_0.trans ho_4)
  clear ho_0 ho_4 d0 d1 d2 d3 d4 d5 d6 d7 f0 f1 f2 f3 f4 f5 f6 f7 xs
  replace hs := hs.u0 kb_b4 xs' ho8; clear xs'
  refine hK _ _ rfl trivial ?_; clear hK K
  refine sq ?_
  refine .mv ?_
  apply wpSq_end
  refine hK3 _ _ ?_
  refine wp_seq_k ?_
  intro K4 hK4
  refine rg [0, 1, 2, 3, 4, 5, 6, 7, 8] ?_
  refine sq ?_
  intro K hK
  have d0 : w_8.cell? ⟨p_b1, 0, none⟩ = some (.bool n_0a) := hs.g3.cell 0 rfl
  have d1 : w_8.cell? ⟨p_b1, 1, none⟩ = some (.slice o_0a k_0a c_0a) := hs.g3.cell 1 rfl
  have d2 : w_8.cell? ⟨p_b1, 2, none⟩ = some (.bool n_0b) := hs.g3.cell 2 rfl
  have d3 : w_8.cell? ⟨p_b1, 3, none⟩ = some (.slice o_0b k_0b c_0b) := hs.g3.cell 3 rfl
  have d4 : w_8.cell? ⟨p_b1, 4, none⟩ = some (.bool n_0c) := hs.g3.cell 4 rfl
  have d5 : w_8.cell? ⟨p_b1, 5, none⟩ = some (.slice o_0c k_0c c_0c) := hs.g3.cell 5 rfl
  have d6 : w_8.cell? ⟨p_b1, 6, none⟩ = some (.bool n_0d) := hs.g3.cell 6 rfl
  have d7 : w_8.cell? ⟨p_b1, 7, none⟩ = some (.slice o_0d k_0d c_0d) := hs.g3.cell 7 rfl
  go_big_op; refine hK _ _ rfl trivial ?_; clear hK K d0 d1 d2 d3 d4 d5 d6 d7
  refine sq ?_
  intro K hK
  have d0 : w_8.cell? ⟨p_b2, 0, none⟩ = some (.bool n_1a) := hs.g2.cell 0 rfl
  have d1 : w_8.cell? ⟨p_b2, 1, none⟩ = some (.slice o_1a k_1a c_1a) := hs.g2.cell 1 rfl
  have d2 : w_8.cell? ⟨p_b2, 2, none⟩ = some (.bool n_1b) := hs.g2.cell 2 rfl
  have d3 : w_8.cell? ⟨p_b2, 3, none⟩ = some (.slice o_1b k_1b c_1b) := hs.g2.cell 3 rfl
  have d4 : w_8.cell? ⟨p_b2, 4, none⟩ = some (.bool n_1c) := hs.g2.cell 4 rfl
  have d5 : w_8.cell? ⟨p_b2, 5, none⟩ = some (.slice o_1c k_1c c_1c) := hs.g2.cell 5 rfl
  have d6 : w_8.cell? ⟨p_b2, 6, none⟩ = some (.bool n_1d) := hs.g2.cell 6 rfl
  have d7 : w_8.cell? ⟨p_b2, 7, none⟩ = some (.slice o_1d k_1d c_1d) := hs.g2.cell 7 rfl
  go_big_op; refine hK _ _ rfl trivial ?_; clear hK K d0 d1 d2 d3 d4 d5 d6 d7
  refine sq ?_
  intro K hK
  have k5_8 := ((kb hb_6).b n7).o hd8 ho8
  replace ha1 := ha1.k k5_8
  replace ha2 := ha2.k k5_8
  replace ha3 := ha3.k k5_8
  replace ha4 := ha4.k k5_8
  replace hq1 := hq1.k k5_8
  replace hq2 := hq2.k k5_8
  replace hq3 := hq3.k k5_8
  replace hq4 := hq4.k k5_8
  go_big_op
  go_fit (gfMul_ok (CN.mk' ha1 ha2 ha3 ha4) (CN.mk' hq1 hq2 hq3 hq4) (by omega) (by omega) (by omega) (by omega) (by omega) (by omega) (by omega) (by omega) HA.out.1 HA.out.2 HB.out.1 HB.out.2)
  rintro e w_9 ⟨_, rfl, ⟨n_mu1, o_mu1, k_mu1, c_mu1, n_mu2, o_mu2, k_mu2, c_mu2, n_mu3, o_mu3, k_mu3, c_mu3, n_mu4, o_mu4, k_mu4, c_mu4, rfl, mu1, mu2, mu3, mu4⟩, hb_9⟩
  replace hs := hs.bl hb_9
  have Lmu1 := hide (mu1.lenOf ((r7m_len (HA.out.1) (HA.out.2) (HB.out.1) (HB.out.2) (ha1.len) (ha2.len) (ha3.len) (ha4.len) (hq1.len) (hq2.len) (hq3.len) (hq4.len)).1))
  have Lmu2 := hide (mu2.lenOf ((r7m_len (HA.out.1) (HA.out.2) (HB.out.1) (HB.out.2) (ha1.len) (ha2.len) (ha3.len) (ha4.len) (hq1.len) (hq2.len) (hq3.len) (hq4.len)).2.1))
  have Lmu3 := hide (mu3.lenOf ((r7m_len (HA.out.1) (HA.out.2) (HB.out.1) (HB.out.2) (ha1.len) (ha2.len) (ha3.len) (ha4.len) (hq1.len) (hq2.len) (hq3.len) (hq4.len)).2.2.1))
  have Lmu4 := hide (mu4.lenOf ((r7m_len (HA.out.1) (HA.out.2) (HB.out.1) (HB.out.2) (ha1.len) (ha2.len) (ha3.len) (ha4.len) (hq1.len) (hq2.len) (hq3.len) (hq4.len)).2.2.2))
  refine hK _ _ rfl trivial ?_
  clear hK K
  refine sq ?_
  refine .mv ?_
  refine sq ?_
  refine .r0 ?_
  refine sq ?_
  refine .r0 ?_
  refine sq ?_
  refine .al hs ?_; clear hs; intro p_b5 w_10 hs n10 kb_b5
  refine sq ?_
  intro K hK
  have xs := hs.g0
  have d0 : w_10.cell? ⟨p_b5, 0, none⟩ = some (.bool false) := hs.g0.cell 0 rfl
  have d1 : w_10.cell? ⟨p_b5, 1, none⟩ = some (.slice none 0 0) := hs.g0.cell 1 rfl
  have d2 : w_10.cell? ⟨p_b5, 2, none⟩ = some (.bool false) := hs.g0.cell 2 rfl
  have d3 : w_10.cell? ⟨p_b5, 3, none⟩ = some (.slice none 0 0) := hs.g0.cell 3 rfl
  have d4 : w_10.cell? ⟨p_b5, 4, none⟩ = some (.bool false) := hs.g0.cell 4 rfl
  have d5 : w_10.cell? ⟨p_b5, 5, none⟩ = some (.slice none 0 0) := hs.g0.cell 5 rfl
  have d6 : w_10.cell? ⟨p_b5, 6, none⟩ = some (.bool false) := hs.g0.cell 6 rfl
  have d7 : w_10.cell? ⟨p_b5, 7, none⟩ = some (.slice none 0 0) := hs.g0.cell 7 rfl
  have f0 := xs.free 0; have f1 := xs.free 1; have f2 := xs.free 2; have f3 := xs.free 3; have f4 := xs.free 4; have f5 := xs.free 5; have f6 := xs.free 6; have f7 := xs.free 7
  go_big_op
  have hd11 := xs.nod rfl rfl
  obtain ⟨w_11_0, eW, xs_0, ho_0⟩ : ∃ w', ((((w_10.setCell ⟨p_b5, 0, none⟩ (.bool n_mu1)).setCell ⟨p_b5, 1, none⟩ (.slice o_mu1 k_mu1 c_mu1)).setCell ⟨p_b5, 2, none⟩ (.bool n_mu2)).setCell ⟨p_b5, 3, none⟩ (.slice o_mu2 k_mu2 c_mu2)) = w' ∧ Bs w' p_b5 #[.bool n_mu1, .slice o_mu1 k_mu1 c_mu1, .bool n_mu2, .slice o_mu2 k_mu2 c_mu2, .bool false, .slice none 0 0, .bool false, .slice none 0 0] 28 ∧ Only p_b5 w_10 w' := xs.setN [(0, .bool n_mu1), (1, .slice o_mu1 k_mu1 c_mu1), (2, .bool n_mu2), (3, .slice o_mu2 k_mu2 c_mu2)]
  rw [eW]; clear eW
  obtain ⟨w_11, eW, xs', ho_4⟩ : ∃ w', ((((w_11_0.setCell ⟨p_b5, 4, none⟩ (.bool n_mu3)).setCell ⟨p_b5, 5, none⟩ (.slice o_mu3 k_mu3 c_mu3)).setCell ⟨p_b5, 6, none⟩ (.bool n_mu4)).setCell ⟨p_b5, 7, none⟩ (.slice o_mu4 k_mu4 c_mu4)) = w' ∧ Bs w' p_b5 #[.bool n_mu1, .slice o_mu1 k_mu1 c_mu1, .bool n_mu2, .slice o_mu2 k_mu2 c_mu2, .bool n_mu3, .slice o_mu3 k_mu3 c_mu3, .bool n_mu4, .slice o_mu4 k_mu4 c_mu4] 28 ∧ Only p_b5 w_11_0 w' := xs_0.setN [(4, .bool n_mu3), (5, .slice o_mu3 k_mu3 c_mu3), (6, .bool n_mu4), (7, .slice o_mu4 k_mu4 c_mu4)]
  rw [eW]; clear eW xs_0
  have ho11 := (ho_0.trans ho_4)
  clear ho_0 ho_4 d0 d1 d2 d3 d4 d5 d6 d7 f0 f1 f2 f3 f4 f5 f6 f7 xs
  replace hs := hs.u0 kb_b5 xs' ho11; clear xs'
  refine hK _ _ rfl trivial ?_; clear hK K
  refine sq ?_
  refine .mv ?_
  apply wpSq_end
  refine hK4 _ _ ?_
  refine wp_seq_k ?_
  intro K5 hK5
  refine rg [0, 1, 2, 3, 4, 5, 6, 7, 8] ?_
  refine sq ?_
  intro K hK
  have d0 : w_11.cell? ⟨p_b1, 0, none⟩ = some (.bool n_0a) := hs.g4.cell 0 rfl
  have d1 : w_11.cell? ⟨p_b1, 1, none⟩ = some (.slice o_0a k_0a c_0a) := hs.g4.cell 1 rfl
  have d2 : w_11.cell? ⟨p_b1, 2, none⟩ = some (.bool n_0b) := hs.g4.cell 2 rfl
  have d3 : w_11.cell? ⟨p_b1, 3, none⟩ = some (.slice o_0b k_0b c_0b) := hs.g4.cell 3 rfl
  have d4 : w_11.cell? ⟨p_b1, 4, none⟩ = some (.bool n_0c) := hs.g4.cell 4 rfl
  have d5 : w_11.cell? ⟨p_b1, 5, none⟩ = some (.slice o_0c k_0c c_0c) := hs.g4.cell 5 rfl
  have d6 : w_11.cell? ⟨p_b1, 6, none⟩ = some (.bool n_0d) := hs.g4.cell 6 rfl
  have d7 : w_11.cell? ⟨p_b1, 7, none⟩ = some (.slice o_0d k_0d c_0d) := hs.g4.cell 7 rfl
  go_big_op; refine hK _ _ rfl trivial ?_; clear hK K d0 d1 d2 d3 d4 d5 d6 d7
  refine sq ?_
  intro K hK
  have d0 : w_11.cell? ⟨p_b2, 0, none⟩ = some (.bool n_1a) := hs.g3.cell 0 rfl
  have d1 : w_11.cell? ⟨p_b2, 1, none⟩ = some (.slice o_1a k_1a c_1a) := hs.g3.cell 1 rfl
  have d2 : w_11.cell? ⟨p_b2, 2, none⟩ = some (.bool n_1b) := hs.g3.cell 2 rfl
  have d3 : w_11.cell? ⟨p_b2, 3, none⟩ = some (.slice o_1b k_1b c_1b) := hs.g3.cell 3 rfl
  have d4 : w_11.cell? ⟨p_b2, 4, none⟩ = some (.bool n_1c) := hs.g3.cell 4 rfl
  have d5 : w_11.cell? ⟨p_b2, 5, none⟩ = some (.slice o_1c k_1c c_1c) := hs.g3.cell 5 rfl
  have d6 : w_11.cell? ⟨p_b2, 6, none⟩ = some (.bool n_1d) := hs.g3.cell 6 rfl
  have d7 : w_11.cell? ⟨p_b2, 7, none⟩ = some (.slice o_1d k_1d c_1d) := hs.g3.cell 7 rfl
  go_big_op; refine hK _ _ rfl trivial ?_; clear hK K d0 d1 d2 d3 d4 d5 d6 d7
  refine sq ?_
  intro K hK
  have k8_11 := ((kb hb_9).b n10).o hd11 ho11
  replace ha1 := ha1.k k8_11
  replace ha2 := ha2.k k8_11
  replace ha3 := ha3.k k8_11
  replace ha4 := ha4.k k8_11
  replace hq1 := hq1.k k8_11
  replace hq2 := hq2.k k8_11
  replace hq3 := hq3.k k8_11
  replace hq4 := hq4.k k8_11
  go_big_op
  go_fit (gfQuo_bad2 (CN.mk' ha1 ha2 ha3 ha4) (CN.mk' hq1 hq2 hq3 hq4) (by omega) (by omega) (by omega) (by omega) (by omega) (by omega) (by omega) (by omega) HB.out.1 HB.out.2 (.inr H0.out))
  rintro e w_12 ⟨rfl, hb_12⟩
  replace hs := hs.bl hb_12
  refine hK _ _ rfl trivial ?_
  clear hK K
  refine sq ?_
  refine .mv ?_
  refine sq ?_
  refine .r0 ?_
  refine sq ?_
  refine .r0 ?_
  refine sq ?_
  refine .al hs ?_; clear hs; intro p_b6 w_13 hs n13 kb_b6
  refine sq ?_
  intro K hK
  have xs := hs.g0
  have d0 : w_13.cell? ⟨p_b6, 0, none⟩ = some (.bool false) := hs.g0.cell 0 rfl
  have d1 : w_13.cell? ⟨p_b6, 1, none⟩ = some (.slice none 0 0) := hs.g0.cell 1 rfl
  have d2 : w_13.cell? ⟨p_b6, 2, none⟩ = some (.bool false) := hs.g0.cell 2 rfl
  have d3 : w_13.cell? ⟨p_b6, 3, none⟩ = some (.slice none 0 0) := hs.g0.cell 3 rfl
  have d4 : w_13.cell? ⟨p_b6, 4, none⟩ = some (.bool false) := hs.g0.cell 4 rfl
  have d5 : w_13.cell? ⟨p_b6, 5, none⟩ = some (.slice none 0 0) := hs.g0.cell 5 rfl
  have d6 : w_13.cell? ⟨p_b6, 6, none⟩ = some (.bool false) := hs.g0.cell 6 rfl
  have d7 : w_13.cell? ⟨p_b6, 7, none⟩ = some (.slice none 0 0) := hs.g0.cell 7 rfl
  have f0 := xs.free 0; have f1 := xs.free 1; have f2 := xs.free 2; have f3 := xs.free 3; have f4 := xs.free 4; have f5 := xs.free 5; have f6 := xs.free 6; have f7 := xs.free 7
  go_big_op
  have hd14 := xs.nod rfl rfl
  obtain ⟨w_14_0, eW, xs_0, ho_0⟩ : ∃ w', ((((w_13.setCell ⟨p_b6, 0, none⟩ (.bool false)).setCell ⟨p_b6, 1, none⟩ (.slice none 0 0)).setCell ⟨p_b6, 2, none⟩ (.bool false)).setCell ⟨p_b6, 3, none⟩ (.slice none 0 0)) = w' ∧ Bs w' p_b6 #[.bool false, .slice none 0 0, .bool false, .slice none 0 0, .bool false, .slice none 0 0, .bool false, .slice none 0 0] 28 ∧ Only p_b6 w_13 w' := xs.setN [(0, .bool false), (1, .slice none 0 0), (2, .bool false), (3, .slice none 0 0)]
  rw [eW]; clear eW
  obtain ⟨w_14, eW, xs', ho_4⟩ : ∃ w', ((((w_14_0.setCell ⟨p_b6, 4, none⟩ (.bool false)).setCell ⟨p_b6, 5, none⟩ (.slice none 0 0)).setCell ⟨p_b6, 6, none⟩ (.bool false)).setCell ⟨p_b6, 7, none⟩ (.slice none 0 0)) = w' ∧ Bs w' p_b6 #[.bool false, .slice none 0 0, .bool false, .slice none 0 0, .bool false, .slice none 0 0, .bool false, .slice none 0 0] 28 ∧ Only p_b6 w_14_0 w' := xs_0.setN [(4, .bool false), (5, .slice none 0 0), (6, .bool false), (7, .slice none 0 0)]
  rw [eW]; clear eW xs_0
  have ho14 := (ho_0.trans ho_4)
  clear ho_0 ho_4 d0 d1 d2 d3 d4 d5 d6 d7 f0 f1 f2 f3 f4 f5 f6 f7 xs
  replace hs := hs.u0 kb_b6 xs' ho14; clear xs'
  refine hK _ _ rfl trivial ?_; clear hK K
  refine sq ?_
  refine .mv ?_
  apply wpSq_end
  refine hK5 _ _ ?_
  refine wp_seq_k ?_
  intro K6 hK6
  refine rg [0, 1, 2, 3, 4, 5, 6, 7] ?_
  refine sq ?_
  intro K hK
  have d0 : w_14.cell? ⟨p_b1, 0, none⟩ = some (.bool n_0a) := hs.g5.cell 0 rfl
  have d1 : w_14.cell? ⟨p_b1, 1, none⟩ = some (.slice o_0a k_0a c_0a) := hs.g5.cell 1 rfl
  have d2 : w_14.cell? ⟨p_b1, 2, none⟩ = some (.bool n_0b) := hs.g5.cell 2 rfl
  have d3 : w_14.cell? ⟨p_b1, 3, none⟩ = some (.slice o_0b k_0b c_0b) := hs.g5.cell 3 rfl
  have d4 : w_14.cell? ⟨p_b1, 4, none⟩ = some (.bool n_0c) := hs.g5.cell 4 rfl
  have d5 : w_14.cell? ⟨p_b1, 5, none⟩ = some (.slice o_0c k_0c c_0c) := hs.g5.cell 5 rfl
  have d6 : w_14.cell? ⟨p_b1, 6, none⟩ = some (.bool n_0d) := hs.g5.cell 6 rfl
  have d7 : w_14.cell? ⟨p_b1, 7, none⟩ = some (.slice o_0d k_0d c_0d) := hs.g5.cell 7 rfl
  go_big_op; refine hK _ _ rfl trivial ?_; clear hK K d0 d1 d2 d3 d4 d5 d6 d7
  refine sq ?_
  intro K hK
  have d0 : w_14.cell? ⟨p_b2, 0, none⟩ = some (.bool n_1a) := hs.g4.cell 0 rfl
  have d1 : w_14.cell? ⟨p_b2, 1, none⟩ = some (.slice o_1a k_1a c_1a) := hs.g4.cell 1 rfl
  have d2 : w_14.cell? ⟨p_b2, 2, none⟩ = some (.bool n_1b) := hs.g4.cell 2 rfl
  have d3 : w_14.cell? ⟨p_b2, 3, none⟩ = some (.slice o_1b k_1b c_1b) := hs.g4.cell 3 rfl
  have d4 : w_14.cell? ⟨p_b2, 4, none⟩ = some (.bool n_1c) := hs.g4.cell 4 rfl
  have d5 : w_14.cell? ⟨p_b2, 5, none⟩ = some (.slice o_1c k_1c c_1c) := hs.g4.cell 5 rfl
  have d6 : w_14.cell? ⟨p_b2, 6, none⟩ = some (.bool n_1d) := hs.g4.cell 6 rfl
  have d7 : w_14.cell? ⟨p_b2, 7, none⟩ = some (.slice o_1d k_1d c_1d) := hs.g4.cell 7 rfl
  go_big_op; refine hK _ _ rfl trivial ?_; clear hK K d0 d1 d2 d3 d4 d5 d6 d7
  refine sq ?_
  intro K hK
  have k11_14 := ((kb hb_12).b n13).o hd14 ho14
  replace ha1 := ha1.k k11_14
  replace ha2 := ha2.k k11_14
  replace ha3 := ha3.k k11_14
  replace ha4 := ha4.k k11_14
  replace hq1 := hq1.k k11_14
  replace hq2 := hq2.k k11_14
  replace hq3 := hq3.k k11_14
  replace hq4 := hq4.k k11_14
  go_big_op
  go_fit (gfEqual_dec (.mk' ha1 ha2 ha3 ha4) (.mk' hq1 hq2 hq3 hq4) (by omega) (by omega) (by omega) (by omega) (by omega) (by omega) (by omega) (by omega) HA.out.1 HA.out.2 HB.out.1 HB.out.2)
  rintro e w_15 ⟨rfl, hb_15⟩
  replace hs := hs.bl hb_15
  rw [HE.out]
  refine hK _ _ rfl trivial ?_
  clear hK K
  refine sq ?_
  refine .mv ?_
  refine sq ?_
  refine .r0 ?_
  refine sq ?_
  refine .r0 ?_
  refine sq ?_
  refine .mv ?_
  refine sq ?_
  refine .mv ?_
  apply wpSq_end
  refine hK6 _ _ ?_
  refine wp_seq_k ?_
  intro K7 hK7
  refine wp_seq_k ?_
  intro K8 hK8
  refine rg [0, 1] ?_
  refine sq ?_
  intro K hK
  have hb := hs.b
  go_big_op
  go_fit (awake7_any _ (htabs _ hb))
  rintro e w_16 ⟨rfl, hb_16⟩
  clear hb
  replace hs := hs.bl hb_16
  refine hK _ _ rfl trivial ?_
  clear hK K
  refine sq ?_
  refine .r0 ?_
  apply wpSq_end
  refine hK8 _ _ ?_
  refine cf ?_
  refine wp_skip ?_
  refine hK7 _ _ ?_
  refine wp_seq_k ?_
  intro K9 hK9
  refine wp_seq_k ?_
  intro K10 hK10
  refine rg [0, 1, 2, 3, 4, 5] ?_
  refine sq ?_
  intro K hK
  have d0 : w_16.cell? ⟨p_b1, 0, none⟩ = some (.bool n_0a) := hs.g5.cell 0 rfl
  have d1 : w_16.cell? ⟨p_b1, 1, none⟩ = some (.slice o_0a k_0a c_0a) := hs.g5.cell 1 rfl
  have d2 : w_16.cell? ⟨p_b1, 2, none⟩ = some (.bool n_0b) := hs.g5.cell 2 rfl
  have d3 : w_16.cell? ⟨p_b1, 3, none⟩ = some (.slice o_0b k_0b c_0b) := hs.g5.cell 3 rfl
  have d4 : w_16.cell? ⟨p_b1, 4, none⟩ = some (.bool n_0c) := hs.g5.cell 4 rfl
  have d5 : w_16.cell? ⟨p_b1, 5, none⟩ = some (.slice o_0c k_0c c_0c) := hs.g5.cell 5 rfl
  have d6 : w_16.cell? ⟨p_b1, 6, none⟩ = some (.bool n_0d) := hs.g5.cell 6 rfl
  have d7 : w_16.cell? ⟨p_b1, 7, none⟩ = some (.slice o_0d k_0d c_0d) := hs.g5.cell 7 rfl
  go_big_op; refine hK _ _ rfl trivial ?_; clear hK K d0 d1 d2 d3 d4 d5 d6 d7
  refine sq ?_
  intro K hK
  have k14_16 := (kb hb_15).b hb_16
  replace ha1 := ha1.k k14_16
  replace ha2 := ha2.k k14_16
  replace ha3 := ha3.k k14_16
  replace ha4 := ha4.k k14_16
  go_big_op
  go_fit (r7Bad_no (CN.mk' ha1 ha2 ha3 ha4) (by omega) (by omega) (by omega) (by omega) HA.out.1 HA.out.2)
  rintro e w_17 ⟨rfl, hb_17⟩
  replace hs := hs.bl hb_17
  refine hK _ _ rfl trivial ?_
  clear hK K
  refine sq ?_
  refine .mv ?_
  refine sq ?_
  intro K hK
  have d0 : w_17.cell? ⟨p_b2, 0, none⟩ = some (.bool n_1a) := hs.g4.cell 0 rfl
  have d1 : w_17.cell? ⟨p_b2, 1, none⟩ = some (.slice o_1a k_1a c_1a) := hs.g4.cell 1 rfl
  have d2 : w_17.cell? ⟨p_b2, 2, none⟩ = some (.bool n_1b) := hs.g4.cell 2 rfl
  have d3 : w_17.cell? ⟨p_b2, 3, none⟩ = some (.slice o_1b k_1b c_1b) := hs.g4.cell 3 rfl
  have d4 : w_17.cell? ⟨p_b2, 4, none⟩ = some (.bool n_1c) := hs.g4.cell 4 rfl
  have d5 : w_17.cell? ⟨p_b2, 5, none⟩ = some (.slice o_1c k_1c c_1c) := hs.g4.cell 5 rfl
  have d6 : w_17.cell? ⟨p_b2, 6, none⟩ = some (.bool n_1d) := hs.g4.cell 6 rfl
  have d7 : w_17.cell? ⟨p_b2, 7, none⟩ = some (.slice o_1d k_1d c_1d) := hs.g4.cell 7 rfl
  go_big_op; refine hK _ _ rfl trivial ?_; clear hK K d0 d1 d2 d3 d4 d5 d6 d7
  refine sq ?_
  intro K hK
  have k14_17 := k14_16.b hb_17
  replace hq1 := hq1.k k14_17
  replace hq2 := hq2.k k14_17
  replace hq3 := hq3.k k14_17
  replace hq4 := hq4.k k14_17
  go_big_op
  go_fit (r7Bad_no (CN.mk' hq1 hq2 hq3 hq4) (by omega) (by omega) (by omega) (by omega) HB.out.1 HB.out.2)
  rintro e w_18 ⟨rfl, hb_18⟩
  replace hs := hs.bl hb_18
  refine hK _ _ rfl trivial ?_
  clear hK K
  refine sq ?_
  refine .r0 ?_
  apply wpSq_end
  refine hK10 _ _ ?_
  refine cf ?_
  refine wp_skip ?_
  refine hK9 _ _ ?_
  refine wp_seq_k ?_
  intro K11 hK11
  refine wp_seq_k ?_
  intro K12 hK12
  refine wp_region_f4 [(0, false), (1, false), (2, false), (3, false), (4, true), (5, true), (6, false), (7, false), (8, false), (9, false), (10, false), (11, false), (12, true), (13, true), (14, false), (15, false), (16, false), (17, false), (18, false), (19, false), (20, false), (21, true), (22, true), (23, false), (24, false), (25, false), (26, false), (27, false), (28, false), (29, false), (30, false), (31, false), (32, false), (33, true), (34, true), (35, false), (36, false)] [] [] (fun _ => default) [0, 99, 1, 2, 99, 99, 99, 99, 3, 99, 1, 2, 99, 99, 99, 99, 99, 4, 99, 1, 2, 99, 99, 99, 99, 99, 99, 99, 99, 99, 99, 1, 2, 99, 99, 99, 99] [] (.c hs.g3 (.c hs.g5 (.c hs.g4 (.c hs.g2 (.c hs.g1 .n))))) fn fun w_19 n19 => ?_
  replace hs := hs.bl n19
  apply wpFl_ld rfl rfl; (case h1 => intro w' hC K hK; have c0 := Bs.cell hC 0 rfl; have c1 := Bs.cell hC 1 rfl; have c2 := Bs.cell hC 2 rfl; have c3 := Bs.cell hC 3 rfl; have c4 := Bs.cell hC 4 rfl; have c5 := Bs.cell hC 5 rfl; have c6 := Bs.cell hC 6 rfl; have c7 := Bs.cell hC 7 rfl; go_big_op; exact hK); iterate 4 kernel_rfl
  refine fmv ?_
  apply wpFl_ld rfl rfl; (case h1 => intro w' hC K hK; have c0 := Bs.cell hC 0 rfl; have c1 := Bs.cell hC 1 rfl; have c2 := Bs.cell hC 2 rfl; have c3 := Bs.cell hC 3 rfl; have c4 := Bs.cell hC 4 rfl; have c5 := Bs.cell hC 5 rfl; have c6 := Bs.cell hC 6 rfl; have c7 := Bs.cell hC 7 rfl; go_big_op; exact hK); iterate 4 kernel_rfl
  apply wpFl_ld rfl rfl; (case h1 => intro w' hC K hK; have c0 := Bs.cell hC 0 rfl; have c1 := Bs.cell hC 1 rfl; have c2 := Bs.cell hC 2 rfl; have c3 := Bs.cell hC 3 rfl; have c4 := Bs.cell hC 4 rfl; have c5 := Bs.cell hC 5 rfl; have c6 := Bs.cell hC 6 rfl; have c7 := Bs.cell hC 7 rfl; go_big_op; exact hK); iterate 4 kernel_rfl
  refine fl fun w_20 n20 => ?_
  replace hs := hs.bl n20
  intro K hK
  have k16_20 := (((kb hb_17).b hb_18).b n19).b n20
  replace ha1 := ha1.k k16_20
  replace ha2 := ha2.k k16_20
  replace ha3 := ha3.k k16_20
  replace ha4 := ha4.k k16_20
  have k17_20 := ((kb hb_18).b n19).b n20
  replace hq1 := hq1.k k17_20
  replace hq2 := hq2.k k17_20
  replace hq3 := hq3.k k17_20
  replace hq4 := hq4.k k17_20
  go_big_op
  go_fit (r7Add_ok (CN.mk' ha1 ha2 ha3 ha4) (CN.mk' hq1 hq2 hq3 hq4) (by omega) (by omega) (by omega) (by omega) (by omega) (by omega) (by omega) (by omega) HA.out.1 HA.out.2 HB.out.1 HB.out.2)
  rintro e w_21 ⟨_, rfl, ⟨n_ra1, o_ra1, k_ra1, c_ra1, n_ra2, o_ra2, k_ra2, c_ra2, n_ra3, o_ra3, k_ra3, c_ra3, n_ra4, o_ra4, k_ra4, c_ra4, rfl, ra1, ra2, ra3, ra4⟩, hb_21⟩
  replace hs := hs.bl hb_21
  have Lra1 := hide (ra1.lenOf ((r7s_len (HA.out.1) (HA.out.2) (HB.out.1) (HB.out.2) (ha1.len) (ha2.len) (ha3.len) (ha4.len) (hq1.len) (hq2.len) (hq3.len) (hq4.len)).1.1))
  have Lra2 := hide (ra2.lenOf ((r7s_len (HA.out.1) (HA.out.2) (HB.out.1) (HB.out.2) (ha1.len) (ha2.len) (ha3.len) (ha4.len) (hq1.len) (hq2.len) (hq3.len) (hq4.len)).1.2.1))
  have Lra3 := hide (ra3.lenOf ((r7s_len (HA.out.1) (HA.out.2) (HB.out.1) (HB.out.2) (ha1.len) (ha2.len) (ha3.len) (ha4.len) (hq1.len) (hq2.len) (hq3.len) (hq4.len)).1.2.2.1))
  have Lra4 := hide (ra4.lenOf ((r7s_len (HA.out.1) (HA.out.2) (HB.out.1) (HB.out.2) (ha1.len) (ha2.len) (ha3.len) (ha4.len) (hq1.len) (hq2.len) (hq3.len) (hq4.len)).1.2.2.2))
  refine hK _ _ rfl ⟨hb_21, (And.intro hs.g3 (And.intro hs.g5 (And.intro hs.g4 (And.intro hs.g2 (And.intro hs.g1 trivial)))))⟩ ?_
  clear hK K
  refine fl fun w_22 n22 => ?_
  replace hs := hs.bl n22
  intro K hK
  have k3_22 := ((((((((((((((((((kb n4).o hd5 ho5).b hb_6).b n7).o hd8 ho8).b hb_9).b n10).o hd11 ho11).b hb_12).b n13).o hd14 ho14).b hb_15).b hb_16).b hb_17).b hb_18).b n19).b n20).b hb_21).b n22
  replace ad1 := ad1.k k3_22
  replace ad2 := ad2.k k3_22
  replace ad3 := ad3.k k3_22
  replace ad4 := ad4.k k3_22
  have k21_22 := kb n22
  replace ra1 := ra1.k k21_22
  replace ra2 := ra2.k k21_22
  replace ra3 := ra3.k k21_22
  replace ra4 := ra4.k k21_22
  go_big_op
  go_fit (told7_ok (.mk' ad1 ad2 ad3 ad4) (.mk' (ra1.zn Lra1.out) (ra2.zn Lra2.out) (ra3.zn Lra3.out) (ra4.zn Lra4.out)) (by omega) (by omega) (by omega) (by omega))
  rintro e w_23 ⟨rfl, hb_23⟩
  replace hs := hs.bl hb_23
  refine hK _ _ rfl ⟨hb_23, (And.intro hs.g3 (And.intro hs.g5 (And.intro hs.g4 (And.intro hs.g2 (And.intro hs.g1 trivial)))))⟩ ?_
  clear hK K
  refine f0 ?_
  refine fmv ?_
  apply wpFl_ld rfl rfl; (case h1 => intro w' hC K hK; have c0 := Bs.cell hC 0 rfl; have c1 := Bs.cell hC 1 rfl; have c2 := Bs.cell hC 2 rfl; have c3 := Bs.cell hC 3 rfl; have c4 := Bs.cell hC 4 rfl; have c5 := Bs.cell hC 5 rfl; have c6 := Bs.cell hC 6 rfl; have c7 := Bs.cell hC 7 rfl; go_big_op; exact hK); iterate 4 kernel_rfl
  refine fmv ?_
  apply wpFl_ld rfl rfl; (case h1 => intro w' hC K hK; have c0 := Bs.cell hC 0 rfl; have c1 := Bs.cell hC 1 rfl; have c2 := Bs.cell hC 2 rfl; have c3 := Bs.cell hC 3 rfl; have c4 := Bs.cell hC 4 rfl; have c5 := Bs.cell hC 5 rfl; have c6 := Bs.cell hC 6 rfl; have c7 := Bs.cell hC 7 rfl; go_big_op; exact hK); iterate 4 kernel_rfl
  apply wpFl_ld rfl rfl; (case h1 => intro w' hC K hK; have c0 := Bs.cell hC 0 rfl; have c1 := Bs.cell hC 1 rfl; have c2 := Bs.cell hC 2 rfl; have c3 := Bs.cell hC 3 rfl; have c4 := Bs.cell hC 4 rfl; have c5 := Bs.cell hC 5 rfl; have c6 := Bs.cell hC 6 rfl; have c7 := Bs.cell hC 7 rfl; go_big_op; exact hK); iterate 4 kernel_rfl
  refine fl fun w_24 n24 => ?_
  replace hs := hs.bl n24
  intro K hK
  have k20_24 := (((kb hb_21).b n22).b hb_23).b n24
  replace ha1 := ha1.k k20_24
  replace ha2 := ha2.k k20_24
  replace ha3 := ha3.k k20_24
  replace ha4 := ha4.k k20_24
  replace hq1 := hq1.k k20_24
  replace hq2 := hq2.k k20_24
  replace hq3 := hq3.k k20_24
  replace hq4 := hq4.k k20_24
  go_big_op
  go_fit (r7Sub_ok (CN.mk' ha1 ha2 ha3 ha4) (CN.mk' hq1 hq2 hq3 hq4) (by omega) (by omega) (by omega) (by omega) (by omega) (by omega) (by omega) (by omega) HA.out.1 HA.out.2 HB.out.1 HB.out.2)
  rintro e w_25 ⟨_, rfl, ⟨n_rs1, o_rs1, k_rs1, c_rs1, n_rs2, o_rs2, k_rs2, c_rs2, n_rs3, o_rs3, k_rs3, c_rs3, n_rs4, o_rs4, k_rs4, c_rs4, rfl, rs1, rs2, rs3, rs4⟩, hb_25⟩
  replace hs := hs.bl hb_25
  have Lrs1 := hide (rs1.lenOf ((r7s_len (HA.out.1) (HA.out.2) (HB.out.1) (HB.out.2) (ha1.len) (ha2.len) (ha3.len) (ha4.len) (hq1.len) (hq2.len) (hq3.len) (hq4.len)).2.1))
  have Lrs2 := hide (rs2.lenOf ((r7s_len (HA.out.1) (HA.out.2) (HB.out.1) (HB.out.2) (ha1.len) (ha2.len) (ha3.len) (ha4.len) (hq1.len) (hq2.len) (hq3.len) (hq4.len)).2.2.1))
  have Lrs3 := hide (rs3.lenOf ((r7s_len (HA.out.1) (HA.out.2) (HB.out.1) (HB.out.2) (ha1.len) (ha2.len) (ha3.len) (ha4.len) (hq1.len) (hq2.len) (hq3.len) (hq4.len)).2.2.2.1))
  have Lrs4 := hide (rs4.lenOf ((r7s_len (HA.out.1) (HA.out.2) (HB.out.1) (HB.out.2) (ha1.len) (ha2.len) (ha3.len) (ha4.len) (hq1.len) (hq2.len) (hq3.len) (hq4.len)).2.2.2.2))
  refine hK _ _ rfl ⟨hb_25, (And.intro hs.g3 (And.intro hs.g5 (And.intro hs.g4 (And.intro hs.g2 (And.intro hs.g1 trivial)))))⟩ ?_
  clear hK K
  refine fl fun w_26 n26 => ?_
  replace hs := hs.bl n26
  intro K hK
  have k6_26 := (((((((((((((((((((kb n7).o hd8 ho8).b hb_9).b n10).o hd11 ho11).b hb_12).b n13).o hd14 ho14).b hb_15).b hb_16).b hb_17).b hb_18).b n19).b n20).b hb_21).b n22).b hb_23).b n24).b hb_25).b n26
  replace su1 := su1.k k6_26
  replace su2 := su2.k k6_26
  replace su3 := su3.k k6_26
  replace su4 := su4.k k6_26
  have k25_26 := kb n26
  replace rs1 := rs1.k k25_26
  replace rs2 := rs2.k k25_26
  replace rs3 := rs3.k k25_26
  replace rs4 := rs4.k k25_26
  go_big_op
  go_fit (told7_ok (.mk' su1 su2 su3 su4) (.mk' (rs1.zn Lrs1.out) (rs2.zn Lrs2.out) (rs3.zn Lrs3.out) (rs4.zn Lrs4.out)) (by omega) (by omega) (by omega) (by omega))
  rintro e w_27 ⟨rfl, hb_27⟩
  replace hs := hs.bl hb_27
  refine hK _ _ rfl ⟨hb_27, (And.intro hs.g3 (And.intro hs.g5 (And.intro hs.g4 (And.intro hs.g2 (And.intro hs.g1 trivial)))))⟩ ?_
  clear hK K
  refine f0 ?_
  refine f0 ?_
  refine fmv ?_
  apply wpFl_ld rfl rfl; (case h1 => intro w' hC K hK; have c0 := Bs.cell hC 0 rfl; have c1 := Bs.cell hC 1 rfl; have c2 := Bs.cell hC 2 rfl; have c3 := Bs.cell hC 3 rfl; have c4 := Bs.cell hC 4 rfl; have c5 := Bs.cell hC 5 rfl; have c6 := Bs.cell hC 6 rfl; have c7 := Bs.cell hC 7 rfl; go_big_op; exact hK); iterate 4 kernel_rfl
  refine fmv ?_
  apply wpFl_ld rfl rfl; (case h1 => intro w' hC K hK; have c0 := Bs.cell hC 0 rfl; have c1 := Bs.cell hC 1 rfl; have c2 := Bs.cell hC 2 rfl; have c3 := Bs.cell hC 3 rfl; have c4 := Bs.cell hC 4 rfl; have c5 := Bs.cell hC 5 rfl; have c6 := Bs.cell hC 6 rfl; have c7 := Bs.cell hC 7 rfl; go_big_op; exact hK); iterate 4 kernel_rfl
  apply wpFl_ld rfl rfl; (case h1 => intro w' hC K hK; have c0 := Bs.cell hC 0 rfl; have c1 := Bs.cell hC 1 rfl; have c2 := Bs.cell hC 2 rfl; have c3 := Bs.cell hC 3 rfl; have c4 := Bs.cell hC 4 rfl; have c5 := Bs.cell hC 5 rfl; have c6 := Bs.cell hC 6 rfl; have c7 := Bs.cell hC 7 rfl; go_big_op; exact hK); iterate 4 kernel_rfl
  refine fl fun w_28 n28 => ?_
  clear ra1 ra2 ra3 ra4 rs1 rs2 rs3 rs4
  replace hs := hs.bl n28
  intro K hK
  have k24_28 := (((kb hb_25).b n26).b hb_27).b n28
  replace ha1 := ha1.k k24_28
  replace ha2 := ha2.k k24_28
  replace ha3 := ha3.k k24_28
  replace ha4 := ha4.k k24_28
  replace hq1 := hq1.k k24_28
  replace hq2 := hq2.k k24_28
  replace hq3 := hq3.k k24_28
  replace hq4 := hq4.k k24_28
  go_big_op
  go_fit (r7Mul_ok (CN.mk' ha1 ha2 ha3 ha4) (CN.mk' hq1 hq2 hq3 hq4) (by omega) (by omega) (by omega) (by omega) (by omega) (by omega) (by omega) (by omega) HA.out.1 HA.out.2 HB.out.1 HB.out.2)
  rintro e w_29 ⟨_, rfl, ⟨n_rm1, o_rm1, k_rm1, c_rm1, n_rm2, o_rm2, k_rm2, c_rm2, n_rm3, o_rm3, k_rm3, c_rm3, n_rm4, o_rm4, k_rm4, c_rm4, rfl, rm1, rm2, rm3, rm4⟩, hb_29⟩
  replace hs := hs.bl hb_29
  have Lrm1 := hide (rm1.lenOf ((r7m_len (HA.out.1) (HA.out.2) (HB.out.1) (HB.out.2) (ha1.len) (ha2.len) (ha3.len) (ha4.len) (hq1.len) (hq2.len) (hq3.len) (hq4.len)).1))
  have Lrm2 := hide (rm2.lenOf ((r7m_len (HA.out.1) (HA.out.2) (HB.out.1) (HB.out.2) (ha1.len) (ha2.len) (ha3.len) (ha4.len) (hq1.len) (hq2.len) (hq3.len) (hq4.len)).2.1))
  have Lrm3 := hide (rm3.lenOf ((r7m_len (HA.out.1) (HA.out.2) (HB.out.1) (HB.out.2) (ha1.len) (ha2.len) (ha3.len) (ha4.len) (hq1.len) (hq2.len) (hq3.len) (hq4.len)).2.2.1))
  have Lrm4 := hide (rm4.lenOf ((r7m_len (HA.out.1) (HA.out.2) (HB.out.1) (HB.out.2) (ha1.len) (ha2.len) (ha3.len) (ha4.len) (hq1.len) (hq2.len) (hq3.len) (hq4.len)).2.2.2))
  refine hK _ _ rfl ⟨hb_29, (And.intro hs.g3 (And.intro hs.g5 (And.intro hs.g4 (And.intro hs.g2 (And.intro hs.g1 trivial)))))⟩ ?_
  clear hK K
  refine fl fun w_30 n30 => ?_
  replace hs := hs.bl n30
  intro K hK
  have k9_30 := ((((((((((((((((((((kb n10).o hd11 ho11).b hb_12).b n13).o hd14 ho14).b hb_15).b hb_16).b hb_17).b hb_18).b n19).b n20).b hb_21).b n22).b hb_23).b n24).b hb_25).b n26).b hb_27).b n28).b hb_29).b n30
  replace mu1 := mu1.k k9_30
  replace mu2 := mu2.k k9_30
  replace mu3 := mu3.k k9_30
  replace mu4 := mu4.k k9_30
  have k29_30 := kb n30
  replace rm1 := rm1.k k29_30
  replace rm2 := rm2.k k29_30
  replace rm3 := rm3.k k29_30
  replace rm4 := rm4.k k29_30
  go_big_op
  go_fit (told7_ok (.mk' mu1 mu2 mu3 mu4) (.mk' (rm1.zn Lrm1.out) (rm2.zn Lrm2.out) (rm3.zn Lrm3.out) (rm4.zn Lrm4.out)) (by omega) (by omega) (by omega) (by omega))
  rintro e w_31 ⟨rfl, hb_31⟩
  replace hs := hs.bl hb_31
  refine hK _ _ rfl ⟨hb_31, (And.intro hs.g3 (And.intro hs.g5 (And.intro hs.g4 (And.intro hs.g2 (And.intro hs.g1 trivial)))))⟩ ?_
  clear hK K
  refine f0 ?_
  refine f0 ?_
  refine fmv ?_
  refine fmv ?_
  refine f0 ?_
  refine f0 ?_
  refine fmv ?_
  refine fmv ?_
  apply wpFl_ld rfl rfl; (case h1 => intro w' hC K hK; have c0 := Bs.cell hC 0 rfl; have c1 := Bs.cell hC 1 rfl; have c2 := Bs.cell hC 2 rfl; have c3 := Bs.cell hC 3 rfl; have c4 := Bs.cell hC 4 rfl; have c5 := Bs.cell hC 5 rfl; have c6 := Bs.cell hC 6 rfl; have c7 := Bs.cell hC 7 rfl; go_big_op; exact hK); iterate 4 kernel_rfl
  apply wpFl_ld rfl rfl; (case h1 => intro w' hC K hK; have c0 := Bs.cell hC 0 rfl; have c1 := Bs.cell hC 1 rfl; have c2 := Bs.cell hC 2 rfl; have c3 := Bs.cell hC 3 rfl; have c4 := Bs.cell hC 4 rfl; have c5 := Bs.cell hC 5 rfl; have c6 := Bs.cell hC 6 rfl; have c7 := Bs.cell hC 7 rfl; go_big_op; exact hK); iterate 4 kernel_rfl
  refine fl fun w_32 n32 => ?_
  replace hs := hs.bl n32
  intro K hK
  have k28_32 := (((kb hb_29).b n30).b hb_31).b n32
  replace ha1 := ha1.k k28_32
  replace ha2 := ha2.k k28_32
  replace ha3 := ha3.k k28_32
  replace ha4 := ha4.k k28_32
  replace hq1 := hq1.k k28_32
  replace hq2 := hq2.k k28_32
  replace hq3 := hq3.k k28_32
  replace hq4 := hq4.k k28_32
  go_big_op
  go_fit (r7Sub_ok (CN.mk' ha1 ha2 ha3 ha4) (CN.mk' hq1 hq2 hq3 hq4) (by omega) (by omega) (by omega) (by omega) (by omega) (by omega) (by omega) (by omega) HA.out.1 HA.out.2 HB.out.1 HB.out.2)
  rintro e w_33 ⟨_, rfl, ⟨n_rt1, o_rt1, k_rt1, c_rt1, n_rt2, o_rt2, k_rt2, c_rt2, n_rt3, o_rt3, k_rt3, c_rt3, n_rt4, o_rt4, k_rt4, c_rt4, rfl, rt1, rt2, rt3, rt4⟩, hb_33⟩
  replace hs := hs.bl hb_33
  have Lrt1 := hide (rt1.lenOf ((r7s_len (HA.out.1) (HA.out.2) (HB.out.1) (HB.out.2) (ha1.len) (ha2.len) (ha3.len) (ha4.len) (hq1.len) (hq2.len) (hq3.len) (hq4.len)).2.1))
  have Lrt2 := hide (rt2.lenOf ((r7s_len (HA.out.1) (HA.out.2) (HB.out.1) (HB.out.2) (ha1.len) (ha2.len) (ha3.len) (ha4.len) (hq1.len) (hq2.len) (hq3.len) (hq4.len)).2.2.1))
  have Lrt3 := hide (rt3.lenOf ((r7s_len (HA.out.1) (HA.out.2) (HB.out.1) (HB.out.2) (ha1.len) (ha2.len) (ha3.len) (ha4.len) (hq1.len) (hq2.len) (hq3.len) (hq4.len)).2.2.2.1))
  have Lrt4 := hide (rt4.lenOf ((r7s_len (HA.out.1) (HA.out.2) (HB.out.1) (HB.out.2) (ha1.len) (ha2.len) (ha3.len) (ha4.len) (hq1.len) (hq2.len) (hq3.len) (hq4.len)).2.2.2.2))
  refine hK _ _ rfl ⟨hb_33, (And.intro hs.g3 (And.intro hs.g5 (And.intro hs.g4 (And.intro hs.g2 (And.intro hs.g1 trivial)))))⟩ ?_
  clear hK K
  refine fl fun w_34 n34 => ?_
  replace hs := hs.bl n34
  intro K hK
  have k33_34 := kb n34
  replace rt1 := rt1.k k33_34
  replace rt2 := rt2.k k33_34
  replace rt3 := rt3.k k33_34
  replace rt4 := rt4.k k33_34
  go_big_op
  go_fit (r7Null_dec (.mk' (rt1.zn Lrt1.out) (rt2.zn Lrt2.out) (rt3.zn Lrt3.out) (rt4.zn Lrt4.out)) (by omega) (by omega) (by omega) (by omega) (HD.out _) (HD.out _))
  rintro e w_35 ⟨rfl, hb_35⟩
  replace hs := hs.bl hb_35
  rw [HE.out]
  refine hK _ _ rfl ⟨hb_35, (And.intro hs.g3 (And.intro hs.g5 (And.intro hs.g4 (And.intro hs.g2 (And.intro hs.g1 trivial)))))⟩ ?_
  clear hK K
  refine f0 ?_
  refine f0 ?_
  refine e0 hs ?_; clear hs; intro w_36 hs n36
  clear rm1 rm2 rm3 rm4 rt1 rt2 rt3 rt4
  apply wpTail_end
  refine hK12 _ _ ?_
  refine cf ?_
  refine wp_skip ?_
  refine hK11 _ _ ?_
  refine wp_seq_k ?_
  intro K13 hK13
  refine wp_seq_k ?_
  intro K14 hK14
  refine rg [0, 1] ?_
  refine sq ?_
  intro K hK
  have d0 : w_36.cell? ⟨p_b2, 0, none⟩ = some (.bool n_1a) := hs.g4.cell 0 rfl
  have d1 : w_36.cell? ⟨p_b2, 1, none⟩ = some (.slice o_1a k_1a c_1a) := hs.g4.cell 1 rfl
  have d2 : w_36.cell? ⟨p_b2, 2, none⟩ = some (.bool n_1b) := hs.g4.cell 2 rfl
  have d3 : w_36.cell? ⟨p_b2, 3, none⟩ = some (.slice o_1b k_1b c_1b) := hs.g4.cell 3 rfl
  have d4 : w_36.cell? ⟨p_b2, 4, none⟩ = some (.bool n_1c) := hs.g4.cell 4 rfl
  have d5 : w_36.cell? ⟨p_b2, 5, none⟩ = some (.slice o_1c k_1c c_1c) := hs.g4.cell 5 rfl
  have d6 : w_36.cell? ⟨p_b2, 6, none⟩ = some (.bool n_1d) := hs.g4.cell 6 rfl
  have d7 : w_36.cell? ⟨p_b2, 7, none⟩ = some (.slice o_1d k_1d c_1d) := hs.g4.cell 7 rfl
  go_big_op; refine hK _ _ rfl trivial ?_; clear hK K d0 d1 d2 d3 d4 d5 d6 d7
  refine sq ?_
  intro K hK
  have k32_36 := (((kb hb_33).b n34).b hb_35).b n36
  replace hq1 := hq1.k k32_36
  replace hq2 := hq2.k k32_36
  replace hq3 := hq3.k k32_36
  replace hq4 := hq4.k k32_36
  go_big_op
  go_fit (r7Null_yes (.mk' hq1 hq2 hq3 hq4) (by omega) (by omega) (by omega) (by omega) H0.out.1 H0.out.2)
  rintro e w_37 ⟨rfl, hb_37⟩
  clear ad1 ad2 ad3 ad4 su1 su2 su3 su4 mu1 mu2 mu3 mu4
  replace hs := hs.bl hb_37
  refine hK _ _ rfl trivial ?_
  clear hK K
  apply wpSq_end
  refine hK14 _ _ ?_
  refine ct ?_
  refine wp_seq_k ?_
  intro K15 hK15
  refine rg [0, 1, 2, 3, 4] ?_
  refine sq ?_
  intro K hK
  have d0 : w_37.cell? ⟨p_b6, 0, none⟩ = some (.bool false) := hs.g0.cell 0 rfl
  have d1 : w_37.cell? ⟨p_b6, 1, none⟩ = some (.slice none 0 0) := hs.g0.cell 1 rfl
  have d2 : w_37.cell? ⟨p_b6, 2, none⟩ = some (.bool false) := hs.g0.cell 2 rfl
  have d3 : w_37.cell? ⟨p_b6, 3, none⟩ = some (.slice none 0 0) := hs.g0.cell 3 rfl
  have d4 : w_37.cell? ⟨p_b6, 4, none⟩ = some (.bool false) := hs.g0.cell 4 rfl
  have d5 : w_37.cell? ⟨p_b6, 5, none⟩ = some (.slice none 0 0) := hs.g0.cell 5 rfl
  have d6 : w_37.cell? ⟨p_b6, 6, none⟩ = some (.bool false) := hs.g0.cell 6 rfl
  have d7 : w_37.cell? ⟨p_b6, 7, none⟩ = some (.slice none 0 0) := hs.g0.cell 7 rfl
  go_big_op; refine hK _ _ rfl trivial ?_; clear hK K d0 d1 d2 d3 d4 d5 d6 d7
  refine sq ?_
  refine .mv ?_
  refine sq ?_
  intro K hK
  have d0 : w_37.cell? ⟨p_b6, 0, none⟩ = some (.bool false) := hs.g0.cell 0 rfl
  have d1 : w_37.cell? ⟨p_b6, 1, none⟩ = some (.slice none 0 0) := hs.g0.cell 1 rfl
  have d2 : w_37.cell? ⟨p_b6, 2, none⟩ = some (.bool false) := hs.g0.cell 2 rfl
  have d3 : w_37.cell? ⟨p_b6, 3, none⟩ = some (.slice none 0 0) := hs.g0.cell 3 rfl
  have d4 : w_37.cell? ⟨p_b6, 4, none⟩ = some (.bool false) := hs.g0.cell 4 rfl
  have d5 : w_37.cell? ⟨p_b6, 5, none⟩ = some (.slice none 0 0) := hs.g0.cell 5 rfl
  have d6 : w_37.cell? ⟨p_b6, 6, none⟩ = some (.bool false) := hs.g0.cell 6 rfl
  have d7 : w_37.cell? ⟨p_b6, 7, none⟩ = some (.slice none 0 0) := hs.g0.cell 7 rfl
  go_big_op; refine hK _ _ rfl trivial ?_; clear hK K d0 d1 d2 d3 d4 d5 d6 d7
  refine sq ?_
  intro K hK
  go_big_op
  go_fit (told7_err _ 5 (by decide))
  rintro e w_38 ⟨rfl, hb_38⟩
  replace hs := hs.bl hb_38
  refine hK _ _ rfl trivial ?_
  clear hK K
  refine sq ?_
  refine .mv ?_
  apply wpSq_end
  refine hK15 _ _ ?_
  refine wp_ret ?_
  try dsimp only [Exit.then, Exit.inBlock]
  refine bodyPost_ret (v := (.bool true)) (by simp [results, Tryz.results4, go_sem]) rfl ?_
  have hb := hs.b
  exact ⟨rfl, hb⟩
set_option maxHeartbeats 8000000 in
set_option maxRecDepth 20000 in
theorem sums7_some (ha : CN w va x l y m u k v n) (hq : CN w vb p l2 q m2 s k2 t n2) (hl : l ≤ 1048576) (hm : m ≤ 1048576) (hk : k ≤ 1048576) (hn : n ≤ 1048576) (hl2 : l2 ≤ 1048576) (hm2 : m2 ≤ 1048576) (hk2 : k2 ≤ 1048576) (hn2 : n2 ≤ 1048576) (hy : y ≠ 0) (hv : v ≠ 0) (hq0 : q ≠ 0) (ht : t ≠ 0) (h0 : ¬ (p = 0 ∧ s = 0)) (htab : Lib.TabIs Tryz.prog w p10 .u64 Lib.pow10Tab) :
    Calls Tryz.prog 4 #[va, vb] w fun e w' => e = .returned (.bool true) ∧ Below w.heap.size w w' := by
  have htabs := Lib.tabBelow_of_tabIs htab
  have HA := hide (And.intro hy hv)
  have HB := hide (And.intro hq0 ht)
  have H0 := hide h0
  have HD := hide den_ne
  obtain ⟨B, hB⟩ : ∃ B, decide ((rv x y - rv p q).num = 0 ∧ (rv u v - rv s t).num = 0) = B := ⟨_, rfl⟩
  have HE := hide hB
  have HZ := hide (show decide (p = 0 ∧ s = 0) = false from decide_eq_false h0)
  clear hy hv hq0 ht h0 hB
  obtain ⟨n_0a, o_0a, k_0a, c_0a, n_0b, o_0b, k_0b, c_0b, n_0c, o_0c, k_0c, c_0c, n_0d, o_0d, k_0d, c_0d, rfl, ha1, ha2, ha3, ha4⟩ := ha
  obtain ⟨n_1a, o_1a, k_1a, c_1a, n_1b, o_1b, k_1b, c_1b, n_1c, o_1c, k_1c, c_1c, n_1d, o_1d, k_1d, c_1d, rfl, hq1, hq2, hq3, hq4⟩ := hq
  go_enter Tryz.func4, Tryz.ntmps4
  have hs := St.nil w
  refine wp_seq_k ?_
  intro K1 hK1
  refine rg [0, 1, 2] ?_
  refine sq ?_
  refine .al hs ?_; clear hs; intro p_b1 w_1 hs n1 kb_b1
  refine sq ?_
  refine .al hs ?_; clear hs; intro p_b2 w_2 hs n2 kb_b2
  refine sq ?_
  refine .mv ?_
  apply wpSq_end
  refine hK1 _ _ ?_
  refine wp_seq_k ?_
  intro K2 hK2
  refine rg [0, 1, 2, 3, 4, 5, 6, 7, 8] ?_
  refine sq ?_
  intro K hK
  have d0 : w_2.cell? ⟨p_b1, 0, none⟩ = some (.bool n_0a) := hs.g1.cell 0 rfl
  have d1 : w_2.cell? ⟨p_b1, 1, none⟩ = some (.slice o_0a k_0a c_0a) := hs.g1.cell 1 rfl
  have d2 : w_2.cell? ⟨p_b1, 2, none⟩ = some (.bool n_0b) := hs.g1.cell 2 rfl
  have d3 : w_2.cell? ⟨p_b1, 3, none⟩ = some (.slice o_0b k_0b c_0b) := hs.g1.cell 3 rfl
  have d4 : w_2.cell? ⟨p_b1, 4, none⟩ = some (.bool n_0c) := hs.g1.cell 4 rfl
  have d5 : w_2.cell? ⟨p_b1, 5, none⟩ = some (.slice o_0c k_0c c_0c) := hs.g1.cell 5 rfl
  have d6 : w_2.cell? ⟨p_b1, 6, none⟩ = some (.bool n_0d) := hs.g1.cell 6 rfl
  have d7 : w_2.cell? ⟨p_b1, 7, none⟩ = some (.slice o_0d k_0d c_0d) := hs.g1.cell 7 rfl
  go_big_op; refine hK _ _ rfl trivial ?_; clear hK K d0 d1 d2 d3 d4 d5 d6 d7
  refine sq ?_
  intro K hK
  have d0 : w_2.cell? ⟨p_b2, 0, none⟩ = some (.bool n_1a) := hs.g0.cell 0 rfl
  have d1 : w_2.cell? ⟨p_b2, 1, none⟩ = some (.slice o_1a k_1a c_1a) := hs.g0.cell 1 rfl
  have d2 : w_2.cell? ⟨p_b2, 2, none⟩ = some (.bool n_1b) := hs.g0.cell 2 rfl
  have d3 : w_2.cell? ⟨p_b2, 3, none⟩ = some (.slice o_1b k_1b c_1b) := hs.g0.cell 3 rfl
  have d4 : w_2.cell? ⟨p_b2, 4, none⟩ = some (.bool n_1c) := hs.g0.cell 4 rfl
  have d5 : w_2.cell? ⟨p_b2, 5, none⟩ = some (.slice o_1c k_1c c_1c) := hs.g0.cell 5 rfl
  have d6 : w_2.cell? ⟨p_b2, 6, none⟩ = some (.bool n_1d) := hs.g0.cell 6 rfl
  have d7 : w_2.cell? ⟨p_b2, 7, none⟩ = some (.slice o_1d k_1d c_1d) := hs.g0.cell 7 rfl
  go_big_op; refine hK _ _ rfl trivial ?_; clear hK K d0 d1 d2 d3 d4 d5 d6 d7
  refine sq ?_
  intro K hK
  have k0_2 := (kb n1).b n2
  replace ha1 := ha1.k k0_2
  replace ha2 := ha2.k k0_2
  replace ha3 := ha3.k k0_2
  replace ha4 := ha4.k k0_2
  replace hq1 := hq1.k k0_2
  replace hq2 := hq2.k k0_2
  replace hq3 := hq3.k k0_2
  replace hq4 := hq4.k k0_2
  go_big_op
  go_fit (gfAdd_ok (CN.mk' ha1 ha2 ha3 ha4) (CN.mk' hq1 hq2 hq3 hq4) (by omega) (by omega) (by omega) (by omega) (by omega) (by omega) (by omega) (by omega) HA.out.1 HA.out.2 HB.out.1 HB.out.2)
  rintro e w_3 ⟨_, rfl, ⟨n_ad1, o_ad1, k_ad1, c_ad1, n_ad2, o_ad2, k_ad2, c_ad2, n_ad3, o_ad3, k_ad3, c_ad3, n_ad4, o_ad4, k_ad4, c_ad4, rfl, ad1, ad2, ad3, ad4⟩, hb_3⟩
  replace hs := hs.bl hb_3
  have Lad1 := hide (ad1.lenOf ((r7s_len (HA.out.1) (HA.out.2) (HB.out.1) (HB.out.2) (ha1.len) (ha2.len) (ha3.len) (ha4.len) (hq1.len) (hq2.len) (hq3.len) (hq4.len)).1.1))
  have Lad2 := hide (ad2.lenOf ((r7s_len (HA.out.1) (HA.out.2) (HB.out.1) (HB.out.2) (ha1.len) (ha2.len) (ha3.len) (ha4.len) (hq1.len) (hq2.len) (hq3.len) (hq4.len)).1.2.1))
  have Lad3 := hide (ad3.lenOf ((r7s_len (HA.out.1) (HA.out.2) (HB.out.1) (HB.out.2) (ha1.len) (ha2.len) (ha3.len) (ha4.len) (hq1.len) (hq2.len) (hq3.len) (hq4.len)).1.2.2.1))
  have Lad4 := hide (ad4.lenOf ((r7s_len (HA.out.1) (HA.out.2) (HB.out.1) (HB.out.2) (ha1.len) (ha2.len) (ha3.len) (ha4.len) (hq1.len) (hq2.len) (hq3.len) (hq4.len)).1.2.2.2))
  refine hK _ _ rfl trivial ?_
  clear hK K
  refine sq ?_
  refine .mv ?_
  refine sq ?_
  refine .r0 ?_
  refine sq ?_
  refine .r0 ?_
  refine sq ?_
  refine .al hs ?_; clear hs; intro p_b3 w_4 hs n4 kb_b3
  refine sq ?_
  intro K hK
  have xs := hs.g0
  have d0 : w_4.cell? ⟨p_b3, 0, none⟩ = some (.bool false) := hs.g0.cell 0 rfl
  have d1 : w_4.cell? ⟨p_b3, 1, none⟩ = some (.slice none 0 0) := hs.g0.cell 1 rfl
  have d2 : w_4.cell? ⟨p_b3, 2, none⟩ = some (.bool false) := hs.g0.cell 2 rfl
  have d3 : w_4.cell? ⟨p_b3, 3, none⟩ = some (.slice none 0 0) := hs.g0.cell 3 rfl
  have d4 : w_4.cell? ⟨p_b3, 4, none⟩ = some (.bool false) := hs.g0.cell 4 rfl
  have d5 : w_4.cell? ⟨p_b3, 5, none⟩ = some (.slice none 0 0) := hs.g0.cell 5 rfl
  have d6 : w_4.cell? ⟨p_b3, 6, none⟩ = some (.bool false) := hs.g0.cell 6 rfl
  have d7 : w_4.cell? ⟨p_b3, 7, none⟩ = some (.slice none 0 0) := hs.g0.cell 7 rfl
  have f0 := xs.free 0; have f1 := xs.free 1; have f2 := xs.free 2; have f3 := xs.free 3; have f4 := xs.free 4; have f5 := xs.free 5; have f6 := xs.free 6; have f7 := xs.free 7
  go_big_op
  have hd5 := xs.nod rfl rfl
  obtain ⟨w_5_0, eW, xs_0, ho_0⟩ : ∃ w', ((((w_4.setCell ⟨p_b3, 0, none⟩ (.bool n_ad1)).setCell ⟨p_b3, 1, none⟩ (.slice o_ad1 k_ad1 c_ad1)).setCell ⟨p_b3, 2, none⟩ (.bool n_ad2)).setCell ⟨p_b3, 3, none⟩ (.slice o_ad2 k_ad2 c_ad2)) = w' ∧ Bs w' p_b3 #[.bool n_ad1, .slice o_ad1 k_ad1 c_ad1, .bool n_ad2, .slice o_ad2 k_ad2 c_ad2, .bool false, .slice none 0 0, .bool false, .slice none 0 0] 28 ∧ Only p_b3 w_4 w' := xs.setN [(0, .bool n_ad1), (1, .slice o_ad1 k_ad1 c_ad1), (2, .bool n_ad2), (3, .slice o_ad2 k_ad2 c_ad2)]
  rw [eW]; clear eW
  obtain ⟨w_5, eW, xs', ho_4⟩ : ∃ w', ((((w_5_0.setCell ⟨p_b3, 4, none⟩ (.bool n_ad3)).setCell ⟨p_b3, 5, none⟩ (.slice o_ad3 k_ad3 c_ad3)).setCell ⟨p_b3, 6, none⟩ (.bool n_ad4)).setCell ⟨p_b3, 7, none⟩ (.slice o_ad4 k_ad4 c_ad4)) = w' ∧ Bs w' p_b3 #[.bool n_ad1, .slice o_ad1 k_ad1 c_ad1, .bool n_ad2, .slice o_ad2 k_ad2 c_ad2, .bool n_ad3, .slice o_ad3 k_ad3 c_ad3, .bool n_ad4, .slice o_ad4 k_ad4 c_ad4] 28 ∧ Only p_b3 w_5_0 w' := xs_0.setN [(4, .bool n_ad3), (5, .slice o_ad3 k_ad3 c_ad3), (6, .bool n_ad4), (7, .slice o_ad4 k_ad4 c_ad4)]
  rw [eW]; clear eW xs_0
  have ho5 := (ho_0.trans ho_4)
  clear ho_0 ho_4 d0 d1 d2 d3 d4 d5 d6 d7 f0 f1 f2 f3 f4 f5 f6 f7 xs
  replace hs := hs.u0 kb_b3 xs' ho5; clear xs'
  refine hK _ _ rfl trivial ?_; clear hK K
  refine sq ?_
  refine .mv ?_
  apply wpSq_end
  refine hK2 _ _ ?_
  refine wp_seq_k ?_
  intro K3 hK3
  refine rg [0, 1, 2, 3, 4, 5, 6, 7, 8] ?_
  refine sq ?_
  intro K hK
  have d0 : w_5.cell? ⟨p_b1, 0, none⟩ = some (.bool n_0a) := hs.g2.cell 0 rfl
  have d1 : w_5.cell? ⟨p_b1, 1, none⟩ = some (.slice o_0a k_0a c_0a) := hs.g2.cell 1 rfl
  have d2 : w_5.cell? ⟨p_b1, 2, none⟩ = some (.bool n_0b) := hs.g2.cell 2 rfl
  have d3 : w_5.cell? ⟨p_b1, 3, none⟩ = some (.slice o_0b k_0b c_0b) := hs.g2.cell 3 rfl
  have d4 : w_5.cell? ⟨p_b1, 4, none⟩ = some (.bool n_0c) := hs.g2.cell 4 rfl
  have d5 : w_5.cell? ⟨p_b1, 5, none⟩ = some (.slice o_0c k_0c c_0c) := hs.g2.cell 5 rfl
  have d6 : w_5.cell? ⟨p_b1, 6, none⟩ = some (.bool n_0d) := hs.g2.cell 6 rfl
  have d7 : w_5.cell? ⟨p_b1, 7, none⟩ = some (.slice o_0d k_0d c_0d) := hs.g2.cell 7 rfl
  go_big_op; refine hK _ _ rfl trivial ?_; clear hK K d0 d1 d2 d3 d4 d5 d6 d7
  refine sq ?_
  intro K hK
  have d0 : w_5.cell? ⟨p_b2, 0, none⟩ = some (.bool n_1a) := hs.g1.cell 0 rfl
  have d1 : w_5.cell? ⟨p_b2, 1, none⟩ = some (.slice o_1a k_1a c_1a) := hs.g1.cell 1 rfl
  have d2 : w_5.cell? ⟨p_b2, 2, none⟩ = some (.bool n_1b) := hs.g1.cell 2 rfl
  have d3 : w_5.cell? ⟨p_b2, 3, none⟩ = some (.slice o_1b k_1b c_1b) := hs.g1.cell 3 rfl
  have d4 : w_5.cell? ⟨p_b2, 4, none⟩ = some (.bool n_1c) := hs.g1.cell 4 rfl
  have d5 : w_5.cell? ⟨p_b2, 5, none⟩ = some (.slice o_1c k_1c c_1c) := hs.g1.cell 5 rfl
  have d6 : w_5.cell? ⟨p_b2, 6, none⟩ = some (.bool n_1d) := hs.g1.cell 6 rfl
  have d7 : w_5.cell? ⟨p_b2, 7, none⟩ = some (.slice o_1d k_1d c_1d) := hs.g1.cell 7 rfl
  go_big_op; refine hK _ _ rfl trivial ?_; clear hK K d0 d1 d2 d3 d4 d5 d6 d7
  refine sq ?_
  intro K hK
  have k2_5 := ((kb hb_3).b n4).o hd5 ho5
  replace ha1 := ha1.k k2_5
  replace ha2 := ha2.k k2_5
  replace ha3 := ha3.k k2_5
  replace ha4 := ha4.k k2_5
  replace hq1 := hq1.k k2_5
  replace hq2 := hq2.k k2_5
  replace hq3 := hq3.k k2_5
  replace hq4 := hq4.k k2_5
  go_big_op
  go_fit (gfSub_ok (CN.mk' ha1 ha2 ha3 ha4) (CN.mk' hq1 hq2 hq3 hq4) (by omega) (by omega) (by omega) (by omega) (by omega) (by omega) (by omega) (by omega) HA.out.1 HA.out.2 HB.out.1 HB.out.2)
  rintro e w_6 ⟨_, rfl, ⟨n_su1, o_su1, k_su1, c_su1, n_su2, o_su2, k_su2, c_su2, n_su3, o_su3, k_su3, c_su3, n_su4, o_su4, k_su4, c_su4, rfl, su1, su2, su3, su4⟩, hb_6⟩
  replace hs := hs.bl hb_6
  have Lsu1 := hide (su1.lenOf ((r7s_len (HA.out.1) (HA.out.2) (HB.out.1) (HB.out.2) (ha1.len) (ha2.len) (ha3.len) (ha4.len) (hq1.len) (hq2.len) (hq3.len) (hq4.len)).2.1))
  have Lsu2 := hide (su2.lenOf ((r7s_len (HA.out.1) (HA.out.2) (HB.out.1) (HB.out.2) (ha1.len) (ha2.len) (ha3.len) (ha4.len) (hq1.len) (hq2.len) (hq3.len) (hq4.len)).2.2.1))
  have Lsu3 := hide (su3.lenOf ((r7s_len (HA.out.1) (HA.out.2) (HB.out.1) (HB.out.2) (ha1.len) (ha2.len) (ha3.len) (ha4.len) (hq1.len) (hq2.len) (hq3.len) (hq4.len)).2.2.2.1))
  have Lsu4 := hide (su4.lenOf ((r7s_len (HA.out.1) (HA.out.2) (HB.out.1) (HB.out.2) (ha1.len) (ha2.len) (ha3.len) (ha4.len) (hq1.len) (hq2.len) (hq3.len) (hq4.len)).2.2.2.2))
  refine hK _ _ rfl trivial ?_
  clear hK K
  refine sq ?_
  refine .mv ?_
  refine sq ?_
  refine .r0 ?_
  refine sq ?_
  refine .r0 ?_
  refine sq ?_
  refine .al hs ?_; clear hs; intro p_b4 w_7 hs n7 kb_b4
  refine sq ?_
  intro K hK
  have xs := hs.g0
  have d0 : w_7.cell? ⟨p_b4, 0, none⟩ = some (.bool false) := hs.g0.cell 0 rfl
  have d1 : w_7.cell? ⟨p_b4, 1, none⟩ = some (.slice none 0 0) := hs.g0.cell 1 rfl
  have d2 : w_7.cell? ⟨p_b4, 2, none⟩ = some (.bool false) := hs.g0.cell 2 rfl
  have d3 : w_7.cell? ⟨p_b4, 3, none⟩ = some (.slice none 0 0) := hs.g0.cell 3 rfl
  have d4 : w_7.cell? ⟨p_b4, 4, none⟩ = some (.bool false) := hs.g0.cell 4 rfl
  have d5 : w_7.cell? ⟨p_b4, 5, none⟩ = some (.slice none 0 0) := hs.g0.cell 5 rfl
  have d6 : w_7.cell? ⟨p_b4, 6, none⟩ = some (.bool false) := hs.g0.cell 6 rfl
  have d7 : w_7.cell? ⟨p_b4, 7, none⟩ = some (.slice none 0 0) := hs.g0.cell 7 rfl
  have f0 := xs.free 0; have f1 := xs.free 1; have f2 := xs.free 2; have f3 := xs.free 3; have f4 := xs.free 4; have f5 := xs.free 5; have f6 := xs.free 6; have f7 := xs.free 7
  go_big_op
  have hd8 := xs.nod rfl rfl
  obtain ⟨w_8_0, eW, xs_0, ho_0⟩ : ∃ w', ((((w_7.setCell ⟨p_b4, 0, none⟩ (.bool n_su1)).setCell ⟨p_b4, 1, none⟩ (.slice o_su1 k_su1 c_su1)).setCell ⟨p_b4, 2, none⟩ (.bool n_su2)).setCell ⟨p_b4, 3, none⟩ (.slice o_su2 k_su2 c_su2)) = w' ∧ Bs w' p_b4 #[.bool n_su1, .slice o_su1 k_su1 c_su1, .bool n_su2, .slice o_su2 k_su2 c_su2, .bool false, .slice none 0 0, .bool false, .slice none 0 0] 28 ∧ Only p_b4 w_7 w' := xs.setN [(0, .bool n_su1), (1, .slice o_su1 k_su1 c_su1), (2, .bool n_su2), (3, .slice o_su2 k_su2 c_su2)]
  rw [eW]; clear eW
  obtain ⟨w_8, eW, xs', ho_4⟩ : ∃ w', ((((w_8_0.setCell ⟨p_b4, 4, none⟩ (.bool n_su3)).setCell ⟨p_b4, 5, none⟩ (.slice o_su3 k_su3 c_su3)).setCell ⟨p_b4, 6, none⟩ (.bool n_su4)).setCell ⟨p_b4, 7, none⟩ (.slice o_su4 k_su4 c_su4)) = w' ∧ Bs w' p_b4 #[.bool n_su1, .slice o_su1 k_su1 c_su1, .bool n_su2, .slice o_su2 k_su2 c_su2, .bool n_su3, .slice o_su3 k_su3 c_su3, .bool n_su4, .slice o_su4 k_su4 c_su4] 28 ∧ Only p_b4 w_8_0 w' := xs_0.setN [(4, .bool n_su3), (5, .slice o_su3 k_su3 c_su3), (6, .bool n_su4), (7, .slice o_su4 k_su4 c_su4)]
  rw [eW]; clear eW xs_0
  have ho8 := (ho_0.trans ho_4)
  clear ho_0 ho_4 d0 d1 d2 d3 d4 d5 d6 d7 f0 f1 f2 f3 f4 f5 f6 f7 xs
  replace hs := hs.u0 kb_b4 xs' ho8; clear xs'
  refine hK _ _ rfl trivial ?_; clear hK K
  refine sq ?_
  refine .mv ?_
  apply wpSq_end
  refine hK3 _ _ ?_
  refine wp_seq_k ?_
  intro K4 hK4
  refine rg [0, 1, 2, 3, 4, 5, 6, 7, 8] ?_
  refine sq ?_
  intro K hK
  have d0 : w_8.cell? ⟨p_b1, 0, none⟩ = some (.bool n_0a) := hs.g3.cell 0 rfl
  have d1 : w_8.cell? ⟨p_b1, 1, none⟩ = some (.slice o_0a k_0a c_0a) := hs.g3.cell 1 rfl
  have d2 : w_8.cell? ⟨p_b1, 2, none⟩ = some (.bool n_0b) := hs.g3.cell 2 rfl
  have d3 : w_8.cell? ⟨p_b1, 3, none⟩ = some (.slice o_0b k_0b c_0b) := hs.g3.cell 3 rfl
  have d4 : w_8.cell? ⟨p_b1, 4, none⟩ = some (.bool n_0c) := hs.g3.cell 4 rfl
  have d5 : w_8.cell? ⟨p_b1, 5, none⟩ = some (.slice o_0c k_0c c_0c) := hs.g3.cell 5 rfl
  have d6 : w_8.cell? ⟨p_b1, 6, none⟩ = some (.bool n_0d) := hs.g3.cell 6 rfl
  have d7 : w_8.cell? ⟨p_b1, 7, none⟩ = some (.slice o_0d k_0d c_0d) := hs.g3.cell 7 rfl
  go_big_op; refine hK _ _ rfl trivial ?_; clear hK K d0 d1 d2 d3 d4 d5 d6 d7
  refine sq ?_
  intro K hK
  have d0 : w_8.cell? ⟨p_b2, 0, none⟩ = some (.bool n_1a) := hs.g2.cell 0 rfl
  have d1 : w_8.cell? ⟨p_b2, 1, none⟩ = some (.slice o_1a k_1a c_1a) := hs.g2.cell 1 rfl
  have d2 : w_8.cell? ⟨p_b2, 2, none⟩ = some (.bool n_1b) := hs.g2.cell 2 rfl
  have d3 : w_8.cell? ⟨p_b2, 3, none⟩ = some (.slice o_1b k_1b c_1b) := hs.g2.cell 3 rfl
  have d4 : w_8.cell? ⟨p_b2, 4, none⟩ = some (.bool n_1c) := hs.g2.cell 4 rfl
  have d5 : w_8.cell? ⟨p_b2, 5, none⟩ = some (.slice o_1c k_1c c_1c) := hs.g2.cell 5 rfl
  have d6 : w_8.cell? ⟨p_b2, 6, none⟩ = some (.bool n_1d) := hs.g2.cell 6 rfl
  have d7 : w_8.cell? ⟨p_b2, 7, none⟩ = some (.slice o_1d k_1d c_1d) := hs.g2.cell 7 rfl
  go_big_op; refine hK _ _ rfl trivial ?_; clear hK K d0 d1 d2 d3 d4 d5 d6 d7
  refine sq ?_
  intro K hK
  have k5_8 := ((kb hb_6).b n7).o hd8 ho8
  replace ha1 := ha1.k k5_8
  replace ha2 := ha2.k k5_8
  replace ha3 := ha3.k k5_8
  replace ha4 := ha4.k k5_8
  replace hq1 := hq1.k k5_8
  replace hq2 := hq2.k k5_8
  replace hq3 := hq3.k k5_8
  replace hq4 := hq4.k k5_8
  go_big_op
  go_fit (gfMul_ok (CN.mk' ha1 ha2 ha3 ha4) (CN.mk' hq1 hq2 hq3 hq4) (by omega) (by omega) (by omega) (by omega) (by omega) (by omega) (by omega) (by omega) HA.out.1 HA.out.2 HB.out.1 HB.out.2)
  rintro e w_9 ⟨_, rfl, ⟨n_mu1, o_mu1, k_mu1, c_mu1, n_mu2, o_mu2, k_mu2, c_mu2, n_mu3, o_mu3, k_mu3, c_mu3, n_mu4, o_mu4, k_mu4, c_mu4, rfl, mu1, mu2, mu3, mu4⟩, hb_9⟩
  replace hs := hs.bl hb_9
  have Lmu1 := hide (mu1.lenOf ((r7m_len (HA.out.1) (HA.out.2) (HB.out.1) (HB.out.2) (ha1.len) (ha2.len) (ha3.len) (ha4.len) (hq1.len) (hq2.len) (hq3.len) (hq4.len)).1))
  have Lmu2 := hide (mu2.lenOf ((r7m_len (HA.out.1) (HA.out.2) (HB.out.1) (HB.out.2) (ha1.len) (ha2.len) (ha3.len) (ha4.len) (hq1.len) (hq2.len) (hq3.len) (hq4.len)).2.1))
  have Lmu3 := hide (mu3.lenOf ((r7m_len (HA.out.1) (HA.out.2) (HB.out.1) (HB.out.2) (ha1.len) (ha2.len) (ha3.len) (ha4.len) (hq1.len) (hq2.len) (hq3.len) (hq4.len)).2.2.1))
  have Lmu4 := hide (mu4.lenOf ((r7m_len (HA.out.1) (HA.out.2) (HB.out.1) (HB.out.2) (ha1.len) (ha2.len) (ha3.len) (ha4.len) (hq1.len) (hq2.len) (hq3.len) (hq4.len)).2.2.2))
  refine hK _ _ rfl trivial ?_
  clear hK K
  refine sq ?_
  refine .mv ?_
  refine sq ?_
  refine .r0 ?_
  refine sq ?_
  refine .r0 ?_
  refine sq ?_
  refine .al hs ?_; clear hs; intro p_b5 w_10 hs n10 kb_b5
  refine sq ?_
  intro K hK
  have xs := hs.g0
  have d0 : w_10.cell? ⟨p_b5, 0, none⟩ = some (.bool false) := hs.g0.cell 0 rfl
  have d1 : w_10.cell? ⟨p_b5, 1, none⟩ = some (.slice none 0 0) := hs.g0.cell 1 rfl
  have d2 : w_10.cell? ⟨p_b5, 2, none⟩ = some (.bool false) := hs.g0.cell 2 rfl
  have d3 : w_10.cell? ⟨p_b5, 3, none⟩ = some (.slice none 0 0) := hs.g0.cell 3 rfl
  have d4 : w_10.cell? ⟨p_b5, 4, none⟩ = some (.bool false) := hs.g0.cell 4 rfl
  have d5 : w_10.cell? ⟨p_b5, 5, none⟩ = some (.slice none 0 0) := hs.g0.cell 5 rfl
  have d6 : w_10.cell? ⟨p_b5, 6, none⟩ = some (.bool false) := hs.g0.cell 6 rfl
  have d7 : w_10.cell? ⟨p_b5, 7, none⟩ = some (.slice none 0 0) := hs.g0.cell 7 rfl
  have f0 := xs.free 0; have f1 := xs.free 1; have f2 := xs.free 2; have f3 := xs.free 3; have f4 := xs.free 4; have f5 := xs.free 5; have f6 := xs.free 6; have f7 := xs.free 7
  go_big_op
  have hd11 := xs.nod rfl rfl
  obtain ⟨w_11_0, eW, xs_0, ho_0⟩ : ∃ w', ((((w_10.setCell ⟨p_b5, 0, none⟩ (.bool n_mu1)).setCell ⟨p_b5, 1, none⟩ (.slice o_mu1 k_mu1 c_mu1)).setCell ⟨p_b5, 2, none⟩ (.bool n_mu2)).setCell ⟨p_b5, 3, none⟩ (.slice o_mu2 k_mu2 c_mu2)) = w' ∧ Bs w' p_b5 #[.bool n_mu1, .slice o_mu1 k_mu1 c_mu1, .bool n_mu2, .slice o_mu2 k_mu2 c_mu2, .bool false, .slice none 0 0, .bool false, .slice none 0 0] 28 ∧ Only p_b5 w_10 w' := xs.setN [(0, .bool n_mu1), (1, .slice o_mu1 k_mu1 c_mu1), (2, .bool n_mu2), (3, .slice o_mu2 k_mu2 c_mu2)]
  rw [eW]; clear eW
  obtain ⟨w_11, eW, xs', ho_4⟩ : ∃ w', ((((w_11_0.setCell ⟨p_b5, 4, none⟩ (.bool n_mu3)).setCell ⟨p_b5, 5, none⟩ (.slice o_mu3 k_mu3 c_mu3)).setCell ⟨p_b5, 6, none⟩ (.bool n_mu4)).setCell ⟨p_b5, 7, none⟩ (.slice o_mu4 k_mu4 c_mu4)) = w' ∧ Bs w' p_b5 #[.bool n_mu1, .slice o_mu1 k_mu1 c_mu1, .bool n_mu2, .slice o_mu2 k_mu2 c_mu2, .bool n_mu3, .slice o_mu3 k_mu3 c_mu3, .bool n_mu4, .slice o_mu4 k_mu4 c_mu4] 28 ∧ Only p_b5 w_11_0 w' := xs_0.setN [(4, .bool n_mu3), (5, .slice o_mu3 k_mu3 c_mu3), (6, .bool n_mu4), (7, .slice o_mu4 k_mu4 c_mu4)]
  rw [eW]; clear eW xs_0
  have ho11 := (ho_0.trans ho_4)
  clear ho_0 ho_4 d0 d1 d2 d3 d4 d5 d6 d7 f0 f1 f2 f3 f4 f5 f6 f7 xs
  replace hs := hs.u0 kb_b5 xs' ho11; clear xs'
  refine hK _ _ rfl trivial ?_; clear hK K
  refine sq ?_
  refine .mv ?_
  apply wpSq_end
  refine hK4 _ _ ?_
  refine wp_seq_k ?_
  intro K5 hK5
  refine rg [0, 1, 2, 3, 4, 5, 6, 7, 8] ?_
  refine sq ?_
  intro K hK
  have d0 : w_11.cell? ⟨p_b1, 0, none⟩ = some (.bool n_0a) := hs.g4.cell 0 rfl
  have d1 : w_11.cell? ⟨p_b1, 1, none⟩ = some (.slice o_0a k_0a c_0a) := hs.g4.cell 1 rfl
  have d2 : w_11.cell? ⟨p_b1, 2, none⟩ = some (.bool n_0b) := hs.g4.cell 2 rfl
  have d3 : w_11.cell? ⟨p_b1, 3, none⟩ = some (.slice o_0b k_0b c_0b) := hs.g4.cell 3 rfl
  have d4 : w_11.cell? ⟨p_b1, 4, none⟩ = some (.bool n_0c) := hs.g4.cell 4 rfl
  have d5 : w_11.cell? ⟨p_b1, 5, none⟩ = some (.slice o_0c k_0c c_0c) := hs.g4.cell 5 rfl
  have d6 : w_11.cell? ⟨p_b1, 6, none⟩ = some (.bool n_0d) := hs.g4.cell 6 rfl
  have d7 : w_11.cell? ⟨p_b1, 7, none⟩ = some (.slice o_0d k_0d c_0d) := hs.g4.cell 7 rfl
  go_big_op; refine hK _ _ rfl trivial ?_; clear hK K d0 d1 d2 d3 d4 d5 d6 d7
  refine sq ?_
  intro K hK
  have d0 : w_11.cell? ⟨p_b2, 0, none⟩ = some (.bool n_1a) := hs.g3.cell 0 rfl
  have d1 : w_11.cell? ⟨p_b2, 1, none⟩ = some (.slice o_1a k_1a c_1a) := hs.g3.cell 1 rfl
  have d2 : w_11.cell? ⟨p_b2, 2, none⟩ = some (.bool n_1b) := hs.g3.cell 2 rfl
  have d3 : w_11.cell? ⟨p_b2, 3, none⟩ = some (.slice o_1b k_1b c_1b) := hs.g3.cell 3 rfl
  have d4 : w_11.cell? ⟨p_b2, 4, none⟩ = some (.bool n_1c) := hs.g3.cell 4 rfl
  have d5 : w_11.cell? ⟨p_b2, 5, none⟩ = some (.slice o_1c k_1c c_1c) := hs.g3.cell 5 rfl
  have d6 : w_11.cell? ⟨p_b2, 6, none⟩ = some (.bool n_1d) := hs.g3.cell 6 rfl
  have d7 : w_11.cell? ⟨p_b2, 7, none⟩ = some (.slice o_1d k_1d c_1d) := hs.g3.cell 7 rfl
  go_big_op; refine hK _ _ rfl trivial ?_; clear hK K d0 d1 d2 d3 d4 d5 d6 d7
  refine sq ?_
  intro K hK
  have k8_11 := ((kb hb_9).b n10).o hd11 ho11
  replace ha1 := ha1.k k8_11
  replace ha2 := ha2.k k8_11
  replace ha3 := ha3.k k8_11
  replace ha4 := ha4.k k8_11
  replace hq1 := hq1.k k8_11
  replace hq2 := hq2.k k8_11
  replace hq3 := hq3.k k8_11
  replace hq4 := hq4.k k8_11
  go_big_op
  go_fit (gfQuo_ok (CN.mk' ha1 ha2 ha3 ha4) (CN.mk' hq1 hq2 hq3 hq4) (by omega) (by omega) (by omega) (by omega) (by omega) (by omega) (by omega) (by omega) HA.out.1 HA.out.2 HB.out.1 HB.out.2 H0.out)
  rintro e w_12 ⟨_, rfl, ⟨n_qu1, o_qu1, k_qu1, c_qu1, n_qu2, o_qu2, k_qu2, c_qu2, n_qu3, o_qu3, k_qu3, c_qu3, n_qu4, o_qu4, k_qu4, c_qu4, rfl, qu1, qu2, qu3, qu4⟩, hb_12⟩
  replace hs := hs.bl hb_12
  refine hK _ _ rfl trivial ?_
  clear hK K
  refine sq ?_
  refine .mv ?_
  refine sq ?_
  refine .r0 ?_
  refine sq ?_
  refine .r0 ?_
  refine sq ?_
  refine .al hs ?_; clear hs; intro p_b6 w_13 hs n13 kb_b6
  refine sq ?_
  intro K hK
  have xs := hs.g0
  have d0 : w_13.cell? ⟨p_b6, 0, none⟩ = some (.bool false) := hs.g0.cell 0 rfl
  have d1 : w_13.cell? ⟨p_b6, 1, none⟩ = some (.slice none 0 0) := hs.g0.cell 1 rfl
  have d2 : w_13.cell? ⟨p_b6, 2, none⟩ = some (.bool false) := hs.g0.cell 2 rfl
  have d3 : w_13.cell? ⟨p_b6, 3, none⟩ = some (.slice none 0 0) := hs.g0.cell 3 rfl
  have d4 : w_13.cell? ⟨p_b6, 4, none⟩ = some (.bool false) := hs.g0.cell 4 rfl
  have d5 : w_13.cell? ⟨p_b6, 5, none⟩ = some (.slice none 0 0) := hs.g0.cell 5 rfl
  have d6 : w_13.cell? ⟨p_b6, 6, none⟩ = some (.bool false) := hs.g0.cell 6 rfl
  have d7 : w_13.cell? ⟨p_b6, 7, none⟩ = some (.slice none 0 0) := hs.g0.cell 7 rfl
  have f0 := xs.free 0; have f1 := xs.free 1; have f2 := xs.free 2; have f3 := xs.free 3; have f4 := xs.free 4; have f5 := xs.free 5; have f6 := xs.free 6; have f7 := xs.free 7
  go_big_op
  have hd14 := xs.nod rfl rfl
  obtain ⟨w_14_0, eW, xs_0, ho_0⟩ : ∃ w', ((((w_13.setCell ⟨p_b6, 0, none⟩ (.bool n_qu1)).setCell ⟨p_b6, 1, none⟩ (.slice o_qu1 k_qu1 c_qu1)).setCell ⟨p_b6, 2, none⟩ (.bool n_qu2)).setCell ⟨p_b6, 3, none⟩ (.slice o_qu2 k_qu2 c_qu2)) = w' ∧ Bs w' p_b6 #[.bool n_qu1, .slice o_qu1 k_qu1 c_qu1, .bool n_qu2, .slice o_qu2 k_qu2 c_qu2, .bool false, .slice none 0 0, .bool false, .slice none 0 0] 28 ∧ Only p_b6 w_13 w' := xs.setN [(0, .bool n_qu1), (1, .slice o_qu1 k_qu1 c_qu1), (2, .bool n_qu2), (3, .slice o_qu2 k_qu2 c_qu2)]
  rw [eW]; clear eW
  obtain ⟨w_14, eW, xs', ho_4⟩ : ∃ w', ((((w_14_0.setCell ⟨p_b6, 4, none⟩ (.bool n_qu3)).setCell ⟨p_b6, 5, none⟩ (.slice o_qu3 k_qu3 c_qu3)).setCell ⟨p_b6, 6, none⟩ (.bool n_qu4)).setCell ⟨p_b6, 7, none⟩ (.slice o_qu4 k_qu4 c_qu4)) = w' ∧ Bs w' p_b6 #[.bool n_qu1, .slice o_qu1 k_qu1 c_qu1, .bool n_qu2, .slice o_qu2 k_qu2 c_qu2, .bool n_qu3, .slice o_qu3 k_qu3 c_qu3, .bool n_qu4, .slice o_qu4 k_qu4 c_qu4] 28 ∧ Only p_b6 w_14_0 w' := xs_0.setN [(4, .bool n_qu3), (5, .slice o_qu3 k_qu3 c_qu3), (6, .bool n_qu4), (7, .slice o_qu4 k_qu4 c_qu4)]
  rw [eW]; clear eW xs_0
  have ho14 := (ho_0.trans ho_4)
  clear ho_0 ho_4 d0 d1 d2 d3 d4 d5 d6 d7 f0 f1 f2 f3 f4 f5 f6 f7 xs
  replace hs := hs.u0 kb_b6 xs' ho14; clear xs'
  refine hK _ _ rfl trivial ?_; clear hK K
  refine sq ?_
  refine .mv ?_
  apply wpSq_end
  refine hK5 _ _ ?_
  refine wp_seq_k ?_
  intro K6 hK6
  refine rg [0, 1, 2, 3, 4, 5, 6, 7] ?_
  refine sq ?_
  intro K hK
  have d0 : w_14.cell? ⟨p_b1, 0, none⟩ = some (.bool n_0a) := hs.g5.cell 0 rfl
  have d1 : w_14.cell? ⟨p_b1, 1, none⟩ = some (.slice o_0a k_0a c_0a) := hs.g5.cell 1 rfl
  have d2 : w_14.cell? ⟨p_b1, 2, none⟩ = some (.bool n_0b) := hs.g5.cell 2 rfl
  have d3 : w_14.cell? ⟨p_b1, 3, none⟩ = some (.slice o_0b k_0b c_0b) := hs.g5.cell 3 rfl
  have d4 : w_14.cell? ⟨p_b1, 4, none⟩ = some (.bool n_0c) := hs.g5.cell 4 rfl
  have d5 : w_14.cell? ⟨p_b1, 5, none⟩ = some (.slice o_0c k_0c c_0c) := hs.g5.cell 5 rfl
  have d6 : w_14.cell? ⟨p_b1, 6, none⟩ = some (.bool n_0d) := hs.g5.cell 6 rfl
  have d7 : w_14.cell? ⟨p_b1, 7, none⟩ = some (.slice o_0d k_0d c_0d) := hs.g5.cell 7 rfl
  go_big_op; refine hK _ _ rfl trivial ?_; clear hK K d0 d1 d2 d3 d4 d5 d6 d7
  refine sq ?_
  intro K hK
  have d0 : w_14.cell? ⟨p_b2, 0, none⟩ = some (.bool n_1a) := hs.g4.cell 0 rfl
  have d1 : w_14.cell? ⟨p_b2, 1, none⟩ = some (.slice o_1a k_1a c_1a) := hs.g4.cell 1 rfl
  have d2 : w_14.cell? ⟨p_b2, 2, none⟩ = some (.bool n_1b) := hs.g4.cell 2 rfl
  have d3 : w_14.cell? ⟨p_b2, 3, none⟩ = some (.slice o_1b k_1b c_1b) := hs.g4.cell 3 rfl
  have d4 : w_14.cell? ⟨p_b2, 4, none⟩ = some (.bool n_1c) := hs.g4.cell 4 rfl
  have d5 : w_14.cell? ⟨p_b2, 5, none⟩ = some (.slice o_1c k_1c c_1c) := hs.g4.cell 5 rfl
  have d6 : w_14.cell? ⟨p_b2, 6, none⟩ = some (.bool n_1d) := hs.g4.cell 6 rfl
  have d7 : w_14.cell? ⟨p_b2, 7, none⟩ = some (.slice o_1d k_1d c_1d) := hs.g4.cell 7 rfl
  go_big_op; refine hK _ _ rfl trivial ?_; clear hK K d0 d1 d2 d3 d4 d5 d6 d7
  refine sq ?_
  intro K hK
  have k11_14 := ((kb hb_12).b n13).o hd14 ho14
  replace ha1 := ha1.k k11_14
  replace ha2 := ha2.k k11_14
  replace ha3 := ha3.k k11_14
  replace ha4 := ha4.k k11_14
  replace hq1 := hq1.k k11_14
  replace hq2 := hq2.k k11_14
  replace hq3 := hq3.k k11_14
  replace hq4 := hq4.k k11_14
  go_big_op
  go_fit (gfEqual_dec (.mk' ha1 ha2 ha3 ha4) (.mk' hq1 hq2 hq3 hq4) (by omega) (by omega) (by omega) (by omega) (by omega) (by omega) (by omega) (by omega) HA.out.1 HA.out.2 HB.out.1 HB.out.2)
  rintro e w_15 ⟨rfl, hb_15⟩
  replace hs := hs.bl hb_15
  rw [HE.out]
  refine hK _ _ rfl trivial ?_
  clear hK K
  refine sq ?_
  refine .mv ?_
  refine sq ?_
  refine .r0 ?_
  refine sq ?_
  refine .r0 ?_
  refine sq ?_
  refine .mv ?_
  refine sq ?_
  refine .mv ?_
  apply wpSq_end
  refine hK6 _ _ ?_
  refine wp_seq_k ?_
  intro K7 hK7
  refine wp_seq_k ?_
  intro K8 hK8
  refine rg [0, 1] ?_
  refine sq ?_
  intro K hK
  have hb := hs.b
  go_big_op
  go_fit (awake7_any _ (htabs _ hb))
  rintro e w_16 ⟨rfl, hb_16⟩
  clear hb
  replace hs := hs.bl hb_16
  refine hK _ _ rfl trivial ?_
  clear hK K
  refine sq ?_
  refine .r0 ?_
  apply wpSq_end
  refine hK8 _ _ ?_
  refine cf ?_
  refine wp_skip ?_
  refine hK7 _ _ ?_
  refine wp_seq_k ?_
  intro K9 hK9
  refine wp_seq_k ?_
  intro K10 hK10
  refine rg [0, 1, 2, 3, 4, 5] ?_
  refine sq ?_
  intro K hK
  have d0 : w_16.cell? ⟨p_b1, 0, none⟩ = some (.bool n_0a) := hs.g5.cell 0 rfl
  have d1 : w_16.cell? ⟨p_b1, 1, none⟩ = some (.slice o_0a k_0a c_0a) := hs.g5.cell 1 rfl
  have d2 : w_16.cell? ⟨p_b1, 2, none⟩ = some (.bool n_0b) := hs.g5.cell 2 rfl
  have d3 : w_16.cell? ⟨p_b1, 3, none⟩ = some (.slice o_0b k_0b c_0b) := hs.g5.cell 3 rfl
  have d4 : w_16.cell? ⟨p_b1, 4, none⟩ = some (.bool n_0c) := hs.g5.cell 4 rfl
  have d5 : w_16.cell? ⟨p_b1, 5, none⟩ = some (.slice o_0c k_0c c_0c) := hs.g5.cell 5 rfl
  have d6 : w_16.cell? ⟨p_b1, 6, none⟩ = some (.bool n_0d) := hs.g5.cell 6 rfl
  have d7 : w_16.cell? ⟨p_b1, 7, none⟩ = some (.slice o_0d k_0d c_0d) := hs.g5.cell 7 rfl
  go_big_op; refine hK _ _ rfl trivial ?_; clear hK K d0 d1 d2 d3 d4 d5 d6 d7
  refine sq ?_
  intro K hK
  have k14_16 := (kb hb_15).b hb_16
  replace ha1 := ha1.k k14_16
  replace ha2 := ha2.k k14_16
  replace ha3 := ha3.k k14_16
  replace ha4 := ha4.k k14_16
  go_big_op
  go_fit (r7Bad_no (CN.mk' ha1 ha2 ha3 ha4) (by omega) (by omega) (by omega) (by omega) HA.out.1 HA.out.2)
  rintro e w_17 ⟨rfl, hb_17⟩
  replace hs := hs.bl hb_17
  refine hK _ _ rfl trivial ?_
  clear hK K
  refine sq ?_
  refine .mv ?_
  refine sq ?_
  intro K hK
  have d0 : w_17.cell? ⟨p_b2, 0, none⟩ = some (.bool n_1a) := hs.g4.cell 0 rfl
  have d1 : w_17.cell? ⟨p_b2, 1, none⟩ = some (.slice o_1a k_1a c_1a) := hs.g4.cell 1 rfl
  have d2 : w_17.cell? ⟨p_b2, 2, none⟩ = some (.bool n_1b) := hs.g4.cell 2 rfl
  have d3 : w_17.cell? ⟨p_b2, 3, none⟩ = some (.slice o_1b k_1b c_1b) := hs.g4.cell 3 rfl
  have d4 : w_17.cell? ⟨p_b2, 4, none⟩ = some (.bool n_1c) := hs.g4.cell 4 rfl
  have d5 : w_17.cell? ⟨p_b2, 5, none⟩ = some (.slice o_1c k_1c c_1c) := hs.g4.cell 5 rfl
  have d6 : w_17.cell? ⟨p_b2, 6, none⟩ = some (.bool n_1d) := hs.g4.cell 6 rfl
  have d7 : w_17.cell? ⟨p_b2, 7, none⟩ = some (.slice o_1d k_1d c_1d) := hs.g4.cell 7 rfl
  go_big_op; refine hK _ _ rfl trivial ?_; clear hK K d0 d1 d2 d3 d4 d5 d6 d7
  refine sq ?_
  intro K hK
  have k14_17 := k14_16.b hb_17
  replace hq1 := hq1.k k14_17
  replace hq2 := hq2.k k14_17
  replace hq3 := hq3.k k14_17
  replace hq4 := hq4.k k14_17
  go_big_op
  go_fit (r7Bad_no (CN.mk' hq1 hq2 hq3 hq4) (by omega) (by omega) (by omega) (by omega) HB.out.1 HB.out.2)
  rintro e w_18 ⟨rfl, hb_18⟩
  replace hs := hs.bl hb_18
  refine hK _ _ rfl trivial ?_
  clear hK K
  refine sq ?_
  refine .r0 ?_
  apply wpSq_end
  refine hK10 _ _ ?_
  refine cf ?_
  refine wp_skip ?_
  refine hK9 _ _ ?_
  refine wp_seq_k ?_
  intro K11 hK11
  refine wp_seq_k ?_
  intro K12 hK12
  refine wp_region_f4 [(0, false), (1, false), (2, false), (3, false), (4, true), (5, true), (6, false), (7, false), (8, false), (9, false), (10, false), (11, false), (12, true), (13, true), (14, false), (15, false), (16, false), (17, false), (18, false), (19, false), (20, false), (21, true), (22, true), (23, false), (24, false), (25, false), (26, false), (27, false), (28, false), (29, false), (30, false), (31, false), (32, false), (33, true), (34, true), (35, false), (36, false)] [] [] (fun _ => default) [0, 99, 1, 2, 99, 99, 99, 99, 3, 99, 1, 2, 99, 99, 99, 99, 99, 4, 99, 1, 2, 99, 99, 99, 99, 99, 99, 99, 99, 99, 99, 1, 2, 99, 99, 99, 99] [] (.c hs.g3 (.c hs.g5 (.c hs.g4 (.c hs.g2 (.c hs.g1 .n))))) fn fun w_19 n19 => ?_
  replace hs := hs.bl n19
  apply wpFl_ld rfl rfl; (case h1 => intro w' hC K hK; have c0 := Bs.cell hC 0 rfl; have c1 := Bs.cell hC 1 rfl; have c2 := Bs.cell hC 2 rfl; have c3 := Bs.cell hC 3 rfl; have c4 := Bs.cell hC 4 rfl; have c5 := Bs.cell hC 5 rfl; have c6 := Bs.cell hC 6 rfl; have c7 := Bs.cell hC 7 rfl; go_big_op; exact hK); iterate 4 kernel_rfl
  refine fmv ?_
  apply wpFl_ld rfl rfl; (case h1 => intro w' hC K hK; have c0 := Bs.cell hC 0 rfl; have c1 := Bs.cell hC 1 rfl; have c2 := Bs.cell hC 2 rfl; have c3 := Bs.cell hC 3 rfl; have c4 := Bs.cell hC 4 rfl; have c5 := Bs.cell hC 5 rfl; have c6 := Bs.cell hC 6 rfl; have c7 := Bs.cell hC 7 rfl; go_big_op; exact hK); iterate 4 kernel_rfl
  apply wpFl_ld rfl rfl; (case h1 => intro w' hC K hK; have c0 := Bs.cell hC 0 rfl; have c1 := Bs.cell hC 1 rfl; have c2 := Bs.cell hC 2 rfl; have c3 := Bs.cell hC 3 rfl; have c4 := Bs.cell hC 4 rfl; have c5 := Bs.cell hC 5 rfl; have c6 := Bs.cell hC 6 rfl; have c7 := Bs.cell hC 7 rfl; go_big_op; exact hK); iterate 4 kernel_rfl
  refine fl fun w_20 n20 => ?_
  replace hs := hs.bl n20
  intro K hK
  have k16_20 := (((kb hb_17).b hb_18).b n19).b n20
  replace ha1 := ha1.k k16_20
  replace ha2 := ha2.k k16_20
  replace ha3 := ha3.k k16_20
  replace ha4 := ha4.k k16_20
  have k17_20 := ((kb hb_18).b n19).b n20
  replace hq1 := hq1.k k17_20
  replace hq2 := hq2.k k17_20
  replace hq3 := hq3.k k17_20
  replace hq4 := hq4.k k17_20
  go_big_op
  go_fit (r7Add_ok (CN.mk' ha1 ha2 ha3 ha4) (CN.mk' hq1 hq2 hq3 hq4) (by omega) (by omega) (by omega) (by omega) (by omega) (by omega) (by omega) (by omega) HA.out.1 HA.out.2 HB.out.1 HB.out.2)
  rintro e w_21 ⟨_, rfl, ⟨n_ra1, o_ra1, k_ra1, c_ra1, n_ra2, o_ra2, k_ra2, c_ra2, n_ra3, o_ra3, k_ra3, c_ra3, n_ra4, o_ra4, k_ra4, c_ra4, rfl, ra1, ra2, ra3, ra4⟩, hb_21⟩
  replace hs := hs.bl hb_21
  have Lra1 := hide (ra1.lenOf ((r7s_len (HA.out.1) (HA.out.2) (HB.out.1) (HB.out.2) (ha1.len) (ha2.len) (ha3.len) (ha4.len) (hq1.len) (hq2.len) (hq3.len) (hq4.len)).1.1))
  have Lra2 := hide (ra2.lenOf ((r7s_len (HA.out.1) (HA.out.2) (HB.out.1) (HB.out.2) (ha1.len) (ha2.len) (ha3.len) (ha4.len) (hq1.len) (hq2.len) (hq3.len) (hq4.len)).1.2.1))
  have Lra3 := hide (ra3.lenOf ((r7s_len (HA.out.1) (HA.out.2) (HB.out.1) (HB.out.2) (ha1.len) (ha2.len) (ha3.len) (ha4.len) (hq1.len) (hq2.len) (hq3.len) (hq4.len)).1.2.2.1))
  have Lra4 := hide (ra4.lenOf ((r7s_len (HA.out.1) (HA.out.2) (HB.out.1) (HB.out.2) (ha1.len) (ha2.len) (ha3.len) (ha4.len) (hq1.len) (hq2.len) (hq3.len) (hq4.len)).1.2.2.2))
  refine hK _ _ rfl ⟨hb_21, (And.intro hs.g3 (And.intro hs.g5 (And.intro hs.g4 (And.intro hs.g2 (And.intro hs.g1 trivial)))))⟩ ?_
  clear hK K
  refine fl fun w_22 n22 => ?_
  replace hs := hs.bl n22
  intro K hK
  have k3_22 := ((((((((((((((((((kb n4).o hd5 ho5).b hb_6).b n7).o hd8 ho8).b hb_9).b n10).o hd11 ho11).b hb_12).b n13).o hd14 ho14).b hb_15).b hb_16).b hb_17).b hb_18).b n19).b n20).b hb_21).b n22
  replace ad1 := ad1.k k3_22
  replace ad2 := ad2.k k3_22
  replace ad3 := ad3.k k3_22
  replace ad4 := ad4.k k3_22
  have k21_22 := kb n22
  replace ra1 := ra1.k k21_22
  replace ra2 := ra2.k k21_22
  replace ra3 := ra3.k k21_22
  replace ra4 := ra4.k k21_22
  go_big_op
  go_fit (told7_ok (.mk' ad1 ad2 ad3 ad4) (.mk' (ra1.zn Lra1.out) (ra2.zn Lra2.out) (ra3.zn Lra3.out) (ra4.zn Lra4.out)) (by omega) (by omega) (by omega) (by omega))
  rintro e w_23 ⟨rfl, hb_23⟩
  replace hs := hs.bl hb_23
  refine hK _ _ rfl ⟨hb_23, (And.intro hs.g3 (And.intro hs.g5 (And.intro hs.g4 (And.intro hs.g2 (And.intro hs.g1 trivial)))))⟩ ?_
  clear hK K
  refine f0 ?_
  refine fmv ?_
  apply wpFl_ld rfl rfl; (case h1 => intro w' hC K hK; have c0 := Bs.cell hC 0 rfl; have c1 := Bs.cell hC 1 rfl; have c2 := Bs.cell hC 2 rfl; have c3 := Bs.cell hC 3 rfl; have c4 := Bs.cell hC 4 rfl; have c5 := Bs.cell hC 5 rfl; have c6 := Bs.cell hC 6 rfl; have c7 := Bs.cell hC 7 rfl; go_big_op; exact hK); iterate 4 kernel_rfl
  refine fmv ?_
  apply wpFl_ld rfl rfl; (case h1 => intro w' hC K hK; have c0 := Bs.cell hC 0 rfl; have c1 := Bs.cell hC 1 rfl; have c2 := Bs.cell hC 2 rfl; have c3 := Bs.cell hC 3 rfl; have c4 := Bs.cell hC 4 rfl; have c5 := Bs.cell hC 5 rfl; have c6 := Bs.cell hC 6 rfl; have c7 := Bs.cell hC 7 rfl; go_big_op; exact hK); iterate 4 kernel_rfl
  apply wpFl_ld rfl rfl; (case h1 => intro w' hC K hK; have c0 := Bs.cell hC 0 rfl; have c1 := Bs.cell hC 1 rfl; have c2 := Bs.cell hC 2 rfl; have c3 := Bs.cell hC 3 rfl; have c4 := Bs.cell hC 4 rfl; have c5 := Bs.cell hC 5 rfl; have c6 := Bs.cell hC 6 rfl; have c7 := Bs.cell hC 7 rfl; go_big_op; exact hK); iterate 4 kernel_rfl
  refine fl fun w_24 n24 => ?_
  replace hs := hs.bl n24
  intro K hK
  have k20_24 := (((kb hb_21).b n22).b hb_23).b n24
  replace ha1 := ha1.k k20_24
  replace ha2 := ha2.k k20_24
  replace ha3 := ha3.k k20_24
  replace ha4 := ha4.k k20_24
  replace hq1 := hq1.k k20_24
  replace hq2 := hq2.k k20_24
  replace hq3 := hq3.k k20_24
  replace hq4 := hq4.k k20_24
  go_big_op
  go_fit (r7Sub_ok (CN.mk' ha1 ha2 ha3 ha4) (CN.mk' hq1 hq2 hq3 hq4) (by omega) (by omega) (by omega) (by omega) (by omega) (by omega) (by omega) (by omega) HA.out.1 HA.out.2 HB.out.1 HB.out.2)
  rintro e w_25 ⟨_, rfl, ⟨n_rs1, o_rs1, k_rs1, c_rs1, n_rs2, o_rs2, k_rs2, c_rs2, n_rs3, o_rs3, k_rs3, c_rs3, n_rs4, o_rs4, k_rs4, c_rs4, rfl, rs1, rs2, rs3, rs4⟩, hb_25⟩
  replace hs := hs.bl hb_25
  have Lrs1 := hide (rs1.lenOf ((r7s_len (HA.out.1) (HA.out.2) (HB.out.1) (HB.out.2) (ha1.len) (ha2.len) (ha3.len) (ha4.len) (hq1.len) (hq2.len) (hq3.len) (hq4.len)).2.1))
  have Lrs2 := hide (rs2.lenOf ((r7s_len (HA.out.1) (HA.out.2) (HB.out.1) (HB.out.2) (ha1.len) (ha2.len) (ha3.len) (ha4.len) (hq1.len) (hq2.len) (hq3.len) (hq4.len)).2.2.1))
  have Lrs3 := hide (rs3.lenOf ((r7s_len (HA.out.1) (HA.out.2) (HB.out.1) (HB.out.2) (ha1.len) (ha2.len) (ha3.len) (ha4.len) (hq1.len) (hq2.len) (hq3.len) (hq4.len)).2.2.2.1))
  have Lrs4 := hide (rs4.lenOf ((r7s_len (HA.out.1) (HA.out.2) (HB.out.1) (HB.out.2) (ha1.len) (ha2.len) (ha3.len) (ha4.len) (hq1.len) (hq2.len) (hq3.len) (hq4.len)).2.2.2.2))
  refine hK _ _ rfl ⟨hb_25, (And.intro hs.g3 (And.intro hs.g5 (And.intro hs.g4 (And.intro hs.g2 (And.intro hs.g1 trivial)))))⟩ ?_
  clear hK K
  refine fl fun w_26 n26 => ?_
  replace hs := hs.bl n26
  intro K hK
  have k6_26 := (((((((((((((((((((kb n7).o hd8 ho8).b hb_9).b n10).o hd11 ho11).b hb_12).b n13).o hd14 ho14).b hb_15).b hb_16).b hb_17).b hb_18).b n19).b n20).b hb_21).b n22).b hb_23).b n24).b hb_25).b n26
  replace su1 := su1.k k6_26
  replace su2 := su2.k k6_26
  replace su3 := su3.k k6_26
  replace su4 := su4.k k6_26
  have k25_26 := kb n26
  replace rs1 := rs1.k k25_26
  replace rs2 := rs2.k k25_26
  replace rs3 := rs3.k k25_26
  replace rs4 := rs4.k k25_26
  go_big_op
  go_fit (told7_ok (.mk' su1 su2 su3 su4) (.mk' (rs1.zn Lrs1.out) (rs2.zn Lrs2.out) (rs3.zn Lrs3.out) (rs4.zn Lrs4.out)) (by omega) (by omega) (by omega) (by omega))
  rintro e w_27 ⟨rfl, hb_27⟩
  replace hs := hs.bl hb_27
  refine hK _ _ rfl ⟨hb_27, (And.intro hs.g3 (And.intro hs.g5 (And.intro hs.g4 (And.intro hs.g2 (And.intro hs.g1 trivial)))))⟩ ?_
  clear hK K
  refine f0 ?_
  refine f0 ?_
  refine fmv ?_
  apply wpFl_ld rfl rfl; (case h1 => intro w' hC K hK; have c0 := Bs.cell hC 0 rfl; have c1 := Bs.cell hC 1 rfl; have c2 := Bs.cell hC 2 rfl; have c3 := Bs.cell hC 3 rfl; have c4 := Bs.cell hC 4 rfl; have c5 := Bs.cell hC 5 rfl; have c6 := Bs.cell hC 6 rfl; have c7 := Bs.cell hC 7 rfl; go_big_op; exact hK); iterate 4 kernel_rfl
  refine fmv ?_
  apply wpFl_ld rfl rfl; (case h1 => intro w' hC K hK; have c0 := Bs.cell hC 0 rfl; have c1 := Bs.cell hC 1 rfl; have c2 := Bs.cell hC 2 rfl; have c3 := Bs.cell hC 3 rfl; have c4 := Bs.cell hC 4 rfl; have c5 := Bs.cell hC 5 rfl; have c6 := Bs.cell hC 6 rfl; have c7 := Bs.cell hC 7 rfl; go_big_op; exact hK); iterate 4 kernel_rfl
  apply wpFl_ld rfl rfl; (case h1 => intro w' hC K hK; have c0 := Bs.cell hC 0 rfl; have c1 := Bs.cell hC 1 rfl; have c2 := Bs.cell hC 2 rfl; have c3 := Bs.cell hC 3 rfl; have c4 := Bs.cell hC 4 rfl; have c5 := Bs.cell hC 5 rfl; have c6 := Bs.cell hC 6 rfl; have c7 := Bs.cell hC 7 rfl; go_big_op; exact hK); iterate 4 kernel_rfl
  refine fl fun w_28 n28 => ?_
  clear ra1 ra2 ra3 ra4 rs1 rs2 rs3 rs4
  replace hs := hs.bl n28
  intro K hK
  have k24_28 := (((kb hb_25).b n26).b hb_27).b n28
  replace ha1 := ha1.k k24_28
  replace ha2 := ha2.k k24_28
  replace ha3 := ha3.k k24_28
  replace ha4 := ha4.k k24_28
  replace hq1 := hq1.k k24_28
  replace hq2 := hq2.k k24_28
  replace hq3 := hq3.k k24_28
  replace hq4 := hq4.k k24_28
  go_big_op
  go_fit (r7Mul_ok (CN.mk' ha1 ha2 ha3 ha4) (CN.mk' hq1 hq2 hq3 hq4) (by omega) (by omega) (by omega) (by omega) (by omega) (by omega) (by omega) (by omega) HA.out.1 HA.out.2 HB.out.1 HB.out.2)
  rintro e w_29 ⟨_, rfl, ⟨n_rm1, o_rm1, k_rm1, c_rm1, n_rm2, o_rm2, k_rm2, c_rm2, n_rm3, o_rm3, k_rm3, c_rm3, n_rm4, o_rm4, k_rm4, c_rm4, rfl, rm1, rm2, rm3, rm4⟩, hb_29⟩
  replace hs := hs.bl hb_29
  have Lrm1 := hide (rm1.lenOf ((r7m_len (HA.out.1) (HA.out.2) (HB.out.1) (HB.out.2) (ha1.len) (ha2.len) (ha3.len) (ha4.len) (hq1.len) (hq2.len) (hq3.len) (hq4.len)).1))
  have Lrm2 := hide (rm2.lenOf ((r7m_len (HA.out.1) (HA.out.2) (HB.out.1) (HB.out.2) (ha1.len) (ha2.len) (ha3.len) (ha4.len) (hq1.len) (hq2.len) (hq3.len) (hq4.len)).2.1))
  have Lrm3 := hide (rm3.lenOf ((r7m_len (HA.out.1) (HA.out.2) (HB.out.1) (HB.out.2) (ha1.len) (ha2.len) (ha3.len) (ha4.len) (hq1.len) (hq2.len) (hq3.len) (hq4.len)).2.2.1))
  have Lrm4 := hide (rm4.lenOf ((r7m_len (HA.out.1) (HA.out.2) (HB.out.1) (HB.out.2) (ha1.len) (ha2.len) (ha3.len) (ha4.len) (hq1.len) (hq2.len) (hq3.len) (hq4.len)).2.2.2))
  refine hK _ _ rfl ⟨hb_29, (And.intro hs.g3 (And.intro hs.g5 (And.intro hs.g4 (And.intro hs.g2 (And.intro hs.g1 trivial)))))⟩ ?_
  clear hK K
  refine fl fun w_30 n30 => ?_
  replace hs := hs.bl n30
  intro K hK
  have k9_30 := ((((((((((((((((((((kb n10).o hd11 ho11).b hb_12).b n13).o hd14 ho14).b hb_15).b hb_16).b hb_17).b hb_18).b n19).b n20).b hb_21).b n22).b hb_23).b n24).b hb_25).b n26).b hb_27).b n28).b hb_29).b n30
  replace mu1 := mu1.k k9_30
  replace mu2 := mu2.k k9_30
  replace mu3 := mu3.k k9_30
  replace mu4 := mu4.k k9_30
  have k29_30 := kb n30
  replace rm1 := rm1.k k29_30
  replace rm2 := rm2.k k29_30
  replace rm3 := rm3.k k29_30
  replace rm4 := rm4.k k29_30
  go_big_op
  go_fit (told7_ok (.mk' mu1 mu2 mu3 mu4) (.mk' (rm1.zn Lrm1.out) (rm2.zn Lrm2.out) (rm3.zn Lrm3.out) (rm4.zn Lrm4.out)) (by omega) (by omega) (by omega) (by omega))
  rintro e w_31 ⟨rfl, hb_31⟩
  replace hs := hs.bl hb_31
  refine hK _ _ rfl ⟨hb_31, (And.intro hs.g3 (And.intro hs.g5 (And.intro hs.g4 (And.intro hs.g2 (And.intro hs.g1 trivial)))))⟩ ?_
  clear hK K
  refine f0 ?_
  refine f0 ?_
  refine fmv ?_
  refine fmv ?_
  refine f0 ?_
  refine f0 ?_
  refine fmv ?_
  refine fmv ?_
  apply wpFl_ld rfl rfl; (case h1 => intro w' hC K hK; have c0 := Bs.cell hC 0 rfl; have c1 := Bs.cell hC 1 rfl; have c2 := Bs.cell hC 2 rfl; have c3 := Bs.cell hC 3 rfl; have c4 := Bs.cell hC 4 rfl; have c5 := Bs.cell hC 5 rfl; have c6 := Bs.cell hC 6 rfl; have c7 := Bs.cell hC 7 rfl; go_big_op; exact hK); iterate 4 kernel_rfl
  apply wpFl_ld rfl rfl; (case h1 => intro w' hC K hK; have c0 := Bs.cell hC 0 rfl; have c1 := Bs.cell hC 1 rfl; have c2 := Bs.cell hC 2 rfl; have c3 := Bs.cell hC 3 rfl; have c4 := Bs.cell hC 4 rfl; have c5 := Bs.cell hC 5 rfl; have c6 := Bs.cell hC 6 rfl; have c7 := Bs.cell hC 7 rfl; go_big_op; exact hK); iterate 4 kernel_rfl
  refine fl fun w_32 n32 => ?_
  replace hs := hs.bl n32
  intro K hK
  have k28_32 := (((kb hb_29).b n30).b hb_31).b n32
  replace ha1 := ha1.k k28_32
  replace ha2 := ha2.k k28_32
  replace ha3 := ha3.k k28_32
  replace ha4 := ha4.k k28_32
  replace hq1 := hq1.k k28_32
  replace hq2 := hq2.k k28_32
  replace hq3 := hq3.k k28_32
  replace hq4 := hq4.k k28_32
  go_big_op
  go_fit (r7Sub_ok (CN.mk' ha1 ha2 ha3 ha4) (CN.mk' hq1 hq2 hq3 hq4) (by omega) (by omega) (by omega) (by omega) (by omega) (by omega) (by omega) (by omega) HA.out.1 HA.out.2 HB.out.1 HB.out.2)
  rintro e w_33 ⟨_, rfl, ⟨n_rt1, o_rt1, k_rt1, c_rt1, n_rt2, o_rt2, k_rt2, c_rt2, n_rt3, o_rt3, k_rt3, c_rt3, n_rt4, o_rt4, k_rt4, c_rt4, rfl, rt1, rt2, rt3, rt4⟩, hb_33⟩
  replace hs := hs.bl hb_33
  have Lrt1 := hide (rt1.lenOf ((r7s_len (HA.out.1) (HA.out.2) (HB.out.1) (HB.out.2) (ha1.len) (ha2.len) (ha3.len) (ha4.len) (hq1.len) (hq2.len) (hq3.len) (hq4.len)).2.1))
  have Lrt2 := hide (rt2.lenOf ((r7s_len (HA.out.1) (HA.out.2) (HB.out.1) (HB.out.2) (ha1.len) (ha2.len) (ha3.len) (ha4.len) (hq1.len) (hq2.len) (hq3.len) (hq4.len)).2.2.1))
  have Lrt3 := hide (rt3.lenOf ((r7s_len (HA.out.1) (HA.out.2) (HB.out.1) (HB.out.2) (ha1.len) (ha2.len) (ha3.len) (ha4.len) (hq1.len) (hq2.len) (hq3.len) (hq4.len)).2.2.2.1))
  have Lrt4 := hide (rt4.lenOf ((r7s_len (HA.out.1) (HA.out.2) (HB.out.1) (HB.out.2) (ha1.len) (ha2.len) (ha3.len) (ha4.len) (hq1.len) (hq2.len) (hq3.len) (hq4.len)).2.2.2.2))
  refine hK _ _ rfl ⟨hb_33, (And.intro hs.g3 (And.intro hs.g5 (And.intro hs.g4 (And.intro hs.g2 (And.intro hs.g1 trivial)))))⟩ ?_
  clear hK K
  refine fl fun w_34 n34 => ?_
  replace hs := hs.bl n34
  intro K hK
  have k33_34 := kb n34
  replace rt1 := rt1.k k33_34
  replace rt2 := rt2.k k33_34
  replace rt3 := rt3.k k33_34
  replace rt4 := rt4.k k33_34
  go_big_op
  go_fit (r7Null_dec (.mk' (rt1.zn Lrt1.out) (rt2.zn Lrt2.out) (rt3.zn Lrt3.out) (rt4.zn Lrt4.out)) (by omega) (by omega) (by omega) (by omega) (HD.out _) (HD.out _))
  rintro e w_35 ⟨rfl, hb_35⟩
  replace hs := hs.bl hb_35
  rw [HE.out]
  refine hK _ _ rfl ⟨hb_35, (And.intro hs.g3 (And.intro hs.g5 (And.intro hs.g4 (And.intro hs.g2 (And.intro hs.g1 trivial)))))⟩ ?_
  clear hK K
  refine f0 ?_
  refine f0 ?_
  refine e0 hs ?_; clear hs; intro w_36 hs n36
  clear rm1 rm2 rm3 rm4 rt1 rt2 rt3 rt4
  apply wpTail_end
  refine hK12 _ _ ?_
  refine cf ?_
  refine wp_skip ?_
  refine hK11 _ _ ?_
  refine wp_seq_k ?_
  intro K13 hK13
  refine wp_seq_k ?_
  intro K14 hK14
  refine rg [0, 1] ?_
  refine sq ?_
  intro K hK
  have d0 : w_36.cell? ⟨p_b2, 0, none⟩ = some (.bool n_1a) := hs.g4.cell 0 rfl
  have d1 : w_36.cell? ⟨p_b2, 1, none⟩ = some (.slice o_1a k_1a c_1a) := hs.g4.cell 1 rfl
  have d2 : w_36.cell? ⟨p_b2, 2, none⟩ = some (.bool n_1b) := hs.g4.cell 2 rfl
  have d3 : w_36.cell? ⟨p_b2, 3, none⟩ = some (.slice o_1b k_1b c_1b) := hs.g4.cell 3 rfl
  have d4 : w_36.cell? ⟨p_b2, 4, none⟩ = some (.bool n_1c) := hs.g4.cell 4 rfl
  have d5 : w_36.cell? ⟨p_b2, 5, none⟩ = some (.slice o_1c k_1c c_1c) := hs.g4.cell 5 rfl
  have d6 : w_36.cell? ⟨p_b2, 6, none⟩ = some (.bool n_1d) := hs.g4.cell 6 rfl
  have d7 : w_36.cell? ⟨p_b2, 7, none⟩ = some (.slice o_1d k_1d c_1d) := hs.g4.cell 7 rfl
  go_big_op; refine hK _ _ rfl trivial ?_; clear hK K d0 d1 d2 d3 d4 d5 d6 d7
  refine sq ?_
  intro K hK
  have k32_36 := (((kb hb_33).b n34).b hb_35).b n36
  replace hq1 := hq1.k k32_36
  replace hq2 := hq2.k k32_36
  replace hq3 := hq3.k k32_36
  replace hq4 := hq4.k k32_36
  go_big_op
  go_fit (r7Null_dec (.mk' hq1 hq2 hq3 hq4) (by omega) (by omega) (by omega) (by omega) HB.out.1 HB.out.2)
  rintro e w_37 ⟨rfl, hb_37⟩
  clear ad1 ad2 ad3 ad4 su1 su2 su3 su4 mu1 mu2 mu3 mu4
  replace hs := hs.bl hb_37
  rw [HZ.out]
  refine hK _ _ rfl trivial ?_
  clear hK K
  apply wpSq_end
  refine hK14 _ _ ?_
  refine cf ?_
  refine wp_skip ?_
  refine hK13 _ _ ?_
  refine wp_seq_k ?_
  intro K15 hK15
  refine wp_region_f4 [(0, false), (1, false), (2, false), (3, false), (4, true), (5, true), (6, false)] [] [] (fun _ => default) [0, 99, 1, 2, 99, 99, 99] [] (.c hs.g0 (.c hs.g5 (.c hs.g4 .n))) fn fun w_38 n38 => ?_
  replace hs := hs.bl n38
  apply wpFl_ld rfl rfl; (case h1 => intro w' hC K hK; have c0 := Bs.cell hC 0 rfl; have c1 := Bs.cell hC 1 rfl; have c2 := Bs.cell hC 2 rfl; have c3 := Bs.cell hC 3 rfl; have c4 := Bs.cell hC 4 rfl; have c5 := Bs.cell hC 5 rfl; have c6 := Bs.cell hC 6 rfl; have c7 := Bs.cell hC 7 rfl; go_big_op; exact hK); iterate 4 kernel_rfl
  refine fmv ?_
  apply wpFl_ld rfl rfl; (case h1 => intro w' hC K hK; have c0 := Bs.cell hC 0 rfl; have c1 := Bs.cell hC 1 rfl; have c2 := Bs.cell hC 2 rfl; have c3 := Bs.cell hC 3 rfl; have c4 := Bs.cell hC 4 rfl; have c5 := Bs.cell hC 5 rfl; have c6 := Bs.cell hC 6 rfl; have c7 := Bs.cell hC 7 rfl; go_big_op; exact hK); iterate 4 kernel_rfl
  apply wpFl_ld rfl rfl; (case h1 => intro w' hC K hK; have c0 := Bs.cell hC 0 rfl; have c1 := Bs.cell hC 1 rfl; have c2 := Bs.cell hC 2 rfl; have c3 := Bs.cell hC 3 rfl; have c4 := Bs.cell hC 4 rfl; have c5 := Bs.cell hC 5 rfl; have c6 := Bs.cell hC 6 rfl; have c7 := Bs.cell hC 7 rfl; go_big_op; exact hK); iterate 4 kernel_rfl
  refine fl fun w_39 n39 => ?_
  replace hs := hs.bl n39
  intro K hK
  have k32_39 := ((k32_36.b hb_37).b n38).b n39
  replace ha1 := ha1.k k32_39
  replace ha2 := ha2.k k32_39
  replace ha3 := ha3.k k32_39
  replace ha4 := ha4.k k32_39
  have k36_39 := ((kb hb_37).b n38).b n39
  replace hq1 := hq1.k k36_39
  replace hq2 := hq2.k k36_39
  replace hq3 := hq3.k k36_39
  replace hq4 := hq4.k k36_39
  go_big_op
  go_fit (r7Quo_ok (.mk' ha1 ha2 ha3 ha4) (.mk' hq1 hq2 hq3 hq4) (by omega) (by omega) (by omega) (by omega) (by omega) (by omega) (by omega) (by omega) HA.out.1 HA.out.2 HB.out.1 HB.out.2 H0.out)
  rintro e w_40 ⟨_, rfl, ⟨n_rq1, o_rq1, k_rq1, c_rq1, n_rq2, o_rq2, k_rq2, c_rq2, n_rq3, o_rq3, k_rq3, c_rq3, n_rq4, o_rq4, k_rq4, c_rq4, rfl, rq1, rq2, rq3, rq4⟩, hb_40⟩
  replace hs := hs.bl hb_40
  refine hK _ _ rfl ⟨hb_40, (And.intro hs.g0 (And.intro hs.g5 (And.intro hs.g4 trivial)))⟩ ?_
  clear hK K
  refine fl fun w_41 n41 => ?_
  replace hs := hs.bl n41
  intro K hK
  have k12_41 := ((((((((((((((((((((((((((((kb n13).o hd14 ho14).b hb_15).b hb_16).b hb_17).b hb_18).b n19).b n20).b hb_21).b n22).b hb_23).b n24).b hb_25).b n26).b hb_27).b n28).b hb_29).b n30).b hb_31).b n32).b hb_33).b n34).b hb_35).b n36).b hb_37).b n38).b n39).b hb_40).b n41
  replace qu1 := qu1.k k12_41
  replace qu2 := qu2.k k12_41
  replace qu3 := qu3.k k12_41
  replace qu4 := qu4.k k12_41
  have k40_41 := kb n41
  replace rq1 := rq1.k k40_41
  replace rq2 := rq2.k k40_41
  replace rq3 := rq3.k k40_41
  replace rq4 := rq4.k k40_41
  go_big_op
  go_fit (told7_ok (.mk' qu1 qu2 qu3 qu4) (.mk' rq1 rq2 rq3 rq4) (by omega) (by omega) (by omega) (by omega))
  rintro e w_42 ⟨rfl, hb_42⟩
  replace hs := hs.bl hb_42
  refine hK _ _ rfl ⟨hb_42, (And.intro hs.g0 (And.intro hs.g5 (And.intro hs.g4 trivial)))⟩ ?_
  clear hK K
  refine fmv ?_
  refine e0 hs ?_; clear hs; intro w_43 hs n43
  apply wpTail_end
  refine hK15 _ _ ?_
  refine wp_ret ?_
  try dsimp only [Exit.then, Exit.inBlock]
  refine bodyPost_ret (v := (.bool true)) (by simp [results, Tryz.results4, go_sem]) rfl ?_
  have hb := hs.b
  exact ⟨rfl, hb⟩
end
theorem walk_GfracSums (w : World) (n1 : Bool) (s1 : Value) (xs : List Nat) (h1 : Rd w s1 xs) (l1 : xs.length ≤ 1048576) (n2 : Bool) (s2 : Value) (ys : List Nat) (h2 : Rd w s2 ys) (l2 : ys.length ≤ 1048576) (n3 : Bool) (s3 : Value) (us : List Nat) (h3 : Rd w s3 us) (l3 : us.length ≤ 1048576) (n4 : Bool) (s4 : Value) (vs : List Nat) (h4 : Rd w s4 vs) (l4 : vs.length ≤ 1048576) (n5 : Bool) (s5 : Value) (ps : List Nat) (h5 : Rd w s5 ps) (l5 : ps.length ≤ 1048576) (n6 : Bool) (s6 : Value) (qs : List Nat) (h6 : Rd w s6 qs) (l6 : qs.length ≤ 1048576) (n7 : Bool) (s7 : Value) (ss : List Nat) (h7 : Rd w s7 ss) (l7 : ss.length ≤ 1048576) (n8 : Bool) (s8 : Value) (ts : List Nat) (h8 : Rd w s8 ts) (l8 : ts.length ≤ 1048576) (htab : Lib.TabIs Tryz.prog w p10 .u64 Lib.pow10Tab) :
    Calls Tryz.prog 4 #[.agg #[.bool n1, s1, .bool n2, s2, .bool n3, s3, .bool n4, s4], .agg #[.bool n5, s5, .bool n6, s6, .bool n7, s7, .bool n8, s8]] w fun e w' => e = .returned (.bool true) ∧ Below w.heap.size w w' := by
  have ha := CN.of_rd n1 n2 n3 n4 h1 l1 h2 l2 h3 l3 h4 l4
  have hq := CN.of_rd n5 n6 n7 n8 h5 l5 h6 l6 h7 l7 h8 l8
  have r := Nat.le_refl 1048576
  by_cases hq0 : zv n6 qs = 0 ∨ zv n8 ts = 0
  · by_cases hy : zv n2 ys = 0 ∨ zv n4 vs = 0
    · exact sums7_bad1 ha hq r r r r r r r r hy htab (fun w' va vb h1 h2 => gfQuo_bad1 h1 h2 (by omega) (by omega) (by omega) (by omega) (by omega) (by omega) (by omega) (by omega) hq0) (.inl hy)
    · exact sums7_bad2 ha hq r r r r r r r r (fun h => hy (.inl h)) (fun h => hy (.inr h)) hq0 htab (fun w' va vb h1 h2 => gfQuo_bad1 h1 h2 (by omega) (by omega) (by omega) (by omega) (by omega) (by omega) (by omega) (by omega) hq0) (.inr hq0)
  · have hq1 : zv n6 qs ≠ 0 := fun h => hq0 (.inl h)
    have ht : zv n8 ts ≠ 0 := fun h => hq0 (.inr h)
    by_cases hy : zv n2 ys = 0 ∨ zv n4 vs = 0
    · exact sums7_bad1 ha hq r r r r r r r r hy htab (fun w' va vb h1 h2 => gfQuo_bad2 h1 h2 (by omega) (by omega) (by omega) (by omega) (by omega) (by omega) (by omega) (by omega) hq1 ht (.inl hy)) (.inl hy)
    · by_cases h0 : zv n5 ps = 0 ∧ zv n7 ss = 0
      · exact sums7_zero ha hq r r r r r r r r (fun h => hy (.inl h)) (fun h => hy (.inr h)) hq1 ht h0 htab
      · exact sums7_some ha hq r r r r r r r r (fun h => hy (.inl h)) (fun h => hy (.inr h)) hq1 ht h0 htab
end Go.Proofs.YthlhekkcjficdaaGreatDoor

