/- GfracField: the law's walk. -/
import Derived.Test.YthlhekkcjficdaaGreatDoorX9ToX11
namespace Go.Proofs.YthlhekkcjficdaaGreatDoor
open Go Go.RowKit Dig
set_option linter.unusedVariables false
section
variable {w : World} {va vb vc : Value} {x y u v p q s t a b c d : Int} {l m k n l2 m2 k2 n2 l3 m3 k3 n3 : Nat}
theorem qcmp_zero (r : Rat) : qcmp r.num r.den 0 1 = 0 ↔ r = 0 := by
  rw [qcmp_rv (den_ne r) (by decide), rv_self, (rv_nul (x := 0) (y := 1) (by decide)).2 rfl]
  unfold rcmp
  constructor
  · intro h
    split at h
    · exact absurd h (by decide)
    · split at h
      · assumption
      · exact absurd h (by decide)
  · rintro rfl
    simp
theorem fld1 (A A' B B' D D' : Rat) : A * (B + D) - A' * (B' + D') = (A * B - A' * B') + (A * D - A' * D') := by grind
theorem fld2 (A A' B B' D D' : Rat) : A * (B' + D') + A' * (B + D) = (A * B' + A' * B) + (A * D' + A' * D) := by grind
theorem fld3 (A A' B B' : Rat) : (A * B - A' * B') * (A * B - A' * B') + (A * B' + A' * B) * (A * B' + A' * B) = (A * A + A' * A') * (B * B + B' * B') := by grind
theorem fld4 {A A' B B' : Rat} (h : B * B + B' * B' ≠ 0) : ((A * B - A' * B') * B - (A * B' + A' * B) * -B') / (B * B + B' * B') = A := by
  have e : (A * B - A' * B') * B - (A * B' + A' * B) * -B' = A * (B * B + B' * B') := by grind
  rw [e]
  exact Rat.mul_div_cancel h
theorem fld5 {A A' B B' : Rat} (h : B * B + B' * B' ≠ 0) : ((A * B - A' * B') * -B' + (A * B' + A' * B) * B) / (B * B + B' * B') = A' := by
  have e : (A * B - A' * B') * -B' + (A * B' + A' * B) * B = A' * (B * B + B' * B') := by grind
  rw [e]
  exact Rat.mul_div_cancel h
set_option maxHeartbeats 8000000 in
set_option maxRecDepth 20000 in
theorem field7_bad1 (ha : CN w va x l y m u k v n) (hq : CN w vb p l2 q m2 s k2 t n2) (hc : CN w vc a l3 b m3 c k3 d n3) (hl : l ≤ 1048576) (hm : m ≤ 1048576) (hk : k ≤ 1048576) (hn : n ≤ 1048576) (h : y = 0 ∨ v = 0) (htab : Lib.TabIs Tryz.prog w p10 .u64 Lib.pow10Tab) :
    Calls Tryz.prog 7 #[va, vb, vc] w fun e w' => e = .returned (.bool true) ∧ Below w.heap.size w w' := by
  have htabs := Lib.tabBelow_of_tabIs htab
  have H := hide h
  clear h
  obtain ⟨n_0a, o_0a, k_0a, c_0a, n_0b, o_0b, k_0b, c_0b, n_0c, o_0c, k_0c, c_0c, n_0d, o_0d, k_0d, c_0d, rfl, ha1, ha2, ha3, ha4⟩ := ha
  obtain ⟨n_1a, o_1a, k_1a, c_1a, n_1b, o_1b, k_1b, c_1b, n_1c, o_1c, k_1c, c_1c, n_1d, o_1d, k_1d, c_1d, rfl, hq1, hq2, hq3, hq4⟩ := hq
  obtain ⟨n_2a, o_2a, k_2a, c_2a, n_2b, o_2b, k_2b, c_2b, n_2c, o_2c, k_2c, c_2c, n_2d, o_2d, k_2d, c_2d, rfl, hc1, hc2, hc3, hc4⟩ := hc
  go_enter Tryz.func7, Tryz.ntmps7
  have hs := St.nil w
  refine wp_seq_k ?_
  intro K1 hK1
  refine rg [0, 1, 2, 3] ?_
  refine sq ?_
  refine .al hs ?_; clear hs; intro p_b1 w_1 hs n1 kb_b1
  refine sq ?_
  refine .al hs ?_; clear hs; intro p_b2 w_2 hs n2 kb_b2
  refine sq ?_
  refine .al hs ?_; clear hs; intro p_b3 w_3 hs n3 kb_b3
  refine sq ?_
  refine .mv ?_
  apply wpSq_end
  refine hK1 _ _ ?_
  refine wp_seq_k ?_
  intro K2 hK2
  refine wp_seq_k ?_
  intro K3 hK3
  refine rg [0, 1] ?_
  refine sq ?_
  intro K hK
  have hb := hs.b
  go_big_op
  go_fit (awake7_any _ (htabs _ hb))
  rintro e w_4 ⟨rfl, hb_4⟩
  clear hb
  replace hs := hs.bl hb_4
  refine hK _ _ rfl trivial ?_
  clear hK K
  refine sq ?_
  refine .r0 ?_
  apply wpSq_end
  refine hK3 _ _ ?_
  refine cf ?_
  refine wp_skip ?_
  refine hK2 _ _ ?_
  refine wp_seq_k ?_
  intro K4 hK4
  refine wp_seq_k ?_
  intro K5 hK5
  refine rg [0, 1, 2, 3, 4, 5, 6, 7, 8, 9] ?_
  refine sq ?_
  intro K hK
  have d0 : w_4.cell? ⟨p_b1, 0, none⟩ = some (.bool n_0a) := hs.g2.cell 0 rfl
  have d1 : w_4.cell? ⟨p_b1, 1, none⟩ = some (.slice o_0a k_0a c_0a) := hs.g2.cell 1 rfl
  have d2 : w_4.cell? ⟨p_b1, 2, none⟩ = some (.bool n_0b) := hs.g2.cell 2 rfl
  have d3 : w_4.cell? ⟨p_b1, 3, none⟩ = some (.slice o_0b k_0b c_0b) := hs.g2.cell 3 rfl
  have d4 : w_4.cell? ⟨p_b1, 4, none⟩ = some (.bool n_0c) := hs.g2.cell 4 rfl
  have d5 : w_4.cell? ⟨p_b1, 5, none⟩ = some (.slice o_0c k_0c c_0c) := hs.g2.cell 5 rfl
  have d6 : w_4.cell? ⟨p_b1, 6, none⟩ = some (.bool n_0d) := hs.g2.cell 6 rfl
  have d7 : w_4.cell? ⟨p_b1, 7, none⟩ = some (.slice o_0d k_0d c_0d) := hs.g2.cell 7 rfl
  go_big_op; refine hK _ _ rfl trivial ?_; clear hK K d0 d1 d2 d3 d4 d5 d6 d7
  refine sq ?_
  intro K hK
  have k0_4 := (((kb n1).b n2).b n3).b hb_4
  replace ha1 := ha1.k k0_4
  replace ha2 := ha2.k k0_4
  replace ha3 := ha3.k k0_4
  replace ha4 := ha4.k k0_4
  go_big_op
  go_fit (r7Bad_yes (CN.mk' ha1 ha2 ha3 ha4) (by omega) (by omega) (by omega) (by omega) H.out)
  rintro e w_5 ⟨rfl, hb_5⟩
  replace hs := hs.bl hb_5
  refine hK _ _ rfl trivial ?_
  clear hK K
  refine sq ?_
  refine .mv ?_
  refine sk ?_
  refine sk ?_
  refine sq ?_
  refine .r0 ?_
  refine sq ?_
  refine .mv ?_
  refine sk ?_
  refine sk ?_
  refine sq ?_
  refine .r0 ?_
  apply wpSq_end
  refine hK5 _ _ ?_
  refine ct ?_
  refine wp_seq_k ?_
  intro K6 hK6
  refine rg [0] ?_
  refine sq ?_
  refine .mv ?_
  apply wpSq_end
  refine hK6 _ _ ?_
  refine wp_ret ?_
  try dsimp only [Exit.then, Exit.inBlock]
  refine bodyPost_ret (v := (.bool true)) (by simp [results, Tryz.results7, go_sem]) rfl ?_
  have hb := hs.b
  exact ⟨rfl, hb⟩
set_option maxHeartbeats 8000000 in
set_option maxRecDepth 20000 in
theorem field7_bad2 (ha : CN w va x l y m u k v n) (hq : CN w vb p l2 q m2 s k2 t n2) (hc : CN w vc a l3 b m3 c k3 d n3) (hl : l ≤ 1048576) (hm : m ≤ 1048576) (hk : k ≤ 1048576) (hn : n ≤ 1048576) (hl2 : l2 ≤ 1048576) (hm2 : m2 ≤ 1048576) (hk2 : k2 ≤ 1048576) (hn2 : n2 ≤ 1048576) (hy : y ≠ 0) (hv : v ≠ 0) (h : q = 0 ∨ t = 0) (htab : Lib.TabIs Tryz.prog w p10 .u64 Lib.pow10Tab) :
    Calls Tryz.prog 7 #[va, vb, vc] w fun e w' => e = .returned (.bool true) ∧ Below w.heap.size w w' := by
  have htabs := Lib.tabBelow_of_tabIs htab
  have H := hide h
  have HA := hide (And.intro hy hv)
  clear h hy hv
  obtain ⟨n_0a, o_0a, k_0a, c_0a, n_0b, o_0b, k_0b, c_0b, n_0c, o_0c, k_0c, c_0c, n_0d, o_0d, k_0d, c_0d, rfl, ha1, ha2, ha3, ha4⟩ := ha
  obtain ⟨n_1a, o_1a, k_1a, c_1a, n_1b, o_1b, k_1b, c_1b, n_1c, o_1c, k_1c, c_1c, n_1d, o_1d, k_1d, c_1d, rfl, hq1, hq2, hq3, hq4⟩ := hq
  obtain ⟨n_2a, o_2a, k_2a, c_2a, n_2b, o_2b, k_2b, c_2b, n_2c, o_2c, k_2c, c_2c, n_2d, o_2d, k_2d, c_2d, rfl, hc1, hc2, hc3, hc4⟩ := hc
  go_enter Tryz.func7, Tryz.ntmps7
  have hs := St.nil w
  refine wp_seq_k ?_
  intro K1 hK1
  refine rg [0, 1, 2, 3] ?_
  refine sq ?_
  refine .al hs ?_; clear hs; intro p_b1 w_1 hs n1 kb_b1
  refine sq ?_
  refine .al hs ?_; clear hs; intro p_b2 w_2 hs n2 kb_b2
  refine sq ?_
  refine .al hs ?_; clear hs; intro p_b3 w_3 hs n3 kb_b3
  refine sq ?_
  refine .mv ?_
  apply wpSq_end
  refine hK1 _ _ ?_
  refine wp_seq_k ?_
  intro K2 hK2
  refine wp_seq_k ?_
  intro K3 hK3
  refine rg [0, 1] ?_
  refine sq ?_
  intro K hK
  have hb := hs.b
  go_big_op
  go_fit (awake7_any _ (htabs _ hb))
  rintro e w_4 ⟨rfl, hb_4⟩
  clear hb
  replace hs := hs.bl hb_4
  refine hK _ _ rfl trivial ?_
  clear hK K
  refine sq ?_
  refine .r0 ?_
  apply wpSq_end
  refine hK3 _ _ ?_
  refine cf ?_
  refine wp_skip ?_
  refine hK2 _ _ ?_
  refine wp_seq_k ?_
  intro K4 hK4
  refine wp_seq_k ?_
  intro K5 hK5
  refine rg [0, 1, 2, 3, 4, 5, 6, 7, 8, 9] ?_
  refine sq ?_
  intro K hK
  have d0 : w_4.cell? ⟨p_b1, 0, none⟩ = some (.bool n_0a) := hs.g2.cell 0 rfl
  have d1 : w_4.cell? ⟨p_b1, 1, none⟩ = some (.slice o_0a k_0a c_0a) := hs.g2.cell 1 rfl
  have d2 : w_4.cell? ⟨p_b1, 2, none⟩ = some (.bool n_0b) := hs.g2.cell 2 rfl
  have d3 : w_4.cell? ⟨p_b1, 3, none⟩ = some (.slice o_0b k_0b c_0b) := hs.g2.cell 3 rfl
  have d4 : w_4.cell? ⟨p_b1, 4, none⟩ = some (.bool n_0c) := hs.g2.cell 4 rfl
  have d5 : w_4.cell? ⟨p_b1, 5, none⟩ = some (.slice o_0c k_0c c_0c) := hs.g2.cell 5 rfl
  have d6 : w_4.cell? ⟨p_b1, 6, none⟩ = some (.bool n_0d) := hs.g2.cell 6 rfl
  have d7 : w_4.cell? ⟨p_b1, 7, none⟩ = some (.slice o_0d k_0d c_0d) := hs.g2.cell 7 rfl
  go_big_op; refine hK _ _ rfl trivial ?_; clear hK K d0 d1 d2 d3 d4 d5 d6 d7
  refine sq ?_
  intro K hK
  have k0_4 := (((kb n1).b n2).b n3).b hb_4
  replace ha1 := ha1.k k0_4
  replace ha2 := ha2.k k0_4
  replace ha3 := ha3.k k0_4
  replace ha4 := ha4.k k0_4
  go_big_op
  go_fit (r7Bad_no (CN.mk' ha1 ha2 ha3 ha4) (by omega) (by omega) (by omega) (by omega) HA.out.1 HA.out.2)
  rintro e w_5 ⟨rfl, hb_5⟩
  replace hs := hs.bl hb_5
  refine hK _ _ rfl trivial ?_
  clear hK K
  refine sq ?_
  refine .mv ?_
  refine sq ?_
  intro K hK
  have d0 : w_5.cell? ⟨p_b2, 0, none⟩ = some (.bool n_1a) := hs.g1.cell 0 rfl
  have d1 : w_5.cell? ⟨p_b2, 1, none⟩ = some (.slice o_1a k_1a c_1a) := hs.g1.cell 1 rfl
  have d2 : w_5.cell? ⟨p_b2, 2, none⟩ = some (.bool n_1b) := hs.g1.cell 2 rfl
  have d3 : w_5.cell? ⟨p_b2, 3, none⟩ = some (.slice o_1b k_1b c_1b) := hs.g1.cell 3 rfl
  have d4 : w_5.cell? ⟨p_b2, 4, none⟩ = some (.bool n_1c) := hs.g1.cell 4 rfl
  have d5 : w_5.cell? ⟨p_b2, 5, none⟩ = some (.slice o_1c k_1c c_1c) := hs.g1.cell 5 rfl
  have d6 : w_5.cell? ⟨p_b2, 6, none⟩ = some (.bool n_1d) := hs.g1.cell 6 rfl
  have d7 : w_5.cell? ⟨p_b2, 7, none⟩ = some (.slice o_1d k_1d c_1d) := hs.g1.cell 7 rfl
  go_big_op; refine hK _ _ rfl trivial ?_; clear hK K d0 d1 d2 d3 d4 d5 d6 d7
  refine sq ?_
  intro K hK
  have k0_5 := k0_4.b hb_5
  replace hq1 := hq1.k k0_5
  replace hq2 := hq2.k k0_5
  replace hq3 := hq3.k k0_5
  replace hq4 := hq4.k k0_5
  go_big_op
  go_fit (r7Bad_yes (CN.mk' hq1 hq2 hq3 hq4) (by omega) (by omega) (by omega) (by omega) H.out)
  rintro e w_6 ⟨rfl, hb_6⟩
  replace hs := hs.bl hb_6
  refine hK _ _ rfl trivial ?_
  clear hK K
  refine sq ?_
  refine .r0 ?_
  refine sq ?_
  refine .mv ?_
  refine sk ?_
  refine sk ?_
  refine sq ?_
  refine .r0 ?_
  apply wpSq_end
  refine hK5 _ _ ?_
  refine ct ?_
  refine wp_seq_k ?_
  intro K6 hK6
  refine rg [0] ?_
  refine sq ?_
  refine .mv ?_
  apply wpSq_end
  refine hK6 _ _ ?_
  refine wp_ret ?_
  try dsimp only [Exit.then, Exit.inBlock]
  refine bodyPost_ret (v := (.bool true)) (by simp [results, Tryz.results7, go_sem]) rfl ?_
  have hb := hs.b
  exact ⟨rfl, hb⟩
set_option maxHeartbeats 8000000 in
set_option maxRecDepth 20000 in
theorem field7_bad3 (ha : CN w va x l y m u k v n) (hq : CN w vb p l2 q m2 s k2 t n2) (hc : CN w vc a l3 b m3 c k3 d n3) (hl : l ≤ 1048576) (hm : m ≤ 1048576) (hk : k ≤ 1048576) (hn : n ≤ 1048576) (hl2 : l2 ≤ 1048576) (hm2 : m2 ≤ 1048576) (hk2 : k2 ≤ 1048576) (hn2 : n2 ≤ 1048576) (hl3 : l3 ≤ 1048576) (hm3 : m3 ≤ 1048576) (hk3 : k3 ≤ 1048576) (hn3 : n3 ≤ 1048576) (hy : y ≠ 0) (hv : v ≠ 0) (hq0 : q ≠ 0) (ht : t ≠ 0) (h : b = 0 ∨ d = 0) (htab : Lib.TabIs Tryz.prog w p10 .u64 Lib.pow10Tab) :
    Calls Tryz.prog 7 #[va, vb, vc] w fun e w' => e = .returned (.bool true) ∧ Below w.heap.size w w' := by
  have htabs := Lib.tabBelow_of_tabIs htab
  have H := hide h
  have HA := hide (And.intro hy hv)
  have HB := hide (And.intro hq0 ht)
  clear h hy hv hq0 ht
  obtain ⟨n_0a, o_0a, k_0a, c_0a, n_0b, o_0b, k_0b, c_0b, n_0c, o_0c, k_0c, c_0c, n_0d, o_0d, k_0d, c_0d, rfl, ha1, ha2, ha3, ha4⟩ := ha
  obtain ⟨n_1a, o_1a, k_1a, c_1a, n_1b, o_1b, k_1b, c_1b, n_1c, o_1c, k_1c, c_1c, n_1d, o_1d, k_1d, c_1d, rfl, hq1, hq2, hq3, hq4⟩ := hq
  obtain ⟨n_2a, o_2a, k_2a, c_2a, n_2b, o_2b, k_2b, c_2b, n_2c, o_2c, k_2c, c_2c, n_2d, o_2d, k_2d, c_2d, rfl, hc1, hc2, hc3, hc4⟩ := hc
  go_enter Tryz.func7, Tryz.ntmps7
  have hs := St.nil w
  refine wp_seq_k ?_
  intro K1 hK1
  refine rg [0, 1, 2, 3] ?_
  refine sq ?_
  refine .al hs ?_; clear hs; intro p_b1 w_1 hs n1 kb_b1
  refine sq ?_
  refine .al hs ?_; clear hs; intro p_b2 w_2 hs n2 kb_b2
  refine sq ?_
  refine .al hs ?_; clear hs; intro p_b3 w_3 hs n3 kb_b3
  refine sq ?_
  refine .mv ?_
  apply wpSq_end
  refine hK1 _ _ ?_
  refine wp_seq_k ?_
  intro K2 hK2
  refine wp_seq_k ?_
  intro K3 hK3
  refine rg [0, 1] ?_
  refine sq ?_
  intro K hK
  have hb := hs.b
  go_big_op
  go_fit (awake7_any _ (htabs _ hb))
  rintro e w_4 ⟨rfl, hb_4⟩
  clear hb
  replace hs := hs.bl hb_4
  refine hK _ _ rfl trivial ?_
  clear hK K
  refine sq ?_
  refine .r0 ?_
  apply wpSq_end
  refine hK3 _ _ ?_
  refine cf ?_
  refine wp_skip ?_
  refine hK2 _ _ ?_
  refine wp_seq_k ?_
  intro K4 hK4
  refine wp_seq_k ?_
  intro K5 hK5
  refine rg [0, 1, 2, 3, 4, 5, 6, 7, 8, 9] ?_
  refine sq ?_
  intro K hK
  have d0 : w_4.cell? ⟨p_b1, 0, none⟩ = some (.bool n_0a) := hs.g2.cell 0 rfl
  have d1 : w_4.cell? ⟨p_b1, 1, none⟩ = some (.slice o_0a k_0a c_0a) := hs.g2.cell 1 rfl
  have d2 : w_4.cell? ⟨p_b1, 2, none⟩ = some (.bool n_0b) := hs.g2.cell 2 rfl
  have d3 : w_4.cell? ⟨p_b1, 3, none⟩ = some (.slice o_0b k_0b c_0b) := hs.g2.cell 3 rfl
  have d4 : w_4.cell? ⟨p_b1, 4, none⟩ = some (.bool n_0c) := hs.g2.cell 4 rfl
  have d5 : w_4.cell? ⟨p_b1, 5, none⟩ = some (.slice o_0c k_0c c_0c) := hs.g2.cell 5 rfl
  have d6 : w_4.cell? ⟨p_b1, 6, none⟩ = some (.bool n_0d) := hs.g2.cell 6 rfl
  have d7 : w_4.cell? ⟨p_b1, 7, none⟩ = some (.slice o_0d k_0d c_0d) := hs.g2.cell 7 rfl
  go_big_op; refine hK _ _ rfl trivial ?_; clear hK K d0 d1 d2 d3 d4 d5 d6 d7
  refine sq ?_
  intro K hK
  have k0_4 := (((kb n1).b n2).b n3).b hb_4
  replace ha1 := ha1.k k0_4
  replace ha2 := ha2.k k0_4
  replace ha3 := ha3.k k0_4
  replace ha4 := ha4.k k0_4
  go_big_op
  go_fit (r7Bad_no (CN.mk' ha1 ha2 ha3 ha4) (by omega) (by omega) (by omega) (by omega) HA.out.1 HA.out.2)
  rintro e w_5 ⟨rfl, hb_5⟩
  replace hs := hs.bl hb_5
  refine hK _ _ rfl trivial ?_
  clear hK K
  refine sq ?_
  refine .mv ?_
  refine sq ?_
  intro K hK
  have d0 : w_5.cell? ⟨p_b2, 0, none⟩ = some (.bool n_1a) := hs.g1.cell 0 rfl
  have d1 : w_5.cell? ⟨p_b2, 1, none⟩ = some (.slice o_1a k_1a c_1a) := hs.g1.cell 1 rfl
  have d2 : w_5.cell? ⟨p_b2, 2, none⟩ = some (.bool n_1b) := hs.g1.cell 2 rfl
  have d3 : w_5.cell? ⟨p_b2, 3, none⟩ = some (.slice o_1b k_1b c_1b) := hs.g1.cell 3 rfl
  have d4 : w_5.cell? ⟨p_b2, 4, none⟩ = some (.bool n_1c) := hs.g1.cell 4 rfl
  have d5 : w_5.cell? ⟨p_b2, 5, none⟩ = some (.slice o_1c k_1c c_1c) := hs.g1.cell 5 rfl
  have d6 : w_5.cell? ⟨p_b2, 6, none⟩ = some (.bool n_1d) := hs.g1.cell 6 rfl
  have d7 : w_5.cell? ⟨p_b2, 7, none⟩ = some (.slice o_1d k_1d c_1d) := hs.g1.cell 7 rfl
  go_big_op; refine hK _ _ rfl trivial ?_; clear hK K d0 d1 d2 d3 d4 d5 d6 d7
  refine sq ?_
  intro K hK
  have k0_5 := k0_4.b hb_5
  replace hq1 := hq1.k k0_5
  replace hq2 := hq2.k k0_5
  replace hq3 := hq3.k k0_5
  replace hq4 := hq4.k k0_5
  go_big_op
  go_fit (r7Bad_no (CN.mk' hq1 hq2 hq3 hq4) (by omega) (by omega) (by omega) (by omega) HB.out.1 HB.out.2)
  rintro e w_6 ⟨rfl, hb_6⟩
  replace hs := hs.bl hb_6
  refine hK _ _ rfl trivial ?_
  clear hK K
  refine sq ?_
  refine .r0 ?_
  refine sq ?_
  refine .mv ?_
  refine sq ?_
  intro K hK
  have d0 : w_6.cell? ⟨p_b3, 0, none⟩ = some (.bool n_2a) := hs.g0.cell 0 rfl
  have d1 : w_6.cell? ⟨p_b3, 1, none⟩ = some (.slice o_2a k_2a c_2a) := hs.g0.cell 1 rfl
  have d2 : w_6.cell? ⟨p_b3, 2, none⟩ = some (.bool n_2b) := hs.g0.cell 2 rfl
  have d3 : w_6.cell? ⟨p_b3, 3, none⟩ = some (.slice o_2b k_2b c_2b) := hs.g0.cell 3 rfl
  have d4 : w_6.cell? ⟨p_b3, 4, none⟩ = some (.bool n_2c) := hs.g0.cell 4 rfl
  have d5 : w_6.cell? ⟨p_b3, 5, none⟩ = some (.slice o_2c k_2c c_2c) := hs.g0.cell 5 rfl
  have d6 : w_6.cell? ⟨p_b3, 6, none⟩ = some (.bool n_2d) := hs.g0.cell 6 rfl
  have d7 : w_6.cell? ⟨p_b3, 7, none⟩ = some (.slice o_2d k_2d c_2d) := hs.g0.cell 7 rfl
  go_big_op; refine hK _ _ rfl trivial ?_; clear hK K d0 d1 d2 d3 d4 d5 d6 d7
  refine sq ?_
  intro K hK
  have k0_6 := k0_5.b hb_6
  replace hc1 := hc1.k k0_6
  replace hc2 := hc2.k k0_6
  replace hc3 := hc3.k k0_6
  replace hc4 := hc4.k k0_6
  go_big_op
  go_fit (r7Bad_yes (CN.mk' hc1 hc2 hc3 hc4) (by omega) (by omega) (by omega) (by omega) H.out)
  rintro e w_7 ⟨rfl, hb_7⟩
  replace hs := hs.bl hb_7
  refine hK _ _ rfl trivial ?_
  clear hK K
  refine sq ?_
  refine .r0 ?_
  apply wpSq_end
  refine hK5 _ _ ?_
  refine ct ?_
  refine wp_seq_k ?_
  intro K6 hK6
  refine rg [0] ?_
  refine sq ?_
  refine .mv ?_
  apply wpSq_end
  refine hK6 _ _ ?_
  refine wp_ret ?_
  try dsimp only [Exit.then, Exit.inBlock]
  refine bodyPost_ret (v := (.bool true)) (by simp [results, Tryz.results7, go_sem]) rfl ?_
  have hb := hs.b
  exact ⟨rfl, hb⟩
set_option maxHeartbeats 8000000 in
set_option maxRecDepth 20000 in
theorem field7_zero (ha : CN w va x l y m u k v n) (hq : CN w vb p l2 q m2 s k2 t n2) (hc : CN w vc a l3 b m3 c k3 d n3) (hl : l ≤ 1048576) (hm : m ≤ 1048576) (hk : k ≤ 1048576) (hn : n ≤ 1048576) (hl2 : l2 ≤ 1048576) (hm2 : m2 ≤ 1048576) (hk2 : k2 ≤ 1048576) (hn2 : n2 ≤ 1048576) (hl3 : l3 ≤ 1048576) (hm3 : m3 ≤ 1048576) (hk3 : k3 ≤ 1048576) (hn3 : n3 ≤ 1048576) (hy : y ≠ 0) (hv : v ≠ 0) (hq0 : q ≠ 0) (ht : t ≠ 0) (hb0 : b ≠ 0) (hd : d ≠ 0) (h0 : p = 0 ∧ s = 0) (htab : Lib.TabIs Tryz.prog w p10 .u64 Lib.pow10Tab) :
    Calls Tryz.prog 7 #[va, vb, vc] w fun e w' => e = .returned (.bool true) ∧ Below w.heap.size w w' := by
  have htabs := Lib.tabBelow_of_tabIs htab
  have HA := hide (And.intro hy hv)
  have HB := hide (And.intro hq0 ht)
  have HC := hide (And.intro hb0 hd)
  have HD := hide den_ne
  have H0 := hide h0
  have HN := hide (show qcmp (rv p q * rv p q + rv s t * rv s t).num (rv p q * rv p q + rv s t * rv s t).den 0 1 = 0 from (qcmp_zero _).2 (by rw [(rv_nul hq0).2 h0.1, (rv_nul ht).2 h0.2]; grind))
  clear hy hv hq0 ht hb0 hd h0
  obtain ⟨n_0a, o_0a, k_0a, c_0a, n_0b, o_0b, k_0b, c_0b, n_0c, o_0c, k_0c, c_0c, n_0d, o_0d, k_0d, c_0d, rfl, ha1, ha2, ha3, ha4⟩ := ha
  obtain ⟨n_1a, o_1a, k_1a, c_1a, n_1b, o_1b, k_1b, c_1b, n_1c, o_1c, k_1c, c_1c, n_1d, o_1d, k_1d, c_1d, rfl, hq1, hq2, hq3, hq4⟩ := hq
  obtain ⟨n_2a, o_2a, k_2a, c_2a, n_2b, o_2b, k_2b, c_2b, n_2c, o_2c, k_2c, c_2c, n_2d, o_2d, k_2d, c_2d, rfl, hc1, hc2, hc3, hc4⟩ := hc
  go_enter Tryz.func7, Tryz.ntmps7
  have hs := St.nil w
  refine wp_seq_k ?_
  intro K1 hK1
  refine rg [0, 1, 2, 3] ?_
  refine sq ?_
  refine .al hs ?_; clear hs; intro p_b1 w_1 hs n1 kb_b1
  refine sq ?_
  refine .al hs ?_; clear hs; intro p_b2 w_2 hs n2 kb_b2
  refine sq ?_
  refine .al hs ?_; clear hs; intro p_b3 w_3 hs n3 kb_b3
  refine sq ?_
  refine .mv ?_
  apply wpSq_end
  refine hK1 _ _ ?_
  refine wp_seq_k ?_
  intro K2 hK2
  refine wp_seq_k ?_
  intro K3 hK3
  refine rg [0, 1] ?_
  refine sq ?_
  intro K hK
  have hb := hs.b
  go_big_op
  go_fit (awake7_any _ (htabs _ hb))
  rintro e w_4 ⟨rfl, hb_4⟩
  clear hb
  replace hs := hs.bl hb_4
  refine hK _ _ rfl trivial ?_
  clear hK K
  refine sq ?_
  refine .r0 ?_
  apply wpSq_end
  refine hK3 _ _ ?_
  refine cf ?_
  refine wp_skip ?_
  refine hK2 _ _ ?_
  refine wp_seq_k ?_
  intro K4 hK4
  refine wp_seq_k ?_
  intro K5 hK5
  refine rg [0, 1, 2, 3, 4, 5, 6, 7, 8, 9] ?_
  refine sq ?_
  intro K hK
  have d0 : w_4.cell? ⟨p_b1, 0, none⟩ = some (.bool n_0a) := hs.g2.cell 0 rfl
  have d1 : w_4.cell? ⟨p_b1, 1, none⟩ = some (.slice o_0a k_0a c_0a) := hs.g2.cell 1 rfl
  have d2 : w_4.cell? ⟨p_b1, 2, none⟩ = some (.bool n_0b) := hs.g2.cell 2 rfl
  have d3 : w_4.cell? ⟨p_b1, 3, none⟩ = some (.slice o_0b k_0b c_0b) := hs.g2.cell 3 rfl
  have d4 : w_4.cell? ⟨p_b1, 4, none⟩ = some (.bool n_0c) := hs.g2.cell 4 rfl
  have d5 : w_4.cell? ⟨p_b1, 5, none⟩ = some (.slice o_0c k_0c c_0c) := hs.g2.cell 5 rfl
  have d6 : w_4.cell? ⟨p_b1, 6, none⟩ = some (.bool n_0d) := hs.g2.cell 6 rfl
  have d7 : w_4.cell? ⟨p_b1, 7, none⟩ = some (.slice o_0d k_0d c_0d) := hs.g2.cell 7 rfl
  go_big_op; refine hK _ _ rfl trivial ?_; clear hK K d0 d1 d2 d3 d4 d5 d6 d7
  refine sq ?_
  intro K hK
  have k0_4 := (((kb n1).b n2).b n3).b hb_4
  replace ha1 := ha1.k k0_4
  replace ha2 := ha2.k k0_4
  replace ha3 := ha3.k k0_4
  replace ha4 := ha4.k k0_4
  go_big_op
  go_fit (r7Bad_no (CN.mk' ha1 ha2 ha3 ha4) (by omega) (by omega) (by omega) (by omega) HA.out.1 HA.out.2)
  rintro e w_5 ⟨rfl, hb_5⟩
  replace hs := hs.bl hb_5
  refine hK _ _ rfl trivial ?_
  clear hK K
  refine sq ?_
  refine .mv ?_
  refine sq ?_
  intro K hK
  have d0 : w_5.cell? ⟨p_b2, 0, none⟩ = some (.bool n_1a) := hs.g1.cell 0 rfl
  have d1 : w_5.cell? ⟨p_b2, 1, none⟩ = some (.slice o_1a k_1a c_1a) := hs.g1.cell 1 rfl
  have d2 : w_5.cell? ⟨p_b2, 2, none⟩ = some (.bool n_1b) := hs.g1.cell 2 rfl
  have d3 : w_5.cell? ⟨p_b2, 3, none⟩ = some (.slice o_1b k_1b c_1b) := hs.g1.cell 3 rfl
  have d4 : w_5.cell? ⟨p_b2, 4, none⟩ = some (.bool n_1c) := hs.g1.cell 4 rfl
  have d5 : w_5.cell? ⟨p_b2, 5, none⟩ = some (.slice o_1c k_1c c_1c) := hs.g1.cell 5 rfl
  have d6 : w_5.cell? ⟨p_b2, 6, none⟩ = some (.bool n_1d) := hs.g1.cell 6 rfl
  have d7 : w_5.cell? ⟨p_b2, 7, none⟩ = some (.slice o_1d k_1d c_1d) := hs.g1.cell 7 rfl
  go_big_op; refine hK _ _ rfl trivial ?_; clear hK K d0 d1 d2 d3 d4 d5 d6 d7
  refine sq ?_
  intro K hK
  have k0_5 := k0_4.b hb_5
  replace hq1 := hq1.k k0_5
  replace hq2 := hq2.k k0_5
  replace hq3 := hq3.k k0_5
  replace hq4 := hq4.k k0_5
  go_big_op
  go_fit (r7Bad_no (CN.mk' hq1 hq2 hq3 hq4) (by omega) (by omega) (by omega) (by omega) HB.out.1 HB.out.2)
  rintro e w_6 ⟨rfl, hb_6⟩
  replace hs := hs.bl hb_6
  refine hK _ _ rfl trivial ?_
  clear hK K
  refine sq ?_
  refine .r0 ?_
  refine sq ?_
  refine .mv ?_
  refine sq ?_
  intro K hK
  have d0 : w_6.cell? ⟨p_b3, 0, none⟩ = some (.bool n_2a) := hs.g0.cell 0 rfl
  have d1 : w_6.cell? ⟨p_b3, 1, none⟩ = some (.slice o_2a k_2a c_2a) := hs.g0.cell 1 rfl
  have d2 : w_6.cell? ⟨p_b3, 2, none⟩ = some (.bool n_2b) := hs.g0.cell 2 rfl
  have d3 : w_6.cell? ⟨p_b3, 3, none⟩ = some (.slice o_2b k_2b c_2b) := hs.g0.cell 3 rfl
  have d4 : w_6.cell? ⟨p_b3, 4, none⟩ = some (.bool n_2c) := hs.g0.cell 4 rfl
  have d5 : w_6.cell? ⟨p_b3, 5, none⟩ = some (.slice o_2c k_2c c_2c) := hs.g0.cell 5 rfl
  have d6 : w_6.cell? ⟨p_b3, 6, none⟩ = some (.bool n_2d) := hs.g0.cell 6 rfl
  have d7 : w_6.cell? ⟨p_b3, 7, none⟩ = some (.slice o_2d k_2d c_2d) := hs.g0.cell 7 rfl
  go_big_op; refine hK _ _ rfl trivial ?_; clear hK K d0 d1 d2 d3 d4 d5 d6 d7
  refine sq ?_
  intro K hK
  have k0_6 := k0_5.b hb_6
  replace hc1 := hc1.k k0_6
  replace hc2 := hc2.k k0_6
  replace hc3 := hc3.k k0_6
  replace hc4 := hc4.k k0_6
  go_big_op
  go_fit (r7Bad_no (CN.mk' hc1 hc2 hc3 hc4) (by omega) (by omega) (by omega) (by omega) HC.out.1 HC.out.2)
  rintro e w_7 ⟨rfl, hb_7⟩
  replace hs := hs.bl hb_7
  refine hK _ _ rfl trivial ?_
  clear hK K
  refine sq ?_
  refine .r0 ?_
  apply wpSq_end
  refine hK5 _ _ ?_
  refine cf ?_
  refine wp_skip ?_
  refine hK4 _ _ ?_
  refine wp_seq_k ?_
  intro K6 hK6
  refine rg [0, 1, 2, 3, 4, 5, 6, 7, 8] ?_
  refine sq ?_
  intro K hK
  have d0 : w_7.cell? ⟨p_b2, 0, none⟩ = some (.bool n_1a) := hs.g1.cell 0 rfl
  have d1 : w_7.cell? ⟨p_b2, 1, none⟩ = some (.slice o_1a k_1a c_1a) := hs.g1.cell 1 rfl
  have d2 : w_7.cell? ⟨p_b2, 2, none⟩ = some (.bool n_1b) := hs.g1.cell 2 rfl
  have d3 : w_7.cell? ⟨p_b2, 3, none⟩ = some (.slice o_1b k_1b c_1b) := hs.g1.cell 3 rfl
  have d4 : w_7.cell? ⟨p_b2, 4, none⟩ = some (.bool n_1c) := hs.g1.cell 4 rfl
  have d5 : w_7.cell? ⟨p_b2, 5, none⟩ = some (.slice o_1c k_1c c_1c) := hs.g1.cell 5 rfl
  have d6 : w_7.cell? ⟨p_b2, 6, none⟩ = some (.bool n_1d) := hs.g1.cell 6 rfl
  have d7 : w_7.cell? ⟨p_b2, 7, none⟩ = some (.slice o_1d k_1d c_1d) := hs.g1.cell 7 rfl
  go_big_op; refine hK _ _ rfl trivial ?_; clear hK K d0 d1 d2 d3 d4 d5 d6 d7
  refine sq ?_
  intro K hK
  have d0 : w_7.cell? ⟨p_b3, 0, none⟩ = some (.bool n_2a) := hs.g0.cell 0 rfl
  have d1 : w_7.cell? ⟨p_b3, 1, none⟩ = some (.slice o_2a k_2a c_2a) := hs.g0.cell 1 rfl
  have d2 : w_7.cell? ⟨p_b3, 2, none⟩ = some (.bool n_2b) := hs.g0.cell 2 rfl
  have d3 : w_7.cell? ⟨p_b3, 3, none⟩ = some (.slice o_2b k_2b c_2b) := hs.g0.cell 3 rfl
  have d4 : w_7.cell? ⟨p_b3, 4, none⟩ = some (.bool n_2c) := hs.g0.cell 4 rfl
  have d5 : w_7.cell? ⟨p_b3, 5, none⟩ = some (.slice o_2c k_2c c_2c) := hs.g0.cell 5 rfl
  have d6 : w_7.cell? ⟨p_b3, 6, none⟩ = some (.bool n_2d) := hs.g0.cell 6 rfl
  have d7 : w_7.cell? ⟨p_b3, 7, none⟩ = some (.slice o_2d k_2d c_2d) := hs.g0.cell 7 rfl
  go_big_op; refine hK _ _ rfl trivial ?_; clear hK K d0 d1 d2 d3 d4 d5 d6 d7
  refine sq ?_
  intro K hK
  have k5_7 := (kb hb_6).b hb_7
  replace hq1 := hq1.k k5_7
  replace hq2 := hq2.k k5_7
  replace hq3 := hq3.k k5_7
  replace hq4 := hq4.k k5_7
  have k6_7 := kb hb_7
  replace hc1 := hc1.k k6_7
  replace hc2 := hc2.k k6_7
  replace hc3 := hc3.k k6_7
  replace hc4 := hc4.k k6_7
  go_big_op
  go_fit (gfAdd_ok (CN.mk' hq1 hq2 hq3 hq4) (CN.mk' hc1 hc2 hc3 hc4) (by omega) (by omega) (by omega) (by omega) (by omega) (by omega) (by omega) (by omega) HB.out.1 HB.out.2 HC.out.1 HC.out.2)
  rintro e w_8 ⟨_, rfl, ⟨n_sm1, o_sm1, k_sm1, c_sm1, n_sm2, o_sm2, k_sm2, c_sm2, n_sm3, o_sm3, k_sm3, c_sm3, n_sm4, o_sm4, k_sm4, c_sm4, rfl, sm1, sm2, sm3, sm4⟩, hb_8⟩
  replace hs := hs.bl hb_8
  have Lsm1 := hide (sm1.lenOf ((r7s_len (HB.out.1) (HB.out.2) (HC.out.1) (HC.out.2) (hq1.len) (hq2.len) (hq3.len) (hq4.len) (hc1.len) (hc2.len) (hc3.len) (hc4.len)).1.1))
  have Lsm2 := hide (sm2.lenOf ((r7s_len (HB.out.1) (HB.out.2) (HC.out.1) (HC.out.2) (hq1.len) (hq2.len) (hq3.len) (hq4.len) (hc1.len) (hc2.len) (hc3.len) (hc4.len)).1.2.1))
  have Lsm3 := hide (sm3.lenOf ((r7s_len (HB.out.1) (HB.out.2) (HC.out.1) (HC.out.2) (hq1.len) (hq2.len) (hq3.len) (hq4.len) (hc1.len) (hc2.len) (hc3.len) (hc4.len)).1.2.2.1))
  have Lsm4 := hide (sm4.lenOf ((r7s_len (HB.out.1) (HB.out.2) (HC.out.1) (HC.out.2) (hq1.len) (hq2.len) (hq3.len) (hq4.len) (hc1.len) (hc2.len) (hc3.len) (hc4.len)).1.2.2.2))
  refine hK _ _ rfl trivial ?_
  clear hK K
  refine sq ?_
  refine .mv ?_
  refine sq ?_
  refine .r0 ?_
  refine sq ?_
  refine .r0 ?_
  refine sq ?_
  refine .al hs ?_; clear hs; intro p_b4 w_9 hs n9 kb_b4
  refine sq ?_
  intro K hK
  have xs := hs.g0
  have d0 : w_9.cell? ⟨p_b4, 0, none⟩ = some (.bool false) := hs.g0.cell 0 rfl
  have d1 : w_9.cell? ⟨p_b4, 1, none⟩ = some (.slice none 0 0) := hs.g0.cell 1 rfl
  have d2 : w_9.cell? ⟨p_b4, 2, none⟩ = some (.bool false) := hs.g0.cell 2 rfl
  have d3 : w_9.cell? ⟨p_b4, 3, none⟩ = some (.slice none 0 0) := hs.g0.cell 3 rfl
  have d4 : w_9.cell? ⟨p_b4, 4, none⟩ = some (.bool false) := hs.g0.cell 4 rfl
  have d5 : w_9.cell? ⟨p_b4, 5, none⟩ = some (.slice none 0 0) := hs.g0.cell 5 rfl
  have d6 : w_9.cell? ⟨p_b4, 6, none⟩ = some (.bool false) := hs.g0.cell 6 rfl
  have d7 : w_9.cell? ⟨p_b4, 7, none⟩ = some (.slice none 0 0) := hs.g0.cell 7 rfl
  have f0 := xs.free 0; have f1 := xs.free 1; have f2 := xs.free 2; have f3 := xs.free 3; have f4 := xs.free 4; have f5 := xs.free 5; have f6 := xs.free 6; have f7 := xs.free 7
  go_big_op
  have hd10 := xs.nod rfl rfl
  obtain ⟨w_10_0, eW, xs_0, ho_0⟩ : ∃ w', ((((w_9.setCell ⟨p_b4, 0, none⟩ (.bool n_sm1)).setCell ⟨p_b4, 1, none⟩ (.slice o_sm1 k_sm1 c_sm1)).setCell ⟨p_b4, 2, none⟩ (.bool n_sm2)).setCell ⟨p_b4, 3, none⟩ (.slice o_sm2 k_sm2 c_sm2)) = w' ∧ Bs w' p_b4 #[.bool n_sm1, .slice o_sm1 k_sm1 c_sm1, .bool n_sm2, .slice o_sm2 k_sm2 c_sm2, .bool false, .slice none 0 0, .bool false, .slice none 0 0] 28 ∧ Only p_b4 w_9 w' := xs.setN [(0, .bool n_sm1), (1, .slice o_sm1 k_sm1 c_sm1), (2, .bool n_sm2), (3, .slice o_sm2 k_sm2 c_sm2)]
  rw [eW]; clear eW
  obtain ⟨w_10, eW, xs', ho_4⟩ : ∃ w', ((((w_10_0.setCell ⟨p_b4, 4, none⟩ (.bool n_sm3)).setCell ⟨p_b4, 5, none⟩ (.slice o_sm3 k_sm3 c_sm3)).setCell ⟨p_b4, 6, none⟩ (.bool n_sm4)).setCell ⟨p_b4, 7, none⟩ (.slice o_sm4 k_sm4 c_sm4)) = w' ∧ Bs w' p_b4 #[.bool n_sm1, .slice o_sm1 k_sm1 c_sm1, .bool n_sm2, .slice o_sm2 k_sm2 c_sm2, .bool n_sm3, .slice o_sm3 k_sm3 c_sm3, .bool n_sm4, .slice o_sm4 k_sm4 c_sm4] 28 ∧ Only p_b4 w_10_0 w' := xs_0.setN [(4, .bool n_sm3), (5, .slice o_sm3 k_sm3 c_sm3), (6, .bool n_sm4), (7, .slice o_sm4 k_sm4 c_sm4)]
  rw [eW]; clear eW xs_0
  have ho10 := (ho_0.trans ho_4)
  clear ho_0 ho_4 d0 d1 d2 d3 d4 d5 d6 d7 f0 f1 f2 f3 f4 f5 f6 f7 xs
  replace hs := hs.u0 kb_b4 xs' ho10; clear xs'
  refine hK _ _ rfl trivial ?_; clear hK K
  refine sq ?_
  refine .mv ?_
  apply wpSq_end
  refine hK6 _ _ ?_
  refine wp_seq_k ?_
  intro K7 hK7
  refine rg [0, 1, 2, 3, 4, 5, 6, 7, 8] ?_
  refine sq ?_
  intro K hK
  have d0 : w_10.cell? ⟨p_b1, 0, none⟩ = some (.bool n_0a) := hs.g3.cell 0 rfl
  have d1 : w_10.cell? ⟨p_b1, 1, none⟩ = some (.slice o_0a k_0a c_0a) := hs.g3.cell 1 rfl
  have d2 : w_10.cell? ⟨p_b1, 2, none⟩ = some (.bool n_0b) := hs.g3.cell 2 rfl
  have d3 : w_10.cell? ⟨p_b1, 3, none⟩ = some (.slice o_0b k_0b c_0b) := hs.g3.cell 3 rfl
  have d4 : w_10.cell? ⟨p_b1, 4, none⟩ = some (.bool n_0c) := hs.g3.cell 4 rfl
  have d5 : w_10.cell? ⟨p_b1, 5, none⟩ = some (.slice o_0c k_0c c_0c) := hs.g3.cell 5 rfl
  have d6 : w_10.cell? ⟨p_b1, 6, none⟩ = some (.bool n_0d) := hs.g3.cell 6 rfl
  have d7 : w_10.cell? ⟨p_b1, 7, none⟩ = some (.slice o_0d k_0d c_0d) := hs.g3.cell 7 rfl
  go_big_op; refine hK _ _ rfl trivial ?_; clear hK K d0 d1 d2 d3 d4 d5 d6 d7
  refine sq ?_
  intro K hK
  have d0 : w_10.cell? ⟨p_b4, 0, none⟩ = some (.bool n_sm1) := hs.g0.cell 0 rfl
  have d1 : w_10.cell? ⟨p_b4, 1, none⟩ = some (.slice o_sm1 k_sm1 c_sm1) := hs.g0.cell 1 rfl
  have d2 : w_10.cell? ⟨p_b4, 2, none⟩ = some (.bool n_sm2) := hs.g0.cell 2 rfl
  have d3 : w_10.cell? ⟨p_b4, 3, none⟩ = some (.slice o_sm2 k_sm2 c_sm2) := hs.g0.cell 3 rfl
  have d4 : w_10.cell? ⟨p_b4, 4, none⟩ = some (.bool n_sm3) := hs.g0.cell 4 rfl
  have d5 : w_10.cell? ⟨p_b4, 5, none⟩ = some (.slice o_sm3 k_sm3 c_sm3) := hs.g0.cell 5 rfl
  have d6 : w_10.cell? ⟨p_b4, 6, none⟩ = some (.bool n_sm4) := hs.g0.cell 6 rfl
  have d7 : w_10.cell? ⟨p_b4, 7, none⟩ = some (.slice o_sm4 k_sm4 c_sm4) := hs.g0.cell 7 rfl
  go_big_op; refine hK _ _ rfl trivial ?_; clear hK K d0 d1 d2 d3 d4 d5 d6 d7
  refine sq ?_
  intro K hK
  have k4_10 := (((((kb hb_5).b hb_6).b hb_7).b hb_8).b n9).o hd10 ho10
  replace ha1 := ha1.k k4_10
  replace ha2 := ha2.k k4_10
  replace ha3 := ha3.k k4_10
  replace ha4 := ha4.k k4_10
  have k8_10 := (kb n9).o hd10 ho10
  replace sm1 := sm1.k k8_10
  replace sm2 := sm2.k k8_10
  replace sm3 := sm3.k k8_10
  replace sm4 := sm4.k k8_10
  go_big_op
  go_fit (gfMul_ok (CN.mk' ha1 ha2 ha3 ha4) (CN.mk' (sm1.zn Lsm1.out) (sm2.zn Lsm2.out) (sm3.zn Lsm3.out) (sm4.zn Lsm4.out)) (by omega) (by omega) (by omega) (by omega) (by omega) (by omega) (by omega) (by omega) HA.out.1 HA.out.2 (HD.out _) (HD.out _))
  rintro e w_11 ⟨_, rfl, ⟨n_lm1, o_lm1, k_lm1, c_lm1, n_lm2, o_lm2, k_lm2, c_lm2, n_lm3, o_lm3, k_lm3, c_lm3, n_lm4, o_lm4, k_lm4, c_lm4, rfl, lm1, lm2, lm3, lm4⟩, hb_11⟩
  replace hs := hs.bl hb_11
  have Llm1 := hide (lm1.lenOf ((r7m_len (HA.out.1) (HA.out.2) ((HD.out _)) ((HD.out _)) (ha1.len) (ha2.len) (ha3.len) (ha4.len) (Lsm1.out) (Lsm2.out) (Lsm3.out) (Lsm4.out)).1))
  have Llm2 := hide (lm2.lenOf ((r7m_len (HA.out.1) (HA.out.2) ((HD.out _)) ((HD.out _)) (ha1.len) (ha2.len) (ha3.len) (ha4.len) (Lsm1.out) (Lsm2.out) (Lsm3.out) (Lsm4.out)).2.1))
  have Llm3 := hide (lm3.lenOf ((r7m_len (HA.out.1) (HA.out.2) ((HD.out _)) ((HD.out _)) (ha1.len) (ha2.len) (ha3.len) (ha4.len) (Lsm1.out) (Lsm2.out) (Lsm3.out) (Lsm4.out)).2.2.1))
  have Llm4 := hide (lm4.lenOf ((r7m_len (HA.out.1) (HA.out.2) ((HD.out _)) ((HD.out _)) (ha1.len) (ha2.len) (ha3.len) (ha4.len) (Lsm1.out) (Lsm2.out) (Lsm3.out) (Lsm4.out)).2.2.2))
  simp only [rv_nd] at lm1 lm2 lm3 lm4
  rw [fld1] at lm1 lm2
  rw [fld2] at lm3 lm4
  refine hK _ _ rfl trivial ?_
  clear hK K
  refine sq ?_
  refine .mv ?_
  refine sq ?_
  refine .r0 ?_
  refine sq ?_
  refine .r0 ?_
  refine sq ?_
  refine .al hs ?_; clear hs; intro p_b5 w_12 hs n12 kb_b5
  refine sq ?_
  intro K hK
  have xs := hs.g0
  have d0 : w_12.cell? ⟨p_b5, 0, none⟩ = some (.bool false) := hs.g0.cell 0 rfl
  have d1 : w_12.cell? ⟨p_b5, 1, none⟩ = some (.slice none 0 0) := hs.g0.cell 1 rfl
  have d2 : w_12.cell? ⟨p_b5, 2, none⟩ = some (.bool false) := hs.g0.cell 2 rfl
  have d3 : w_12.cell? ⟨p_b5, 3, none⟩ = some (.slice none 0 0) := hs.g0.cell 3 rfl
  have d4 : w_12.cell? ⟨p_b5, 4, none⟩ = some (.bool false) := hs.g0.cell 4 rfl
  have d5 : w_12.cell? ⟨p_b5, 5, none⟩ = some (.slice none 0 0) := hs.g0.cell 5 rfl
  have d6 : w_12.cell? ⟨p_b5, 6, none⟩ = some (.bool false) := hs.g0.cell 6 rfl
  have d7 : w_12.cell? ⟨p_b5, 7, none⟩ = some (.slice none 0 0) := hs.g0.cell 7 rfl
  have f0 := xs.free 0; have f1 := xs.free 1; have f2 := xs.free 2; have f3 := xs.free 3; have f4 := xs.free 4; have f5 := xs.free 5; have f6 := xs.free 6; have f7 := xs.free 7
  go_big_op
  have hd13 := xs.nod rfl rfl
  obtain ⟨w_13_0, eW, xs_0, ho_0⟩ : ∃ w', ((((w_12.setCell ⟨p_b5, 0, none⟩ (.bool n_lm1)).setCell ⟨p_b5, 1, none⟩ (.slice o_lm1 k_lm1 c_lm1)).setCell ⟨p_b5, 2, none⟩ (.bool n_lm2)).setCell ⟨p_b5, 3, none⟩ (.slice o_lm2 k_lm2 c_lm2)) = w' ∧ Bs w' p_b5 #[.bool n_lm1, .slice o_lm1 k_lm1 c_lm1, .bool n_lm2, .slice o_lm2 k_lm2 c_lm2, .bool false, .slice none 0 0, .bool false, .slice none 0 0] 28 ∧ Only p_b5 w_12 w' := xs.setN [(0, .bool n_lm1), (1, .slice o_lm1 k_lm1 c_lm1), (2, .bool n_lm2), (3, .slice o_lm2 k_lm2 c_lm2)]
  rw [eW]; clear eW
  obtain ⟨w_13, eW, xs', ho_4⟩ : ∃ w', ((((w_13_0.setCell ⟨p_b5, 4, none⟩ (.bool n_lm3)).setCell ⟨p_b5, 5, none⟩ (.slice o_lm3 k_lm3 c_lm3)).setCell ⟨p_b5, 6, none⟩ (.bool n_lm4)).setCell ⟨p_b5, 7, none⟩ (.slice o_lm4 k_lm4 c_lm4)) = w' ∧ Bs w' p_b5 #[.bool n_lm1, .slice o_lm1 k_lm1 c_lm1, .bool n_lm2, .slice o_lm2 k_lm2 c_lm2, .bool n_lm3, .slice o_lm3 k_lm3 c_lm3, .bool n_lm4, .slice o_lm4 k_lm4 c_lm4] 28 ∧ Only p_b5 w_13_0 w' := xs_0.setN [(4, .bool n_lm3), (5, .slice o_lm3 k_lm3 c_lm3), (6, .bool n_lm4), (7, .slice o_lm4 k_lm4 c_lm4)]
  rw [eW]; clear eW xs_0
  have ho13 := (ho_0.trans ho_4)
  clear ho_0 ho_4 d0 d1 d2 d3 d4 d5 d6 d7 f0 f1 f2 f3 f4 f5 f6 f7 xs
  replace hs := hs.u0 kb_b5 xs' ho13; clear xs'
  refine hK _ _ rfl trivial ?_; clear hK K
  refine sq ?_
  refine .mv ?_
  apply wpSq_end
  refine hK7 _ _ ?_
  refine wp_seq_k ?_
  intro K8 hK8
  refine rg [0, 1, 2, 3, 4, 5, 6, 7, 8] ?_
  refine sq ?_
  intro K hK
  have d0 : w_13.cell? ⟨p_b1, 0, none⟩ = some (.bool n_0a) := hs.g4.cell 0 rfl
  have d1 : w_13.cell? ⟨p_b1, 1, none⟩ = some (.slice o_0a k_0a c_0a) := hs.g4.cell 1 rfl
  have d2 : w_13.cell? ⟨p_b1, 2, none⟩ = some (.bool n_0b) := hs.g4.cell 2 rfl
  have d3 : w_13.cell? ⟨p_b1, 3, none⟩ = some (.slice o_0b k_0b c_0b) := hs.g4.cell 3 rfl
  have d4 : w_13.cell? ⟨p_b1, 4, none⟩ = some (.bool n_0c) := hs.g4.cell 4 rfl
  have d5 : w_13.cell? ⟨p_b1, 5, none⟩ = some (.slice o_0c k_0c c_0c) := hs.g4.cell 5 rfl
  have d6 : w_13.cell? ⟨p_b1, 6, none⟩ = some (.bool n_0d) := hs.g4.cell 6 rfl
  have d7 : w_13.cell? ⟨p_b1, 7, none⟩ = some (.slice o_0d k_0d c_0d) := hs.g4.cell 7 rfl
  go_big_op; refine hK _ _ rfl trivial ?_; clear hK K d0 d1 d2 d3 d4 d5 d6 d7
  refine sq ?_
  intro K hK
  have d0 : w_13.cell? ⟨p_b2, 0, none⟩ = some (.bool n_1a) := hs.g3.cell 0 rfl
  have d1 : w_13.cell? ⟨p_b2, 1, none⟩ = some (.slice o_1a k_1a c_1a) := hs.g3.cell 1 rfl
  have d2 : w_13.cell? ⟨p_b2, 2, none⟩ = some (.bool n_1b) := hs.g3.cell 2 rfl
  have d3 : w_13.cell? ⟨p_b2, 3, none⟩ = some (.slice o_1b k_1b c_1b) := hs.g3.cell 3 rfl
  have d4 : w_13.cell? ⟨p_b2, 4, none⟩ = some (.bool n_1c) := hs.g3.cell 4 rfl
  have d5 : w_13.cell? ⟨p_b2, 5, none⟩ = some (.slice o_1c k_1c c_1c) := hs.g3.cell 5 rfl
  have d6 : w_13.cell? ⟨p_b2, 6, none⟩ = some (.bool n_1d) := hs.g3.cell 6 rfl
  have d7 : w_13.cell? ⟨p_b2, 7, none⟩ = some (.slice o_1d k_1d c_1d) := hs.g3.cell 7 rfl
  go_big_op; refine hK _ _ rfl trivial ?_; clear hK K d0 d1 d2 d3 d4 d5 d6 d7
  refine sq ?_
  intro K hK
  have k10_13 := ((kb hb_11).b n12).o hd13 ho13
  replace ha1 := ha1.k k10_13
  replace ha2 := ha2.k k10_13
  replace ha3 := ha3.k k10_13
  replace ha4 := ha4.k k10_13
  have k7_13 := (((((kb hb_8).b n9).o hd10 ho10).b hb_11).b n12).o hd13 ho13
  replace hq1 := hq1.k k7_13
  replace hq2 := hq2.k k7_13
  replace hq3 := hq3.k k7_13
  replace hq4 := hq4.k k7_13
  go_big_op
  go_fit (gfMul_ok (CN.mk' ha1 ha2 ha3 ha4) (CN.mk' hq1 hq2 hq3 hq4) (by omega) (by omega) (by omega) (by omega) (by omega) (by omega) (by omega) (by omega) HA.out.1 HA.out.2 HB.out.1 HB.out.2)
  rintro e w_14 ⟨_, rfl, ⟨n_pm1, o_pm1, k_pm1, c_pm1, n_pm2, o_pm2, k_pm2, c_pm2, n_pm3, o_pm3, k_pm3, c_pm3, n_pm4, o_pm4, k_pm4, c_pm4, rfl, pm1, pm2, pm3, pm4⟩, hb_14⟩
  replace hs := hs.bl hb_14
  have Lpm1 := hide (pm1.lenOf ((r7m_len (HA.out.1) (HA.out.2) (HB.out.1) (HB.out.2) (ha1.len) (ha2.len) (ha3.len) (ha4.len) (hq1.len) (hq2.len) (hq3.len) (hq4.len)).1))
  have Lpm2 := hide (pm2.lenOf ((r7m_len (HA.out.1) (HA.out.2) (HB.out.1) (HB.out.2) (ha1.len) (ha2.len) (ha3.len) (ha4.len) (hq1.len) (hq2.len) (hq3.len) (hq4.len)).2.1))
  have Lpm3 := hide (pm3.lenOf ((r7m_len (HA.out.1) (HA.out.2) (HB.out.1) (HB.out.2) (ha1.len) (ha2.len) (ha3.len) (ha4.len) (hq1.len) (hq2.len) (hq3.len) (hq4.len)).2.2.1))
  have Lpm4 := hide (pm4.lenOf ((r7m_len (HA.out.1) (HA.out.2) (HB.out.1) (HB.out.2) (ha1.len) (ha2.len) (ha3.len) (ha4.len) (hq1.len) (hq2.len) (hq3.len) (hq4.len)).2.2.2))
  refine hK _ _ rfl trivial ?_
  clear hK K
  refine sq ?_
  refine .mv ?_
  refine sq ?_
  refine .r0 ?_
  refine sq ?_
  refine .r0 ?_
  refine sq ?_
  refine .al hs ?_; clear hs; intro p_b6 w_15 hs n15 kb_b6
  refine sq ?_
  intro K hK
  have xs := hs.g0
  have d0 : w_15.cell? ⟨p_b6, 0, none⟩ = some (.bool false) := hs.g0.cell 0 rfl
  have d1 : w_15.cell? ⟨p_b6, 1, none⟩ = some (.slice none 0 0) := hs.g0.cell 1 rfl
  have d2 : w_15.cell? ⟨p_b6, 2, none⟩ = some (.bool false) := hs.g0.cell 2 rfl
  have d3 : w_15.cell? ⟨p_b6, 3, none⟩ = some (.slice none 0 0) := hs.g0.cell 3 rfl
  have d4 : w_15.cell? ⟨p_b6, 4, none⟩ = some (.bool false) := hs.g0.cell 4 rfl
  have d5 : w_15.cell? ⟨p_b6, 5, none⟩ = some (.slice none 0 0) := hs.g0.cell 5 rfl
  have d6 : w_15.cell? ⟨p_b6, 6, none⟩ = some (.bool false) := hs.g0.cell 6 rfl
  have d7 : w_15.cell? ⟨p_b6, 7, none⟩ = some (.slice none 0 0) := hs.g0.cell 7 rfl
  have f0 := xs.free 0; have f1 := xs.free 1; have f2 := xs.free 2; have f3 := xs.free 3; have f4 := xs.free 4; have f5 := xs.free 5; have f6 := xs.free 6; have f7 := xs.free 7
  go_big_op
  have hd16 := xs.nod rfl rfl
  obtain ⟨w_16_0, eW, xs_0, ho_0⟩ : ∃ w', ((((w_15.setCell ⟨p_b6, 0, none⟩ (.bool n_pm1)).setCell ⟨p_b6, 1, none⟩ (.slice o_pm1 k_pm1 c_pm1)).setCell ⟨p_b6, 2, none⟩ (.bool n_pm2)).setCell ⟨p_b6, 3, none⟩ (.slice o_pm2 k_pm2 c_pm2)) = w' ∧ Bs w' p_b6 #[.bool n_pm1, .slice o_pm1 k_pm1 c_pm1, .bool n_pm2, .slice o_pm2 k_pm2 c_pm2, .bool false, .slice none 0 0, .bool false, .slice none 0 0] 28 ∧ Only p_b6 w_15 w' := xs.setN [(0, .bool n_pm1), (1, .slice o_pm1 k_pm1 c_pm1), (2, .bool n_pm2), (3, .slice o_pm2 k_pm2 c_pm2)]
  rw [eW]; clear eW
  obtain ⟨w_16, eW, xs', ho_4⟩ : ∃ w', ((((w_16_0.setCell ⟨p_b6, 4, none⟩ (.bool n_pm3)).setCell ⟨p_b6, 5, none⟩ (.slice o_pm3 k_pm3 c_pm3)).setCell ⟨p_b6, 6, none⟩ (.bool n_pm4)).setCell ⟨p_b6, 7, none⟩ (.slice o_pm4 k_pm4 c_pm4)) = w' ∧ Bs w' p_b6 #[.bool n_pm1, .slice o_pm1 k_pm1 c_pm1, .bool n_pm2, .slice o_pm2 k_pm2 c_pm2, .bool n_pm3, .slice o_pm3 k_pm3 c_pm3, .bool n_pm4, .slice o_pm4 k_pm4 c_pm4] 28 ∧ Only p_b6 w_16_0 w' := xs_0.setN [(4, .bool n_pm3), (5, .slice o_pm3 k_pm3 c_pm3), (6, .bool n_pm4), (7, .slice o_pm4 k_pm4 c_pm4)]
  rw [eW]; clear eW xs_0
  have ho16 := (ho_0.trans ho_4)
  clear ho_0 ho_4 d0 d1 d2 d3 d4 d5 d6 d7 f0 f1 f2 f3 f4 f5 f6 f7 xs
  replace hs := hs.u0 kb_b6 xs' ho16; clear xs'
  refine hK _ _ rfl trivial ?_; clear hK K
  refine sq ?_
  refine .mv ?_
  apply wpSq_end
  refine hK8 _ _ ?_
  refine wp_seq_k ?_
  intro K9 hK9
  refine rg [0, 1, 2, 3, 4, 5, 6, 7, 8] ?_
  refine sq ?_
  intro K hK
  have d0 : w_16.cell? ⟨p_b1, 0, none⟩ = some (.bool n_0a) := hs.g5.cell 0 rfl
  have d1 : w_16.cell? ⟨p_b1, 1, none⟩ = some (.slice o_0a k_0a c_0a) := hs.g5.cell 1 rfl
  have d2 : w_16.cell? ⟨p_b1, 2, none⟩ = some (.bool n_0b) := hs.g5.cell 2 rfl
  have d3 : w_16.cell? ⟨p_b1, 3, none⟩ = some (.slice o_0b k_0b c_0b) := hs.g5.cell 3 rfl
  have d4 : w_16.cell? ⟨p_b1, 4, none⟩ = some (.bool n_0c) := hs.g5.cell 4 rfl
  have d5 : w_16.cell? ⟨p_b1, 5, none⟩ = some (.slice o_0c k_0c c_0c) := hs.g5.cell 5 rfl
  have d6 : w_16.cell? ⟨p_b1, 6, none⟩ = some (.bool n_0d) := hs.g5.cell 6 rfl
  have d7 : w_16.cell? ⟨p_b1, 7, none⟩ = some (.slice o_0d k_0d c_0d) := hs.g5.cell 7 rfl
  go_big_op; refine hK _ _ rfl trivial ?_; clear hK K d0 d1 d2 d3 d4 d5 d6 d7
  refine sq ?_
  intro K hK
  have d0 : w_16.cell? ⟨p_b3, 0, none⟩ = some (.bool n_2a) := hs.g3.cell 0 rfl
  have d1 : w_16.cell? ⟨p_b3, 1, none⟩ = some (.slice o_2a k_2a c_2a) := hs.g3.cell 1 rfl
  have d2 : w_16.cell? ⟨p_b3, 2, none⟩ = some (.bool n_2b) := hs.g3.cell 2 rfl
  have d3 : w_16.cell? ⟨p_b3, 3, none⟩ = some (.slice o_2b k_2b c_2b) := hs.g3.cell 3 rfl
  have d4 : w_16.cell? ⟨p_b3, 4, none⟩ = some (.bool n_2c) := hs.g3.cell 4 rfl
  have d5 : w_16.cell? ⟨p_b3, 5, none⟩ = some (.slice o_2c k_2c c_2c) := hs.g3.cell 5 rfl
  have d6 : w_16.cell? ⟨p_b3, 6, none⟩ = some (.bool n_2d) := hs.g3.cell 6 rfl
  have d7 : w_16.cell? ⟨p_b3, 7, none⟩ = some (.slice o_2d k_2d c_2d) := hs.g3.cell 7 rfl
  go_big_op; refine hK _ _ rfl trivial ?_; clear hK K d0 d1 d2 d3 d4 d5 d6 d7
  refine sq ?_
  intro K hK
  have k13_16 := ((kb hb_14).b n15).o hd16 ho16
  replace ha1 := ha1.k k13_16
  replace ha2 := ha2.k k13_16
  replace ha3 := ha3.k k13_16
  replace ha4 := ha4.k k13_16
  have k7_16 := ((k7_13.b hb_14).b n15).o hd16 ho16
  replace hc1 := hc1.k k7_16
  replace hc2 := hc2.k k7_16
  replace hc3 := hc3.k k7_16
  replace hc4 := hc4.k k7_16
  go_big_op
  go_fit (gfMul_ok (CN.mk' ha1 ha2 ha3 ha4) (CN.mk' hc1 hc2 hc3 hc4) (by omega) (by omega) (by omega) (by omega) (by omega) (by omega) (by omega) (by omega) HA.out.1 HA.out.2 HC.out.1 HC.out.2)
  rintro e w_17 ⟨_, rfl, ⟨n_qm1, o_qm1, k_qm1, c_qm1, n_qm2, o_qm2, k_qm2, c_qm2, n_qm3, o_qm3, k_qm3, c_qm3, n_qm4, o_qm4, k_qm4, c_qm4, rfl, qm1, qm2, qm3, qm4⟩, hb_17⟩
  replace hs := hs.bl hb_17
  have Lqm1 := hide (qm1.lenOf ((r7m_len (HA.out.1) (HA.out.2) (HC.out.1) (HC.out.2) (ha1.len) (ha2.len) (ha3.len) (ha4.len) (hc1.len) (hc2.len) (hc3.len) (hc4.len)).1))
  have Lqm2 := hide (qm2.lenOf ((r7m_len (HA.out.1) (HA.out.2) (HC.out.1) (HC.out.2) (ha1.len) (ha2.len) (ha3.len) (ha4.len) (hc1.len) (hc2.len) (hc3.len) (hc4.len)).2.1))
  have Lqm3 := hide (qm3.lenOf ((r7m_len (HA.out.1) (HA.out.2) (HC.out.1) (HC.out.2) (ha1.len) (ha2.len) (ha3.len) (ha4.len) (hc1.len) (hc2.len) (hc3.len) (hc4.len)).2.2.1))
  have Lqm4 := hide (qm4.lenOf ((r7m_len (HA.out.1) (HA.out.2) (HC.out.1) (HC.out.2) (ha1.len) (ha2.len) (ha3.len) (ha4.len) (hc1.len) (hc2.len) (hc3.len) (hc4.len)).2.2.2))
  refine hK _ _ rfl trivial ?_
  clear hK K
  refine sq ?_
  refine .mv ?_
  refine sq ?_
  refine .r0 ?_
  refine sq ?_
  refine .r0 ?_
  refine sq ?_
  refine .al hs ?_; clear hs; intro p_b7 w_18 hs n18 kb_b7
  clear sm1 sm2 sm3 sm4 hc1 hc2 hc3 hc4
  refine sq ?_
  intro K hK
  have xs := hs.g0
  have d0 : w_18.cell? ⟨p_b7, 0, none⟩ = some (.bool false) := hs.g0.cell 0 rfl
  have d1 : w_18.cell? ⟨p_b7, 1, none⟩ = some (.slice none 0 0) := hs.g0.cell 1 rfl
  have d2 : w_18.cell? ⟨p_b7, 2, none⟩ = some (.bool false) := hs.g0.cell 2 rfl
  have d3 : w_18.cell? ⟨p_b7, 3, none⟩ = some (.slice none 0 0) := hs.g0.cell 3 rfl
  have d4 : w_18.cell? ⟨p_b7, 4, none⟩ = some (.bool false) := hs.g0.cell 4 rfl
  have d5 : w_18.cell? ⟨p_b7, 5, none⟩ = some (.slice none 0 0) := hs.g0.cell 5 rfl
  have d6 : w_18.cell? ⟨p_b7, 6, none⟩ = some (.bool false) := hs.g0.cell 6 rfl
  have d7 : w_18.cell? ⟨p_b7, 7, none⟩ = some (.slice none 0 0) := hs.g0.cell 7 rfl
  have f0 := xs.free 0; have f1 := xs.free 1; have f2 := xs.free 2; have f3 := xs.free 3; have f4 := xs.free 4; have f5 := xs.free 5; have f6 := xs.free 6; have f7 := xs.free 7
  go_big_op
  have hd19 := xs.nod rfl rfl
  obtain ⟨w_19_0, eW, xs_0, ho_0⟩ : ∃ w', ((((w_18.setCell ⟨p_b7, 0, none⟩ (.bool n_qm1)).setCell ⟨p_b7, 1, none⟩ (.slice o_qm1 k_qm1 c_qm1)).setCell ⟨p_b7, 2, none⟩ (.bool n_qm2)).setCell ⟨p_b7, 3, none⟩ (.slice o_qm2 k_qm2 c_qm2)) = w' ∧ Bs w' p_b7 #[.bool n_qm1, .slice o_qm1 k_qm1 c_qm1, .bool n_qm2, .slice o_qm2 k_qm2 c_qm2, .bool false, .slice none 0 0, .bool false, .slice none 0 0] 28 ∧ Only p_b7 w_18 w' := xs.setN [(0, .bool n_qm1), (1, .slice o_qm1 k_qm1 c_qm1), (2, .bool n_qm2), (3, .slice o_qm2 k_qm2 c_qm2)]
  rw [eW]; clear eW
  obtain ⟨w_19, eW, xs', ho_4⟩ : ∃ w', ((((w_19_0.setCell ⟨p_b7, 4, none⟩ (.bool n_qm3)).setCell ⟨p_b7, 5, none⟩ (.slice o_qm3 k_qm3 c_qm3)).setCell ⟨p_b7, 6, none⟩ (.bool n_qm4)).setCell ⟨p_b7, 7, none⟩ (.slice o_qm4 k_qm4 c_qm4)) = w' ∧ Bs w' p_b7 #[.bool n_qm1, .slice o_qm1 k_qm1 c_qm1, .bool n_qm2, .slice o_qm2 k_qm2 c_qm2, .bool n_qm3, .slice o_qm3 k_qm3 c_qm3, .bool n_qm4, .slice o_qm4 k_qm4 c_qm4] 28 ∧ Only p_b7 w_19_0 w' := xs_0.setN [(4, .bool n_qm3), (5, .slice o_qm3 k_qm3 c_qm3), (6, .bool n_qm4), (7, .slice o_qm4 k_qm4 c_qm4)]
  rw [eW]; clear eW xs_0
  have ho19 := (ho_0.trans ho_4)
  clear ho_0 ho_4 d0 d1 d2 d3 d4 d5 d6 d7 f0 f1 f2 f3 f4 f5 f6 f7 xs
  replace hs := hs.u0 kb_b7 xs' ho19; clear xs'
  refine hK _ _ rfl trivial ?_; clear hK K
  refine sq ?_
  refine .mv ?_
  apply wpSq_end
  refine hK9 _ _ ?_
  refine wp_seq_k ?_
  intro K10 hK10
  refine rg [0, 1, 2, 3, 4, 5, 6, 7, 8] ?_
  refine sq ?_
  intro K hK
  have d0 : w_19.cell? ⟨p_b6, 0, none⟩ = some (.bool n_pm1) := hs.g1.cell 0 rfl
  have d1 : w_19.cell? ⟨p_b6, 1, none⟩ = some (.slice o_pm1 k_pm1 c_pm1) := hs.g1.cell 1 rfl
  have d2 : w_19.cell? ⟨p_b6, 2, none⟩ = some (.bool n_pm2) := hs.g1.cell 2 rfl
  have d3 : w_19.cell? ⟨p_b6, 3, none⟩ = some (.slice o_pm2 k_pm2 c_pm2) := hs.g1.cell 3 rfl
  have d4 : w_19.cell? ⟨p_b6, 4, none⟩ = some (.bool n_pm3) := hs.g1.cell 4 rfl
  have d5 : w_19.cell? ⟨p_b6, 5, none⟩ = some (.slice o_pm3 k_pm3 c_pm3) := hs.g1.cell 5 rfl
  have d6 : w_19.cell? ⟨p_b6, 6, none⟩ = some (.bool n_pm4) := hs.g1.cell 6 rfl
  have d7 : w_19.cell? ⟨p_b6, 7, none⟩ = some (.slice o_pm4 k_pm4 c_pm4) := hs.g1.cell 7 rfl
  go_big_op; refine hK _ _ rfl trivial ?_; clear hK K d0 d1 d2 d3 d4 d5 d6 d7
  refine sq ?_
  intro K hK
  have d0 : w_19.cell? ⟨p_b7, 0, none⟩ = some (.bool n_qm1) := hs.g0.cell 0 rfl
  have d1 : w_19.cell? ⟨p_b7, 1, none⟩ = some (.slice o_qm1 k_qm1 c_qm1) := hs.g0.cell 1 rfl
  have d2 : w_19.cell? ⟨p_b7, 2, none⟩ = some (.bool n_qm2) := hs.g0.cell 2 rfl
  have d3 : w_19.cell? ⟨p_b7, 3, none⟩ = some (.slice o_qm2 k_qm2 c_qm2) := hs.g0.cell 3 rfl
  have d4 : w_19.cell? ⟨p_b7, 4, none⟩ = some (.bool n_qm3) := hs.g0.cell 4 rfl
  have d5 : w_19.cell? ⟨p_b7, 5, none⟩ = some (.slice o_qm3 k_qm3 c_qm3) := hs.g0.cell 5 rfl
  have d6 : w_19.cell? ⟨p_b7, 6, none⟩ = some (.bool n_qm4) := hs.g0.cell 6 rfl
  have d7 : w_19.cell? ⟨p_b7, 7, none⟩ = some (.slice o_qm4 k_qm4 c_qm4) := hs.g0.cell 7 rfl
  go_big_op; refine hK _ _ rfl trivial ?_; clear hK K d0 d1 d2 d3 d4 d5 d6 d7
  refine sq ?_
  intro K hK
  have k14_19 := ((((kb n15).o hd16 ho16).b hb_17).b n18).o hd19 ho19
  replace pm1 := pm1.k k14_19
  replace pm2 := pm2.k k14_19
  replace pm3 := pm3.k k14_19
  replace pm4 := pm4.k k14_19
  have k17_19 := (kb n18).o hd19 ho19
  replace qm1 := qm1.k k17_19
  replace qm2 := qm2.k k17_19
  replace qm3 := qm3.k k17_19
  replace qm4 := qm4.k k17_19
  go_big_op
  go_fit (gfAdd_ok (CN.mk' (pm1.zn Lpm1.out) (pm2.zn Lpm2.out) (pm3.zn Lpm3.out) (pm4.zn Lpm4.out)) (CN.mk' (qm1.zn Lqm1.out) (qm2.zn Lqm2.out) (qm3.zn Lqm3.out) (qm4.zn Lqm4.out)) (by omega) (by omega) (by omega) (by omega) (by omega) (by omega) (by omega) (by omega) (HD.out _) (HD.out _) (HD.out _) (HD.out _))
  rintro e w_20 ⟨_, rfl, ⟨n_rm1, o_rm1, k_rm1, c_rm1, n_rm2, o_rm2, k_rm2, c_rm2, n_rm3, o_rm3, k_rm3, c_rm3, n_rm4, o_rm4, k_rm4, c_rm4, rfl, rm1, rm2, rm3, rm4⟩, hb_20⟩
  replace hs := hs.bl hb_20
  have Lrm1 := hide (rm1.lenOf ((r7s_len ((HD.out _)) ((HD.out _)) ((HD.out _)) ((HD.out _)) (Lpm1.out) (Lpm2.out) (Lpm3.out) (Lpm4.out) (Lqm1.out) (Lqm2.out) (Lqm3.out) (Lqm4.out)).1.1))
  have Lrm2 := hide (rm2.lenOf ((r7s_len ((HD.out _)) ((HD.out _)) ((HD.out _)) ((HD.out _)) (Lpm1.out) (Lpm2.out) (Lpm3.out) (Lpm4.out) (Lqm1.out) (Lqm2.out) (Lqm3.out) (Lqm4.out)).1.2.1))
  have Lrm3 := hide (rm3.lenOf ((r7s_len ((HD.out _)) ((HD.out _)) ((HD.out _)) ((HD.out _)) (Lpm1.out) (Lpm2.out) (Lpm3.out) (Lpm4.out) (Lqm1.out) (Lqm2.out) (Lqm3.out) (Lqm4.out)).1.2.2.1))
  have Lrm4 := hide (rm4.lenOf ((r7s_len ((HD.out _)) ((HD.out _)) ((HD.out _)) ((HD.out _)) (Lpm1.out) (Lpm2.out) (Lpm3.out) (Lpm4.out) (Lqm1.out) (Lqm2.out) (Lqm3.out) (Lqm4.out)).1.2.2.2))
  simp only [rv_nd] at rm1 rm2 rm3 rm4 Lrm1 Lrm2 Lrm3 Lrm4
  refine hK _ _ rfl trivial ?_
  clear hK K
  refine sq ?_
  refine .mv ?_
  refine sq ?_
  refine .r0 ?_
  refine sq ?_
  refine .r0 ?_
  refine sq ?_
  refine .al hs ?_; clear hs; intro p_b8 w_21 hs n21 kb_b8
  refine sq ?_
  intro K hK
  have xs := hs.g0
  have d0 : w_21.cell? ⟨p_b8, 0, none⟩ = some (.bool false) := hs.g0.cell 0 rfl
  have d1 : w_21.cell? ⟨p_b8, 1, none⟩ = some (.slice none 0 0) := hs.g0.cell 1 rfl
  have d2 : w_21.cell? ⟨p_b8, 2, none⟩ = some (.bool false) := hs.g0.cell 2 rfl
  have d3 : w_21.cell? ⟨p_b8, 3, none⟩ = some (.slice none 0 0) := hs.g0.cell 3 rfl
  have d4 : w_21.cell? ⟨p_b8, 4, none⟩ = some (.bool false) := hs.g0.cell 4 rfl
  have d5 : w_21.cell? ⟨p_b8, 5, none⟩ = some (.slice none 0 0) := hs.g0.cell 5 rfl
  have d6 : w_21.cell? ⟨p_b8, 6, none⟩ = some (.bool false) := hs.g0.cell 6 rfl
  have d7 : w_21.cell? ⟨p_b8, 7, none⟩ = some (.slice none 0 0) := hs.g0.cell 7 rfl
  have f0 := xs.free 0; have f1 := xs.free 1; have f2 := xs.free 2; have f3 := xs.free 3; have f4 := xs.free 4; have f5 := xs.free 5; have f6 := xs.free 6; have f7 := xs.free 7
  go_big_op
  have hd22 := xs.nod rfl rfl
  obtain ⟨w_22_0, eW, xs_0, ho_0⟩ : ∃ w', ((((w_21.setCell ⟨p_b8, 0, none⟩ (.bool n_rm1)).setCell ⟨p_b8, 1, none⟩ (.slice o_rm1 k_rm1 c_rm1)).setCell ⟨p_b8, 2, none⟩ (.bool n_rm2)).setCell ⟨p_b8, 3, none⟩ (.slice o_rm2 k_rm2 c_rm2)) = w' ∧ Bs w' p_b8 #[.bool n_rm1, .slice o_rm1 k_rm1 c_rm1, .bool n_rm2, .slice o_rm2 k_rm2 c_rm2, .bool false, .slice none 0 0, .bool false, .slice none 0 0] 28 ∧ Only p_b8 w_21 w' := xs.setN [(0, .bool n_rm1), (1, .slice o_rm1 k_rm1 c_rm1), (2, .bool n_rm2), (3, .slice o_rm2 k_rm2 c_rm2)]
  rw [eW]; clear eW
  obtain ⟨w_22, eW, xs', ho_4⟩ : ∃ w', ((((w_22_0.setCell ⟨p_b8, 4, none⟩ (.bool n_rm3)).setCell ⟨p_b8, 5, none⟩ (.slice o_rm3 k_rm3 c_rm3)).setCell ⟨p_b8, 6, none⟩ (.bool n_rm4)).setCell ⟨p_b8, 7, none⟩ (.slice o_rm4 k_rm4 c_rm4)) = w' ∧ Bs w' p_b8 #[.bool n_rm1, .slice o_rm1 k_rm1 c_rm1, .bool n_rm2, .slice o_rm2 k_rm2 c_rm2, .bool n_rm3, .slice o_rm3 k_rm3 c_rm3, .bool n_rm4, .slice o_rm4 k_rm4 c_rm4] 28 ∧ Only p_b8 w_22_0 w' := xs_0.setN [(4, .bool n_rm3), (5, .slice o_rm3 k_rm3 c_rm3), (6, .bool n_rm4), (7, .slice o_rm4 k_rm4 c_rm4)]
  rw [eW]; clear eW xs_0
  have ho22 := (ho_0.trans ho_4)
  clear ho_0 ho_4 d0 d1 d2 d3 d4 d5 d6 d7 f0 f1 f2 f3 f4 f5 f6 f7 xs
  replace hs := hs.u0 kb_b8 xs' ho22; clear xs'
  refine hK _ _ rfl trivial ?_; clear hK K
  refine sq ?_
  refine .mv ?_
  apply wpSq_end
  refine hK10 _ _ ?_
  refine wp_seq_k ?_
  intro K11 hK11
  refine rg [0, 1, 2, 3, 4, 5, 6, 7] ?_
  refine sq ?_
  intro K hK
  have d0 : w_22.cell? ⟨p_b6, 0, none⟩ = some (.bool n_pm1) := hs.g2.cell 0 rfl
  have d1 : w_22.cell? ⟨p_b6, 1, none⟩ = some (.slice o_pm1 k_pm1 c_pm1) := hs.g2.cell 1 rfl
  have d2 : w_22.cell? ⟨p_b6, 2, none⟩ = some (.bool n_pm2) := hs.g2.cell 2 rfl
  have d3 : w_22.cell? ⟨p_b6, 3, none⟩ = some (.slice o_pm2 k_pm2 c_pm2) := hs.g2.cell 3 rfl
  have d4 : w_22.cell? ⟨p_b6, 4, none⟩ = some (.bool n_pm3) := hs.g2.cell 4 rfl
  have d5 : w_22.cell? ⟨p_b6, 5, none⟩ = some (.slice o_pm3 k_pm3 c_pm3) := hs.g2.cell 5 rfl
  have d6 : w_22.cell? ⟨p_b6, 6, none⟩ = some (.bool n_pm4) := hs.g2.cell 6 rfl
  have d7 : w_22.cell? ⟨p_b6, 7, none⟩ = some (.slice o_pm4 k_pm4 c_pm4) := hs.g2.cell 7 rfl
  go_big_op; refine hK _ _ rfl trivial ?_; clear hK K d0 d1 d2 d3 d4 d5 d6 d7
  refine sq ?_
  intro K hK
  have k19_22 := ((kb hb_20).b n21).o hd22 ho22
  replace pm1 := pm1.k k19_22
  replace pm2 := pm2.k k19_22
  replace pm3 := pm3.k k19_22
  replace pm4 := pm4.k k19_22
  go_big_op
  go_fit (gfNorm_ok (CN.mk' (pm1.zn Lpm1.out) (pm2.zn Lpm2.out) (pm3.zn Lpm3.out) (pm4.zn Lpm4.out)) (by omega) (by omega) (by omega) (by omega) (HD.out _) (HD.out _))
  rintro e w_23 ⟨_, rfl, ⟨n_nxa, o_nxa, k_nxa, c_nxa, n_nxb, o_nxb, k_nxb, c_nxb, rfl, nx1, nx2⟩, hb_23⟩
  replace hs := hs.bl hb_23
  have Lnx1 := hide (nx1.lenOf ((r7n_len ((HD.out _)) ((HD.out _)) (Lpm1.out) (Lpm2.out) (Lpm3.out) (Lpm4.out)).1))
  have Lnx2 := hide (nx2.lenOf ((r7n_len ((HD.out _)) ((HD.out _)) (Lpm1.out) (Lpm2.out) (Lpm3.out) (Lpm4.out)).2))
  simp only [rv_nd] at nx1 nx2
  rw [fld3] at nx1 nx2
  refine hK _ _ rfl trivial ?_
  clear hK K
  refine sq ?_
  refine .mv ?_
  refine sq ?_
  refine .r0 ?_
  refine sq ?_
  refine .r0 ?_
  refine sq ?_
  refine .al hs ?_; clear hs; intro p_b9 w_24 hs n24 kb_b9
  refine sq ?_
  refine .s4 hs.g0 (fun _ => hs.u0 kb_b9) ?_; clear hs; intro w_25 hs hd25 ho25
  refine sq ?_
  refine .mv ?_
  apply wpSq_end
  refine hK11 _ _ ?_
  refine wp_seq_k ?_
  intro K12 hK12
  refine rg [0, 1, 2, 3, 4, 5, 6, 7] ?_
  refine sq ?_
  intro K hK
  have d0 : w_25.cell? ⟨p_b1, 0, none⟩ = some (.bool n_0a) := hs.g8.cell 0 rfl
  have d1 : w_25.cell? ⟨p_b1, 1, none⟩ = some (.slice o_0a k_0a c_0a) := hs.g8.cell 1 rfl
  have d2 : w_25.cell? ⟨p_b1, 2, none⟩ = some (.bool n_0b) := hs.g8.cell 2 rfl
  have d3 : w_25.cell? ⟨p_b1, 3, none⟩ = some (.slice o_0b k_0b c_0b) := hs.g8.cell 3 rfl
  have d4 : w_25.cell? ⟨p_b1, 4, none⟩ = some (.bool n_0c) := hs.g8.cell 4 rfl
  have d5 : w_25.cell? ⟨p_b1, 5, none⟩ = some (.slice o_0c k_0c c_0c) := hs.g8.cell 5 rfl
  have d6 : w_25.cell? ⟨p_b1, 6, none⟩ = some (.bool n_0d) := hs.g8.cell 6 rfl
  have d7 : w_25.cell? ⟨p_b1, 7, none⟩ = some (.slice o_0d k_0d c_0d) := hs.g8.cell 7 rfl
  go_big_op; refine hK _ _ rfl trivial ?_; clear hK K d0 d1 d2 d3 d4 d5 d6 d7
  refine sq ?_
  intro K hK
  have k16_25 := ((((((((kb hb_17).b n18).o hd19 ho19).b hb_20).b n21).o hd22 ho22).b hb_23).b n24).o hd25 ho25
  replace ha1 := ha1.k k16_25
  replace ha2 := ha2.k k16_25
  replace ha3 := ha3.k k16_25
  replace ha4 := ha4.k k16_25
  go_big_op
  go_fit (gfNorm_ok (CN.mk' ha1 ha2 ha3 ha4) (by omega) (by omega) (by omega) (by omega) HA.out.1 HA.out.2)
  rintro e w_26 ⟨_, rfl, ⟨n_nya, o_nya, k_nya, c_nya, n_nyb, o_nyb, k_nyb, c_nyb, rfl, ny1, ny2⟩, hb_26⟩
  replace hs := hs.bl hb_26
  have Lny1 := hide (ny1.lenOf ((r7n_len (HA.out.1) (HA.out.2) (ha1.len) (ha2.len) (ha3.len) (ha4.len)).1))
  have Lny2 := hide (ny2.lenOf ((r7n_len (HA.out.1) (HA.out.2) (ha1.len) (ha2.len) (ha3.len) (ha4.len)).2))
  refine hK _ _ rfl trivial ?_
  clear hK K
  refine sq ?_
  refine .mv ?_
  refine sq ?_
  refine .r0 ?_
  refine sq ?_
  refine .r0 ?_
  refine sq ?_
  refine .al hs ?_; clear hs; intro p_b10 w_27 hs n27 kb_b10
  refine sq ?_
  refine .s4 hs.g0 (fun _ => hs.u0 kb_b10) ?_; clear hs; intro w_28 hs hd28 ho28
  refine sq ?_
  refine .mv ?_
  apply wpSq_end
  refine hK12 _ _ ?_
  refine wp_seq_k ?_
  intro K13 hK13
  refine rg [0, 1, 2, 3, 4, 5, 6, 7] ?_
  refine sq ?_
  intro K hK
  have d0 : w_28.cell? ⟨p_b2, 0, none⟩ = some (.bool n_1a) := hs.g8.cell 0 rfl
  have d1 : w_28.cell? ⟨p_b2, 1, none⟩ = some (.slice o_1a k_1a c_1a) := hs.g8.cell 1 rfl
  have d2 : w_28.cell? ⟨p_b2, 2, none⟩ = some (.bool n_1b) := hs.g8.cell 2 rfl
  have d3 : w_28.cell? ⟨p_b2, 3, none⟩ = some (.slice o_1b k_1b c_1b) := hs.g8.cell 3 rfl
  have d4 : w_28.cell? ⟨p_b2, 4, none⟩ = some (.bool n_1c) := hs.g8.cell 4 rfl
  have d5 : w_28.cell? ⟨p_b2, 5, none⟩ = some (.slice o_1c k_1c c_1c) := hs.g8.cell 5 rfl
  have d6 : w_28.cell? ⟨p_b2, 6, none⟩ = some (.bool n_1d) := hs.g8.cell 6 rfl
  have d7 : w_28.cell? ⟨p_b2, 7, none⟩ = some (.slice o_1d k_1d c_1d) := hs.g8.cell 7 rfl
  go_big_op; refine hK _ _ rfl trivial ?_; clear hK K d0 d1 d2 d3 d4 d5 d6 d7
  refine sq ?_
  intro K hK
  have k13_28 := (((((((((((k13_16.b hb_17).b n18).o hd19 ho19).b hb_20).b n21).o hd22 ho22).b hb_23).b n24).o hd25 ho25).b hb_26).b n27).o hd28 ho28
  replace hq1 := hq1.k k13_28
  replace hq2 := hq2.k k13_28
  replace hq3 := hq3.k k13_28
  replace hq4 := hq4.k k13_28
  go_big_op
  go_fit (gfNorm_ok (CN.mk' hq1 hq2 hq3 hq4) (by omega) (by omega) (by omega) (by omega) HB.out.1 HB.out.2)
  rintro e w_29 ⟨_, rfl, ⟨n_nza, o_nza, k_nza, c_nza, n_nzb, o_nzb, k_nzb, c_nzb, rfl, nz1, nz2⟩, hb_29⟩
  replace hs := hs.bl hb_29
  have Lnz1 := hide (nz1.lenOf ((r7n_len (HB.out.1) (HB.out.2) (hq1.len) (hq2.len) (hq3.len) (hq4.len)).1))
  have Lnz2 := hide (nz2.lenOf ((r7n_len (HB.out.1) (HB.out.2) (hq1.len) (hq2.len) (hq3.len) (hq4.len)).2))
  refine hK _ _ rfl trivial ?_
  clear hK K
  refine sq ?_
  refine .mv ?_
  refine sq ?_
  refine .r0 ?_
  refine sq ?_
  refine .r0 ?_
  refine sq ?_
  refine .al hs ?_; clear hs; intro p_b11 w_30 hs n30 kb_b11
  refine sq ?_
  refine .s4 hs.g0 (fun _ => hs.u0 kb_b11) ?_; clear hs; intro w_31 hs hd31 ho31
  refine sq ?_
  refine .mv ?_
  apply wpSq_end
  refine hK13 _ _ ?_
  refine wp_seq_k ?_
  intro K14 hK14
  refine rg [0, 1, 2, 3, 4, 5, 6, 7, 8] ?_
  refine sq ?_
  refine .r4 hs.g1.f4 ?_
  refine sq ?_
  refine .r4 hs.g0.f4 ?_
  refine sq ?_
  intro K hK
  have k26_31 := ((((kb n27).o hd28 ho28).b hb_29).b n30).o hd31 ho31
  replace ny1 := ny1.k k26_31
  replace ny2 := ny2.k k26_31
  have k29_31 := (kb n30).o hd31 ho31
  replace nz1 := nz1.k k29_31
  replace nz2 := nz2.k k29_31
  go_big_op
  go_fit (fMul_r (PN.mk' (ny1.zn Lny1.out) (ny2.zn Lny2.out)) (PN.mk' (nz1.zn Lnz1.out) (nz2.zn Lnz2.out)) (by omega) (by omega) (by omega) (by omega) (HD.out _) (HD.out _))
  rintro e w_32 ⟨_, rfl, ⟨n_nwa, o_nwa, k_nwa, c_nwa, n_nwb, o_nwb, k_nwb, c_nwb, rfl, nw1, nw2⟩, hb_32⟩
  replace hs := hs.bl hb_32
  have Lnw1 := hide (nw1.lenOf ((r_len (Int.mul_ne_zero ((HD.out _)) ((HD.out _))) (rv_mul _ _ _ _) (zlen_mul (Lny1.out) (Lnz1.out)) (zlen_mul (Lny2.out) (Lnz2.out))).1))
  have Lnw2 := hide (nw2.lenOf ((r_len (Int.mul_ne_zero ((HD.out _)) ((HD.out _))) (rv_mul _ _ _ _) (zlen_mul (Lny1.out) (Lnz1.out)) (zlen_mul (Lny2.out) (Lnz2.out))).2))
  simp only [rv_nd] at nw1 nw2 Lnw1 Lnw2
  refine hK _ _ rfl trivial ?_
  clear hK K
  refine sq ?_
  refine .mv ?_
  refine sq ?_
  refine .r0 ?_
  refine sq ?_
  refine .r0 ?_
  refine sq ?_
  refine .al hs ?_; clear hs; intro p_b12 w_33 hs n33 kb_b12
  clear qm1 qm2 qm3 qm4 ny1 ny2 nz1 nz2
  refine sq ?_
  refine .s4 hs.g0 (fun _ => hs.u0 kb_b12) ?_; clear hs; intro w_34 hs hd34 ho34
  refine sq ?_
  refine .mv ?_
  apply wpSq_end
  refine hK14 _ _ ?_
  refine wp_seq_k ?_
  intro K15 hK15
  refine wp_seq_k ?_
  intro K16 hK16
  refine rg [0, 1, 2, 3, 4, 5, 6, 7, 8, 9, 10, 11, 12, 13, 14, 15, 16, 17] ?_
  refine sq ?_
  refine .mv ?_
  refine sq ?_
  refine .r0 ?_
  refine sq ?_
  refine .mv ?_
  refine sq ?_
  refine .mv ?_
  refine sq ?_
  refine .r0 ?_
  refine sq ?_
  refine .r0 ?_
  refine sq ?_
  refine .mv ?_
  refine sq ?_
  intro K hK
  have d0 : w_34.cell? ⟨p_b5, 0, none⟩ = some (.bool n_lm1) := hs.g7.cell 0 rfl
  have d1 : w_34.cell? ⟨p_b5, 1, none⟩ = some (.slice o_lm1 k_lm1 c_lm1) := hs.g7.cell 1 rfl
  have d2 : w_34.cell? ⟨p_b5, 2, none⟩ = some (.bool n_lm2) := hs.g7.cell 2 rfl
  have d3 : w_34.cell? ⟨p_b5, 3, none⟩ = some (.slice o_lm2 k_lm2 c_lm2) := hs.g7.cell 3 rfl
  have d4 : w_34.cell? ⟨p_b5, 4, none⟩ = some (.bool n_lm3) := hs.g7.cell 4 rfl
  have d5 : w_34.cell? ⟨p_b5, 5, none⟩ = some (.slice o_lm3 k_lm3 c_lm3) := hs.g7.cell 5 rfl
  have d6 : w_34.cell? ⟨p_b5, 6, none⟩ = some (.bool n_lm4) := hs.g7.cell 6 rfl
  have d7 : w_34.cell? ⟨p_b5, 7, none⟩ = some (.slice o_lm4 k_lm4 c_lm4) := hs.g7.cell 7 rfl
  go_big_op; refine hK _ _ rfl trivial ?_; clear hK K d0 d1 d2 d3 d4 d5 d6 d7
  refine sq ?_
  intro K hK
  have d0 : w_34.cell? ⟨p_b8, 0, none⟩ = some (.bool n_rm1) := hs.g4.cell 0 rfl
  have d1 : w_34.cell? ⟨p_b8, 1, none⟩ = some (.slice o_rm1 k_rm1 c_rm1) := hs.g4.cell 1 rfl
  have d2 : w_34.cell? ⟨p_b8, 2, none⟩ = some (.bool n_rm2) := hs.g4.cell 2 rfl
  have d3 : w_34.cell? ⟨p_b8, 3, none⟩ = some (.slice o_rm2 k_rm2 c_rm2) := hs.g4.cell 3 rfl
  have d4 : w_34.cell? ⟨p_b8, 4, none⟩ = some (.bool n_rm3) := hs.g4.cell 4 rfl
  have d5 : w_34.cell? ⟨p_b8, 5, none⟩ = some (.slice o_rm3 k_rm3 c_rm3) := hs.g4.cell 5 rfl
  have d6 : w_34.cell? ⟨p_b8, 6, none⟩ = some (.bool n_rm4) := hs.g4.cell 6 rfl
  have d7 : w_34.cell? ⟨p_b8, 7, none⟩ = some (.slice o_rm4 k_rm4 c_rm4) := hs.g4.cell 7 rfl
  go_big_op; refine hK _ _ rfl trivial ?_; clear hK K d0 d1 d2 d3 d4 d5 d6 d7
  refine sq ?_
  intro K hK
  have k11_34 := ((((((((((((((((((((((kb n12).o hd13 ho13).b hb_14).b n15).o hd16 ho16).b hb_17).b n18).o hd19 ho19).b hb_20).b n21).o hd22 ho22).b hb_23).b n24).o hd25 ho25).b hb_26).b n27).o hd28 ho28).b hb_29).b n30).o hd31 ho31).b hb_32).b n33).o hd34 ho34
  replace lm1 := lm1.k k11_34
  replace lm2 := lm2.k k11_34
  replace lm3 := lm3.k k11_34
  replace lm4 := lm4.k k11_34
  have k20_34 := (((((((((((((kb n21).o hd22 ho22).b hb_23).b n24).o hd25 ho25).b hb_26).b n27).o hd28 ho28).b hb_29).b n30).o hd31 ho31).b hb_32).b n33).o hd34 ho34
  replace rm1 := rm1.k k20_34
  replace rm2 := rm2.k k20_34
  replace rm3 := rm3.k k20_34
  replace rm4 := rm4.k k20_34
  go_big_op
  go_fit (is7_ok (CC.mk' lm1 lm2 lm3 lm4) (CN.mk' (rm1.zn Lrm1.out) (rm2.zn Lrm2.out) (rm3.zn Lrm3.out) (rm4.zn Lrm4.out)) (by omega) (by omega) (by omega) (by omega) )
  rintro e w_35 ⟨rfl, hb_35⟩
  replace hs := hs.bl hb_35
  refine hK _ _ rfl trivial ?_
  clear hK K
  refine sq ?_
  refine .r0 ?_
  refine sq ?_
  refine .r0 ?_
  refine sq ?_
  refine .mv ?_
  refine sq ?_
  refine .r4 hs.g3.f4 ?_
  refine sq ?_
  refine .r4 hs.g0.f4 ?_
  refine sq ?_
  intro K hK
  have k23_35 := (((((((((((kb n24).o hd25 ho25).b hb_26).b n27).o hd28 ho28).b hb_29).b n30).o hd31 ho31).b hb_32).b n33).o hd34 ho34).b hb_35
  replace nx1 := nx1.k k23_35
  replace nx2 := nx2.k k23_35
  have k32_35 := ((kb n33).o hd34 ho34).b hb_35
  replace nw1 := nw1.k k32_35
  replace nw2 := nw2.k k32_35
  go_big_op
  go_fit (rfsame_r (.mk' nx1 nx2) (.mk' (nw1.zn Lnw1.out) (nw2.zn Lnw2.out)) (by omega) (by omega))
  rintro e w_36 ⟨rfl, hb_36⟩
  clear lm1 lm2 lm3 lm4 rm1 rm2 rm3 rm4
  replace hs := hs.bl hb_36
  refine hK _ _ rfl trivial ?_
  clear hK K
  refine sq ?_
  refine .r0 ?_
  refine sq ?_
  refine .r0 ?_
  apply wpSq_end
  refine hK16 _ _ ?_
  refine cf ?_
  refine wp_skip ?_
  refine hK15 _ _ ?_
  refine wp_seq_k ?_
  intro K17 hK17
  refine rg [0, 1, 2, 3, 4, 5, 6, 7, 8] ?_
  refine sq ?_
  intro K hK
  have d0 : w_36.cell? ⟨p_b6, 0, none⟩ = some (.bool n_pm1) := hs.g6.cell 0 rfl
  have d1 : w_36.cell? ⟨p_b6, 1, none⟩ = some (.slice o_pm1 k_pm1 c_pm1) := hs.g6.cell 1 rfl
  have d2 : w_36.cell? ⟨p_b6, 2, none⟩ = some (.bool n_pm2) := hs.g6.cell 2 rfl
  have d3 : w_36.cell? ⟨p_b6, 3, none⟩ = some (.slice o_pm2 k_pm2 c_pm2) := hs.g6.cell 3 rfl
  have d4 : w_36.cell? ⟨p_b6, 4, none⟩ = some (.bool n_pm3) := hs.g6.cell 4 rfl
  have d5 : w_36.cell? ⟨p_b6, 5, none⟩ = some (.slice o_pm3 k_pm3 c_pm3) := hs.g6.cell 5 rfl
  have d6 : w_36.cell? ⟨p_b6, 6, none⟩ = some (.bool n_pm4) := hs.g6.cell 6 rfl
  have d7 : w_36.cell? ⟨p_b6, 7, none⟩ = some (.slice o_pm4 k_pm4 c_pm4) := hs.g6.cell 7 rfl
  go_big_op; refine hK _ _ rfl trivial ?_; clear hK K d0 d1 d2 d3 d4 d5 d6 d7
  refine sq ?_
  intro K hK
  have d0 : w_36.cell? ⟨p_b2, 0, none⟩ = some (.bool n_1a) := hs.g10.cell 0 rfl
  have d1 : w_36.cell? ⟨p_b2, 1, none⟩ = some (.slice o_1a k_1a c_1a) := hs.g10.cell 1 rfl
  have d2 : w_36.cell? ⟨p_b2, 2, none⟩ = some (.bool n_1b) := hs.g10.cell 2 rfl
  have d3 : w_36.cell? ⟨p_b2, 3, none⟩ = some (.slice o_1b k_1b c_1b) := hs.g10.cell 3 rfl
  have d4 : w_36.cell? ⟨p_b2, 4, none⟩ = some (.bool n_1c) := hs.g10.cell 4 rfl
  have d5 : w_36.cell? ⟨p_b2, 5, none⟩ = some (.slice o_1c k_1c c_1c) := hs.g10.cell 5 rfl
  have d6 : w_36.cell? ⟨p_b2, 6, none⟩ = some (.bool n_1d) := hs.g10.cell 6 rfl
  have d7 : w_36.cell? ⟨p_b2, 7, none⟩ = some (.slice o_1d k_1d c_1d) := hs.g10.cell 7 rfl
  go_big_op; refine hK _ _ rfl trivial ?_; clear hK K d0 d1 d2 d3 d4 d5 d6 d7
  refine sq ?_
  intro K hK
  have k22_36 := (((((((((((((kb hb_23).b n24).o hd25 ho25).b hb_26).b n27).o hd28 ho28).b hb_29).b n30).o hd31 ho31).b hb_32).b n33).o hd34 ho34).b hb_35).b hb_36
  replace pm1 := pm1.k k22_36
  replace pm2 := pm2.k k22_36
  replace pm3 := pm3.k k22_36
  replace pm4 := pm4.k k22_36
  have k28_36 := (((((((kb hb_29).b n30).o hd31 ho31).b hb_32).b n33).o hd34 ho34).b hb_35).b hb_36
  replace hq1 := hq1.k k28_36
  replace hq2 := hq2.k k28_36
  replace hq3 := hq3.k k28_36
  replace hq4 := hq4.k k28_36
  go_big_op
  go_fit (gfQuo_bad2 (CN.mk' (pm1.zn Lpm1.out) (pm2.zn Lpm2.out) (pm3.zn Lpm3.out) (pm4.zn Lpm4.out)) (CN.mk' hq1 hq2 hq3 hq4) (by omega) (by omega) (by omega) (by omega) (by omega) (by omega) (by omega) (by omega) HB.out.1 HB.out.2 (.inr H0.out))
  rintro e w_37 ⟨rfl, hb_37⟩
  replace hs := hs.bl hb_37
  refine hK _ _ rfl trivial ?_
  clear hK K
  refine sq ?_
  refine .mv ?_
  refine sq ?_
  refine .r0 ?_
  refine sq ?_
  refine .r0 ?_
  refine sq ?_
  refine .al hs ?_; clear hs; intro p_b13 w_38 hs n38 kb_b13
  clear nx1 nx2 nw1 nw2 pm1 pm2 pm3 pm4
  refine sq ?_
  intro K hK
  have xs := hs.g0
  have d0 : w_38.cell? ⟨p_b13, 0, none⟩ = some (.bool false) := hs.g0.cell 0 rfl
  have d1 : w_38.cell? ⟨p_b13, 1, none⟩ = some (.slice none 0 0) := hs.g0.cell 1 rfl
  have d2 : w_38.cell? ⟨p_b13, 2, none⟩ = some (.bool false) := hs.g0.cell 2 rfl
  have d3 : w_38.cell? ⟨p_b13, 3, none⟩ = some (.slice none 0 0) := hs.g0.cell 3 rfl
  have d4 : w_38.cell? ⟨p_b13, 4, none⟩ = some (.bool false) := hs.g0.cell 4 rfl
  have d5 : w_38.cell? ⟨p_b13, 5, none⟩ = some (.slice none 0 0) := hs.g0.cell 5 rfl
  have d6 : w_38.cell? ⟨p_b13, 6, none⟩ = some (.bool false) := hs.g0.cell 6 rfl
  have d7 : w_38.cell? ⟨p_b13, 7, none⟩ = some (.slice none 0 0) := hs.g0.cell 7 rfl
  have f0 := xs.free 0; have f1 := xs.free 1; have f2 := xs.free 2; have f3 := xs.free 3; have f4 := xs.free 4; have f5 := xs.free 5; have f6 := xs.free 6; have f7 := xs.free 7
  go_big_op
  have hd39 := xs.nod rfl rfl
  obtain ⟨w_39_0, eW, xs_0, ho_0⟩ : ∃ w', ((((w_38.setCell ⟨p_b13, 0, none⟩ (.bool false)).setCell ⟨p_b13, 1, none⟩ (.slice none 0 0)).setCell ⟨p_b13, 2, none⟩ (.bool false)).setCell ⟨p_b13, 3, none⟩ (.slice none 0 0)) = w' ∧ Bs w' p_b13 #[.bool false, .slice none 0 0, .bool false, .slice none 0 0, .bool false, .slice none 0 0, .bool false, .slice none 0 0] 28 ∧ Only p_b13 w_38 w' := xs.setN [(0, .bool false), (1, .slice none 0 0), (2, .bool false), (3, .slice none 0 0)]
  rw [eW]; clear eW
  obtain ⟨w_39, eW, xs', ho_4⟩ : ∃ w', ((((w_39_0.setCell ⟨p_b13, 4, none⟩ (.bool false)).setCell ⟨p_b13, 5, none⟩ (.slice none 0 0)).setCell ⟨p_b13, 6, none⟩ (.bool false)).setCell ⟨p_b13, 7, none⟩ (.slice none 0 0)) = w' ∧ Bs w' p_b13 #[.bool false, .slice none 0 0, .bool false, .slice none 0 0, .bool false, .slice none 0 0, .bool false, .slice none 0 0] 28 ∧ Only p_b13 w_39_0 w' := xs_0.setN [(4, .bool false), (5, .slice none 0 0), (6, .bool false), (7, .slice none 0 0)]
  rw [eW]; clear eW xs_0
  have ho39 := (ho_0.trans ho_4)
  clear ho_0 ho_4 d0 d1 d2 d3 d4 d5 d6 d7 f0 f1 f2 f3 f4 f5 f6 f7 xs
  replace hs := hs.u0 kb_b13 xs' ho39; clear xs'
  refine hK _ _ rfl trivial ?_; clear hK K
  refine sq ?_
  refine .mv ?_
  apply wpSq_end
  refine hK17 _ _ ?_
  refine wp_seq_k ?_
  intro K18 hK18
  refine rg [0, 1, 2, 3, 4, 5, 6, 7] ?_
  refine sq ?_
  intro K hK
  have d0 : w_39.cell? ⟨p_b2, 0, none⟩ = some (.bool n_1a) := hs.g11.cell 0 rfl
  have d1 : w_39.cell? ⟨p_b2, 1, none⟩ = some (.slice o_1a k_1a c_1a) := hs.g11.cell 1 rfl
  have d2 : w_39.cell? ⟨p_b2, 2, none⟩ = some (.bool n_1b) := hs.g11.cell 2 rfl
  have d3 : w_39.cell? ⟨p_b2, 3, none⟩ = some (.slice o_1b k_1b c_1b) := hs.g11.cell 3 rfl
  have d4 : w_39.cell? ⟨p_b2, 4, none⟩ = some (.bool n_1c) := hs.g11.cell 4 rfl
  have d5 : w_39.cell? ⟨p_b2, 5, none⟩ = some (.slice o_1c k_1c c_1c) := hs.g11.cell 5 rfl
  have d6 : w_39.cell? ⟨p_b2, 6, none⟩ = some (.bool n_1d) := hs.g11.cell 6 rfl
  have d7 : w_39.cell? ⟨p_b2, 7, none⟩ = some (.slice o_1d k_1d c_1d) := hs.g11.cell 7 rfl
  go_big_op; refine hK _ _ rfl trivial ?_; clear hK K d0 d1 d2 d3 d4 d5 d6 d7
  refine sq ?_
  intro K hK
  have k36_39 := ((kb hb_37).b n38).o hd39 ho39
  replace hq1 := hq1.k k36_39
  replace hq2 := hq2.k k36_39
  replace hq3 := hq3.k k36_39
  replace hq4 := hq4.k k36_39
  go_big_op
  go_fit (gfNorm_ok (CN.mk' hq1 hq2 hq3 hq4) (by omega) (by omega) (by omega) (by omega) HB.out.1 HB.out.2)
  rintro e w_40 ⟨_, rfl, ⟨n_nna, o_nna, k_nna, c_nna, n_nnb, o_nnb, k_nnb, c_nnb, rfl, nn1, nn2⟩, hb_40⟩
  replace hs := hs.bl hb_40
  have Lnn1 := hide (nn1.lenOf ((r7n_len (HB.out.1) (HB.out.2) (hq1.len) (hq2.len) (hq3.len) (hq4.len)).1))
  have Lnn2 := hide (nn2.lenOf ((r7n_len (HB.out.1) (HB.out.2) (hq1.len) (hq2.len) (hq3.len) (hq4.len)).2))
  refine hK _ _ rfl trivial ?_
  clear hK K
  refine sq ?_
  refine .mv ?_
  refine sq ?_
  refine .r0 ?_
  refine sq ?_
  refine .r0 ?_
  refine sq ?_
  refine .al hs ?_; clear hs; intro p_b14 w_41 hs n41 kb_b14
  refine sq ?_
  refine .s4 hs.g0 (fun _ => hs.u0 kb_b14) ?_; clear hs; intro w_42 hs hd42 ho42
  refine sq ?_
  refine .mv ?_
  apply wpSq_end
  refine hK18 _ _ ?_
  refine wp_seq_k ?_
  intro K19 hK19
  refine wp_seq_k ?_
  intro K20 hK20
  refine rg [0, 1] ?_
  refine sq ?_
  refine .mv ?_
  refine sq ?_
  refine .r0 ?_
  apply wpSq_end
  refine hK20 _ _ ?_
  refine cf ?_
  refine wp_skip ?_
  refine hK19 _ _ ?_
  refine wp_seq_k ?_
  intro K21 hK21
  refine wp_region_f4 [(0, false), (1, true), (2, true), (3, false), (4, false), (5, false), (6, false), (7, false)] [] [] (fun _ => default) [0, 99, 99, 99, 99, 99, 99, 99] [] (.c hs.g0 .n) fn fun w_43 n43 => ?_
  replace hs := hs.bl n43
  refine f4 ?_
  refine fl fun w_44 n44 => ?_
  replace hs := hs.bl n44
  intro K hK
  go_big_op
  go_fit (rfI_any 0 _ (by decide) (by decide))
  rintro e w_45 ⟨_, rfl, ⟨n_z0a, o_z0a, k_z0a, c_z0a, n_z0b, o_z0b, k_z0b, c_z0b, rfl, z01, z02⟩, hb_45⟩
  replace hs := hs.bl hb_45
  have Lz01 := hide (z01.lenOf (zlen_0))
  have Lz02 := hide (z02.lenOf (zlen_i 1 (by decide) (by decide)))
  refine hK _ _ rfl ⟨hb_45, (And.intro hs.g0 trivial)⟩ ?_
  clear hK K
  refine fl fun w_46 n46 => ?_
  replace hs := hs.bl n46
  intro K hK
  have k40_46 := (((((kb n41).o hd42 ho42).b n43).b n44).b hb_45).b n46
  replace nn1 := nn1.k k40_46
  replace nn2 := nn2.k k40_46
  have k45_46 := kb n46
  replace z01 := z01.k k45_46
  replace z02 := z02.k k45_46
  go_big_op
  go_fit (fCmp_any (.mk' (nn1.zn Lnn1.out) (nn2.zn Lnn2.out)) (.mk' (z01.zn Lz01.out) (z02.zn Lz02.out)) (by omega) (by omega) (by omega) (by omega) (HD.out _) (by decide))
  rintro e w_47 ⟨rfl, hb_47⟩
  replace hs := hs.bl hb_47
  rw [HN.out]
  refine hK _ _ rfl ⟨hb_47, (And.intro hs.g0 trivial)⟩ ?_
  clear hK K
  refine fmv ?_
  refine f0 ?_
  refine f0 ?_
  refine fmv ?_
  refine fmv ?_
  refine e0 hs ?_; clear hs; intro w_48 hs n48
  clear hq1 hq2 hq3 hq4 z01 z02
  apply wpTail_end
  refine hK21 _ _ ?_
  refine wp_seq_k ?_
  intro K22 hK22
  refine wp_seq_k ?_
  intro K23 hK23
  refine rg [0, 1] ?_
  refine sq ?_
  refine .mv ?_
  refine sq ?_
  refine .r0 ?_
  apply wpSq_end
  refine hK23 _ _ ?_
  refine ct ?_
  refine wp_seq_k ?_
  intro K24 hK24
  refine rg [0, 1, 2] ?_
  refine sq ?_
  refine .mv ?_
  refine sq ?_
  refine .r0 ?_
  refine sq ?_
  refine .mv ?_
  apply wpSq_end
  refine hK24 _ _ ?_
  refine wp_ret ?_
  try dsimp only [Exit.then, Exit.inBlock]
  refine bodyPost_ret (v := (.bool true)) (by simp [results, Tryz.results7, go_sem]) rfl ?_
  have hb := hs.b
  exact ⟨rfl, hb⟩
set_option maxHeartbeats 8000000 in
set_option maxRecDepth 20000 in
theorem field7_some (ha : CN w va x l y m u k v n) (hq : CN w vb p l2 q m2 s k2 t n2) (hc : CN w vc a l3 b m3 c k3 d n3) (hl : l ≤ 1048576) (hm : m ≤ 1048576) (hk : k ≤ 1048576) (hn : n ≤ 1048576) (hl2 : l2 ≤ 1048576) (hm2 : m2 ≤ 1048576) (hk2 : k2 ≤ 1048576) (hn2 : n2 ≤ 1048576) (hl3 : l3 ≤ 1048576) (hm3 : m3 ≤ 1048576) (hk3 : k3 ≤ 1048576) (hn3 : n3 ≤ 1048576) (hy : y ≠ 0) (hv : v ≠ 0) (hq0 : q ≠ 0) (ht : t ≠ 0) (hb0 : b ≠ 0) (hd : d ≠ 0) (h0 : ¬ (p = 0 ∧ s = 0)) (htab : Lib.TabIs Tryz.prog w p10 .u64 Lib.pow10Tab) :
    Calls Tryz.prog 7 #[va, vb, vc] w fun e w' => e = .returned (.bool true) ∧ Below w.heap.size w w' := by
  have htabs := Lib.tabBelow_of_tabIs htab
  have HA := hide (And.intro hy hv)
  have HB := hide (And.intro hq0 ht)
  have HC := hide (And.intro hb0 hd)
  have HD := hide den_ne
  have H0 := hide h0
  have HN := hide (norm_ne hq0 ht h0)
  obtain ⟨Q, hQ⟩ : ∃ Q, qcmp (rv p q * rv p q + rv s t * rv s t).num (rv p q * rv p q + rv s t * rv s t).den 0 1 = Q := ⟨_, rfl⟩
  have hQ0 : Q ≠ 0 := hQ ▸ fun e => HN.out ((qcmp_zero _).1 e)
  have HQ := hide hQ
  have h5 : (Q == 0) = false := by simpa using hQ0
  have h6 : (Q = 0) = False := by simpa using hQ0
  clear hQ hQ0
  clear hy hv hq0 ht hb0 hd h0
  obtain ⟨n_0a, o_0a, k_0a, c_0a, n_0b, o_0b, k_0b, c_0b, n_0c, o_0c, k_0c, c_0c, n_0d, o_0d, k_0d, c_0d, rfl, ha1, ha2, ha3, ha4⟩ := ha
  obtain ⟨n_1a, o_1a, k_1a, c_1a, n_1b, o_1b, k_1b, c_1b, n_1c, o_1c, k_1c, c_1c, n_1d, o_1d, k_1d, c_1d, rfl, hq1, hq2, hq3, hq4⟩ := hq
  obtain ⟨n_2a, o_2a, k_2a, c_2a, n_2b, o_2b, k_2b, c_2b, n_2c, o_2c, k_2c, c_2c, n_2d, o_2d, k_2d, c_2d, rfl, hc1, hc2, hc3, hc4⟩ := hc
  go_enter Tryz.func7, Tryz.ntmps7
  have hs := St.nil w
  refine wp_seq_k ?_
  intro K1 hK1
  refine rg [0, 1, 2, 3] ?_
  refine sq ?_
  refine .al hs ?_; clear hs; intro p_b1 w_1 hs n1 kb_b1
  refine sq ?_
  refine .al hs ?_; clear hs; intro p_b2 w_2 hs n2 kb_b2
  refine sq ?_
  refine .al hs ?_; clear hs; intro p_b3 w_3 hs n3 kb_b3
  refine sq ?_
  refine .mv ?_
  apply wpSq_end
  refine hK1 _ _ ?_
  refine wp_seq_k ?_
  intro K2 hK2
  refine wp_seq_k ?_
  intro K3 hK3
  refine rg [0, 1] ?_
  refine sq ?_
  intro K hK
  have hb := hs.b
  go_big_op
  go_fit (awake7_any _ (htabs _ hb))
  rintro e w_4 ⟨rfl, hb_4⟩
  clear hb
  replace hs := hs.bl hb_4
  refine hK _ _ rfl trivial ?_
  clear hK K
  refine sq ?_
  refine .r0 ?_
  apply wpSq_end
  refine hK3 _ _ ?_
  refine cf ?_
  refine wp_skip ?_
  refine hK2 _ _ ?_
  refine wp_seq_k ?_
  intro K4 hK4
  refine wp_seq_k ?_
  intro K5 hK5
  refine rg [0, 1, 2, 3, 4, 5, 6, 7, 8, 9] ?_
  refine sq ?_
  intro K hK
  have d0 : w_4.cell? ⟨p_b1, 0, none⟩ = some (.bool n_0a) := hs.g2.cell 0 rfl
  have d1 : w_4.cell? ⟨p_b1, 1, none⟩ = some (.slice o_0a k_0a c_0a) := hs.g2.cell 1 rfl
  have d2 : w_4.cell? ⟨p_b1, 2, none⟩ = some (.bool n_0b) := hs.g2.cell 2 rfl
  have d3 : w_4.cell? ⟨p_b1, 3, none⟩ = some (.slice o_0b k_0b c_0b) := hs.g2.cell 3 rfl
  have d4 : w_4.cell? ⟨p_b1, 4, none⟩ = some (.bool n_0c) := hs.g2.cell 4 rfl
  have d5 : w_4.cell? ⟨p_b1, 5, none⟩ = some (.slice o_0c k_0c c_0c) := hs.g2.cell 5 rfl
  have d6 : w_4.cell? ⟨p_b1, 6, none⟩ = some (.bool n_0d) := hs.g2.cell 6 rfl
  have d7 : w_4.cell? ⟨p_b1, 7, none⟩ = some (.slice o_0d k_0d c_0d) := hs.g2.cell 7 rfl
  go_big_op; refine hK _ _ rfl trivial ?_; clear hK K d0 d1 d2 d3 d4 d5 d6 d7
  refine sq ?_
  intro K hK
  have k0_4 := (((kb n1).b n2).b n3).b hb_4
  replace ha1 := ha1.k k0_4
  replace ha2 := ha2.k k0_4
  replace ha3 := ha3.k k0_4
  replace ha4 := ha4.k k0_4
  go_big_op
  go_fit (r7Bad_no (CN.mk' ha1 ha2 ha3 ha4) (by omega) (by omega) (by omega) (by omega) HA.out.1 HA.out.2)
  rintro e w_5 ⟨rfl, hb_5⟩
  replace hs := hs.bl hb_5
  refine hK _ _ rfl trivial ?_
  clear hK K
  refine sq ?_
  refine .mv ?_
  refine sq ?_
  intro K hK
  have d0 : w_5.cell? ⟨p_b2, 0, none⟩ = some (.bool n_1a) := hs.g1.cell 0 rfl
  have d1 : w_5.cell? ⟨p_b2, 1, none⟩ = some (.slice o_1a k_1a c_1a) := hs.g1.cell 1 rfl
  have d2 : w_5.cell? ⟨p_b2, 2, none⟩ = some (.bool n_1b) := hs.g1.cell 2 rfl
  have d3 : w_5.cell? ⟨p_b2, 3, none⟩ = some (.slice o_1b k_1b c_1b) := hs.g1.cell 3 rfl
  have d4 : w_5.cell? ⟨p_b2, 4, none⟩ = some (.bool n_1c) := hs.g1.cell 4 rfl
  have d5 : w_5.cell? ⟨p_b2, 5, none⟩ = some (.slice o_1c k_1c c_1c) := hs.g1.cell 5 rfl
  have d6 : w_5.cell? ⟨p_b2, 6, none⟩ = some (.bool n_1d) := hs.g1.cell 6 rfl
  have d7 : w_5.cell? ⟨p_b2, 7, none⟩ = some (.slice o_1d k_1d c_1d) := hs.g1.cell 7 rfl
  go_big_op; refine hK _ _ rfl trivial ?_; clear hK K d0 d1 d2 d3 d4 d5 d6 d7
  refine sq ?_
  intro K hK
  have k0_5 := k0_4.b hb_5
  replace hq1 := hq1.k k0_5
  replace hq2 := hq2.k k0_5
  replace hq3 := hq3.k k0_5
  replace hq4 := hq4.k k0_5
  go_big_op
  go_fit (r7Bad_no (CN.mk' hq1 hq2 hq3 hq4) (by omega) (by omega) (by omega) (by omega) HB.out.1 HB.out.2)
  rintro e w_6 ⟨rfl, hb_6⟩
  replace hs := hs.bl hb_6
  refine hK _ _ rfl trivial ?_
  clear hK K
  refine sq ?_
  refine .r0 ?_
  refine sq ?_
  refine .mv ?_
  refine sq ?_
  intro K hK
  have d0 : w_6.cell? ⟨p_b3, 0, none⟩ = some (.bool n_2a) := hs.g0.cell 0 rfl
  have d1 : w_6.cell? ⟨p_b3, 1, none⟩ = some (.slice o_2a k_2a c_2a) := hs.g0.cell 1 rfl
  have d2 : w_6.cell? ⟨p_b3, 2, none⟩ = some (.bool n_2b) := hs.g0.cell 2 rfl
  have d3 : w_6.cell? ⟨p_b3, 3, none⟩ = some (.slice o_2b k_2b c_2b) := hs.g0.cell 3 rfl
  have d4 : w_6.cell? ⟨p_b3, 4, none⟩ = some (.bool n_2c) := hs.g0.cell 4 rfl
  have d5 : w_6.cell? ⟨p_b3, 5, none⟩ = some (.slice o_2c k_2c c_2c) := hs.g0.cell 5 rfl
  have d6 : w_6.cell? ⟨p_b3, 6, none⟩ = some (.bool n_2d) := hs.g0.cell 6 rfl
  have d7 : w_6.cell? ⟨p_b3, 7, none⟩ = some (.slice o_2d k_2d c_2d) := hs.g0.cell 7 rfl
  go_big_op; refine hK _ _ rfl trivial ?_; clear hK K d0 d1 d2 d3 d4 d5 d6 d7
  refine sq ?_
  intro K hK
  have k0_6 := k0_5.b hb_6
  replace hc1 := hc1.k k0_6
  replace hc2 := hc2.k k0_6
  replace hc3 := hc3.k k0_6
  replace hc4 := hc4.k k0_6
  go_big_op
  go_fit (r7Bad_no (CN.mk' hc1 hc2 hc3 hc4) (by omega) (by omega) (by omega) (by omega) HC.out.1 HC.out.2)
  rintro e w_7 ⟨rfl, hb_7⟩
  replace hs := hs.bl hb_7
  refine hK _ _ rfl trivial ?_
  clear hK K
  refine sq ?_
  refine .r0 ?_
  apply wpSq_end
  refine hK5 _ _ ?_
  refine cf ?_
  refine wp_skip ?_
  refine hK4 _ _ ?_
  refine wp_seq_k ?_
  intro K6 hK6
  refine rg [0, 1, 2, 3, 4, 5, 6, 7, 8] ?_
  refine sq ?_
  intro K hK
  have d0 : w_7.cell? ⟨p_b2, 0, none⟩ = some (.bool n_1a) := hs.g1.cell 0 rfl
  have d1 : w_7.cell? ⟨p_b2, 1, none⟩ = some (.slice o_1a k_1a c_1a) := hs.g1.cell 1 rfl
  have d2 : w_7.cell? ⟨p_b2, 2, none⟩ = some (.bool n_1b) := hs.g1.cell 2 rfl
  have d3 : w_7.cell? ⟨p_b2, 3, none⟩ = some (.slice o_1b k_1b c_1b) := hs.g1.cell 3 rfl
  have d4 : w_7.cell? ⟨p_b2, 4, none⟩ = some (.bool n_1c) := hs.g1.cell 4 rfl
  have d5 : w_7.cell? ⟨p_b2, 5, none⟩ = some (.slice o_1c k_1c c_1c) := hs.g1.cell 5 rfl
  have d6 : w_7.cell? ⟨p_b2, 6, none⟩ = some (.bool n_1d) := hs.g1.cell 6 rfl
  have d7 : w_7.cell? ⟨p_b2, 7, none⟩ = some (.slice o_1d k_1d c_1d) := hs.g1.cell 7 rfl
  go_big_op; refine hK _ _ rfl trivial ?_; clear hK K d0 d1 d2 d3 d4 d5 d6 d7
  refine sq ?_
  intro K hK
  have d0 : w_7.cell? ⟨p_b3, 0, none⟩ = some (.bool n_2a) := hs.g0.cell 0 rfl
  have d1 : w_7.cell? ⟨p_b3, 1, none⟩ = some (.slice o_2a k_2a c_2a) := hs.g0.cell 1 rfl
  have d2 : w_7.cell? ⟨p_b3, 2, none⟩ = some (.bool n_2b) := hs.g0.cell 2 rfl
  have d3 : w_7.cell? ⟨p_b3, 3, none⟩ = some (.slice o_2b k_2b c_2b) := hs.g0.cell 3 rfl
  have d4 : w_7.cell? ⟨p_b3, 4, none⟩ = some (.bool n_2c) := hs.g0.cell 4 rfl
  have d5 : w_7.cell? ⟨p_b3, 5, none⟩ = some (.slice o_2c k_2c c_2c) := hs.g0.cell 5 rfl
  have d6 : w_7.cell? ⟨p_b3, 6, none⟩ = some (.bool n_2d) := hs.g0.cell 6 rfl
  have d7 : w_7.cell? ⟨p_b3, 7, none⟩ = some (.slice o_2d k_2d c_2d) := hs.g0.cell 7 rfl
  go_big_op; refine hK _ _ rfl trivial ?_; clear hK K d0 d1 d2 d3 d4 d5 d6 d7
  refine sq ?_
  intro K hK
  have k5_7 := (kb hb_6).b hb_7
  replace hq1 := hq1.k k5_7
  replace hq2 := hq2.k k5_7
  replace hq3 := hq3.k k5_7
  replace hq4 := hq4.k k5_7
  have k6_7 := kb hb_7
  replace hc1 := hc1.k k6_7
  replace hc2 := hc2.k k6_7
  replace hc3 := hc3.k k6_7
  replace hc4 := hc4.k k6_7
  go_big_op
  go_fit (gfAdd_ok (CN.mk' hq1 hq2 hq3 hq4) (CN.mk' hc1 hc2 hc3 hc4) (by omega) (by omega) (by omega) (by omega) (by omega) (by omega) (by omega) (by omega) HB.out.1 HB.out.2 HC.out.1 HC.out.2)
  rintro e w_8 ⟨_, rfl, ⟨n_sm1, o_sm1, k_sm1, c_sm1, n_sm2, o_sm2, k_sm2, c_sm2, n_sm3, o_sm3, k_sm3, c_sm3, n_sm4, o_sm4, k_sm4, c_sm4, rfl, sm1, sm2, sm3, sm4⟩, hb_8⟩
  replace hs := hs.bl hb_8
  have Lsm1 := hide (sm1.lenOf ((r7s_len (HB.out.1) (HB.out.2) (HC.out.1) (HC.out.2) (hq1.len) (hq2.len) (hq3.len) (hq4.len) (hc1.len) (hc2.len) (hc3.len) (hc4.len)).1.1))
  have Lsm2 := hide (sm2.lenOf ((r7s_len (HB.out.1) (HB.out.2) (HC.out.1) (HC.out.2) (hq1.len) (hq2.len) (hq3.len) (hq4.len) (hc1.len) (hc2.len) (hc3.len) (hc4.len)).1.2.1))
  have Lsm3 := hide (sm3.lenOf ((r7s_len (HB.out.1) (HB.out.2) (HC.out.1) (HC.out.2) (hq1.len) (hq2.len) (hq3.len) (hq4.len) (hc1.len) (hc2.len) (hc3.len) (hc4.len)).1.2.2.1))
  have Lsm4 := hide (sm4.lenOf ((r7s_len (HB.out.1) (HB.out.2) (HC.out.1) (HC.out.2) (hq1.len) (hq2.len) (hq3.len) (hq4.len) (hc1.len) (hc2.len) (hc3.len) (hc4.len)).1.2.2.2))
  refine hK _ _ rfl trivial ?_
  clear hK K
  refine sq ?_
  refine .mv ?_
  refine sq ?_
  refine .r0 ?_
  refine sq ?_
  refine .r0 ?_
  refine sq ?_
  refine .al hs ?_; clear hs; intro p_b4 w_9 hs n9 kb_b4
  refine sq ?_
  intro K hK
  have xs := hs.g0
  have d0 : w_9.cell? ⟨p_b4, 0, none⟩ = some (.bool false) := hs.g0.cell 0 rfl
  have d1 : w_9.cell? ⟨p_b4, 1, none⟩ = some (.slice none 0 0) := hs.g0.cell 1 rfl
  have d2 : w_9.cell? ⟨p_b4, 2, none⟩ = some (.bool false) := hs.g0.cell 2 rfl
  have d3 : w_9.cell? ⟨p_b4, 3, none⟩ = some (.slice none 0 0) := hs.g0.cell 3 rfl
  have d4 : w_9.cell? ⟨p_b4, 4, none⟩ = some (.bool false) := hs.g0.cell 4 rfl
  have d5 : w_9.cell? ⟨p_b4, 5, none⟩ = some (.slice none 0 0) := hs.g0.cell 5 rfl
  have d6 : w_9.cell? ⟨p_b4, 6, none⟩ = some (.bool false) := hs.g0.cell 6 rfl
  have d7 : w_9.cell? ⟨p_b4, 7, none⟩ = some (.slice none 0 0) := hs.g0.cell 7 rfl
  have f0 := xs.free 0; have f1 := xs.free 1; have f2 := xs.free 2; have f3 := xs.free 3; have f4 := xs.free 4; have f5 := xs.free 5; have f6 := xs.free 6; have f7 := xs.free 7
  go_big_op
  have hd10 := xs.nod rfl rfl
  obtain ⟨w_10_0, eW, xs_0, ho_0⟩ : ∃ w', ((((w_9.setCell ⟨p_b4, 0, none⟩ (.bool n_sm1)).setCell ⟨p_b4, 1, none⟩ (.slice o_sm1 k_sm1 c_sm1)).setCell ⟨p_b4, 2, none⟩ (.bool n_sm2)).setCell ⟨p_b4, 3, none⟩ (.slice o_sm2 k_sm2 c_sm2)) = w' ∧ Bs w' p_b4 #[.bool n_sm1, .slice o_sm1 k_sm1 c_sm1, .bool n_sm2, .slice o_sm2 k_sm2 c_sm2, .bool false, .slice none 0 0, .bool false, .slice none 0 0] 28 ∧ Only p_b4 w_9 w' := xs.setN [(0, .bool n_sm1), (1, .slice o_sm1 k_sm1 c_sm1), (2, .bool n_sm2), (3, .slice o_sm2 k_sm2 c_sm2)]
  rw [eW]; clear eW
  obtain ⟨w_10, eW, xs', ho_4⟩ : ∃ w', ((((w_10_0.setCell ⟨p_b4, 4, none⟩ (.bool n_sm3)).setCell ⟨p_b4, 5, none⟩ (.slice o_sm3 k_sm3 c_sm3)).setCell ⟨p_b4, 6, none⟩ (.bool n_sm4)).setCell ⟨p_b4, 7, none⟩ (.slice o_sm4 k_sm4 c_sm4)) = w' ∧ Bs w' p_b4 #[.bool n_sm1, .slice o_sm1 k_sm1 c_sm1, .bool n_sm2, .slice o_sm2 k_sm2 c_sm2, .bool n_sm3, .slice o_sm3 k_sm3 c_sm3, .bool n_sm4, .slice o_sm4 k_sm4 c_sm4] 28 ∧ Only p_b4 w_10_0 w' := xs_0.setN [(4, .bool n_sm3), (5, .slice o_sm3 k_sm3 c_sm3), (6, .bool n_sm4), (7, .slice o_sm4 k_sm4 c_sm4)]
  rw [eW]; clear eW xs_0
  have ho10 := (ho_0.trans ho_4)
  clear ho_0 ho_4 d0 d1 d2 d3 d4 d5 d6 d7 f0 f1 f2 f3 f4 f5 f6 f7 xs
  replace hs := hs.u0 kb_b4 xs' ho10; clear xs'
  refine hK _ _ rfl trivial ?_; clear hK K
  refine sq ?_
  refine .mv ?_
  apply wpSq_end
  refine hK6 _ _ ?_
  refine wp_seq_k ?_
  intro K7 hK7
  refine rg [0, 1, 2, 3, 4, 5, 6, 7, 8] ?_
  refine sq ?_
  intro K hK
  have d0 : w_10.cell? ⟨p_b1, 0, none⟩ = some (.bool n_0a) := hs.g3.cell 0 rfl
  have d1 : w_10.cell? ⟨p_b1, 1, none⟩ = some (.slice o_0a k_0a c_0a) := hs.g3.cell 1 rfl
  have d2 : w_10.cell? ⟨p_b1, 2, none⟩ = some (.bool n_0b) := hs.g3.cell 2 rfl
  have d3 : w_10.cell? ⟨p_b1, 3, none⟩ = some (.slice o_0b k_0b c_0b) := hs.g3.cell 3 rfl
  have d4 : w_10.cell? ⟨p_b1, 4, none⟩ = some (.bool n_0c) := hs.g3.cell 4 rfl
  have d5 : w_10.cell? ⟨p_b1, 5, none⟩ = some (.slice o_0c k_0c c_0c) := hs.g3.cell 5 rfl
  have d6 : w_10.cell? ⟨p_b1, 6, none⟩ = some (.bool n_0d) := hs.g3.cell 6 rfl
  have d7 : w_10.cell? ⟨p_b1, 7, none⟩ = some (.slice o_0d k_0d c_0d) := hs.g3.cell 7 rfl
  go_big_op; refine hK _ _ rfl trivial ?_; clear hK K d0 d1 d2 d3 d4 d5 d6 d7
  refine sq ?_
  intro K hK
  have d0 : w_10.cell? ⟨p_b4, 0, none⟩ = some (.bool n_sm1) := hs.g0.cell 0 rfl
  have d1 : w_10.cell? ⟨p_b4, 1, none⟩ = some (.slice o_sm1 k_sm1 c_sm1) := hs.g0.cell 1 rfl
  have d2 : w_10.cell? ⟨p_b4, 2, none⟩ = some (.bool n_sm2) := hs.g0.cell 2 rfl
  have d3 : w_10.cell? ⟨p_b4, 3, none⟩ = some (.slice o_sm2 k_sm2 c_sm2) := hs.g0.cell 3 rfl
  have d4 : w_10.cell? ⟨p_b4, 4, none⟩ = some (.bool n_sm3) := hs.g0.cell 4 rfl
  have d5 : w_10.cell? ⟨p_b4, 5, none⟩ = some (.slice o_sm3 k_sm3 c_sm3) := hs.g0.cell 5 rfl
  have d6 : w_10.cell? ⟨p_b4, 6, none⟩ = some (.bool n_sm4) := hs.g0.cell 6 rfl
  have d7 : w_10.cell? ⟨p_b4, 7, none⟩ = some (.slice o_sm4 k_sm4 c_sm4) := hs.g0.cell 7 rfl
  go_big_op; refine hK _ _ rfl trivial ?_; clear hK K d0 d1 d2 d3 d4 d5 d6 d7
  refine sq ?_
  intro K hK
  have k4_10 := (((((kb hb_5).b hb_6).b hb_7).b hb_8).b n9).o hd10 ho10
  replace ha1 := ha1.k k4_10
  replace ha2 := ha2.k k4_10
  replace ha3 := ha3.k k4_10
  replace ha4 := ha4.k k4_10
  have k8_10 := (kb n9).o hd10 ho10
  replace sm1 := sm1.k k8_10
  replace sm2 := sm2.k k8_10
  replace sm3 := sm3.k k8_10
  replace sm4 := sm4.k k8_10
  go_big_op
  go_fit (gfMul_ok (CN.mk' ha1 ha2 ha3 ha4) (CN.mk' (sm1.zn Lsm1.out) (sm2.zn Lsm2.out) (sm3.zn Lsm3.out) (sm4.zn Lsm4.out)) (by omega) (by omega) (by omega) (by omega) (by omega) (by omega) (by omega) (by omega) HA.out.1 HA.out.2 (HD.out _) (HD.out _))
  rintro e w_11 ⟨_, rfl, ⟨n_lm1, o_lm1, k_lm1, c_lm1, n_lm2, o_lm2, k_lm2, c_lm2, n_lm3, o_lm3, k_lm3, c_lm3, n_lm4, o_lm4, k_lm4, c_lm4, rfl, lm1, lm2, lm3, lm4⟩, hb_11⟩
  replace hs := hs.bl hb_11
  have Llm1 := hide (lm1.lenOf ((r7m_len (HA.out.1) (HA.out.2) ((HD.out _)) ((HD.out _)) (ha1.len) (ha2.len) (ha3.len) (ha4.len) (Lsm1.out) (Lsm2.out) (Lsm3.out) (Lsm4.out)).1))
  have Llm2 := hide (lm2.lenOf ((r7m_len (HA.out.1) (HA.out.2) ((HD.out _)) ((HD.out _)) (ha1.len) (ha2.len) (ha3.len) (ha4.len) (Lsm1.out) (Lsm2.out) (Lsm3.out) (Lsm4.out)).2.1))
  have Llm3 := hide (lm3.lenOf ((r7m_len (HA.out.1) (HA.out.2) ((HD.out _)) ((HD.out _)) (ha1.len) (ha2.len) (ha3.len) (ha4.len) (Lsm1.out) (Lsm2.out) (Lsm3.out) (Lsm4.out)).2.2.1))
  have Llm4 := hide (lm4.lenOf ((r7m_len (HA.out.1) (HA.out.2) ((HD.out _)) ((HD.out _)) (ha1.len) (ha2.len) (ha3.len) (ha4.len) (Lsm1.out) (Lsm2.out) (Lsm3.out) (Lsm4.out)).2.2.2))
  simp only [rv_nd] at lm1 lm2 lm3 lm4
  rw [fld1] at lm1 lm2
  rw [fld2] at lm3 lm4
  refine hK _ _ rfl trivial ?_
  clear hK K
  refine sq ?_
  refine .mv ?_
  refine sq ?_
  refine .r0 ?_
  refine sq ?_
  refine .r0 ?_
  refine sq ?_
  refine .al hs ?_; clear hs; intro p_b5 w_12 hs n12 kb_b5
  refine sq ?_
  intro K hK
  have xs := hs.g0
  have d0 : w_12.cell? ⟨p_b5, 0, none⟩ = some (.bool false) := hs.g0.cell 0 rfl
  have d1 : w_12.cell? ⟨p_b5, 1, none⟩ = some (.slice none 0 0) := hs.g0.cell 1 rfl
  have d2 : w_12.cell? ⟨p_b5, 2, none⟩ = some (.bool false) := hs.g0.cell 2 rfl
  have d3 : w_12.cell? ⟨p_b5, 3, none⟩ = some (.slice none 0 0) := hs.g0.cell 3 rfl
  have d4 : w_12.cell? ⟨p_b5, 4, none⟩ = some (.bool false) := hs.g0.cell 4 rfl
  have d5 : w_12.cell? ⟨p_b5, 5, none⟩ = some (.slice none 0 0) := hs.g0.cell 5 rfl
  have d6 : w_12.cell? ⟨p_b5, 6, none⟩ = some (.bool false) := hs.g0.cell 6 rfl
  have d7 : w_12.cell? ⟨p_b5, 7, none⟩ = some (.slice none 0 0) := hs.g0.cell 7 rfl
  have f0 := xs.free 0; have f1 := xs.free 1; have f2 := xs.free 2; have f3 := xs.free 3; have f4 := xs.free 4; have f5 := xs.free 5; have f6 := xs.free 6; have f7 := xs.free 7
  go_big_op
  have hd13 := xs.nod rfl rfl
  obtain ⟨w_13_0, eW, xs_0, ho_0⟩ : ∃ w', ((((w_12.setCell ⟨p_b5, 0, none⟩ (.bool n_lm1)).setCell ⟨p_b5, 1, none⟩ (.slice o_lm1 k_lm1 c_lm1)).setCell ⟨p_b5, 2, none⟩ (.bool n_lm2)).setCell ⟨p_b5, 3, none⟩ (.slice o_lm2 k_lm2 c_lm2)) = w' ∧ Bs w' p_b5 #[.bool n_lm1, .slice o_lm1 k_lm1 c_lm1, .bool n_lm2, .slice o_lm2 k_lm2 c_lm2, .bool false, .slice none 0 0, .bool false, .slice none 0 0] 28 ∧ Only p_b5 w_12 w' := xs.setN [(0, .bool n_lm1), (1, .slice o_lm1 k_lm1 c_lm1), (2, .bool n_lm2), (3, .slice o_lm2 k_lm2 c_lm2)]
  rw [eW]; clear eW
  obtain ⟨w_13, eW, xs', ho_4⟩ : ∃ w', ((((w_13_0.setCell ⟨p_b5, 4, none⟩ (.bool n_lm3)).setCell ⟨p_b5, 5, none⟩ (.slice o_lm3 k_lm3 c_lm3)).setCell ⟨p_b5, 6, none⟩ (.bool n_lm4)).setCell ⟨p_b5, 7, none⟩ (.slice o_lm4 k_lm4 c_lm4)) = w' ∧ Bs w' p_b5 #[.bool n_lm1, .slice o_lm1 k_lm1 c_lm1, .bool n_lm2, .slice o_lm2 k_lm2 c_lm2, .bool n_lm3, .slice o_lm3 k_lm3 c_lm3, .bool n_lm4, .slice o_lm4 k_lm4 c_lm4] 28 ∧ Only p_b5 w_13_0 w' := xs_0.setN [(4, .bool n_lm3), (5, .slice o_lm3 k_lm3 c_lm3), (6, .bool n_lm4), (7, .slice o_lm4 k_lm4 c_lm4)]
  rw [eW]; clear eW xs_0
  have ho13 := (ho_0.trans ho_4)
  clear ho_0 ho_4 d0 d1 d2 d3 d4 d5 d6 d7 f0 f1 f2 f3 f4 f5 f6 f7 xs
  replace hs := hs.u0 kb_b5 xs' ho13; clear xs'
  refine hK _ _ rfl trivial ?_; clear hK K
  refine sq ?_
  refine .mv ?_
  apply wpSq_end
  refine hK7 _ _ ?_
  refine wp_seq_k ?_
  intro K8 hK8
  refine rg [0, 1, 2, 3, 4, 5, 6, 7, 8] ?_
  refine sq ?_
  intro K hK
  have d0 : w_13.cell? ⟨p_b1, 0, none⟩ = some (.bool n_0a) := hs.g4.cell 0 rfl
  have d1 : w_13.cell? ⟨p_b1, 1, none⟩ = some (.slice o_0a k_0a c_0a) := hs.g4.cell 1 rfl
  have d2 : w_13.cell? ⟨p_b1, 2, none⟩ = some (.bool n_0b) := hs.g4.cell 2 rfl
  have d3 : w_13.cell? ⟨p_b1, 3, none⟩ = some (.slice o_0b k_0b c_0b) := hs.g4.cell 3 rfl
  have d4 : w_13.cell? ⟨p_b1, 4, none⟩ = some (.bool n_0c) := hs.g4.cell 4 rfl
  have d5 : w_13.cell? ⟨p_b1, 5, none⟩ = some (.slice o_0c k_0c c_0c) := hs.g4.cell 5 rfl
  have d6 : w_13.cell? ⟨p_b1, 6, none⟩ = some (.bool n_0d) := hs.g4.cell 6 rfl
  have d7 : w_13.cell? ⟨p_b1, 7, none⟩ = some (.slice o_0d k_0d c_0d) := hs.g4.cell 7 rfl
  go_big_op; refine hK _ _ rfl trivial ?_; clear hK K d0 d1 d2 d3 d4 d5 d6 d7
  refine sq ?_
  intro K hK
  have d0 : w_13.cell? ⟨p_b2, 0, none⟩ = some (.bool n_1a) := hs.g3.cell 0 rfl
  have d1 : w_13.cell? ⟨p_b2, 1, none⟩ = some (.slice o_1a k_1a c_1a) := hs.g3.cell 1 rfl
  have d2 : w_13.cell? ⟨p_b2, 2, none⟩ = some (.bool n_1b) := hs.g3.cell 2 rfl
  have d3 : w_13.cell? ⟨p_b2, 3, none⟩ = some (.slice o_1b k_1b c_1b) := hs.g3.cell 3 rfl
  have d4 : w_13.cell? ⟨p_b2, 4, none⟩ = some (.bool n_1c) := hs.g3.cell 4 rfl
  have d5 : w_13.cell? ⟨p_b2, 5, none⟩ = some (.slice o_1c k_1c c_1c) := hs.g3.cell 5 rfl
  have d6 : w_13.cell? ⟨p_b2, 6, none⟩ = some (.bool n_1d) := hs.g3.cell 6 rfl
  have d7 : w_13.cell? ⟨p_b2, 7, none⟩ = some (.slice o_1d k_1d c_1d) := hs.g3.cell 7 rfl
  go_big_op; refine hK _ _ rfl trivial ?_; clear hK K d0 d1 d2 d3 d4 d5 d6 d7
  refine sq ?_
  intro K hK
  have k10_13 := ((kb hb_11).b n12).o hd13 ho13
  replace ha1 := ha1.k k10_13
  replace ha2 := ha2.k k10_13
  replace ha3 := ha3.k k10_13
  replace ha4 := ha4.k k10_13
  have k7_13 := (((((kb hb_8).b n9).o hd10 ho10).b hb_11).b n12).o hd13 ho13
  replace hq1 := hq1.k k7_13
  replace hq2 := hq2.k k7_13
  replace hq3 := hq3.k k7_13
  replace hq4 := hq4.k k7_13
  go_big_op
  go_fit (gfMul_ok (CN.mk' ha1 ha2 ha3 ha4) (CN.mk' hq1 hq2 hq3 hq4) (by omega) (by omega) (by omega) (by omega) (by omega) (by omega) (by omega) (by omega) HA.out.1 HA.out.2 HB.out.1 HB.out.2)
  rintro e w_14 ⟨_, rfl, ⟨n_pm1, o_pm1, k_pm1, c_pm1, n_pm2, o_pm2, k_pm2, c_pm2, n_pm3, o_pm3, k_pm3, c_pm3, n_pm4, o_pm4, k_pm4, c_pm4, rfl, pm1, pm2, pm3, pm4⟩, hb_14⟩
  replace hs := hs.bl hb_14
  have Lpm1 := hide (pm1.lenOf ((r7m_len (HA.out.1) (HA.out.2) (HB.out.1) (HB.out.2) (ha1.len) (ha2.len) (ha3.len) (ha4.len) (hq1.len) (hq2.len) (hq3.len) (hq4.len)).1))
  have Lpm2 := hide (pm2.lenOf ((r7m_len (HA.out.1) (HA.out.2) (HB.out.1) (HB.out.2) (ha1.len) (ha2.len) (ha3.len) (ha4.len) (hq1.len) (hq2.len) (hq3.len) (hq4.len)).2.1))
  have Lpm3 := hide (pm3.lenOf ((r7m_len (HA.out.1) (HA.out.2) (HB.out.1) (HB.out.2) (ha1.len) (ha2.len) (ha3.len) (ha4.len) (hq1.len) (hq2.len) (hq3.len) (hq4.len)).2.2.1))
  have Lpm4 := hide (pm4.lenOf ((r7m_len (HA.out.1) (HA.out.2) (HB.out.1) (HB.out.2) (ha1.len) (ha2.len) (ha3.len) (ha4.len) (hq1.len) (hq2.len) (hq3.len) (hq4.len)).2.2.2))
  refine hK _ _ rfl trivial ?_
  clear hK K
  refine sq ?_
  refine .mv ?_
  refine sq ?_
  refine .r0 ?_
  refine sq ?_
  refine .r0 ?_
  refine sq ?_
  refine .al hs ?_; clear hs; intro p_b6 w_15 hs n15 kb_b6
  refine sq ?_
  intro K hK
  have xs := hs.g0
  have d0 : w_15.cell? ⟨p_b6, 0, none⟩ = some (.bool false) := hs.g0.cell 0 rfl
  have d1 : w_15.cell? ⟨p_b6, 1, none⟩ = some (.slice none 0 0) := hs.g0.cell 1 rfl
  have d2 : w_15.cell? ⟨p_b6, 2, none⟩ = some (.bool false) := hs.g0.cell 2 rfl
  have d3 : w_15.cell? ⟨p_b6, 3, none⟩ = some (.slice none 0 0) := hs.g0.cell 3 rfl
  have d4 : w_15.cell? ⟨p_b6, 4, none⟩ = some (.bool false) := hs.g0.cell 4 rfl
  have d5 : w_15.cell? ⟨p_b6, 5, none⟩ = some (.slice none 0 0) := hs.g0.cell 5 rfl
  have d6 : w_15.cell? ⟨p_b6, 6, none⟩ = some (.bool false) := hs.g0.cell 6 rfl
  have d7 : w_15.cell? ⟨p_b6, 7, none⟩ = some (.slice none 0 0) := hs.g0.cell 7 rfl
  have f0 := xs.free 0; have f1 := xs.free 1; have f2 := xs.free 2; have f3 := xs.free 3; have f4 := xs.free 4; have f5 := xs.free 5; have f6 := xs.free 6; have f7 := xs.free 7
  go_big_op
  have hd16 := xs.nod rfl rfl
  obtain ⟨w_16_0, eW, xs_0, ho_0⟩ : ∃ w', ((((w_15.setCell ⟨p_b6, 0, none⟩ (.bool n_pm1)).setCell ⟨p_b6, 1, none⟩ (.slice o_pm1 k_pm1 c_pm1)).setCell ⟨p_b6, 2, none⟩ (.bool n_pm2)).setCell ⟨p_b6, 3, none⟩ (.slice o_pm2 k_pm2 c_pm2)) = w' ∧ Bs w' p_b6 #[.bool n_pm1, .slice o_pm1 k_pm1 c_pm1, .bool n_pm2, .slice o_pm2 k_pm2 c_pm2, .bool false, .slice none 0 0, .bool false, .slice none 0 0] 28 ∧ Only p_b6 w_15 w' := xs.setN [(0, .bool n_pm1), (1, .slice o_pm1 k_pm1 c_pm1), (2, .bool n_pm2), (3, .slice o_pm2 k_pm2 c_pm2)]
  rw [eW]; clear eW
  obtain ⟨w_16, eW, xs', ho_4⟩ : ∃ w', ((((w_16_0.setCell ⟨p_b6, 4, none⟩ (.bool n_pm3)).setCell ⟨p_b6, 5, none⟩ (.slice o_pm3 k_pm3 c_pm3)).setCell ⟨p_b6, 6, none⟩ (.bool n_pm4)).setCell ⟨p_b6, 7, none⟩ (.slice o_pm4 k_pm4 c_pm4)) = w' ∧ Bs w' p_b6 #[.bool n_pm1, .slice o_pm1 k_pm1 c_pm1, .bool n_pm2, .slice o_pm2 k_pm2 c_pm2, .bool n_pm3, .slice o_pm3 k_pm3 c_pm3, .bool n_pm4, .slice o_pm4 k_pm4 c_pm4] 28 ∧ Only p_b6 w_16_0 w' := xs_0.setN [(4, .bool n_pm3), (5, .slice o_pm3 k_pm3 c_pm3), (6, .bool n_pm4), (7, .slice o_pm4 k_pm4 c_pm4)]
  rw [eW]; clear eW xs_0
  have ho16 := (ho_0.trans ho_4)
  clear ho_0 ho_4 d0 d1 d2 d3 d4 d5 d6 d7 f0 f1 f2 f3 f4 f5 f6 f7 xs
  replace hs := hs.u0 kb_b6 xs' ho16; clear xs'
  refine hK _ _ rfl trivial ?_; clear hK K
  refine sq ?_
  refine .mv ?_
  apply wpSq_end
  refine hK8 _ _ ?_
  refine wp_seq_k ?_
  intro K9 hK9
  refine rg [0, 1, 2, 3, 4, 5, 6, 7, 8] ?_
  refine sq ?_
  intro K hK
  have d0 : w_16.cell? ⟨p_b1, 0, none⟩ = some (.bool n_0a) := hs.g5.cell 0 rfl
  have d1 : w_16.cell? ⟨p_b1, 1, none⟩ = some (.slice o_0a k_0a c_0a) := hs.g5.cell 1 rfl
  have d2 : w_16.cell? ⟨p_b1, 2, none⟩ = some (.bool n_0b) := hs.g5.cell 2 rfl
  have d3 : w_16.cell? ⟨p_b1, 3, none⟩ = some (.slice o_0b k_0b c_0b) := hs.g5.cell 3 rfl
  have d4 : w_16.cell? ⟨p_b1, 4, none⟩ = some (.bool n_0c) := hs.g5.cell 4 rfl
  have d5 : w_16.cell? ⟨p_b1, 5, none⟩ = some (.slice o_0c k_0c c_0c) := hs.g5.cell 5 rfl
  have d6 : w_16.cell? ⟨p_b1, 6, none⟩ = some (.bool n_0d) := hs.g5.cell 6 rfl
  have d7 : w_16.cell? ⟨p_b1, 7, none⟩ = some (.slice o_0d k_0d c_0d) := hs.g5.cell 7 rfl
  go_big_op; refine hK _ _ rfl trivial ?_; clear hK K d0 d1 d2 d3 d4 d5 d6 d7
  refine sq ?_
  intro K hK
  have d0 : w_16.cell? ⟨p_b3, 0, none⟩ = some (.bool n_2a) := hs.g3.cell 0 rfl
  have d1 : w_16.cell? ⟨p_b3, 1, none⟩ = some (.slice o_2a k_2a c_2a) := hs.g3.cell 1 rfl
  have d2 : w_16.cell? ⟨p_b3, 2, none⟩ = some (.bool n_2b) := hs.g3.cell 2 rfl
  have d3 : w_16.cell? ⟨p_b3, 3, none⟩ = some (.slice o_2b k_2b c_2b) := hs.g3.cell 3 rfl
  have d4 : w_16.cell? ⟨p_b3, 4, none⟩ = some (.bool n_2c) := hs.g3.cell 4 rfl
  have d5 : w_16.cell? ⟨p_b3, 5, none⟩ = some (.slice o_2c k_2c c_2c) := hs.g3.cell 5 rfl
  have d6 : w_16.cell? ⟨p_b3, 6, none⟩ = some (.bool n_2d) := hs.g3.cell 6 rfl
  have d7 : w_16.cell? ⟨p_b3, 7, none⟩ = some (.slice o_2d k_2d c_2d) := hs.g3.cell 7 rfl
  go_big_op; refine hK _ _ rfl trivial ?_; clear hK K d0 d1 d2 d3 d4 d5 d6 d7
  refine sq ?_
  intro K hK
  have k13_16 := ((kb hb_14).b n15).o hd16 ho16
  replace ha1 := ha1.k k13_16
  replace ha2 := ha2.k k13_16
  replace ha3 := ha3.k k13_16
  replace ha4 := ha4.k k13_16
  have k7_16 := ((k7_13.b hb_14).b n15).o hd16 ho16
  replace hc1 := hc1.k k7_16
  replace hc2 := hc2.k k7_16
  replace hc3 := hc3.k k7_16
  replace hc4 := hc4.k k7_16
  go_big_op
  go_fit (gfMul_ok (CN.mk' ha1 ha2 ha3 ha4) (CN.mk' hc1 hc2 hc3 hc4) (by omega) (by omega) (by omega) (by omega) (by omega) (by omega) (by omega) (by omega) HA.out.1 HA.out.2 HC.out.1 HC.out.2)
  rintro e w_17 ⟨_, rfl, ⟨n_qm1, o_qm1, k_qm1, c_qm1, n_qm2, o_qm2, k_qm2, c_qm2, n_qm3, o_qm3, k_qm3, c_qm3, n_qm4, o_qm4, k_qm4, c_qm4, rfl, qm1, qm2, qm3, qm4⟩, hb_17⟩
  replace hs := hs.bl hb_17
  have Lqm1 := hide (qm1.lenOf ((r7m_len (HA.out.1) (HA.out.2) (HC.out.1) (HC.out.2) (ha1.len) (ha2.len) (ha3.len) (ha4.len) (hc1.len) (hc2.len) (hc3.len) (hc4.len)).1))
  have Lqm2 := hide (qm2.lenOf ((r7m_len (HA.out.1) (HA.out.2) (HC.out.1) (HC.out.2) (ha1.len) (ha2.len) (ha3.len) (ha4.len) (hc1.len) (hc2.len) (hc3.len) (hc4.len)).2.1))
  have Lqm3 := hide (qm3.lenOf ((r7m_len (HA.out.1) (HA.out.2) (HC.out.1) (HC.out.2) (ha1.len) (ha2.len) (ha3.len) (ha4.len) (hc1.len) (hc2.len) (hc3.len) (hc4.len)).2.2.1))
  have Lqm4 := hide (qm4.lenOf ((r7m_len (HA.out.1) (HA.out.2) (HC.out.1) (HC.out.2) (ha1.len) (ha2.len) (ha3.len) (ha4.len) (hc1.len) (hc2.len) (hc3.len) (hc4.len)).2.2.2))
  refine hK _ _ rfl trivial ?_
  clear hK K
  refine sq ?_
  refine .mv ?_
  refine sq ?_
  refine .r0 ?_
  refine sq ?_
  refine .r0 ?_
  refine sq ?_
  refine .al hs ?_; clear hs; intro p_b7 w_18 hs n18 kb_b7
  clear sm1 sm2 sm3 sm4 hc1 hc2 hc3 hc4
  refine sq ?_
  intro K hK
  have xs := hs.g0
  have d0 : w_18.cell? ⟨p_b7, 0, none⟩ = some (.bool false) := hs.g0.cell 0 rfl
  have d1 : w_18.cell? ⟨p_b7, 1, none⟩ = some (.slice none 0 0) := hs.g0.cell 1 rfl
  have d2 : w_18.cell? ⟨p_b7, 2, none⟩ = some (.bool false) := hs.g0.cell 2 rfl
  have d3 : w_18.cell? ⟨p_b7, 3, none⟩ = some (.slice none 0 0) := hs.g0.cell 3 rfl
  have d4 : w_18.cell? ⟨p_b7, 4, none⟩ = some (.bool false) := hs.g0.cell 4 rfl
  have d5 : w_18.cell? ⟨p_b7, 5, none⟩ = some (.slice none 0 0) := hs.g0.cell 5 rfl
  have d6 : w_18.cell? ⟨p_b7, 6, none⟩ = some (.bool false) := hs.g0.cell 6 rfl
  have d7 : w_18.cell? ⟨p_b7, 7, none⟩ = some (.slice none 0 0) := hs.g0.cell 7 rfl
  have f0 := xs.free 0; have f1 := xs.free 1; have f2 := xs.free 2; have f3 := xs.free 3; have f4 := xs.free 4; have f5 := xs.free 5; have f6 := xs.free 6; have f7 := xs.free 7
  go_big_op
  have hd19 := xs.nod rfl rfl
  obtain ⟨w_19_0, eW, xs_0, ho_0⟩ : ∃ w', ((((w_18.setCell ⟨p_b7, 0, none⟩ (.bool n_qm1)).setCell ⟨p_b7, 1, none⟩ (.slice o_qm1 k_qm1 c_qm1)).setCell ⟨p_b7, 2, none⟩ (.bool n_qm2)).setCell ⟨p_b7, 3, none⟩ (.slice o_qm2 k_qm2 c_qm2)) = w' ∧ Bs w' p_b7 #[.bool n_qm1, .slice o_qm1 k_qm1 c_qm1, .bool n_qm2, .slice o_qm2 k_qm2 c_qm2, .bool false, .slice none 0 0, .bool false, .slice none 0 0] 28 ∧ Only p_b7 w_18 w' := xs.setN [(0, .bool n_qm1), (1, .slice o_qm1 k_qm1 c_qm1), (2, .bool n_qm2), (3, .slice o_qm2 k_qm2 c_qm2)]
  rw [eW]; clear eW
  obtain ⟨w_19, eW, xs', ho_4⟩ : ∃ w', ((((w_19_0.setCell ⟨p_b7, 4, none⟩ (.bool n_qm3)).setCell ⟨p_b7, 5, none⟩ (.slice o_qm3 k_qm3 c_qm3)).setCell ⟨p_b7, 6, none⟩ (.bool n_qm4)).setCell ⟨p_b7, 7, none⟩ (.slice o_qm4 k_qm4 c_qm4)) = w' ∧ Bs w' p_b7 #[.bool n_qm1, .slice o_qm1 k_qm1 c_qm1, .bool n_qm2, .slice o_qm2 k_qm2 c_qm2, .bool n_qm3, .slice o_qm3 k_qm3 c_qm3, .bool n_qm4, .slice o_qm4 k_qm4 c_qm4] 28 ∧ Only p_b7 w_19_0 w' := xs_0.setN [(4, .bool n_qm3), (5, .slice o_qm3 k_qm3 c_qm3), (6, .bool n_qm4), (7, .slice o_qm4 k_qm4 c_qm4)]
  rw [eW]; clear eW xs_0
  have ho19 := (ho_0.trans ho_4)
  clear ho_0 ho_4 d0 d1 d2 d3 d4 d5 d6 d7 f0 f1 f2 f3 f4 f5 f6 f7 xs
  replace hs := hs.u0 kb_b7 xs' ho19; clear xs'
  refine hK _ _ rfl trivial ?_; clear hK K
  refine sq ?_
  refine .mv ?_
  apply wpSq_end
  refine hK9 _ _ ?_
  refine wp_seq_k ?_
  intro K10 hK10
  refine rg [0, 1, 2, 3, 4, 5, 6, 7, 8] ?_
  refine sq ?_
  intro K hK
  have d0 : w_19.cell? ⟨p_b6, 0, none⟩ = some (.bool n_pm1) := hs.g1.cell 0 rfl
  have d1 : w_19.cell? ⟨p_b6, 1, none⟩ = some (.slice o_pm1 k_pm1 c_pm1) := hs.g1.cell 1 rfl
  have d2 : w_19.cell? ⟨p_b6, 2, none⟩ = some (.bool n_pm2) := hs.g1.cell 2 rfl
  have d3 : w_19.cell? ⟨p_b6, 3, none⟩ = some (.slice o_pm2 k_pm2 c_pm2) := hs.g1.cell 3 rfl
  have d4 : w_19.cell? ⟨p_b6, 4, none⟩ = some (.bool n_pm3) := hs.g1.cell 4 rfl
  have d5 : w_19.cell? ⟨p_b6, 5, none⟩ = some (.slice o_pm3 k_pm3 c_pm3) := hs.g1.cell 5 rfl
  have d6 : w_19.cell? ⟨p_b6, 6, none⟩ = some (.bool n_pm4) := hs.g1.cell 6 rfl
  have d7 : w_19.cell? ⟨p_b6, 7, none⟩ = some (.slice o_pm4 k_pm4 c_pm4) := hs.g1.cell 7 rfl
  go_big_op; refine hK _ _ rfl trivial ?_; clear hK K d0 d1 d2 d3 d4 d5 d6 d7
  refine sq ?_
  intro K hK
  have d0 : w_19.cell? ⟨p_b7, 0, none⟩ = some (.bool n_qm1) := hs.g0.cell 0 rfl
  have d1 : w_19.cell? ⟨p_b7, 1, none⟩ = some (.slice o_qm1 k_qm1 c_qm1) := hs.g0.cell 1 rfl
  have d2 : w_19.cell? ⟨p_b7, 2, none⟩ = some (.bool n_qm2) := hs.g0.cell 2 rfl
  have d3 : w_19.cell? ⟨p_b7, 3, none⟩ = some (.slice o_qm2 k_qm2 c_qm2) := hs.g0.cell 3 rfl
  have d4 : w_19.cell? ⟨p_b7, 4, none⟩ = some (.bool n_qm3) := hs.g0.cell 4 rfl
  have d5 : w_19.cell? ⟨p_b7, 5, none⟩ = some (.slice o_qm3 k_qm3 c_qm3) := hs.g0.cell 5 rfl
  have d6 : w_19.cell? ⟨p_b7, 6, none⟩ = some (.bool n_qm4) := hs.g0.cell 6 rfl
  have d7 : w_19.cell? ⟨p_b7, 7, none⟩ = some (.slice o_qm4 k_qm4 c_qm4) := hs.g0.cell 7 rfl
  go_big_op; refine hK _ _ rfl trivial ?_; clear hK K d0 d1 d2 d3 d4 d5 d6 d7
  refine sq ?_
  intro K hK
  have k14_19 := ((((kb n15).o hd16 ho16).b hb_17).b n18).o hd19 ho19
  replace pm1 := pm1.k k14_19
  replace pm2 := pm2.k k14_19
  replace pm3 := pm3.k k14_19
  replace pm4 := pm4.k k14_19
  have k17_19 := (kb n18).o hd19 ho19
  replace qm1 := qm1.k k17_19
  replace qm2 := qm2.k k17_19
  replace qm3 := qm3.k k17_19
  replace qm4 := qm4.k k17_19
  go_big_op
  go_fit (gfAdd_ok (CN.mk' (pm1.zn Lpm1.out) (pm2.zn Lpm2.out) (pm3.zn Lpm3.out) (pm4.zn Lpm4.out)) (CN.mk' (qm1.zn Lqm1.out) (qm2.zn Lqm2.out) (qm3.zn Lqm3.out) (qm4.zn Lqm4.out)) (by omega) (by omega) (by omega) (by omega) (by omega) (by omega) (by omega) (by omega) (HD.out _) (HD.out _) (HD.out _) (HD.out _))
  rintro e w_20 ⟨_, rfl, ⟨n_rm1, o_rm1, k_rm1, c_rm1, n_rm2, o_rm2, k_rm2, c_rm2, n_rm3, o_rm3, k_rm3, c_rm3, n_rm4, o_rm4, k_rm4, c_rm4, rfl, rm1, rm2, rm3, rm4⟩, hb_20⟩
  replace hs := hs.bl hb_20
  have Lrm1 := hide (rm1.lenOf ((r7s_len ((HD.out _)) ((HD.out _)) ((HD.out _)) ((HD.out _)) (Lpm1.out) (Lpm2.out) (Lpm3.out) (Lpm4.out) (Lqm1.out) (Lqm2.out) (Lqm3.out) (Lqm4.out)).1.1))
  have Lrm2 := hide (rm2.lenOf ((r7s_len ((HD.out _)) ((HD.out _)) ((HD.out _)) ((HD.out _)) (Lpm1.out) (Lpm2.out) (Lpm3.out) (Lpm4.out) (Lqm1.out) (Lqm2.out) (Lqm3.out) (Lqm4.out)).1.2.1))
  have Lrm3 := hide (rm3.lenOf ((r7s_len ((HD.out _)) ((HD.out _)) ((HD.out _)) ((HD.out _)) (Lpm1.out) (Lpm2.out) (Lpm3.out) (Lpm4.out) (Lqm1.out) (Lqm2.out) (Lqm3.out) (Lqm4.out)).1.2.2.1))
  have Lrm4 := hide (rm4.lenOf ((r7s_len ((HD.out _)) ((HD.out _)) ((HD.out _)) ((HD.out _)) (Lpm1.out) (Lpm2.out) (Lpm3.out) (Lpm4.out) (Lqm1.out) (Lqm2.out) (Lqm3.out) (Lqm4.out)).1.2.2.2))
  simp only [rv_nd] at rm1 rm2 rm3 rm4 Lrm1 Lrm2 Lrm3 Lrm4
  refine hK _ _ rfl trivial ?_
  clear hK K
  refine sq ?_
  refine .mv ?_
  refine sq ?_
  refine .r0 ?_
  refine sq ?_
  refine .r0 ?_
  refine sq ?_
  refine .al hs ?_; clear hs; intro p_b8 w_21 hs n21 kb_b8
  refine sq ?_
  intro K hK
  have xs := hs.g0
  have d0 : w_21.cell? ⟨p_b8, 0, none⟩ = some (.bool false) := hs.g0.cell 0 rfl
  have d1 : w_21.cell? ⟨p_b8, 1, none⟩ = some (.slice none 0 0) := hs.g0.cell 1 rfl
  have d2 : w_21.cell? ⟨p_b8, 2, none⟩ = some (.bool false) := hs.g0.cell 2 rfl
  have d3 : w_21.cell? ⟨p_b8, 3, none⟩ = some (.slice none 0 0) := hs.g0.cell 3 rfl
  have d4 : w_21.cell? ⟨p_b8, 4, none⟩ = some (.bool false) := hs.g0.cell 4 rfl
  have d5 : w_21.cell? ⟨p_b8, 5, none⟩ = some (.slice none 0 0) := hs.g0.cell 5 rfl
  have d6 : w_21.cell? ⟨p_b8, 6, none⟩ = some (.bool false) := hs.g0.cell 6 rfl
  have d7 : w_21.cell? ⟨p_b8, 7, none⟩ = some (.slice none 0 0) := hs.g0.cell 7 rfl
  have f0 := xs.free 0; have f1 := xs.free 1; have f2 := xs.free 2; have f3 := xs.free 3; have f4 := xs.free 4; have f5 := xs.free 5; have f6 := xs.free 6; have f7 := xs.free 7
  go_big_op
  have hd22 := xs.nod rfl rfl
  obtain ⟨w_22_0, eW, xs_0, ho_0⟩ : ∃ w', ((((w_21.setCell ⟨p_b8, 0, none⟩ (.bool n_rm1)).setCell ⟨p_b8, 1, none⟩ (.slice o_rm1 k_rm1 c_rm1)).setCell ⟨p_b8, 2, none⟩ (.bool n_rm2)).setCell ⟨p_b8, 3, none⟩ (.slice o_rm2 k_rm2 c_rm2)) = w' ∧ Bs w' p_b8 #[.bool n_rm1, .slice o_rm1 k_rm1 c_rm1, .bool n_rm2, .slice o_rm2 k_rm2 c_rm2, .bool false, .slice none 0 0, .bool false, .slice none 0 0] 28 ∧ Only p_b8 w_21 w' := xs.setN [(0, .bool n_rm1), (1, .slice o_rm1 k_rm1 c_rm1), (2, .bool n_rm2), (3, .slice o_rm2 k_rm2 c_rm2)]
  rw [eW]; clear eW
  obtain ⟨w_22, eW, xs', ho_4⟩ : ∃ w', ((((w_22_0.setCell ⟨p_b8, 4, none⟩ (.bool n_rm3)).setCell ⟨p_b8, 5, none⟩ (.slice o_rm3 k_rm3 c_rm3)).setCell ⟨p_b8, 6, none⟩ (.bool n_rm4)).setCell ⟨p_b8, 7, none⟩ (.slice o_rm4 k_rm4 c_rm4)) = w' ∧ Bs w' p_b8 #[.bool n_rm1, .slice o_rm1 k_rm1 c_rm1, .bool n_rm2, .slice o_rm2 k_rm2 c_rm2, .bool n_rm3, .slice o_rm3 k_rm3 c_rm3, .bool n_rm4, .slice o_rm4 k_rm4 c_rm4] 28 ∧ Only p_b8 w_22_0 w' := xs_0.setN [(4, .bool n_rm3), (5, .slice o_rm3 k_rm3 c_rm3), (6, .bool n_rm4), (7, .slice o_rm4 k_rm4 c_rm4)]
  rw [eW]; clear eW xs_0
  have ho22 := (ho_0.trans ho_4)
  clear ho_0 ho_4 d0 d1 d2 d3 d4 d5 d6 d7 f0 f1 f2 f3 f4 f5 f6 f7 xs
  replace hs := hs.u0 kb_b8 xs' ho22; clear xs'
  refine hK _ _ rfl trivial ?_; clear hK K
  refine sq ?_
  refine .mv ?_
  apply wpSq_end
  refine hK10 _ _ ?_
  refine wp_seq_k ?_
  intro K11 hK11
  refine rg [0, 1, 2, 3, 4, 5, 6, 7] ?_
  refine sq ?_
  intro K hK
  have d0 : w_22.cell? ⟨p_b6, 0, none⟩ = some (.bool n_pm1) := hs.g2.cell 0 rfl
  have d1 : w_22.cell? ⟨p_b6, 1, none⟩ = some (.slice o_pm1 k_pm1 c_pm1) := hs.g2.cell 1 rfl
  have d2 : w_22.cell? ⟨p_b6, 2, none⟩ = some (.bool n_pm2) := hs.g2.cell 2 rfl
  have d3 : w_22.cell? ⟨p_b6, 3, none⟩ = some (.slice o_pm2 k_pm2 c_pm2) := hs.g2.cell 3 rfl
  have d4 : w_22.cell? ⟨p_b6, 4, none⟩ = some (.bool n_pm3) := hs.g2.cell 4 rfl
  have d5 : w_22.cell? ⟨p_b6, 5, none⟩ = some (.slice o_pm3 k_pm3 c_pm3) := hs.g2.cell 5 rfl
  have d6 : w_22.cell? ⟨p_b6, 6, none⟩ = some (.bool n_pm4) := hs.g2.cell 6 rfl
  have d7 : w_22.cell? ⟨p_b6, 7, none⟩ = some (.slice o_pm4 k_pm4 c_pm4) := hs.g2.cell 7 rfl
  go_big_op; refine hK _ _ rfl trivial ?_; clear hK K d0 d1 d2 d3 d4 d5 d6 d7
  refine sq ?_
  intro K hK
  have k19_22 := ((kb hb_20).b n21).o hd22 ho22
  replace pm1 := pm1.k k19_22
  replace pm2 := pm2.k k19_22
  replace pm3 := pm3.k k19_22
  replace pm4 := pm4.k k19_22
  go_big_op
  go_fit (gfNorm_ok (CN.mk' (pm1.zn Lpm1.out) (pm2.zn Lpm2.out) (pm3.zn Lpm3.out) (pm4.zn Lpm4.out)) (by omega) (by omega) (by omega) (by omega) (HD.out _) (HD.out _))
  rintro e w_23 ⟨_, rfl, ⟨n_nxa, o_nxa, k_nxa, c_nxa, n_nxb, o_nxb, k_nxb, c_nxb, rfl, nx1, nx2⟩, hb_23⟩
  replace hs := hs.bl hb_23
  have Lnx1 := hide (nx1.lenOf ((r7n_len ((HD.out _)) ((HD.out _)) (Lpm1.out) (Lpm2.out) (Lpm3.out) (Lpm4.out)).1))
  have Lnx2 := hide (nx2.lenOf ((r7n_len ((HD.out _)) ((HD.out _)) (Lpm1.out) (Lpm2.out) (Lpm3.out) (Lpm4.out)).2))
  simp only [rv_nd] at nx1 nx2
  rw [fld3] at nx1 nx2
  refine hK _ _ rfl trivial ?_
  clear hK K
  refine sq ?_
  refine .mv ?_
  refine sq ?_
  refine .r0 ?_
  refine sq ?_
  refine .r0 ?_
  refine sq ?_
  refine .al hs ?_; clear hs; intro p_b9 w_24 hs n24 kb_b9
  refine sq ?_
  refine .s4 hs.g0 (fun _ => hs.u0 kb_b9) ?_; clear hs; intro w_25 hs hd25 ho25
  refine sq ?_
  refine .mv ?_
  apply wpSq_end
  refine hK11 _ _ ?_
  refine wp_seq_k ?_
  intro K12 hK12
  refine rg [0, 1, 2, 3, 4, 5, 6, 7] ?_
  refine sq ?_
  intro K hK
  have d0 : w_25.cell? ⟨p_b1, 0, none⟩ = some (.bool n_0a) := hs.g8.cell 0 rfl
  have d1 : w_25.cell? ⟨p_b1, 1, none⟩ = some (.slice o_0a k_0a c_0a) := hs.g8.cell 1 rfl
  have d2 : w_25.cell? ⟨p_b1, 2, none⟩ = some (.bool n_0b) := hs.g8.cell 2 rfl
  have d3 : w_25.cell? ⟨p_b1, 3, none⟩ = some (.slice o_0b k_0b c_0b) := hs.g8.cell 3 rfl
  have d4 : w_25.cell? ⟨p_b1, 4, none⟩ = some (.bool n_0c) := hs.g8.cell 4 rfl
  have d5 : w_25.cell? ⟨p_b1, 5, none⟩ = some (.slice o_0c k_0c c_0c) := hs.g8.cell 5 rfl
  have d6 : w_25.cell? ⟨p_b1, 6, none⟩ = some (.bool n_0d) := hs.g8.cell 6 rfl
  have d7 : w_25.cell? ⟨p_b1, 7, none⟩ = some (.slice o_0d k_0d c_0d) := hs.g8.cell 7 rfl
  go_big_op; refine hK _ _ rfl trivial ?_; clear hK K d0 d1 d2 d3 d4 d5 d6 d7
  refine sq ?_
  intro K hK
  have k16_25 := ((((((((kb hb_17).b n18).o hd19 ho19).b hb_20).b n21).o hd22 ho22).b hb_23).b n24).o hd25 ho25
  replace ha1 := ha1.k k16_25
  replace ha2 := ha2.k k16_25
  replace ha3 := ha3.k k16_25
  replace ha4 := ha4.k k16_25
  go_big_op
  go_fit (gfNorm_ok (CN.mk' ha1 ha2 ha3 ha4) (by omega) (by omega) (by omega) (by omega) HA.out.1 HA.out.2)
  rintro e w_26 ⟨_, rfl, ⟨n_nya, o_nya, k_nya, c_nya, n_nyb, o_nyb, k_nyb, c_nyb, rfl, ny1, ny2⟩, hb_26⟩
  replace hs := hs.bl hb_26
  have Lny1 := hide (ny1.lenOf ((r7n_len (HA.out.1) (HA.out.2) (ha1.len) (ha2.len) (ha3.len) (ha4.len)).1))
  have Lny2 := hide (ny2.lenOf ((r7n_len (HA.out.1) (HA.out.2) (ha1.len) (ha2.len) (ha3.len) (ha4.len)).2))
  refine hK _ _ rfl trivial ?_
  clear hK K
  refine sq ?_
  refine .mv ?_
  refine sq ?_
  refine .r0 ?_
  refine sq ?_
  refine .r0 ?_
  refine sq ?_
  refine .al hs ?_; clear hs; intro p_b10 w_27 hs n27 kb_b10
  refine sq ?_
  refine .s4 hs.g0 (fun _ => hs.u0 kb_b10) ?_; clear hs; intro w_28 hs hd28 ho28
  refine sq ?_
  refine .mv ?_
  apply wpSq_end
  refine hK12 _ _ ?_
  refine wp_seq_k ?_
  intro K13 hK13
  refine rg [0, 1, 2, 3, 4, 5, 6, 7] ?_
  refine sq ?_
  intro K hK
  have d0 : w_28.cell? ⟨p_b2, 0, none⟩ = some (.bool n_1a) := hs.g8.cell 0 rfl
  have d1 : w_28.cell? ⟨p_b2, 1, none⟩ = some (.slice o_1a k_1a c_1a) := hs.g8.cell 1 rfl
  have d2 : w_28.cell? ⟨p_b2, 2, none⟩ = some (.bool n_1b) := hs.g8.cell 2 rfl
  have d3 : w_28.cell? ⟨p_b2, 3, none⟩ = some (.slice o_1b k_1b c_1b) := hs.g8.cell 3 rfl
  have d4 : w_28.cell? ⟨p_b2, 4, none⟩ = some (.bool n_1c) := hs.g8.cell 4 rfl
  have d5 : w_28.cell? ⟨p_b2, 5, none⟩ = some (.slice o_1c k_1c c_1c) := hs.g8.cell 5 rfl
  have d6 : w_28.cell? ⟨p_b2, 6, none⟩ = some (.bool n_1d) := hs.g8.cell 6 rfl
  have d7 : w_28.cell? ⟨p_b2, 7, none⟩ = some (.slice o_1d k_1d c_1d) := hs.g8.cell 7 rfl
  go_big_op; refine hK _ _ rfl trivial ?_; clear hK K d0 d1 d2 d3 d4 d5 d6 d7
  refine sq ?_
  intro K hK
  have k13_28 := (((((((((((k13_16.b hb_17).b n18).o hd19 ho19).b hb_20).b n21).o hd22 ho22).b hb_23).b n24).o hd25 ho25).b hb_26).b n27).o hd28 ho28
  replace hq1 := hq1.k k13_28
  replace hq2 := hq2.k k13_28
  replace hq3 := hq3.k k13_28
  replace hq4 := hq4.k k13_28
  go_big_op
  go_fit (gfNorm_ok (CN.mk' hq1 hq2 hq3 hq4) (by omega) (by omega) (by omega) (by omega) HB.out.1 HB.out.2)
  rintro e w_29 ⟨_, rfl, ⟨n_nza, o_nza, k_nza, c_nza, n_nzb, o_nzb, k_nzb, c_nzb, rfl, nz1, nz2⟩, hb_29⟩
  replace hs := hs.bl hb_29
  have Lnz1 := hide (nz1.lenOf ((r7n_len (HB.out.1) (HB.out.2) (hq1.len) (hq2.len) (hq3.len) (hq4.len)).1))
  have Lnz2 := hide (nz2.lenOf ((r7n_len (HB.out.1) (HB.out.2) (hq1.len) (hq2.len) (hq3.len) (hq4.len)).2))
  refine hK _ _ rfl trivial ?_
  clear hK K
  refine sq ?_
  refine .mv ?_
  refine sq ?_
  refine .r0 ?_
  refine sq ?_
  refine .r0 ?_
  refine sq ?_
  refine .al hs ?_; clear hs; intro p_b11 w_30 hs n30 kb_b11
  refine sq ?_
  refine .s4 hs.g0 (fun _ => hs.u0 kb_b11) ?_; clear hs; intro w_31 hs hd31 ho31
  refine sq ?_
  refine .mv ?_
  apply wpSq_end
  refine hK13 _ _ ?_
  refine wp_seq_k ?_
  intro K14 hK14
  refine rg [0, 1, 2, 3, 4, 5, 6, 7, 8] ?_
  refine sq ?_
  refine .r4 hs.g1.f4 ?_
  refine sq ?_
  refine .r4 hs.g0.f4 ?_
  refine sq ?_
  intro K hK
  have k26_31 := ((((kb n27).o hd28 ho28).b hb_29).b n30).o hd31 ho31
  replace ny1 := ny1.k k26_31
  replace ny2 := ny2.k k26_31
  have k29_31 := (kb n30).o hd31 ho31
  replace nz1 := nz1.k k29_31
  replace nz2 := nz2.k k29_31
  go_big_op
  go_fit (fMul_r (PN.mk' (ny1.zn Lny1.out) (ny2.zn Lny2.out)) (PN.mk' (nz1.zn Lnz1.out) (nz2.zn Lnz2.out)) (by omega) (by omega) (by omega) (by omega) (HD.out _) (HD.out _))
  rintro e w_32 ⟨_, rfl, ⟨n_nwa, o_nwa, k_nwa, c_nwa, n_nwb, o_nwb, k_nwb, c_nwb, rfl, nw1, nw2⟩, hb_32⟩
  replace hs := hs.bl hb_32
  have Lnw1 := hide (nw1.lenOf ((r_len (Int.mul_ne_zero ((HD.out _)) ((HD.out _))) (rv_mul _ _ _ _) (zlen_mul (Lny1.out) (Lnz1.out)) (zlen_mul (Lny2.out) (Lnz2.out))).1))
  have Lnw2 := hide (nw2.lenOf ((r_len (Int.mul_ne_zero ((HD.out _)) ((HD.out _))) (rv_mul _ _ _ _) (zlen_mul (Lny1.out) (Lnz1.out)) (zlen_mul (Lny2.out) (Lnz2.out))).2))
  simp only [rv_nd] at nw1 nw2 Lnw1 Lnw2
  refine hK _ _ rfl trivial ?_
  clear hK K
  refine sq ?_
  refine .mv ?_
  refine sq ?_
  refine .r0 ?_
  refine sq ?_
  refine .r0 ?_
  refine sq ?_
  refine .al hs ?_; clear hs; intro p_b12 w_33 hs n33 kb_b12
  clear qm1 qm2 qm3 qm4 ny1 ny2 nz1 nz2
  refine sq ?_
  refine .s4 hs.g0 (fun _ => hs.u0 kb_b12) ?_; clear hs; intro w_34 hs hd34 ho34
  refine sq ?_
  refine .mv ?_
  apply wpSq_end
  refine hK14 _ _ ?_
  refine wp_seq_k ?_
  intro K15 hK15
  refine wp_seq_k ?_
  intro K16 hK16
  refine rg [0, 1, 2, 3, 4, 5, 6, 7, 8, 9, 10, 11, 12, 13, 14, 15, 16, 17] ?_
  refine sq ?_
  refine .mv ?_
  refine sq ?_
  refine .r0 ?_
  refine sq ?_
  refine .mv ?_
  refine sq ?_
  refine .mv ?_
  refine sq ?_
  refine .r0 ?_
  refine sq ?_
  refine .r0 ?_
  refine sq ?_
  refine .mv ?_
  refine sq ?_
  intro K hK
  have d0 : w_34.cell? ⟨p_b5, 0, none⟩ = some (.bool n_lm1) := hs.g7.cell 0 rfl
  have d1 : w_34.cell? ⟨p_b5, 1, none⟩ = some (.slice o_lm1 k_lm1 c_lm1) := hs.g7.cell 1 rfl
  have d2 : w_34.cell? ⟨p_b5, 2, none⟩ = some (.bool n_lm2) := hs.g7.cell 2 rfl
  have d3 : w_34.cell? ⟨p_b5, 3, none⟩ = some (.slice o_lm2 k_lm2 c_lm2) := hs.g7.cell 3 rfl
  have d4 : w_34.cell? ⟨p_b5, 4, none⟩ = some (.bool n_lm3) := hs.g7.cell 4 rfl
  have d5 : w_34.cell? ⟨p_b5, 5, none⟩ = some (.slice o_lm3 k_lm3 c_lm3) := hs.g7.cell 5 rfl
  have d6 : w_34.cell? ⟨p_b5, 6, none⟩ = some (.bool n_lm4) := hs.g7.cell 6 rfl
  have d7 : w_34.cell? ⟨p_b5, 7, none⟩ = some (.slice o_lm4 k_lm4 c_lm4) := hs.g7.cell 7 rfl
  go_big_op; refine hK _ _ rfl trivial ?_; clear hK K d0 d1 d2 d3 d4 d5 d6 d7
  refine sq ?_
  intro K hK
  have d0 : w_34.cell? ⟨p_b8, 0, none⟩ = some (.bool n_rm1) := hs.g4.cell 0 rfl
  have d1 : w_34.cell? ⟨p_b8, 1, none⟩ = some (.slice o_rm1 k_rm1 c_rm1) := hs.g4.cell 1 rfl
  have d2 : w_34.cell? ⟨p_b8, 2, none⟩ = some (.bool n_rm2) := hs.g4.cell 2 rfl
  have d3 : w_34.cell? ⟨p_b8, 3, none⟩ = some (.slice o_rm2 k_rm2 c_rm2) := hs.g4.cell 3 rfl
  have d4 : w_34.cell? ⟨p_b8, 4, none⟩ = some (.bool n_rm3) := hs.g4.cell 4 rfl
  have d5 : w_34.cell? ⟨p_b8, 5, none⟩ = some (.slice o_rm3 k_rm3 c_rm3) := hs.g4.cell 5 rfl
  have d6 : w_34.cell? ⟨p_b8, 6, none⟩ = some (.bool n_rm4) := hs.g4.cell 6 rfl
  have d7 : w_34.cell? ⟨p_b8, 7, none⟩ = some (.slice o_rm4 k_rm4 c_rm4) := hs.g4.cell 7 rfl
  go_big_op; refine hK _ _ rfl trivial ?_; clear hK K d0 d1 d2 d3 d4 d5 d6 d7
  refine sq ?_
  intro K hK
  have k11_34 := ((((((((((((((((((((((kb n12).o hd13 ho13).b hb_14).b n15).o hd16 ho16).b hb_17).b n18).o hd19 ho19).b hb_20).b n21).o hd22 ho22).b hb_23).b n24).o hd25 ho25).b hb_26).b n27).o hd28 ho28).b hb_29).b n30).o hd31 ho31).b hb_32).b n33).o hd34 ho34
  replace lm1 := lm1.k k11_34
  replace lm2 := lm2.k k11_34
  replace lm3 := lm3.k k11_34
  replace lm4 := lm4.k k11_34
  have k20_34 := (((((((((((((kb n21).o hd22 ho22).b hb_23).b n24).o hd25 ho25).b hb_26).b n27).o hd28 ho28).b hb_29).b n30).o hd31 ho31).b hb_32).b n33).o hd34 ho34
  replace rm1 := rm1.k k20_34
  replace rm2 := rm2.k k20_34
  replace rm3 := rm3.k k20_34
  replace rm4 := rm4.k k20_34
  go_big_op
  go_fit (is7_ok (CC.mk' lm1 lm2 lm3 lm4) (CN.mk' (rm1.zn Lrm1.out) (rm2.zn Lrm2.out) (rm3.zn Lrm3.out) (rm4.zn Lrm4.out)) (by omega) (by omega) (by omega) (by omega) )
  rintro e w_35 ⟨rfl, hb_35⟩
  replace hs := hs.bl hb_35
  refine hK _ _ rfl trivial ?_
  clear hK K
  refine sq ?_
  refine .r0 ?_
  refine sq ?_
  refine .r0 ?_
  refine sq ?_
  refine .mv ?_
  refine sq ?_
  refine .r4 hs.g3.f4 ?_
  refine sq ?_
  refine .r4 hs.g0.f4 ?_
  refine sq ?_
  intro K hK
  have k23_35 := (((((((((((kb n24).o hd25 ho25).b hb_26).b n27).o hd28 ho28).b hb_29).b n30).o hd31 ho31).b hb_32).b n33).o hd34 ho34).b hb_35
  replace nx1 := nx1.k k23_35
  replace nx2 := nx2.k k23_35
  have k32_35 := ((kb n33).o hd34 ho34).b hb_35
  replace nw1 := nw1.k k32_35
  replace nw2 := nw2.k k32_35
  go_big_op
  go_fit (rfsame_r (.mk' nx1 nx2) (.mk' (nw1.zn Lnw1.out) (nw2.zn Lnw2.out)) (by omega) (by omega))
  rintro e w_36 ⟨rfl, hb_36⟩
  clear lm1 lm2 lm3 lm4 rm1 rm2 rm3 rm4
  replace hs := hs.bl hb_36
  refine hK _ _ rfl trivial ?_
  clear hK K
  refine sq ?_
  refine .r0 ?_
  refine sq ?_
  refine .r0 ?_
  apply wpSq_end
  refine hK16 _ _ ?_
  refine cf ?_
  refine wp_skip ?_
  refine hK15 _ _ ?_
  refine wp_seq_k ?_
  intro K17 hK17
  refine rg [0, 1, 2, 3, 4, 5, 6, 7, 8] ?_
  refine sq ?_
  intro K hK
  have d0 : w_36.cell? ⟨p_b6, 0, none⟩ = some (.bool n_pm1) := hs.g6.cell 0 rfl
  have d1 : w_36.cell? ⟨p_b6, 1, none⟩ = some (.slice o_pm1 k_pm1 c_pm1) := hs.g6.cell 1 rfl
  have d2 : w_36.cell? ⟨p_b6, 2, none⟩ = some (.bool n_pm2) := hs.g6.cell 2 rfl
  have d3 : w_36.cell? ⟨p_b6, 3, none⟩ = some (.slice o_pm2 k_pm2 c_pm2) := hs.g6.cell 3 rfl
  have d4 : w_36.cell? ⟨p_b6, 4, none⟩ = some (.bool n_pm3) := hs.g6.cell 4 rfl
  have d5 : w_36.cell? ⟨p_b6, 5, none⟩ = some (.slice o_pm3 k_pm3 c_pm3) := hs.g6.cell 5 rfl
  have d6 : w_36.cell? ⟨p_b6, 6, none⟩ = some (.bool n_pm4) := hs.g6.cell 6 rfl
  have d7 : w_36.cell? ⟨p_b6, 7, none⟩ = some (.slice o_pm4 k_pm4 c_pm4) := hs.g6.cell 7 rfl
  go_big_op; refine hK _ _ rfl trivial ?_; clear hK K d0 d1 d2 d3 d4 d5 d6 d7
  refine sq ?_
  intro K hK
  have d0 : w_36.cell? ⟨p_b2, 0, none⟩ = some (.bool n_1a) := hs.g10.cell 0 rfl
  have d1 : w_36.cell? ⟨p_b2, 1, none⟩ = some (.slice o_1a k_1a c_1a) := hs.g10.cell 1 rfl
  have d2 : w_36.cell? ⟨p_b2, 2, none⟩ = some (.bool n_1b) := hs.g10.cell 2 rfl
  have d3 : w_36.cell? ⟨p_b2, 3, none⟩ = some (.slice o_1b k_1b c_1b) := hs.g10.cell 3 rfl
  have d4 : w_36.cell? ⟨p_b2, 4, none⟩ = some (.bool n_1c) := hs.g10.cell 4 rfl
  have d5 : w_36.cell? ⟨p_b2, 5, none⟩ = some (.slice o_1c k_1c c_1c) := hs.g10.cell 5 rfl
  have d6 : w_36.cell? ⟨p_b2, 6, none⟩ = some (.bool n_1d) := hs.g10.cell 6 rfl
  have d7 : w_36.cell? ⟨p_b2, 7, none⟩ = some (.slice o_1d k_1d c_1d) := hs.g10.cell 7 rfl
  go_big_op; refine hK _ _ rfl trivial ?_; clear hK K d0 d1 d2 d3 d4 d5 d6 d7
  refine sq ?_
  intro K hK
  have k22_36 := (((((((((((((kb hb_23).b n24).o hd25 ho25).b hb_26).b n27).o hd28 ho28).b hb_29).b n30).o hd31 ho31).b hb_32).b n33).o hd34 ho34).b hb_35).b hb_36
  replace pm1 := pm1.k k22_36
  replace pm2 := pm2.k k22_36
  replace pm3 := pm3.k k22_36
  replace pm4 := pm4.k k22_36
  have k28_36 := (((((((kb hb_29).b n30).o hd31 ho31).b hb_32).b n33).o hd34 ho34).b hb_35).b hb_36
  replace hq1 := hq1.k k28_36
  replace hq2 := hq2.k k28_36
  replace hq3 := hq3.k k28_36
  replace hq4 := hq4.k k28_36
  go_big_op
  go_fit (gfQuo_ok (CN.mk' (pm1.zn Lpm1.out) (pm2.zn Lpm2.out) (pm3.zn Lpm3.out) (pm4.zn Lpm4.out)) (CN.mk' hq1 hq2 hq3 hq4) (by omega) (by omega) (by omega) (by omega) (by omega) (by omega) (by omega) (by omega) (HD.out _) (HD.out _) HB.out.1 HB.out.2 H0.out)
  rintro e w_37 ⟨_, rfl, ⟨n_tq1, o_tq1, k_tq1, c_tq1, n_tq2, o_tq2, k_tq2, c_tq2, n_tq3, o_tq3, k_tq3, c_tq3, n_tq4, o_tq4, k_tq4, c_tq4, rfl, tq1, tq2, tq3, tq4⟩, hb_37⟩
  replace hs := hs.bl hb_37
  simp only [rv_nd] at tq1 tq2 tq3 tq4
  rw [fld4 HN.out] at tq1 tq2
  rw [fld5 HN.out] at tq3 tq4
  refine hK _ _ rfl trivial ?_
  clear hK K
  refine sq ?_
  refine .mv ?_
  refine sq ?_
  refine .r0 ?_
  refine sq ?_
  refine .r0 ?_
  refine sq ?_
  refine .al hs ?_; clear hs; intro p_b13 w_38 hs n38 kb_b13
  clear nx1 nx2 nw1 nw2 pm1 pm2 pm3 pm4
  refine sq ?_
  intro K hK
  have xs := hs.g0
  have d0 : w_38.cell? ⟨p_b13, 0, none⟩ = some (.bool false) := hs.g0.cell 0 rfl
  have d1 : w_38.cell? ⟨p_b13, 1, none⟩ = some (.slice none 0 0) := hs.g0.cell 1 rfl
  have d2 : w_38.cell? ⟨p_b13, 2, none⟩ = some (.bool false) := hs.g0.cell 2 rfl
  have d3 : w_38.cell? ⟨p_b13, 3, none⟩ = some (.slice none 0 0) := hs.g0.cell 3 rfl
  have d4 : w_38.cell? ⟨p_b13, 4, none⟩ = some (.bool false) := hs.g0.cell 4 rfl
  have d5 : w_38.cell? ⟨p_b13, 5, none⟩ = some (.slice none 0 0) := hs.g0.cell 5 rfl
  have d6 : w_38.cell? ⟨p_b13, 6, none⟩ = some (.bool false) := hs.g0.cell 6 rfl
  have d7 : w_38.cell? ⟨p_b13, 7, none⟩ = some (.slice none 0 0) := hs.g0.cell 7 rfl
  have f0 := xs.free 0; have f1 := xs.free 1; have f2 := xs.free 2; have f3 := xs.free 3; have f4 := xs.free 4; have f5 := xs.free 5; have f6 := xs.free 6; have f7 := xs.free 7
  go_big_op
  have hd39 := xs.nod rfl rfl
  obtain ⟨w_39_0, eW, xs_0, ho_0⟩ : ∃ w', ((((w_38.setCell ⟨p_b13, 0, none⟩ (.bool n_tq1)).setCell ⟨p_b13, 1, none⟩ (.slice o_tq1 k_tq1 c_tq1)).setCell ⟨p_b13, 2, none⟩ (.bool n_tq2)).setCell ⟨p_b13, 3, none⟩ (.slice o_tq2 k_tq2 c_tq2)) = w' ∧ Bs w' p_b13 #[.bool n_tq1, .slice o_tq1 k_tq1 c_tq1, .bool n_tq2, .slice o_tq2 k_tq2 c_tq2, .bool false, .slice none 0 0, .bool false, .slice none 0 0] 28 ∧ Only p_b13 w_38 w' := xs.setN [(0, .bool n_tq1), (1, .slice o_tq1 k_tq1 c_tq1), (2, .bool n_tq2), (3, .slice o_tq2 k_tq2 c_tq2)]
  rw [eW]; clear eW
  obtain ⟨w_39, eW, xs', ho_4⟩ : ∃ w', ((((w_39_0.setCell ⟨p_b13, 4, none⟩ (.bool n_tq3)).setCell ⟨p_b13, 5, none⟩ (.slice o_tq3 k_tq3 c_tq3)).setCell ⟨p_b13, 6, none⟩ (.bool n_tq4)).setCell ⟨p_b13, 7, none⟩ (.slice o_tq4 k_tq4 c_tq4)) = w' ∧ Bs w' p_b13 #[.bool n_tq1, .slice o_tq1 k_tq1 c_tq1, .bool n_tq2, .slice o_tq2 k_tq2 c_tq2, .bool n_tq3, .slice o_tq3 k_tq3 c_tq3, .bool n_tq4, .slice o_tq4 k_tq4 c_tq4] 28 ∧ Only p_b13 w_39_0 w' := xs_0.setN [(4, .bool n_tq3), (5, .slice o_tq3 k_tq3 c_tq3), (6, .bool n_tq4), (7, .slice o_tq4 k_tq4 c_tq4)]
  rw [eW]; clear eW xs_0
  have ho39 := (ho_0.trans ho_4)
  clear ho_0 ho_4 d0 d1 d2 d3 d4 d5 d6 d7 f0 f1 f2 f3 f4 f5 f6 f7 xs
  replace hs := hs.u0 kb_b13 xs' ho39; clear xs'
  refine hK _ _ rfl trivial ?_; clear hK K
  refine sq ?_
  refine .mv ?_
  apply wpSq_end
  refine hK17 _ _ ?_
  refine wp_seq_k ?_
  intro K18 hK18
  refine rg [0, 1, 2, 3, 4, 5, 6, 7] ?_
  refine sq ?_
  intro K hK
  have d0 : w_39.cell? ⟨p_b2, 0, none⟩ = some (.bool n_1a) := hs.g11.cell 0 rfl
  have d1 : w_39.cell? ⟨p_b2, 1, none⟩ = some (.slice o_1a k_1a c_1a) := hs.g11.cell 1 rfl
  have d2 : w_39.cell? ⟨p_b2, 2, none⟩ = some (.bool n_1b) := hs.g11.cell 2 rfl
  have d3 : w_39.cell? ⟨p_b2, 3, none⟩ = some (.slice o_1b k_1b c_1b) := hs.g11.cell 3 rfl
  have d4 : w_39.cell? ⟨p_b2, 4, none⟩ = some (.bool n_1c) := hs.g11.cell 4 rfl
  have d5 : w_39.cell? ⟨p_b2, 5, none⟩ = some (.slice o_1c k_1c c_1c) := hs.g11.cell 5 rfl
  have d6 : w_39.cell? ⟨p_b2, 6, none⟩ = some (.bool n_1d) := hs.g11.cell 6 rfl
  have d7 : w_39.cell? ⟨p_b2, 7, none⟩ = some (.slice o_1d k_1d c_1d) := hs.g11.cell 7 rfl
  go_big_op; refine hK _ _ rfl trivial ?_; clear hK K d0 d1 d2 d3 d4 d5 d6 d7
  refine sq ?_
  intro K hK
  have k36_39 := ((kb hb_37).b n38).o hd39 ho39
  replace hq1 := hq1.k k36_39
  replace hq2 := hq2.k k36_39
  replace hq3 := hq3.k k36_39
  replace hq4 := hq4.k k36_39
  go_big_op
  go_fit (gfNorm_ok (CN.mk' hq1 hq2 hq3 hq4) (by omega) (by omega) (by omega) (by omega) HB.out.1 HB.out.2)
  rintro e w_40 ⟨_, rfl, ⟨n_nna, o_nna, k_nna, c_nna, n_nnb, o_nnb, k_nnb, c_nnb, rfl, nn1, nn2⟩, hb_40⟩
  replace hs := hs.bl hb_40
  have Lnn1 := hide (nn1.lenOf ((r7n_len (HB.out.1) (HB.out.2) (hq1.len) (hq2.len) (hq3.len) (hq4.len)).1))
  have Lnn2 := hide (nn2.lenOf ((r7n_len (HB.out.1) (HB.out.2) (hq1.len) (hq2.len) (hq3.len) (hq4.len)).2))
  refine hK _ _ rfl trivial ?_
  clear hK K
  refine sq ?_
  refine .mv ?_
  refine sq ?_
  refine .r0 ?_
  refine sq ?_
  refine .r0 ?_
  refine sq ?_
  refine .al hs ?_; clear hs; intro p_b14 w_41 hs n41 kb_b14
  refine sq ?_
  refine .s4 hs.g0 (fun _ => hs.u0 kb_b14) ?_; clear hs; intro w_42 hs hd42 ho42
  refine sq ?_
  refine .mv ?_
  apply wpSq_end
  refine hK18 _ _ ?_
  refine wp_seq_k ?_
  intro K19 hK19
  refine wp_seq_k ?_
  intro K20 hK20
  refine rg [0, 1] ?_
  refine sq ?_
  refine .mv ?_
  refine sq ?_
  refine .r0 ?_
  apply wpSq_end
  refine hK20 _ _ ?_
  refine cf ?_
  refine wp_skip ?_
  refine hK19 _ _ ?_
  refine wp_seq_k ?_
  intro K21 hK21
  refine wp_region_f4 [(0, false), (1, true), (2, true), (3, false), (4, false), (5, false), (6, false), (7, false)] [] [] (fun _ => default) [0, 99, 99, 99, 99, 99, 99, 99] [] (.c hs.g0 .n) fn fun w_43 n43 => ?_
  replace hs := hs.bl n43
  refine f4 ?_
  refine fl fun w_44 n44 => ?_
  replace hs := hs.bl n44
  intro K hK
  go_big_op
  go_fit (rfI_any 0 _ (by decide) (by decide))
  rintro e w_45 ⟨_, rfl, ⟨n_z0a, o_z0a, k_z0a, c_z0a, n_z0b, o_z0b, k_z0b, c_z0b, rfl, z01, z02⟩, hb_45⟩
  replace hs := hs.bl hb_45
  have Lz01 := hide (z01.lenOf (zlen_0))
  have Lz02 := hide (z02.lenOf (zlen_i 1 (by decide) (by decide)))
  refine hK _ _ rfl ⟨hb_45, (And.intro hs.g0 trivial)⟩ ?_
  clear hK K
  refine fl fun w_46 n46 => ?_
  replace hs := hs.bl n46
  intro K hK
  have k40_46 := (((((kb n41).o hd42 ho42).b n43).b n44).b hb_45).b n46
  replace nn1 := nn1.k k40_46
  replace nn2 := nn2.k k40_46
  have k45_46 := kb n46
  replace z01 := z01.k k45_46
  replace z02 := z02.k k45_46
  go_big_op
  go_fit (fCmp_any (.mk' (nn1.zn Lnn1.out) (nn2.zn Lnn2.out)) (.mk' (z01.zn Lz01.out) (z02.zn Lz02.out)) (by omega) (by omega) (by omega) (by omega) (HD.out _) (by decide))
  rintro e w_47 ⟨rfl, hb_47⟩
  replace hs := hs.bl hb_47
  rw [HQ.out]
  refine hK _ _ rfl ⟨hb_47, (And.intro hs.g0 trivial)⟩ ?_
  clear hK K
  refine fmv ?_
  refine f0 ?_
  refine f0 ?_
  refine fmv ?_
  refine fmv ?_
  refine e0 hs ?_; clear hs; intro w_48 hs n48
  clear hq1 hq2 hq3 hq4 z01 z02
  apply wpTail_end
  refine hK21 _ _ ?_
  refine wp_seq_k ?_
  intro K22 hK22
  refine wp_seq_k ?_
  intro K23 hK23
  refine rg [0, 1] ?_
  refine sq ?_
  refine .mv ?_
  refine sq ?_
  refine .r0 ?_
  apply wpSq_end
  refine hK23 _ _ ?_
  refine cf ?_
  refine wp_skip ?_
  refine hK22 _ _ ?_
  refine wp_seq_k ?_
  intro K24 hK24
  refine rg [0, 1, 2, 3, 4, 5, 6, 7] ?_
  refine sq ?_
  refine .mv ?_
  refine sq ?_
  refine .r0 ?_
  refine sq ?_
  refine .mv ?_
  refine sq ?_
  intro K hK
  have d0 : w_48.cell? ⟨p_b13, 0, none⟩ = some (.bool n_tq1) := hs.g1.cell 0 rfl
  have d1 : w_48.cell? ⟨p_b13, 1, none⟩ = some (.slice o_tq1 k_tq1 c_tq1) := hs.g1.cell 1 rfl
  have d2 : w_48.cell? ⟨p_b13, 2, none⟩ = some (.bool n_tq2) := hs.g1.cell 2 rfl
  have d3 : w_48.cell? ⟨p_b13, 3, none⟩ = some (.slice o_tq2 k_tq2 c_tq2) := hs.g1.cell 3 rfl
  have d4 : w_48.cell? ⟨p_b13, 4, none⟩ = some (.bool n_tq3) := hs.g1.cell 4 rfl
  have d5 : w_48.cell? ⟨p_b13, 5, none⟩ = some (.slice o_tq3 k_tq3 c_tq3) := hs.g1.cell 5 rfl
  have d6 : w_48.cell? ⟨p_b13, 6, none⟩ = some (.bool n_tq4) := hs.g1.cell 6 rfl
  have d7 : w_48.cell? ⟨p_b13, 7, none⟩ = some (.slice o_tq4 k_tq4 c_tq4) := hs.g1.cell 7 rfl
  go_big_op; refine hK _ _ rfl trivial ?_; clear hK K d0 d1 d2 d3 d4 d5 d6 d7
  refine sq ?_
  intro K hK
  have d0 : w_48.cell? ⟨p_b1, 0, none⟩ = some (.bool n_0a) := hs.g13.cell 0 rfl
  have d1 : w_48.cell? ⟨p_b1, 1, none⟩ = some (.slice o_0a k_0a c_0a) := hs.g13.cell 1 rfl
  have d2 : w_48.cell? ⟨p_b1, 2, none⟩ = some (.bool n_0b) := hs.g13.cell 2 rfl
  have d3 : w_48.cell? ⟨p_b1, 3, none⟩ = some (.slice o_0b k_0b c_0b) := hs.g13.cell 3 rfl
  have d4 : w_48.cell? ⟨p_b1, 4, none⟩ = some (.bool n_0c) := hs.g13.cell 4 rfl
  have d5 : w_48.cell? ⟨p_b1, 5, none⟩ = some (.slice o_0c k_0c c_0c) := hs.g13.cell 5 rfl
  have d6 : w_48.cell? ⟨p_b1, 6, none⟩ = some (.bool n_0d) := hs.g13.cell 6 rfl
  have d7 : w_48.cell? ⟨p_b1, 7, none⟩ = some (.slice o_0d k_0d c_0d) := hs.g13.cell 7 rfl
  go_big_op; refine hK _ _ rfl trivial ?_; clear hK K d0 d1 d2 d3 d4 d5 d6 d7
  refine sq ?_
  intro K hK
  have k37_48 := ((((((((((kb n38).o hd39 ho39).b hb_40).b n41).o hd42 ho42).b n43).b n44).b hb_45).b n46).b hb_47).b n48
  replace tq1 := tq1.k k37_48
  replace tq2 := tq2.k k37_48
  replace tq3 := tq3.k k37_48
  replace tq4 := tq4.k k37_48
  have k25_48 := ((((((((((((((((((((((kb hb_26).b n27).o hd28 ho28).b hb_29).b n30).o hd31 ho31).b hb_32).b n33).o hd34 ho34).b hb_35).b hb_36).b hb_37).b n38).o hd39 ho39).b hb_40).b n41).o hd42 ho42).b n43).b n44).b hb_45).b n46).b hb_47).b n48
  replace ha1 := ha1.k k25_48
  replace ha2 := ha2.k k25_48
  replace ha3 := ha3.k k25_48
  replace ha4 := ha4.k k25_48
  go_big_op
  go_fit (is7_raw (CC.mk' tq1 tq2 tq3 tq4) (CN.mk' ha1 ha2 ha3 ha4) (by omega) (by omega) (by omega) (by omega) HA.out.1 HA.out.2)
  rintro e w_49 ⟨rfl, hb_49⟩
  replace hs := hs.bl hb_49
  refine hK _ _ rfl trivial ?_
  clear hK K
  refine sq ?_
  refine .r0 ?_
  refine sq ?_
  refine .mv ?_
  apply wpSq_end
  refine hK24 _ _ ?_
  refine wp_ret ?_
  try dsimp only [Exit.then, Exit.inBlock]
  refine bodyPost_ret (v := (.bool true)) (by simp [results, Tryz.results7, go_sem]) rfl ?_
  have hb := hs.b
  exact ⟨rfl, hb⟩
end
theorem walk_GfracField (w : World) (n1 : Bool) (s1 : Value) (xs : List Nat) (h1 : Rd w s1 xs) (l1 : xs.length ≤ 1048576) (n2 : Bool) (s2 : Value) (ys : List Nat) (h2 : Rd w s2 ys) (l2 : ys.length ≤ 1048576) (n3 : Bool) (s3 : Value) (us : List Nat) (h3 : Rd w s3 us) (l3 : us.length ≤ 1048576) (n4 : Bool) (s4 : Value) (vs : List Nat) (h4 : Rd w s4 vs) (l4 : vs.length ≤ 1048576)
    (n5 : Bool) (s5 : Value) (ps : List Nat) (h5 : Rd w s5 ps) (l5 : ps.length ≤ 1048576) (n6 : Bool) (s6 : Value) (qs : List Nat) (h6 : Rd w s6 qs) (l6 : qs.length ≤ 1048576) (n7 : Bool) (s7 : Value) (ss : List Nat) (h7 : Rd w s7 ss) (l7 : ss.length ≤ 1048576) (n8 : Bool) (s8 : Value) (ts : List Nat) (h8 : Rd w s8 ts) (l8 : ts.length ≤ 1048576)
    (m1 : Bool) (t1 : Value) (es : List Nat) (g1 : Rd w t1 es) (k1 : es.length ≤ 1048576) (m2 : Bool) (t2 : Value) (bs : List Nat) (g2 : Rd w t2 bs) (k2 : bs.length ≤ 1048576) (m3 : Bool) (t3 : Value) (cs : List Nat) (g3 : Rd w t3 cs) (k3 : cs.length ≤ 1048576) (m4 : Bool) (t4 : Value) (ds : List Nat) (g4 : Rd w t4 ds) (k4 : ds.length ≤ 1048576) (htab : Lib.TabIs Tryz.prog w p10 .u64 Lib.pow10Tab) :
    Calls Tryz.prog 7 #[.agg #[.bool n1, s1, .bool n2, s2, .bool n3, s3, .bool n4, s4], .agg #[.bool n5, s5, .bool n6, s6, .bool n7, s7, .bool n8, s8], .agg #[.bool m1, t1, .bool m2, t2, .bool m3, t3, .bool m4, t4]] w fun e w' => e = .returned (.bool true) ∧ Below w.heap.size w w' := by
  have ha := CN.of_rd n1 n2 n3 n4 h1 l1 h2 l2 h3 l3 h4 l4
  have hq := CN.of_rd n5 n6 n7 n8 h5 l5 h6 l6 h7 l7 h8 l8
  have hc := CN.of_rd m1 m2 m3 m4 g1 k1 g2 k2 g3 k3 g4 k4
  have r := Nat.le_refl 1048576
  by_cases hy : zv n2 ys = 0
  · exact field7_bad1 ha hq hc r r r r (.inl hy) htab
  by_cases hv : zv n4 vs = 0
  · exact field7_bad1 ha hq hc r r r r (.inr hv) htab
  by_cases hq0 : zv n6 qs = 0
  · exact field7_bad2 ha hq hc r r r r r r r r hy hv (.inl hq0) htab
  by_cases ht : zv n8 ts = 0
  · exact field7_bad2 ha hq hc r r r r r r r r hy hv (.inr ht) htab
  by_cases hb : zv m2 bs = 0
  · exact field7_bad3 ha hq hc r r r r r r r r r r r r hy hv hq0 ht (.inl hb) htab
  by_cases hd : zv m4 ds = 0
  · exact field7_bad3 ha hq hc r r r r r r r r r r r r hy hv hq0 ht (.inr hd) htab
  by_cases h0 : zv n5 ps = 0 ∧ zv n7 ss = 0
  · exact field7_zero ha hq hc r r r r r r r r r r r r hy hv hq0 ht hb hd h0 htab
  · exact field7_some ha hq hc r r r r r r r r r r r r hy hv hq0 ht hb hd h0 htab
end Go.Proofs.YthlhekkcjficdaaGreatDoor

