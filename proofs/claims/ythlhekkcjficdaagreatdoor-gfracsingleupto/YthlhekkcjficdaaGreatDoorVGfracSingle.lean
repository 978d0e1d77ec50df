/- GfracSingle: the law's walk. -/
import Derived.Test.YthlhekkcjficdaaGreatDoorG3ToX12
namespace Go.Proofs.YthlhekkcjficdaaGreatDoor
open Go Go.RowKit Dig
set_option maxHeartbeats 8000000
set_option maxRecDepth 20000
set_option linter.unusedVariables false
section
variable {w : World} {va vb : Value} {x y u v p q : Int} {l m k n l2 m2 : Nat}
def FinNo (b : Nat) : Prop := (∀ w, Calls Tryz.prog 69 #[.float .f64 b] w fun e w' => e = .returned (.bool false) ∧ Below w.heap.size w w') ∧ ∀ w, Calls Tryz.prog 38 #[.float .f64 b] w fun e w' => e = .returned (.bool false) ∧ Below w.heap.size w w'
def FinYes (b : Nat) (r : Rat) : Prop := ((dig r.num.natAbs).length ≤ 50 ∧ (dig (r.den : Int).natAbs).length ≤ 50) ∧ (∀ w, Calls Tryz.prog 70 #[.float .f64 b] w fun e w' => ∃ s, e = .returned (.tuple #[s, .int .i64 0]) ∧ PC w' s r.num r.den ∧ Below w.heap.size w w') ∧
 (∀ w, Calls Tryz.prog 69 #[.float .f64 b] w fun e w' => e = .returned (.bool true) ∧ Below w.heap.size w w') ∧
 (∀ w, Calls Tryz.prog 38 #[.float .f64 b] w fun e w' => e = .returned (.bool true) ∧ Below w.heap.size w w') ∧
 ∀ w, Calls Tryz.prog 39 #[.float .f64 b] w fun e w' => ∃ s, e = .returned s ∧ PC w' s r.num r.den ∧ Below w.heap.size w w'
theorem fin_or (b : Nat) (hb : b < 18446744073709551616) : FinNo b ∨ ∃ r, FinYes b r := by
 rcases of_both2 b hb with h | ⟨p, q, hl, h1, h2, h3, h4, h5, h6⟩
 · exact .inl h
 · obtain ⟨r, rfl, rfl⟩ : ∃ r : Rat, r.num = p ∧ (r.den : Int) = q := ⟨rv p q, (low_is hl).1.symm, (low_is hl).2.symm⟩
   exact .inr ⟨r, ⟨h1, h2⟩, h3, h4, h5, h6⟩
theorem single_bad_a {b c : Nat} (ha : CN w va x l y m u k v n) (hq : PN w vb p l2 q m2) (hl : l ≤ 1048576) (hm : m ≤ 1048576) (hk : k ≤ 1048576) (hn : n ≤ 1048576) (hl2 : l2 ≤ 1048576) (hm2 : m2 ≤ 1048576) (h : y = 0 ∨ v = 0) (hf : FinNo b) (hb1 : b < 18446744073709551616) (hc1 : c < 18446744073709551616) (htab : Lib.TabIs Tryz.prog w p10 .u64 Lib.pow10Tab) :
   Calls Tryz.prog 5 #[va, vb, .int .u64 (b : Int), .int .u64 (c : Int)] w fun e w' => e = .returned (.bool true) ∧ Below w.heap.size w w' := by
 have htabs := Lib.tabBelow_of_tabIs htab
 obtain ⟨f1, f2⟩ := hf
 have F1 := hide f1
 have F2 := hide f2
 clear f1 f2
 have H := hide h
 clear h
 have H1 := hide (show (1 : Int) ≠ 0 by decide)
 obtain ⟨n_0a, o_0a, k_0a, c_0a, n_0b, o_0b, k_0b, c_0b, n_0c, o_0c, k_0c, c_0c, n_0d, o_0d, k_0d, c_0d, rfl, ha1, ha2, ha3, ha4⟩ := ha
 obtain ⟨n_1a, o_1a, k_1a, c_1a, n_1b, o_1b, k_1b, c_1b, rfl, hq1, hq2⟩ := hq
 go_enter Tryz.func5, Tryz.ntmps5
 have hs := St.nil w
 refine wp_seq_k fun K1 hK1 => rg [0, 1, 2] ?_
 refine sq ?_
 refine .al hs ?_; clear hs; intro p_b1 w_1 hs n1 kb_b1
 refine sq ?_
 refine .al hs ?_; clear hs; intro p_b2 w_2 hs n2 kb_b2
 refine sm ?_
 apply wpSq_end
 refine hK1 _ _ ?_
 refine wp_seq_k fun K2 hK2 => rg [0, 1, 2, 3, 4, 5, 6, 7] ?_
 refine sq ?_
 intro K hK
 have d0 : w_2.cell? ⟨p_b1, 0, none⟩ = some (.bool n_0a) := hs.g1.cell 0 rfl
 have d1 : w_2.cell? ⟨p_b1, 1, none⟩ = some (.slice o_0a k_0a c_0a) := hs.g1.cell 1 rfl
 have d2 : w_2.cell? ⟨p_b1, 2, none⟩ = some (.bool n_0b) := hs.g1.cell 2 rfl
 have d3 : w_2.cell? ⟨p_b1, 3, none⟩ = some (.slice o_0b k_0b c_0b) := hs.g1.cell 3 rfl
 have d4 : w_2.cell? ⟨p_b1, 4, none⟩ = some (.bool n_0c) := hs.g1.cell 4 rfl
 have d5 : w_2.cell? ⟨p_b1, 5, none⟩ = some (.slice o_0c k_0c c_0c) := hs.g1.cell 5 rfl
 have d6 : w_2.cell? ⟨p_b1, 6, none⟩ = some (.bool n_0d) := hs.g1.cell 6 rfl
 have d7 : w_2.cell? ⟨p_b1, 7, none⟩ = some (.slice o_0d k_0d c_0d) := hs.g1.cell 7 rfl
 go_big_op; refine hK _ _ rfl trivial ?_; clear hK K d0 d1 d2 d3 d4 d5 d6 d7
 refine sq ?_
 intro K hK
 have k0_2 := (kb n1).b n2
 replace ha1 := ha1.k k0_2
 replace ha2 := ha2.k k0_2
 replace ha3 := ha3.k k0_2
 replace ha4 := ha4.k k0_2
 go_big_op
 go_fit (gfConj_bad (.mk' ha1 ha2 ha3 ha4) (by omega) (by omega) (by omega) (by omega) H.out)
 rintro e w_3 ⟨rfl, hb_3⟩
 replace hs := hs.bl hb_3
 refine hK _ _ rfl trivial ?_
 clear hK K
 refine sm ?_
 refine sr ?_
 refine sr ?_
 refine sq ?_
 refine .al hs ?_; clear hs; intro p_b3 w_4 hs n4 kb_b3
 refine sq ?_
 intro K hK
 have xs := hs.g0
 have d0 : w_4.cell? ⟨p_b3, 0, none⟩ = some (.bool false) := hs.g0.cell 0 rfl
 have d1 : w_4.cell? ⟨p_b3, 1, none⟩ = some (.slice none 0 0) := hs.g0.cell 1 rfl
 have d2 : w_4.cell? ⟨p_b3, 2, none⟩ = some (.bool false) := hs.g0.cell 2 rfl
 have d3 : w_4.cell? ⟨p_b3, 3, none⟩ = some (.slice none 0 0) := hs.g0.cell 3 rfl
 have d4 : w_4.cell? ⟨p_b3, 4, none⟩ = some (.bool false) := hs.g0.cell 4 rfl
 have d5 : w_4.cell? ⟨p_b3, 5, none⟩ = some (.slice none 0 0) := hs.g0.cell 5 rfl
 have d6 : w_4.cell? ⟨p_b3, 6, none⟩ = some (.bool false) := hs.g0.cell 6 rfl
 have d7 : w_4.cell? ⟨p_b3, 7, none⟩ = some (.slice none 0 0) := hs.g0.cell 7 rfl
 have f0 := xs.free 0; have f1 := xs.free 1; have f2 := xs.free 2; have f3 := xs.free 3; have f4 := xs.free 4; have f5 := xs.free 5; have f6 := xs.free 6; have f7 := xs.free 7
 go_big_op
 have hd5 := xs.nod rfl rfl
 obtain ⟨w_5_0, eW, xs_0, ho_0⟩ : ∃ w', ((((w_4.setCell ⟨p_b3, 0, none⟩ (.bool false)).setCell ⟨p_b3, 1, none⟩ (.slice none 0 0)).setCell ⟨p_b3, 2, none⟩ (.bool false)).setCell ⟨p_b3, 3, none⟩ (.slice none 0 0)) = w' ∧ Bs w' p_b3 #[.bool false, .slice none 0 0, .bool false, .slice none 0 0, .bool false, .slice none 0 0, .bool false, .slice none 0 0] 28 ∧ Only p_b3 w_4 w' := xs.setN [(0, .bool false), (1, .slice none 0 0), (2, .bool false), (3, .slice none 0 0)]
 rw [eW]; clear eW
 obtain ⟨w_5, eW, xs', ho_4⟩ : ∃ w', ((((w_5_0.setCell ⟨p_b3, 4, none⟩ (.bool false)).setCell ⟨p_b3, 5, none⟩ (.slice none 0 0)).setCell ⟨p_b3, 6, none⟩ (.bool false)).setCell ⟨p_b3, 7, none⟩ (.slice none 0 0)) = w' ∧ Bs w' p_b3 #[.bool false, .slice none 0 0, .bool false, .slice none 0 0, .bool false, .slice none 0 0, .bool false, .slice none 0 0] 28 ∧ Only p_b3 w_5_0 w' := xs_0.setN [(4, .bool false), (5, .slice none 0 0), (6, .bool false), (7, .slice none 0 0)]
 rw [eW]; clear eW xs_0
 have ho5 := (ho_0.trans ho_4)
 clear ho_0 ho_4 d0 d1 d2 d3 d4 d5 d6 d7 f0 f1 f2 f3 f4 f5 f6 f7 xs
 replace hs := hs.u0 kb_b3 xs' ho5; clear xs'
 refine hK _ _ rfl trivial ?_; clear hK K
 refine sm ?_
 apply wpSq_end
 refine hK2 _ _ ?_
 refine wp_seq_k fun K3 hK3 => rg [0, 1, 2, 3, 4, 5, 6, 7] ?_
 refine sq ?_
 intro K hK
 have d0 : w_5.cell? ⟨p_b1, 0, none⟩ = some (.bool n_0a) := hs.g2.cell 0 rfl
 have d1 : w_5.cell? ⟨p_b1, 1, none⟩ = some (.slice o_0a k_0a c_0a) := hs.g2.cell 1 rfl
 have d2 : w_5.cell? ⟨p_b1, 2, none⟩ = some (.bool n_0b) := hs.g2.cell 2 rfl
 have d3 : w_5.cell? ⟨p_b1, 3, none⟩ = some (.slice o_0b k_0b c_0b) := hs.g2.cell 3 rfl
 have d4 : w_5.cell? ⟨p_b1, 4, none⟩ = some (.bool n_0c) := hs.g2.cell 4 rfl
 have d5 : w_5.cell? ⟨p_b1, 5, none⟩ = some (.slice o_0c k_0c c_0c) := hs.g2.cell 5 rfl
 have d6 : w_5.cell? ⟨p_b1, 6, none⟩ = some (.bool n_0d) := hs.g2.cell 6 rfl
 have d7 : w_5.cell? ⟨p_b1, 7, none⟩ = some (.slice o_0d k_0d c_0d) := hs.g2.cell 7 rfl
 go_big_op; refine hK _ _ rfl trivial ?_; clear hK K d0 d1 d2 d3 d4 d5 d6 d7
 refine sq ?_
 intro K hK
 have k2_5 := ((kb hb_3).b n4).o hd5 ho5
 replace ha1 := ha1.k k2_5
 replace ha2 := ha2.k k2_5
 replace ha3 := ha3.k k2_5
 replace ha4 := ha4.k k2_5
 go_big_op
 go_fit (gfNorm_bad (.mk' ha1 ha2 ha3 ha4) (by omega) (by omega) (by omega) (by omega) H.out)
 rintro e w_6 ⟨rfl, hb_6⟩
 replace hs := hs.bl hb_6
 refine hK _ _ rfl trivial ?_
 clear hK K
 refine sm ?_
 refine sr ?_
 refine sr ?_
 refine sq ?_
 refine .al hs ?_; clear hs; intro p_b4 w_7 hs n7 kb_b4
 refine sq ?_
 refine .s4 hs.g0 (fun _ => hs.u0 kb_b4) ?_; clear hs; intro w_8 hs hd8 ho8
 refine sm ?_
 apply wpSq_end
 refine hK3 _ _ ?_
 refine wp_seq_k fun K4 hK4 => rg [0, 1, 2, 3, 4, 5, 6, 7] ?_
 refine sq ?_
 intro K hK
 have d0 : w_8.cell? ⟨p_b1, 0, none⟩ = some (.bool n_0a) := hs.g3.cell 0 rfl
 have d1 : w_8.cell? ⟨p_b1, 1, none⟩ = some (.slice o_0a k_0a c_0a) := hs.g3.cell 1 rfl
 have d2 : w_8.cell? ⟨p_b1, 2, none⟩ = some (.bool n_0b) := hs.g3.cell 2 rfl
 have d3 : w_8.cell? ⟨p_b1, 3, none⟩ = some (.slice o_0b k_0b c_0b) := hs.g3.cell 3 rfl
 have d4 : w_8.cell? ⟨p_b1, 4, none⟩ = some (.bool n_0c) := hs.g3.cell 4 rfl
 have d5 : w_8.cell? ⟨p_b1, 5, none⟩ = some (.slice o_0c k_0c c_0c) := hs.g3.cell 5 rfl
 have d6 : w_8.cell? ⟨p_b1, 6, none⟩ = some (.bool n_0d) := hs.g3.cell 6 rfl
 have d7 : w_8.cell? ⟨p_b1, 7, none⟩ = some (.slice o_0d k_0d c_0d) := hs.g3.cell 7 rfl
 go_big_op; refine hK _ _ rfl trivial ?_; clear hK K d0 d1 d2 d3 d4 d5 d6 d7
 refine sq ?_
 intro K hK
 have k5_8 := ((kb hb_6).b n7).o hd8 ho8
 replace ha1 := ha1.k k5_8
 replace ha2 := ha2.k k5_8
 replace ha3 := ha3.k k5_8
 replace ha4 := ha4.k k5_8
 go_big_op
 go_fit (gfRound_bad (.mk' ha1 ha2 ha3 ha4) (by omega) (by omega) (by omega) (by omega) H.out)
 rintro e w_9 ⟨rfl, hb_9⟩
 replace hs := hs.bl hb_9
 refine hK _ _ rfl trivial ?_
 clear hK K
 refine sm ?_
 refine sr ?_
 refine sr ?_
 refine sq ?_
 refine .al hs ?_; clear hs; intro p_b5 w_10 hs n10 kb_b5
 refine sq ?_
 refine .s4 hs.g0 (fun _ => hs.u0 kb_b5) ?_; clear hs; intro w_11 hs hd11 ho11
 refine sm ?_
 apply wpSq_end
 refine hK4 _ _ ?_
 refine wp_seq_k fun K5 hK5 => rg [0, 1, 2, 3, 4, 5] ?_
 refine sm ?_
 refine sq ?_
 intro K hK
 go_big_op; (first | rw [ext_from] | rw [ext_fromI]); simp only [Oper.upon, Act.put, List.setIfInBounds_toArray, List.set_cons_succ, List.set_cons_zero]; refine hK _ _ rfl trivial ?_; clear hK K
 refine sm ?_
 refine sq ?_
 intro K hK
 go_big_op; (first | rw [ext_from] | rw [ext_fromI]); simp only [Oper.upon, Act.put, List.setIfInBounds_toArray, List.set_cons_succ, List.set_cons_zero]; refine hK _ _ rfl trivial ?_; clear hK K
 refine sm ?_
 refine sm ?_
 apply wpSq_end
 refine hK5 _ _ ?_
 refine wp_seq_k fun K6 hK6 => rg [0, 1, 2, 3, 4, 5, 6, 7, 8, 9] ?_
 refine sm ?_
 refine sm ?_
 refine sr ?_
 refine sq ?_
 intro K hK
 go_big_op
 go_fit (gfOfFloat_no1 F1.out)
 rintro e w_12 ⟨rfl, hb_12⟩
 replace hs := hs.bl hb_12
 refine hK _ _ rfl trivial ?_
 clear hK K
 refine sm ?_
 refine sr ?_
 refine sr ?_
 refine sq ?_
 refine .al hs ?_; clear hs; intro p_b6 w_13 hs n13 kb_b6
 refine sq ?_
 intro K hK
 have xs := hs.g0
 have d0 : w_13.cell? ⟨p_b6, 0, none⟩ = some (.bool false) := hs.g0.cell 0 rfl
 have d1 : w_13.cell? ⟨p_b6, 1, none⟩ = some (.slice none 0 0) := hs.g0.cell 1 rfl
 have d2 : w_13.cell? ⟨p_b6, 2, none⟩ = some (.bool false) := hs.g0.cell 2 rfl
 have d3 : w_13.cell? ⟨p_b6, 3, none⟩ = some (.slice none 0 0) := hs.g0.cell 3 rfl
 have d4 : w_13.cell? ⟨p_b6, 4, none⟩ = some (.bool false) := hs.g0.cell 4 rfl
 have d5 : w_13.cell? ⟨p_b6, 5, none⟩ = some (.slice none 0 0) := hs.g0.cell 5 rfl
 have d6 : w_13.cell? ⟨p_b6, 6, none⟩ = some (.bool false) := hs.g0.cell 6 rfl
 have d7 : w_13.cell? ⟨p_b6, 7, none⟩ = some (.slice none 0 0) := hs.g0.cell 7 rfl
 have f0 := xs.free 0; have f1 := xs.free 1; have f2 := xs.free 2; have f3 := xs.free 3; have f4 := xs.free 4; have f5 := xs.free 5; have f6 := xs.free 6; have f7 := xs.free 7
 go_big_op
 have hd14 := xs.nod rfl rfl
 obtain ⟨w_14_0, eW, xs_0, ho_0⟩ : ∃ w', ((((w_13.setCell ⟨p_b6, 0, none⟩ (.bool false)).setCell ⟨p_b6, 1, none⟩ (.slice none 0 0)).setCell ⟨p_b6, 2, none⟩ (.bool false)).setCell ⟨p_b6, 3, none⟩ (.slice none 0 0)) = w' ∧ Bs w' p_b6 #[.bool false, .slice none 0 0, .bool false, .slice none 0 0, .bool false, .slice none 0 0, .bool false, .slice none 0 0] 28 ∧ Only p_b6 w_13 w' := xs.setN [(0, .bool false), (1, .slice none 0 0), (2, .bool false), (3, .slice none 0 0)]
 rw [eW]; clear eW
 obtain ⟨w_14, eW, xs', ho_4⟩ : ∃ w', ((((w_14_0.setCell ⟨p_b6, 4, none⟩ (.bool false)).setCell ⟨p_b6, 5, none⟩ (.slice none 0 0)).setCell ⟨p_b6, 6, none⟩ (.bool false)).setCell ⟨p_b6, 7, none⟩ (.slice none 0 0)) = w' ∧ Bs w' p_b6 #[.bool false, .slice none 0 0, .bool false, .slice none 0 0, .bool false, .slice none 0 0, .bool false, .slice none 0 0] 28 ∧ Only p_b6 w_14_0 w' := xs_0.setN [(4, .bool false), (5, .slice none 0 0), (6, .bool false), (7, .slice none 0 0)]
 rw [eW]; clear eW xs_0
 have ho14 := (ho_0.trans ho_4)
 clear ho_0 ho_4 d0 d1 d2 d3 d4 d5 d6 d7 f0 f1 f2 f3 f4 f5 f6 f7 xs
 replace hs := hs.u0 kb_b6 xs' ho14; clear xs'
 refine hK _ _ rfl trivial ?_; clear hK K
 refine sm ?_
 apply wpSq_end
 refine hK6 _ _ ?_
 refine wp_seq_k ?_
 intro K7 hK7
 refine wp_seq_k ?_
 intro K8 hK8
 refine wp_region_f4 [(0, true), (1, false), (2, false), (3, false), (5, false), (4, true), (6, true), (7, true), (8, false), (9, false)] [] [] (fun _ => default) [99, 99, 99, 0, 99, 0, 99, 99, 99, 99] [] (.c hs.g4 .n) fn fun w_15 n15 => ?_
 replace hs := hs.bl n15
 refine fl fun w_16 n16 => ?_
 replace hs := hs.bl n16
 intro K hK
 have hb := hs.b
 go_big_op
 go_fit (awake7_any _ (htabs _ hb))
 rintro e w_17 ⟨rfl, hb_17⟩
 clear hb
 replace hs := hs.bl hb_17
 refine hK _ _ rfl ⟨hb_17, (And.intro hs.g4 trivial)⟩ ?_
 clear hK K
 refine f0 ?_
 refine fmv ?_
 refine f4 ?_
 refine f4 ?_
 refine fl fun w_18 n18 => ?_
 replace hs := hs.bl n18
 intro K hK
 have k0_18 := (((((((((((((((k0_2.b hb_3).b n4).o hd5 ho5).b hb_6).b n7).o hd8 ho8).b hb_9).b n10).o hd11 ho11).b hb_12).b n13).o hd14 ho14).b n15).b n16).b hb_17).b n18
 replace hq1 := hq1.k k0_18
 replace hq2 := hq2.k k0_18
 go_big_op
 go_fit (gfOf_any (.mk' hq1 hq2) (by omega) (by omega))
 rintro e w_19 ⟨_, rfl, ⟨n_go1, o_go1, k_go1, c_go1, n_go2, o_go2, k_go2, c_go2, n_go3, o_go3, k_go3, c_go3, n_go4, o_go4, k_go4, c_go4, rfl, go1, go2, go3, go4⟩, hb_19⟩
 replace hs := hs.bl hb_19
 refine hK _ _ rfl ⟨hb_19, (And.intro hs.g4 trivial)⟩ ?_
 clear hK K
 refine fl fun w_20 n20 => ?_
 replace hs := hs.bl n20
 intro K hK
 have k18_20 := (kb hb_19).b n20
 replace hq1 := hq1.k k18_20
 replace hq2 := hq2.k k18_20
 go_big_op
 go_fit (r7Of_any (.mk' hq1 hq2) (by omega) (by omega))
 rintro e w_21 ⟨_, rfl, ⟨n_ro1, o_ro1, k_ro1, c_ro1, n_ro2, o_ro2, k_ro2, c_ro2, n_ro3, o_ro3, k_ro3, c_ro3, n_ro4, o_ro4, k_ro4, c_ro4, rfl, ro1, ro2, ro3, ro4⟩, hb_21⟩
 replace hs := hs.bl hb_21
 have Lro1 := hide (ro1.lenOf (hq1.len))
 have Lro2 := hide (ro2.lenOf (zlen_i (1 : Int) (by decide) (by decide)))
 have Lro3 := hide (ro3.lenOf (hq2.len))
 have Lro4 := hide (ro4.lenOf (zlen_i (1 : Int) (by decide) (by decide)))
 refine hK _ _ rfl ⟨hb_21, (And.intro hs.g4 trivial)⟩ ?_
 clear hK K
 refine fl fun w_22 n22 => ?_
 replace hs := hs.bl n22
 intro K hK
 have k19_22 := ((kb n20).b hb_21).b n22
 replace go1 := go1.k k19_22
 replace go2 := go2.k k19_22
 replace go3 := go3.k k19_22
 replace go4 := go4.k k19_22
 have k21_22 := kb n22
 replace ro1 := ro1.k k21_22
 replace ro2 := ro2.k k21_22
 replace ro3 := ro3.k k21_22
 replace ro4 := ro4.k k21_22
 go_big_op
 go_fit (is7_raw (.mk' go1 go2 go3 go4) (.mk' (ro1.zn Lro1.out) (ro2.zn Lro2.out) (ro3.zn Lro3.out) (ro4.zn Lro4.out)) (by omega) (by omega) (by omega) (by omega) H1.out H1.out)
 rintro e w_23 ⟨rfl, hb_23⟩
 replace hs := hs.bl hb_23
 refine hK _ _ rfl ⟨hb_23, (And.intro hs.g4 trivial)⟩ ?_
 clear hK K
 refine f0 ?_
 refine f0 ?_
 refine e0 hs ?_; clear hs; intro w_24 hs n24
 clear go1 go2 go3 go4 ro1 ro2 ro3 ro4
 apply wpTail_end
 refine hK8 _ _ ?_
 refine cf ?_
 refine wp_skip ?_
 refine hK7 _ _ ?_
 refine wp_seq_k ?_
 intro K9 hK9
 refine wp_seq_k fun K10 hK10 => rg [0, 1, 2, 3, 4, 5, 6, 7] ?_
 refine sm ?_
 refine sq ?_
 intro K hK
 go_big_op
 go_fit (F2.out _)
 rintro e w_25 ⟨rfl, hb_25⟩
 replace hs := hs.bl hb_25
 refine hK _ _ rfl trivial ?_
 clear hK K
 refine sr ?_
 refine sm ?_
 refine sk ?_
 refine sk ?_
 refine sk ?_
 refine sr ?_
 apply wpSq_end
 refine hK10 _ _ ?_
 refine ct ?_
 refine wp_seq_k fun K11 hK11 => rg [0, 1, 2, 3, 4] ?_
 refine sq ?_
 intro K hK
 have d0 : w_25.cell? ⟨p_b6, 0, none⟩ = some (.bool false) := hs.g0.cell 0 rfl
 have d1 : w_25.cell? ⟨p_b6, 1, none⟩ = some (.slice none 0 0) := hs.g0.cell 1 rfl
 have d2 : w_25.cell? ⟨p_b6, 2, none⟩ = some (.bool false) := hs.g0.cell 2 rfl
 have d3 : w_25.cell? ⟨p_b6, 3, none⟩ = some (.slice none 0 0) := hs.g0.cell 3 rfl
 have d4 : w_25.cell? ⟨p_b6, 4, none⟩ = some (.bool false) := hs.g0.cell 4 rfl
 have d5 : w_25.cell? ⟨p_b6, 5, none⟩ = some (.slice none 0 0) := hs.g0.cell 5 rfl
 have d6 : w_25.cell? ⟨p_b6, 6, none⟩ = some (.bool false) := hs.g0.cell 6 rfl
 have d7 : w_25.cell? ⟨p_b6, 7, none⟩ = some (.slice none 0 0) := hs.g0.cell 7 rfl
 go_big_op; refine hK _ _ rfl trivial ?_; clear hK K d0 d1 d2 d3 d4 d5 d6 d7
 refine sm ?_
 refine sq ?_
 intro K hK
 have d0 : w_25.cell? ⟨p_b6, 0, none⟩ = some (.bool false) := hs.g0.cell 0 rfl
 have d1 : w_25.cell? ⟨p_b6, 1, none⟩ = some (.slice none 0 0) := hs.g0.cell 1 rfl
 have d2 : w_25.cell? ⟨p_b6, 2, none⟩ = some (.bool false) := hs.g0.cell 2 rfl
 have d3 : w_25.cell? ⟨p_b6, 3, none⟩ = some (.slice none 0 0) := hs.g0.cell 3 rfl
 have d4 : w_25.cell? ⟨p_b6, 4, none⟩ = some (.bool false) := hs.g0.cell 4 rfl
 have d5 : w_25.cell? ⟨p_b6, 5, none⟩ = some (.slice none 0 0) := hs.g0.cell 5 rfl
 have d6 : w_25.cell? ⟨p_b6, 6, none⟩ = some (.bool false) := hs.g0.cell 6 rfl
 have d7 : w_25.cell? ⟨p_b6, 7, none⟩ = some (.slice none 0 0) := hs.g0.cell 7 rfl
 go_big_op; refine hK _ _ rfl trivial ?_; clear hK K d0 d1 d2 d3 d4 d5 d6 d7
 refine sq ?_
 intro K hK
 go_big_op
 go_fit (told7_err _ 9 (by decide))
 rintro e w_26 ⟨rfl, hb_26⟩
 replace hs := hs.bl hb_26
 refine hK _ _ rfl trivial ?_
 clear hK K
 refine sr ?_
 apply wpSq_end
 refine hK11 _ _ ?_
 refine cf ?_
 refine wp_skip ?_
 refine hK9 _ _ ?_
 refine wp_seq_k ?_
 intro K12 hK12
 refine wp_seq_k fun K13 hK13 => rg [0, 1] ?_
 refine sq ?_
 intro K hK
 have d0 : w_26.cell? ⟨p_b1, 0, none⟩ = some (.bool n_0a) := hs.g5.cell 0 rfl
 have d1 : w_26.cell? ⟨p_b1, 1, none⟩ = some (.slice o_0a k_0a c_0a) := hs.g5.cell 1 rfl
 have d2 : w_26.cell? ⟨p_b1, 2, none⟩ = some (.bool n_0b) := hs.g5.cell 2 rfl
 have d3 : w_26.cell? ⟨p_b1, 3, none⟩ = some (.slice o_0b k_0b c_0b) := hs.g5.cell 3 rfl
 have d4 : w_26.cell? ⟨p_b1, 4, none⟩ = some (.bool n_0c) := hs.g5.cell 4 rfl
 have d5 : w_26.cell? ⟨p_b1, 5, none⟩ = some (.slice o_0c k_0c c_0c) := hs.g5.cell 5 rfl
 have d6 : w_26.cell? ⟨p_b1, 6, none⟩ = some (.bool n_0d) := hs.g5.cell 6 rfl
 have d7 : w_26.cell? ⟨p_b1, 7, none⟩ = some (.slice o_0d k_0d c_0d) := hs.g5.cell 7 rfl
 go_big_op; refine hK _ _ rfl trivial ?_; clear hK K d0 d1 d2 d3 d4 d5 d6 d7
 refine sq ?_
 intro K hK
 have k8_26 := (((((((((((((((((kb hb_9).b n10).o hd11 ho11).b hb_12).b n13).o hd14 ho14).b n15).b n16).b hb_17).b n18).b hb_19).b n20).b hb_21).b n22).b hb_23).b n24).b hb_25).b hb_26
 replace ha1 := ha1.k k8_26
 replace ha2 := ha2.k k8_26
 replace ha3 := ha3.k k8_26
 replace ha4 := ha4.k k8_26
 go_big_op
 go_fit (r7Bad_yes (CN.mk' ha1 ha2 ha3 ha4) (by omega) (by omega) (by omega) (by omega) H.out)
 rintro e w_27 ⟨rfl, hb_27⟩
 replace hs := hs.bl hb_27
 refine hK _ _ rfl trivial ?_
 clear hK K
 apply wpSq_end
 refine hK13 _ _ ?_
 refine ct ?_
 refine wp_seq_k fun K14 hK14 => rg [0, 1, 2, 3, 4, 5, 6, 7, 8, 9, 10, 11, 12, 13, 14, 15, 16, 17, 18, 19, 20] ?_
 refine sq ?_
 intro K hK
 have d0 : w_27.cell? ⟨p_b3, 0, none⟩ = some (.bool false) := hs.g3.cell 0 rfl
 have d1 : w_27.cell? ⟨p_b3, 1, none⟩ = some (.slice none 0 0) := hs.g3.cell 1 rfl
 have d2 : w_27.cell? ⟨p_b3, 2, none⟩ = some (.bool false) := hs.g3.cell 2 rfl
 have d3 : w_27.cell? ⟨p_b3, 3, none⟩ = some (.slice none 0 0) := hs.g3.cell 3 rfl
 have d4 : w_27.cell? ⟨p_b3, 4, none⟩ = some (.bool false) := hs.g3.cell 4 rfl
 have d5 : w_27.cell? ⟨p_b3, 5, none⟩ = some (.slice none 0 0) := hs.g3.cell 5 rfl
 have d6 : w_27.cell? ⟨p_b3, 6, none⟩ = some (.bool false) := hs.g3.cell 6 rfl
 have d7 : w_27.cell? ⟨p_b3, 7, none⟩ = some (.slice none 0 0) := hs.g3.cell 7 rfl
 go_big_op; refine hK _ _ rfl trivial ?_; clear hK K d0 d1 d2 d3 d4 d5 d6 d7
 refine sm ?_
 refine sq ?_
 intro K hK
 have d0 : w_27.cell? ⟨p_b3, 0, none⟩ = some (.bool false) := hs.g3.cell 0 rfl
 have d1 : w_27.cell? ⟨p_b3, 1, none⟩ = some (.slice none 0 0) := hs.g3.cell 1 rfl
 have d2 : w_27.cell? ⟨p_b3, 2, none⟩ = some (.bool false) := hs.g3.cell 2 rfl
 have d3 : w_27.cell? ⟨p_b3, 3, none⟩ = some (.slice none 0 0) := hs.g3.cell 3 rfl
 have d4 : w_27.cell? ⟨p_b3, 4, none⟩ = some (.bool false) := hs.g3.cell 4 rfl
 have d5 : w_27.cell? ⟨p_b3, 5, none⟩ = some (.slice none 0 0) := hs.g3.cell 5 rfl
 have d6 : w_27.cell? ⟨p_b3, 6, none⟩ = some (.bool false) := hs.g3.cell 6 rfl
 have d7 : w_27.cell? ⟨p_b3, 7, none⟩ = some (.slice none 0 0) := hs.g3.cell 7 rfl
 go_big_op; refine hK _ _ rfl trivial ?_; clear hK K d0 d1 d2 d3 d4 d5 d6 d7
 refine sq ?_
 intro K hK
 go_big_op
 go_fit (told7_err _ 5 (by decide))
 rintro e w_28 ⟨rfl, hb_28⟩
 replace hs := hs.bl hb_28
 refine hK _ _ rfl trivial ?_
 clear hK K
 refine sm ?_
 refine sm ?_
 refine sr ?_
 refine sr ?_
 refine sm ?_
 refine sq ?_
 refine .r4 hs.g2.f4 ?_
 refine sq ?_
 intro K hK
 go_big_op
 go_fit (rfzero_any _)
 rintro e w_29 ⟨rfl, hb_29⟩
 replace hs := hs.bl hb_29
 refine hK _ _ rfl trivial ?_
 clear hK K
 refine sr ?_
 refine sm ?_
 refine sm ?_
 refine sr ?_
 refine sr ?_
 refine sm ?_
 refine sq ?_
 refine .r4 hs.g1.f4 ?_
 refine sq ?_
 intro K hK
 go_big_op
 go_fit (r4zero_any _)
 rintro e w_30 ⟨rfl, hb_30⟩
 replace hs := hs.bl hb_30
 refine hK _ _ rfl trivial ?_
 clear hK K
 refine sr ?_
 refine sm ?_
 apply wpSq_end
 refine hK14 _ _ ?_
 refine wp_ret ?_
 try dsimp only [Exit.then, Exit.inBlock]
 refine bodyPost_ret (v := (.bool true)) (by simp [results, Tryz.results5, go_sem]) rfl ?_
 have hb := hs.b
 exact ⟨rfl, hb⟩
theorem single_bad_b {b c : Nat} (ha : CN w va x l y m u k v n) (hq : PN w vb p l2 q m2) (hl : l ≤ 1048576) (hm : m ≤ 1048576) (hk : k ≤ 1048576) (hn : n ≤ 1048576) (hl2 : l2 ≤ 1048576) (hm2 : m2 ≤ 1048576) (h : y = 0 ∨ v = 0) {R : Rat} (hf : FinYes b R) (hg : FinNo c) (hb1 : b < 18446744073709551616) (hc1 : c < 18446744073709551616) (htab : Lib.TabIs Tryz.prog w p10 .u64 Lib.pow10Tab) :
   Calls Tryz.prog 5 #[va, vb, .int .u64 (b : Int), .int .u64 (c : Int)] w fun e w' => e = .returned (.bool true) ∧ Below w.heap.size w w' := by
 have htabs := Lib.tabBelow_of_tabIs htab
 obtain ⟨_, _, f1, f2, _⟩ := hf
 obtain ⟨f3, f4⟩ := hg
 have F1 := hide f1
 have F2 := hide f2
 have F3 := hide f3
 have F4 := hide f4
 clear f1 f2 f3 f4
 have H := hide h
 clear h
 have H1 := hide (show (1 : Int) ≠ 0 by decide)
 obtain ⟨n_0a, o_0a, k_0a, c_0a, n_0b, o_0b, k_0b, c_0b, n_0c, o_0c, k_0c, c_0c, n_0d, o_0d, k_0d, c_0d, rfl, ha1, ha2, ha3, ha4⟩ := ha
 obtain ⟨n_1a, o_1a, k_1a, c_1a, n_1b, o_1b, k_1b, c_1b, rfl, hq1, hq2⟩ := hq
 go_enter Tryz.func5, Tryz.ntmps5
 have hs := St.nil w
 refine wp_seq_k fun K1 hK1 => rg [0, 1, 2] ?_
 refine sq ?_
 refine .al hs ?_; clear hs; intro p_b1 w_1 hs n1 kb_b1
 refine sq ?_
 refine .al hs ?_; clear hs; intro p_b2 w_2 hs n2 kb_b2
 refine sm ?_
 apply wpSq_end
 refine hK1 _ _ ?_
 refine wp_seq_k fun K2 hK2 => rg [0, 1, 2, 3, 4, 5, 6, 7] ?_
 refine sq ?_
 intro K hK
 have d0 : w_2.cell? ⟨p_b1, 0, none⟩ = some (.bool n_0a) := hs.g1.cell 0 rfl
 have d1 : w_2.cell? ⟨p_b1, 1, none⟩ = some (.slice o_0a k_0a c_0a) := hs.g1.cell 1 rfl
 have d2 : w_2.cell? ⟨p_b1, 2, none⟩ = some (.bool n_0b) := hs.g1.cell 2 rfl
 have d3 : w_2.cell? ⟨p_b1, 3, none⟩ = some (.slice o_0b k_0b c_0b) := hs.g1.cell 3 rfl
 have d4 : w_2.cell? ⟨p_b1, 4, none⟩ = some (.bool n_0c) := hs.g1.cell 4 rfl
 have d5 : w_2.cell? ⟨p_b1, 5, none⟩ = some (.slice o_0c k_0c c_0c) := hs.g1.cell 5 rfl
 have d6 : w_2.cell? ⟨p_b1, 6, none⟩ = some (.bool n_0d) := hs.g1.cell 6 rfl
 have d7 : w_2.cell? ⟨p_b1, 7, none⟩ = some (.slice o_0d k_0d c_0d) := hs.g1.cell 7 rfl
 go_big_op; refine hK _ _ rfl trivial ?_; clear hK K d0 d1 d2 d3 d4 d5 d6 d7
 refine sq ?_
 intro K hK
 have k0_2 := (kb n1).b n2
 replace ha1 := ha1.k k0_2
 replace ha2 := ha2.k k0_2
 replace ha3 := ha3.k k0_2
 replace ha4 := ha4.k k0_2
 go_big_op
 go_fit (gfConj_bad (.mk' ha1 ha2 ha3 ha4) (by omega) (by omega) (by omega) (by omega) H.out)
 rintro e w_3 ⟨rfl, hb_3⟩
 replace hs := hs.bl hb_3
 refine hK _ _ rfl trivial ?_
 clear hK K
 refine sm ?_
 refine sr ?_
 refine sr ?_
 refine sq ?_
 refine .al hs ?_; clear hs; intro p_b3 w_4 hs n4 kb_b3
 refine sq ?_
 intro K hK
 have xs := hs.g0
 have d0 : w_4.cell? ⟨p_b3, 0, none⟩ = some (.bool false) := hs.g0.cell 0 rfl
 have d1 : w_4.cell? ⟨p_b3, 1, none⟩ = some (.slice none 0 0) := hs.g0.cell 1 rfl
 have d2 : w_4.cell? ⟨p_b3, 2, none⟩ = some (.bool false) := hs.g0.cell 2 rfl
 have d3 : w_4.cell? ⟨p_b3, 3, none⟩ = some (.slice none 0 0) := hs.g0.cell 3 rfl
 have d4 : w_4.cell? ⟨p_b3, 4, none⟩ = some (.bool false) := hs.g0.cell 4 rfl
 have d5 : w_4.cell? ⟨p_b3, 5, none⟩ = some (.slice none 0 0) := hs.g0.cell 5 rfl
 have d6 : w_4.cell? ⟨p_b3, 6, none⟩ = some (.bool false) := hs.g0.cell 6 rfl
 have d7 : w_4.cell? ⟨p_b3, 7, none⟩ = some (.slice none 0 0) := hs.g0.cell 7 rfl
 have f0 := xs.free 0; have f1 := xs.free 1; have f2 := xs.free 2; have f3 := xs.free 3; have f4 := xs.free 4; have f5 := xs.free 5; have f6 := xs.free 6; have f7 := xs.free 7
 go_big_op
 have hd5 := xs.nod rfl rfl
 obtain ⟨w_5_0, eW, xs_0, ho_0⟩ : ∃ w', ((((w_4.setCell ⟨p_b3, 0, none⟩ (.bool false)).setCell ⟨p_b3, 1, none⟩ (.slice none 0 0)).setCell ⟨p_b3, 2, none⟩ (.bool false)).setCell ⟨p_b3, 3, none⟩ (.slice none 0 0)) = w' ∧ Bs w' p_b3 #[.bool false, .slice none 0 0, .bool false, .slice none 0 0, .bool false, .slice none 0 0, .bool false, .slice none 0 0] 28 ∧ Only p_b3 w_4 w' := xs.setN [(0, .bool false), (1, .slice none 0 0), (2, .bool false), (3, .slice none 0 0)]
 rw [eW]; clear eW
 obtain ⟨w_5, eW, xs', ho_4⟩ : ∃ w', ((((w_5_0.setCell ⟨p_b3, 4, none⟩ (.bool false)).setCell ⟨p_b3, 5, none⟩ (.slice none 0 0)).setCell ⟨p_b3, 6, none⟩ (.bool false)).setCell ⟨p_b3, 7, none⟩ (.slice none 0 0)) = w' ∧ Bs w' p_b3 #[.bool false, .slice none 0 0, .bool false, .slice none 0 0, .bool false, .slice none 0 0, .bool false, .slice none 0 0] 28 ∧ Only p_b3 w_5_0 w' := xs_0.setN [(4, .bool false), (5, .slice none 0 0), (6, .bool false), (7, .slice none 0 0)]
 rw [eW]; clear eW xs_0
 have ho5 := (ho_0.trans ho_4)
 clear ho_0 ho_4 d0 d1 d2 d3 d4 d5 d6 d7 f0 f1 f2 f3 f4 f5 f6 f7 xs
 replace hs := hs.u0 kb_b3 xs' ho5; clear xs'
 refine hK _ _ rfl trivial ?_; clear hK K
 refine sm ?_
 apply wpSq_end
 refine hK2 _ _ ?_
 refine wp_seq_k fun K3 hK3 => rg [0, 1, 2, 3, 4, 5, 6, 7] ?_
 refine sq ?_
 intro K hK
 have d0 : w_5.cell? ⟨p_b1, 0, none⟩ = some (.bool n_0a) := hs.g2.cell 0 rfl
 have d1 : w_5.cell? ⟨p_b1, 1, none⟩ = some (.slice o_0a k_0a c_0a) := hs.g2.cell 1 rfl
 have d2 : w_5.cell? ⟨p_b1, 2, none⟩ = some (.bool n_0b) := hs.g2.cell 2 rfl
 have d3 : w_5.cell? ⟨p_b1, 3, none⟩ = some (.slice o_0b k_0b c_0b) := hs.g2.cell 3 rfl
 have d4 : w_5.cell? ⟨p_b1, 4, none⟩ = some (.bool n_0c) := hs.g2.cell 4 rfl
 have d5 : w_5.cell? ⟨p_b1, 5, none⟩ = some (.slice o_0c k_0c c_0c) := hs.g2.cell 5 rfl
 have d6 : w_5.cell? ⟨p_b1, 6, none⟩ = some (.bool n_0d) := hs.g2.cell 6 rfl
 have d7 : w_5.cell? ⟨p_b1, 7, none⟩ = some (.slice o_0d k_0d c_0d) := hs.g2.cell 7 rfl
 go_big_op; refine hK _ _ rfl trivial ?_; clear hK K d0 d1 d2 d3 d4 d5 d6 d7
 refine sq ?_
 intro K hK
 have k2_5 := ((kb hb_3).b n4).o hd5 ho5
 replace ha1 := ha1.k k2_5
 replace ha2 := ha2.k k2_5
 replace ha3 := ha3.k k2_5
 replace ha4 := ha4.k k2_5
 go_big_op
 go_fit (gfNorm_bad (.mk' ha1 ha2 ha3 ha4) (by omega) (by omega) (by omega) (by omega) H.out)
 rintro e w_6 ⟨rfl, hb_6⟩
 replace hs := hs.bl hb_6
 refine hK _ _ rfl trivial ?_
 clear hK K
 refine sm ?_
 refine sr ?_
 refine sr ?_
 refine sq ?_
 refine .al hs ?_; clear hs; intro p_b4 w_7 hs n7 kb_b4
 refine sq ?_
 refine .s4 hs.g0 (fun _ => hs.u0 kb_b4) ?_; clear hs; intro w_8 hs hd8 ho8
 refine sm ?_
 apply wpSq_end
 refine hK3 _ _ ?_
 refine wp_seq_k fun K4 hK4 => rg [0, 1, 2, 3, 4, 5, 6, 7] ?_
 refine sq ?_
 intro K hK
 have d0 : w_8.cell? ⟨p_b1, 0, none⟩ = some (.bool n_0a) := hs.g3.cell 0 rfl
 have d1 : w_8.cell? ⟨p_b1, 1, none⟩ = some (.slice o_0a k_0a c_0a) := hs.g3.cell 1 rfl
 have d2 : w_8.cell? ⟨p_b1, 2, none⟩ = some (.bool n_0b) := hs.g3.cell 2 rfl
 have d3 : w_8.cell? ⟨p_b1, 3, none⟩ = some (.slice o_0b k_0b c_0b) := hs.g3.cell 3 rfl
 have d4 : w_8.cell? ⟨p_b1, 4, none⟩ = some (.bool n_0c) := hs.g3.cell 4 rfl
 have d5 : w_8.cell? ⟨p_b1, 5, none⟩ = some (.slice o_0c k_0c c_0c) := hs.g3.cell 5 rfl
 have d6 : w_8.cell? ⟨p_b1, 6, none⟩ = some (.bool n_0d) := hs.g3.cell 6 rfl
 have d7 : w_8.cell? ⟨p_b1, 7, none⟩ = some (.slice o_0d k_0d c_0d) := hs.g3.cell 7 rfl
 go_big_op; refine hK _ _ rfl trivial ?_; clear hK K d0 d1 d2 d3 d4 d5 d6 d7
 refine sq ?_
 intro K hK
 have k5_8 := ((kb hb_6).b n7).o hd8 ho8
 replace ha1 := ha1.k k5_8
 replace ha2 := ha2.k k5_8
 replace ha3 := ha3.k k5_8
 replace ha4 := ha4.k k5_8
 go_big_op
 go_fit (gfRound_bad (.mk' ha1 ha2 ha3 ha4) (by omega) (by omega) (by omega) (by omega) H.out)
 rintro e w_9 ⟨rfl, hb_9⟩
 replace hs := hs.bl hb_9
 refine hK _ _ rfl trivial ?_
 clear hK K
 refine sm ?_
 refine sr ?_
 refine sr ?_
 refine sq ?_
 refine .al hs ?_; clear hs; intro p_b5 w_10 hs n10 kb_b5
 refine sq ?_
 refine .s4 hs.g0 (fun _ => hs.u0 kb_b5) ?_; clear hs; intro w_11 hs hd11 ho11
 refine sm ?_
 apply wpSq_end
 refine hK4 _ _ ?_
 refine wp_seq_k fun K5 hK5 => rg [0, 1, 2, 3, 4, 5] ?_
 refine sm ?_
 refine sq ?_
 intro K hK
 go_big_op; (first | rw [ext_from] | rw [ext_fromI]); simp only [Oper.upon, Act.put, List.setIfInBounds_toArray, List.set_cons_succ, List.set_cons_zero]; refine hK _ _ rfl trivial ?_; clear hK K
 refine sm ?_
 refine sq ?_
 intro K hK
 go_big_op; (first | rw [ext_from] | rw [ext_fromI]); simp only [Oper.upon, Act.put, List.setIfInBounds_toArray, List.set_cons_succ, List.set_cons_zero]; refine hK _ _ rfl trivial ?_; clear hK K
 refine sm ?_
 refine sm ?_
 apply wpSq_end
 refine hK5 _ _ ?_
 refine wp_seq_k fun K6 hK6 => rg [0, 1, 2, 3, 4, 5, 6, 7, 8, 9] ?_
 refine sm ?_
 refine sm ?_
 refine sr ?_
 refine sq ?_
 intro K hK
 go_big_op
 go_fit (gfOfFloat_no2 F1.out F3.out)
 rintro e w_12 ⟨rfl, hb_12⟩
 replace hs := hs.bl hb_12
 refine hK _ _ rfl trivial ?_
 clear hK K
 refine sm ?_
 refine sr ?_
 refine sr ?_
 refine sq ?_
 refine .al hs ?_; clear hs; intro p_b6 w_13 hs n13 kb_b6
 refine sq ?_
 intro K hK
 have xs := hs.g0
 have d0 : w_13.cell? ⟨p_b6, 0, none⟩ = some (.bool false) := hs.g0.cell 0 rfl
 have d1 : w_13.cell? ⟨p_b6, 1, none⟩ = some (.slice none 0 0) := hs.g0.cell 1 rfl
 have d2 : w_13.cell? ⟨p_b6, 2, none⟩ = some (.bool false) := hs.g0.cell 2 rfl
 have d3 : w_13.cell? ⟨p_b6, 3, none⟩ = some (.slice none 0 0) := hs.g0.cell 3 rfl
 have d4 : w_13.cell? ⟨p_b6, 4, none⟩ = some (.bool false) := hs.g0.cell 4 rfl
 have d5 : w_13.cell? ⟨p_b6, 5, none⟩ = some (.slice none 0 0) := hs.g0.cell 5 rfl
 have d6 : w_13.cell? ⟨p_b6, 6, none⟩ = some (.bool false) := hs.g0.cell 6 rfl
 have d7 : w_13.cell? ⟨p_b6, 7, none⟩ = some (.slice none 0 0) := hs.g0.cell 7 rfl
 have f0 := xs.free 0; have f1 := xs.free 1; have f2 := xs.free 2; have f3 := xs.free 3; have f4 := xs.free 4; have f5 := xs.free 5; have f6 := xs.free 6; have f7 := xs.free 7
 go_big_op
 have hd14 := xs.nod rfl rfl
 obtain ⟨w_14_0, eW, xs_0, ho_0⟩ : ∃ w', ((((w_13.setCell ⟨p_b6, 0, none⟩ (.bool false)).setCell ⟨p_b6, 1, none⟩ (.slice none 0 0)).setCell ⟨p_b6, 2, none⟩ (.bool false)).setCell ⟨p_b6, 3, none⟩ (.slice none 0 0)) = w' ∧ Bs w' p_b6 #[.bool false, .slice none 0 0, .bool false, .slice none 0 0, .bool false, .slice none 0 0, .bool false, .slice none 0 0] 28 ∧ Only p_b6 w_13 w' := xs.setN [(0, .bool false), (1, .slice none 0 0), (2, .bool false), (3, .slice none 0 0)]
 rw [eW]; clear eW
 obtain ⟨w_14, eW, xs', ho_4⟩ : ∃ w', ((((w_14_0.setCell ⟨p_b6, 4, none⟩ (.bool false)).setCell ⟨p_b6, 5, none⟩ (.slice none 0 0)).setCell ⟨p_b6, 6, none⟩ (.bool false)).setCell ⟨p_b6, 7, none⟩ (.slice none 0 0)) = w' ∧ Bs w' p_b6 #[.bool false, .slice none 0 0, .bool false, .slice none 0 0, .bool false, .slice none 0 0, .bool false, .slice none 0 0] 28 ∧ Only p_b6 w_14_0 w' := xs_0.setN [(4, .bool false), (5, .slice none 0 0), (6, .bool false), (7, .slice none 0 0)]
 rw [eW]; clear eW xs_0
 have ho14 := (ho_0.trans ho_4)
 clear ho_0 ho_4 d0 d1 d2 d3 d4 d5 d6 d7 f0 f1 f2 f3 f4 f5 f6 f7 xs
 replace hs := hs.u0 kb_b6 xs' ho14; clear xs'
 refine hK _ _ rfl trivial ?_; clear hK K
 refine sm ?_
 apply wpSq_end
 refine hK6 _ _ ?_
 refine wp_seq_k ?_
 intro K7 hK7
 refine wp_seq_k ?_
 intro K8 hK8
 refine wp_region_f4 [(0, true), (1, false), (2, false), (3, false), (5, false), (4, true), (6, true), (7, true), (8, false), (9, false)] [] [] (fun _ => default) [99, 99, 99, 0, 99, 0, 99, 99, 99, 99] [] (.c hs.g4 .n) fn fun w_15 n15 => ?_
 replace hs := hs.bl n15
 refine fl fun w_16 n16 => ?_
 replace hs := hs.bl n16
 intro K hK
 have hb := hs.b
 go_big_op
 go_fit (awake7_any _ (htabs _ hb))
 rintro e w_17 ⟨rfl, hb_17⟩
 clear hb
 replace hs := hs.bl hb_17
 refine hK _ _ rfl ⟨hb_17, (And.intro hs.g4 trivial)⟩ ?_
 clear hK K
 refine f0 ?_
 refine fmv ?_
 refine f4 ?_
 refine f4 ?_
 refine fl fun w_18 n18 => ?_
 replace hs := hs.bl n18
 intro K hK
 have k0_18 := (((((((((((((((k0_2.b hb_3).b n4).o hd5 ho5).b hb_6).b n7).o hd8 ho8).b hb_9).b n10).o hd11 ho11).b hb_12).b n13).o hd14 ho14).b n15).b n16).b hb_17).b n18
 replace hq1 := hq1.k k0_18
 replace hq2 := hq2.k k0_18
 go_big_op
 go_fit (gfOf_any (.mk' hq1 hq2) (by omega) (by omega))
 rintro e w_19 ⟨_, rfl, ⟨n_go1, o_go1, k_go1, c_go1, n_go2, o_go2, k_go2, c_go2, n_go3, o_go3, k_go3, c_go3, n_go4, o_go4, k_go4, c_go4, rfl, go1, go2, go3, go4⟩, hb_19⟩
 replace hs := hs.bl hb_19
 refine hK _ _ rfl ⟨hb_19, (And.intro hs.g4 trivial)⟩ ?_
 clear hK K
 refine fl fun w_20 n20 => ?_
 replace hs := hs.bl n20
 intro K hK
 have k18_20 := (kb hb_19).b n20
 replace hq1 := hq1.k k18_20
 replace hq2 := hq2.k k18_20
 go_big_op
 go_fit (r7Of_any (.mk' hq1 hq2) (by omega) (by omega))
 rintro e w_21 ⟨_, rfl, ⟨n_ro1, o_ro1, k_ro1, c_ro1, n_ro2, o_ro2, k_ro2, c_ro2, n_ro3, o_ro3, k_ro3, c_ro3, n_ro4, o_ro4, k_ro4, c_ro4, rfl, ro1, ro2, ro3, ro4⟩, hb_21⟩
 replace hs := hs.bl hb_21
 have Lro1 := hide (ro1.lenOf (hq1.len))
 have Lro2 := hide (ro2.lenOf (zlen_i (1 : Int) (by decide) (by decide)))
 have Lro3 := hide (ro3.lenOf (hq2.len))
 have Lro4 := hide (ro4.lenOf (zlen_i (1 : Int) (by decide) (by decide)))
 refine hK _ _ rfl ⟨hb_21, (And.intro hs.g4 trivial)⟩ ?_
 clear hK K
 refine fl fun w_22 n22 => ?_
 replace hs := hs.bl n22
 intro K hK
 have k19_22 := ((kb n20).b hb_21).b n22
 replace go1 := go1.k k19_22
 replace go2 := go2.k k19_22
 replace go3 := go3.k k19_22
 replace go4 := go4.k k19_22
 have k21_22 := kb n22
 replace ro1 := ro1.k k21_22
 replace ro2 := ro2.k k21_22
 replace ro3 := ro3.k k21_22
 replace ro4 := ro4.k k21_22
 go_big_op
 go_fit (is7_raw (.mk' go1 go2 go3 go4) (.mk' (ro1.zn Lro1.out) (ro2.zn Lro2.out) (ro3.zn Lro3.out) (ro4.zn Lro4.out)) (by omega) (by omega) (by omega) (by omega) H1.out H1.out)
 rintro e w_23 ⟨rfl, hb_23⟩
 replace hs := hs.bl hb_23
 refine hK _ _ rfl ⟨hb_23, (And.intro hs.g4 trivial)⟩ ?_
 clear hK K
 refine f0 ?_
 refine f0 ?_
 refine e0 hs ?_; clear hs; intro w_24 hs n24
 clear go1 go2 go3 go4 ro1 ro2 ro3 ro4
 apply wpTail_end
 refine hK8 _ _ ?_
 refine cf ?_
 refine wp_skip ?_
 refine hK7 _ _ ?_
 refine wp_seq_k ?_
 intro K9 hK9
 refine wp_seq_k fun K10 hK10 => rg [0, 1, 2, 3, 4, 5, 6, 7] ?_
 refine sm ?_
 refine sq ?_
 intro K hK
 go_big_op
 go_fit (F2.out _)
 rintro e w_25 ⟨rfl, hb_25⟩
 replace hs := hs.bl hb_25
 refine hK _ _ rfl trivial ?_
 clear hK K
 refine sr ?_
 refine sm ?_
 refine sm ?_
 refine sq ?_
 intro K hK
 go_big_op
 go_fit (F4.out _)
 rintro e w_26 ⟨rfl, hb_26⟩
 replace hs := hs.bl hb_26
 refine hK _ _ rfl trivial ?_
 clear hK K
 refine sr ?_
 refine sr ?_
 apply wpSq_end
 refine hK10 _ _ ?_
 refine ct ?_
 refine wp_seq_k fun K11 hK11 => rg [0, 1, 2, 3, 4] ?_
 refine sq ?_
 intro K hK
 have d0 : w_26.cell? ⟨p_b6, 0, none⟩ = some (.bool false) := hs.g0.cell 0 rfl
 have d1 : w_26.cell? ⟨p_b6, 1, none⟩ = some (.slice none 0 0) := hs.g0.cell 1 rfl
 have d2 : w_26.cell? ⟨p_b6, 2, none⟩ = some (.bool false) := hs.g0.cell 2 rfl
 have d3 : w_26.cell? ⟨p_b6, 3, none⟩ = some (.slice none 0 0) := hs.g0.cell 3 rfl
 have d4 : w_26.cell? ⟨p_b6, 4, none⟩ = some (.bool false) := hs.g0.cell 4 rfl
 have d5 : w_26.cell? ⟨p_b6, 5, none⟩ = some (.slice none 0 0) := hs.g0.cell 5 rfl
 have d6 : w_26.cell? ⟨p_b6, 6, none⟩ = some (.bool false) := hs.g0.cell 6 rfl
 have d7 : w_26.cell? ⟨p_b6, 7, none⟩ = some (.slice none 0 0) := hs.g0.cell 7 rfl
 go_big_op; refine hK _ _ rfl trivial ?_; clear hK K d0 d1 d2 d3 d4 d5 d6 d7
 refine sm ?_
 refine sq ?_
 intro K hK
 have d0 : w_26.cell? ⟨p_b6, 0, none⟩ = some (.bool false) := hs.g0.cell 0 rfl
 have d1 : w_26.cell? ⟨p_b6, 1, none⟩ = some (.slice none 0 0) := hs.g0.cell 1 rfl
 have d2 : w_26.cell? ⟨p_b6, 2, none⟩ = some (.bool false) := hs.g0.cell 2 rfl
 have d3 : w_26.cell? ⟨p_b6, 3, none⟩ = some (.slice none 0 0) := hs.g0.cell 3 rfl
 have d4 : w_26.cell? ⟨p_b6, 4, none⟩ = some (.bool false) := hs.g0.cell 4 rfl
 have d5 : w_26.cell? ⟨p_b6, 5, none⟩ = some (.slice none 0 0) := hs.g0.cell 5 rfl
 have d6 : w_26.cell? ⟨p_b6, 6, none⟩ = some (.bool false) := hs.g0.cell 6 rfl
 have d7 : w_26.cell? ⟨p_b6, 7, none⟩ = some (.slice none 0 0) := hs.g0.cell 7 rfl
 go_big_op; refine hK _ _ rfl trivial ?_; clear hK K d0 d1 d2 d3 d4 d5 d6 d7
 refine sq ?_
 intro K hK
 go_big_op
 go_fit (told7_err _ 9 (by decide))
 rintro e w_27 ⟨rfl, hb_27⟩
 replace hs := hs.bl hb_27
 refine hK _ _ rfl trivial ?_
 clear hK K
 refine sr ?_
 apply wpSq_end
 refine hK11 _ _ ?_
 refine cf ?_
 refine wp_skip ?_
 refine hK9 _ _ ?_
 refine wp_seq_k ?_
 intro K12 hK12
 refine wp_seq_k fun K13 hK13 => rg [0, 1] ?_
 refine sq ?_
 intro K hK
 have d0 : w_27.cell? ⟨p_b1, 0, none⟩ = some (.bool n_0a) := hs.g5.cell 0 rfl
 have d1 : w_27.cell? ⟨p_b1, 1, none⟩ = some (.slice o_0a k_0a c_0a) := hs.g5.cell 1 rfl
 have d2 : w_27.cell? ⟨p_b1, 2, none⟩ = some (.bool n_0b) := hs.g5.cell 2 rfl
 have d3 : w_27.cell? ⟨p_b1, 3, none⟩ = some (.slice o_0b k_0b c_0b) := hs.g5.cell 3 rfl
 have d4 : w_27.cell? ⟨p_b1, 4, none⟩ = some (.bool n_0c) := hs.g5.cell 4 rfl
 have d5 : w_27.cell? ⟨p_b1, 5, none⟩ = some (.slice o_0c k_0c c_0c) := hs.g5.cell 5 rfl
 have d6 : w_27.cell? ⟨p_b1, 6, none⟩ = some (.bool n_0d) := hs.g5.cell 6 rfl
 have d7 : w_27.cell? ⟨p_b1, 7, none⟩ = some (.slice o_0d k_0d c_0d) := hs.g5.cell 7 rfl
 go_big_op; refine hK _ _ rfl trivial ?_; clear hK K d0 d1 d2 d3 d4 d5 d6 d7
 refine sq ?_
 intro K hK
 have k8_27 := ((((((((((((((((((kb hb_9).b n10).o hd11 ho11).b hb_12).b n13).o hd14 ho14).b n15).b n16).b hb_17).b n18).b hb_19).b n20).b hb_21).b n22).b hb_23).b n24).b hb_25).b hb_26).b hb_27
 replace ha1 := ha1.k k8_27
 replace ha2 := ha2.k k8_27
 replace ha3 := ha3.k k8_27
 replace ha4 := ha4.k k8_27
 go_big_op
 go_fit (r7Bad_yes (CN.mk' ha1 ha2 ha3 ha4) (by omega) (by omega) (by omega) (by omega) H.out)
 rintro e w_28 ⟨rfl, hb_28⟩
 replace hs := hs.bl hb_28
 refine hK _ _ rfl trivial ?_
 clear hK K
 apply wpSq_end
 refine hK13 _ _ ?_
 refine ct ?_
 refine wp_seq_k fun K14 hK14 => rg [0, 1, 2, 3, 4, 5, 6, 7, 8, 9, 10, 11, 12, 13, 14, 15, 16, 17, 18, 19, 20] ?_
 refine sq ?_
 intro K hK
 have d0 : w_28.cell? ⟨p_b3, 0, none⟩ = some (.bool false) := hs.g3.cell 0 rfl
 have d1 : w_28.cell? ⟨p_b3, 1, none⟩ = some (.slice none 0 0) := hs.g3.cell 1 rfl
 have d2 : w_28.cell? ⟨p_b3, 2, none⟩ = some (.bool false) := hs.g3.cell 2 rfl
 have d3 : w_28.cell? ⟨p_b3, 3, none⟩ = some (.slice none 0 0) := hs.g3.cell 3 rfl
 have d4 : w_28.cell? ⟨p_b3, 4, none⟩ = some (.bool false) := hs.g3.cell 4 rfl
 have d5 : w_28.cell? ⟨p_b3, 5, none⟩ = some (.slice none 0 0) := hs.g3.cell 5 rfl
 have d6 : w_28.cell? ⟨p_b3, 6, none⟩ = some (.bool false) := hs.g3.cell 6 rfl
 have d7 : w_28.cell? ⟨p_b3, 7, none⟩ = some (.slice none 0 0) := hs.g3.cell 7 rfl
 go_big_op; refine hK _ _ rfl trivial ?_; clear hK K d0 d1 d2 d3 d4 d5 d6 d7
 refine sm ?_
 refine sq ?_
 intro K hK
 have d0 : w_28.cell? ⟨p_b3, 0, none⟩ = some (.bool false) := hs.g3.cell 0 rfl
 have d1 : w_28.cell? ⟨p_b3, 1, none⟩ = some (.slice none 0 0) := hs.g3.cell 1 rfl
 have d2 : w_28.cell? ⟨p_b3, 2, none⟩ = some (.bool false) := hs.g3.cell 2 rfl
 have d3 : w_28.cell? ⟨p_b3, 3, none⟩ = some (.slice none 0 0) := hs.g3.cell 3 rfl
 have d4 : w_28.cell? ⟨p_b3, 4, none⟩ = some (.bool false) := hs.g3.cell 4 rfl
 have d5 : w_28.cell? ⟨p_b3, 5, none⟩ = some (.slice none 0 0) := hs.g3.cell 5 rfl
 have d6 : w_28.cell? ⟨p_b3, 6, none⟩ = some (.bool false) := hs.g3.cell 6 rfl
 have d7 : w_28.cell? ⟨p_b3, 7, none⟩ = some (.slice none 0 0) := hs.g3.cell 7 rfl
 go_big_op; refine hK _ _ rfl trivial ?_; clear hK K d0 d1 d2 d3 d4 d5 d6 d7
 refine sq ?_
 intro K hK
 go_big_op
 go_fit (told7_err _ 5 (by decide))
 rintro e w_29 ⟨rfl, hb_29⟩
 replace hs := hs.bl hb_29
 refine hK _ _ rfl trivial ?_
 clear hK K
 refine sm ?_
 refine sm ?_
 refine sr ?_
 refine sr ?_
 refine sm ?_
 refine sq ?_
 refine .r4 hs.g2.f4 ?_
 refine sq ?_
 intro K hK
 go_big_op
 go_fit (rfzero_any _)
 rintro e w_30 ⟨rfl, hb_30⟩
 replace hs := hs.bl hb_30
 refine hK _ _ rfl trivial ?_
 clear hK K
 refine sr ?_
 refine sm ?_
 refine sm ?_
 refine sr ?_
 refine sr ?_
 refine sm ?_
 refine sq ?_
 refine .r4 hs.g1.f4 ?_
 refine sq ?_
 intro K hK
 go_big_op
 go_fit (r4zero_any _)
 rintro e w_31 ⟨rfl, hb_31⟩
 replace hs := hs.bl hb_31
 refine hK _ _ rfl trivial ?_
 clear hK K
 refine sr ?_
 refine sm ?_
 apply wpSq_end
 refine hK14 _ _ ?_
 refine wp_ret ?_
 try dsimp only [Exit.then, Exit.inBlock]
 refine bodyPost_ret (v := (.bool true)) (by simp [results, Tryz.results5, go_sem]) rfl ?_
 have hb := hs.b
 exact ⟨rfl, hb⟩
theorem single_bad_c {b c : Nat} (ha : CN w va x l y m u k v n) (hq : PN w vb p l2 q m2) (hl : l ≤ 1048576) (hm : m ≤ 1048576) (hk : k ≤ 1048576) (hn : n ≤ 1048576) (hl2 : l2 ≤ 1048576) (hm2 : m2 ≤ 1048576) (h : y = 0 ∨ v = 0) {R T : Rat} (hf : FinYes b R) (hg : FinYes c T) (hb1 : b < 18446744073709551616) (hc1 : c < 18446744073709551616) (htab : Lib.TabIs Tryz.prog w p10 .u64 Lib.pow10Tab) :
   Calls Tryz.prog 5 #[va, vb, .int .u64 (b : Int), .int .u64 (c : Int)] w fun e w' => e = .returned (.bool true) ∧ Below w.heap.size w w' := by
 have htabs := Lib.tabBelow_of_tabIs htab
 obtain ⟨fl, f0, f1, f2, f5⟩ := hf
 obtain ⟨gl, g0, f3, f4, f6⟩ := hg
 have F0 := hide f0
 have G0 := hide g0
 have F1 := hide f1
 have F2 := hide f2
 have F3 := hide f3
 have F4 := hide f4
 have F5 := hide f5
 have F6 := hide f6
 have FL := hide fl
 have GL := hide gl
 clear f0 g0 f1 f2 f3 f4 f5 f6 fl gl
 have H := hide h
 clear h
 have H1 := hide (show (1 : Int) ≠ 0 by decide)
 obtain ⟨n_0a, o_0a, k_0a, c_0a, n_0b, o_0b, k_0b, c_0b, n_0c, o_0c, k_0c, c_0c, n_0d, o_0d, k_0d, c_0d, rfl, ha1, ha2, ha3, ha4⟩ := ha
 obtain ⟨n_1a, o_1a, k_1a, c_1a, n_1b, o_1b, k_1b, c_1b, rfl, hq1, hq2⟩ := hq
 go_enter Tryz.func5, Tryz.ntmps5
 have hs := St.nil w
 refine wp_seq_k fun K1 hK1 => rg [0, 1, 2] ?_
 refine sq ?_
 refine .al hs ?_; clear hs; intro p_b1 w_1 hs n1 kb_b1
 refine sq ?_
 refine .al hs ?_; clear hs; intro p_b2 w_2 hs n2 kb_b2
 refine sm ?_
 apply wpSq_end
 refine hK1 _ _ ?_
 refine wp_seq_k fun K2 hK2 => rg [0, 1, 2, 3, 4, 5, 6, 7] ?_
 refine sq ?_
 intro K hK
 have d0 : w_2.cell? ⟨p_b1, 0, none⟩ = some (.bool n_0a) := hs.g1.cell 0 rfl
 have d1 : w_2.cell? ⟨p_b1, 1, none⟩ = some (.slice o_0a k_0a c_0a) := hs.g1.cell 1 rfl
 have d2 : w_2.cell? ⟨p_b1, 2, none⟩ = some (.bool n_0b) := hs.g1.cell 2 rfl
 have d3 : w_2.cell? ⟨p_b1, 3, none⟩ = some (.slice o_0b k_0b c_0b) := hs.g1.cell 3 rfl
 have d4 : w_2.cell? ⟨p_b1, 4, none⟩ = some (.bool n_0c) := hs.g1.cell 4 rfl
 have d5 : w_2.cell? ⟨p_b1, 5, none⟩ = some (.slice o_0c k_0c c_0c) := hs.g1.cell 5 rfl
 have d6 : w_2.cell? ⟨p_b1, 6, none⟩ = some (.bool n_0d) := hs.g1.cell 6 rfl
 have d7 : w_2.cell? ⟨p_b1, 7, none⟩ = some (.slice o_0d k_0d c_0d) := hs.g1.cell 7 rfl
 go_big_op; refine hK _ _ rfl trivial ?_; clear hK K d0 d1 d2 d3 d4 d5 d6 d7
 refine sq ?_
 intro K hK
 have k0_2 := (kb n1).b n2
 replace ha1 := ha1.k k0_2
 replace ha2 := ha2.k k0_2
 replace ha3 := ha3.k k0_2
 replace ha4 := ha4.k k0_2
 go_big_op
 go_fit (gfConj_bad (.mk' ha1 ha2 ha3 ha4) (by omega) (by omega) (by omega) (by omega) H.out)
 rintro e w_3 ⟨rfl, hb_3⟩
 replace hs := hs.bl hb_3
 refine hK _ _ rfl trivial ?_
 clear hK K
 refine sm ?_
 refine sr ?_
 refine sr ?_
 refine sq ?_
 refine .al hs ?_; clear hs; intro p_b3 w_4 hs n4 kb_b3
 refine sq ?_
 intro K hK
 have xs := hs.g0
 have d0 : w_4.cell? ⟨p_b3, 0, none⟩ = some (.bool false) := hs.g0.cell 0 rfl
 have d1 : w_4.cell? ⟨p_b3, 1, none⟩ = some (.slice none 0 0) := hs.g0.cell 1 rfl
 have d2 : w_4.cell? ⟨p_b3, 2, none⟩ = some (.bool false) := hs.g0.cell 2 rfl
 have d3 : w_4.cell? ⟨p_b3, 3, none⟩ = some (.slice none 0 0) := hs.g0.cell 3 rfl
 have d4 : w_4.cell? ⟨p_b3, 4, none⟩ = some (.bool false) := hs.g0.cell 4 rfl
 have d5 : w_4.cell? ⟨p_b3, 5, none⟩ = some (.slice none 0 0) := hs.g0.cell 5 rfl
 have d6 : w_4.cell? ⟨p_b3, 6, none⟩ = some (.bool false) := hs.g0.cell 6 rfl
 have d7 : w_4.cell? ⟨p_b3, 7, none⟩ = some (.slice none 0 0) := hs.g0.cell 7 rfl
 have f0 := xs.free 0; have f1 := xs.free 1; have f2 := xs.free 2; have f3 := xs.free 3; have f4 := xs.free 4; have f5 := xs.free 5; have f6 := xs.free 6; have f7 := xs.free 7
 go_big_op
 have hd5 := xs.nod rfl rfl
 obtain ⟨w_5_0, eW, xs_0, ho_0⟩ : ∃ w', ((((w_4.setCell ⟨p_b3, 0, none⟩ (.bool false)).setCell ⟨p_b3, 1, none⟩ (.slice none 0 0)).setCell ⟨p_b3, 2, none⟩ (.bool false)).setCell ⟨p_b3, 3, none⟩ (.slice none 0 0)) = w' ∧ Bs w' p_b3 #[.bool false, .slice none 0 0, .bool false, .slice none 0 0, .bool false, .slice none 0 0, .bool false, .slice none 0 0] 28 ∧ Only p_b3 w_4 w' := xs.setN [(0, .bool false), (1, .slice none 0 0), (2, .bool false), (3, .slice none 0 0)]
 rw [eW]; clear eW
 obtain ⟨w_5, eW, xs', ho_4⟩ : ∃ w', ((((w_5_0.setCell ⟨p_b3, 4, none⟩ (.bool false)).setCell ⟨p_b3, 5, none⟩ (.slice none 0 0)).setCell ⟨p_b3, 6, none⟩ (.bool false)).setCell ⟨p_b3, 7, none⟩ (.slice none 0 0)) = w' ∧ Bs w' p_b3 #[.bool false, .slice none 0 0, .bool false, .slice none 0 0, .bool false, .slice none 0 0, .bool false, .slice none 0 0] 28 ∧ Only p_b3 w_5_0 w' := xs_0.setN [(4, .bool false), (5, .slice none 0 0), (6, .bool false), (7, .slice none 0 0)]
 rw [eW]; clear eW xs_0
 have ho5 := (ho_0.trans ho_4)
 clear ho_0 ho_4 d0 d1 d2 d3 d4 d5 d6 d7 f0 f1 f2 f3 f4 f5 f6 f7 xs
 replace hs := hs.u0 kb_b3 xs' ho5; clear xs'
 refine hK _ _ rfl trivial ?_; clear hK K
 refine sm ?_
 apply wpSq_end
 refine hK2 _ _ ?_
 refine wp_seq_k fun K3 hK3 => rg [0, 1, 2, 3, 4, 5, 6, 7] ?_
 refine sq ?_
 intro K hK
 have d0 : w_5.cell? ⟨p_b1, 0, none⟩ = some (.bool n_0a) := hs.g2.cell 0 rfl
 have d1 : w_5.cell? ⟨p_b1, 1, none⟩ = some (.slice o_0a k_0a c_0a) := hs.g2.cell 1 rfl
 have d2 : w_5.cell? ⟨p_b1, 2, none⟩ = some (.bool n_0b) := hs.g2.cell 2 rfl
 have d3 : w_5.cell? ⟨p_b1, 3, none⟩ = some (.slice o_0b k_0b c_0b) := hs.g2.cell 3 rfl
 have d4 : w_5.cell? ⟨p_b1, 4, none⟩ = some (.bool n_0c) := hs.g2.cell 4 rfl
 have d5 : w_5.cell? ⟨p_b1, 5, none⟩ = some (.slice o_0c k_0c c_0c) := hs.g2.cell 5 rfl
 have d6 : w_5.cell? ⟨p_b1, 6, none⟩ = some (.bool n_0d) := hs.g2.cell 6 rfl
 have d7 : w_5.cell? ⟨p_b1, 7, none⟩ = some (.slice o_0d k_0d c_0d) := hs.g2.cell 7 rfl
 go_big_op; refine hK _ _ rfl trivial ?_; clear hK K d0 d1 d2 d3 d4 d5 d6 d7
 refine sq ?_
 intro K hK
 have k2_5 := ((kb hb_3).b n4).o hd5 ho5
 replace ha1 := ha1.k k2_5
 replace ha2 := ha2.k k2_5
 replace ha3 := ha3.k k2_5
 replace ha4 := ha4.k k2_5
 go_big_op
 go_fit (gfNorm_bad (.mk' ha1 ha2 ha3 ha4) (by omega) (by omega) (by omega) (by omega) H.out)
 rintro e w_6 ⟨rfl, hb_6⟩
 replace hs := hs.bl hb_6
 refine hK _ _ rfl trivial ?_
 clear hK K
 refine sm ?_
 refine sr ?_
 refine sr ?_
 refine sq ?_
 refine .al hs ?_; clear hs; intro p_b4 w_7 hs n7 kb_b4
 refine sq ?_
 refine .s4 hs.g0 (fun _ => hs.u0 kb_b4) ?_; clear hs; intro w_8 hs hd8 ho8
 refine sm ?_
 apply wpSq_end
 refine hK3 _ _ ?_
 refine wp_seq_k fun K4 hK4 => rg [0, 1, 2, 3, 4, 5, 6, 7] ?_
 refine sq ?_
 intro K hK
 have d0 : w_8.cell? ⟨p_b1, 0, none⟩ = some (.bool n_0a) := hs.g3.cell 0 rfl
 have d1 : w_8.cell? ⟨p_b1, 1, none⟩ = some (.slice o_0a k_0a c_0a) := hs.g3.cell 1 rfl
 have d2 : w_8.cell? ⟨p_b1, 2, none⟩ = some (.bool n_0b) := hs.g3.cell 2 rfl
 have d3 : w_8.cell? ⟨p_b1, 3, none⟩ = some (.slice o_0b k_0b c_0b) := hs.g3.cell 3 rfl
 have d4 : w_8.cell? ⟨p_b1, 4, none⟩ = some (.bool n_0c) := hs.g3.cell 4 rfl
 have d5 : w_8.cell? ⟨p_b1, 5, none⟩ = some (.slice o_0c k_0c c_0c) := hs.g3.cell 5 rfl
 have d6 : w_8.cell? ⟨p_b1, 6, none⟩ = some (.bool n_0d) := hs.g3.cell 6 rfl
 have d7 : w_8.cell? ⟨p_b1, 7, none⟩ = some (.slice o_0d k_0d c_0d) := hs.g3.cell 7 rfl
 go_big_op; refine hK _ _ rfl trivial ?_; clear hK K d0 d1 d2 d3 d4 d5 d6 d7
 refine sq ?_
 intro K hK
 have k5_8 := ((kb hb_6).b n7).o hd8 ho8
 replace ha1 := ha1.k k5_8
 replace ha2 := ha2.k k5_8
 replace ha3 := ha3.k k5_8
 replace ha4 := ha4.k k5_8
 go_big_op
 go_fit (gfRound_bad (.mk' ha1 ha2 ha3 ha4) (by omega) (by omega) (by omega) (by omega) H.out)
 rintro e w_9 ⟨rfl, hb_9⟩
 replace hs := hs.bl hb_9
 refine hK _ _ rfl trivial ?_
 clear hK K
 refine sm ?_
 refine sr ?_
 refine sr ?_
 refine sq ?_
 refine .al hs ?_; clear hs; intro p_b5 w_10 hs n10 kb_b5
 refine sq ?_
 refine .s4 hs.g0 (fun _ => hs.u0 kb_b5) ?_; clear hs; intro w_11 hs hd11 ho11
 refine sm ?_
 apply wpSq_end
 refine hK4 _ _ ?_
 refine wp_seq_k fun K5 hK5 => rg [0, 1, 2, 3, 4, 5] ?_
 refine sm ?_
 refine sq ?_
 intro K hK
 go_big_op; (first | rw [ext_from] | rw [ext_fromI]); simp only [Oper.upon, Act.put, List.setIfInBounds_toArray, List.set_cons_succ, List.set_cons_zero]; refine hK _ _ rfl trivial ?_; clear hK K
 refine sm ?_
 refine sq ?_
 intro K hK
 go_big_op; (first | rw [ext_from] | rw [ext_fromI]); simp only [Oper.upon, Act.put, List.setIfInBounds_toArray, List.set_cons_succ, List.set_cons_zero]; refine hK _ _ rfl trivial ?_; clear hK K
 refine sm ?_
 refine sm ?_
 apply wpSq_end
 refine hK5 _ _ ?_
 refine wp_seq_k fun K6 hK6 => rg [0, 1, 2, 3, 4, 5, 6, 7, 8, 9] ?_
 refine sm ?_
 refine sm ?_
 refine sr ?_
 refine sq ?_
 intro K hK
 go_big_op
 go_fit (gfOfFloat_yes F1.out F3.out F0.out G0.out)
 rintro e w_12 ⟨_, rfl, ⟨n_ff1, o_ff1, k_ff1, c_ff1, n_ff2, o_ff2, k_ff2, c_ff2, n_ff3, o_ff3, k_ff3, c_ff3, n_ff4, o_ff4, k_ff4, c_ff4, rfl, ff1, ff2, ff3, ff4⟩, hb_12⟩
 replace hs := hs.bl hb_12
 refine hK _ _ rfl trivial ?_
 clear hK K
 refine sm ?_
 refine sr ?_
 refine sr ?_
 refine sq ?_
 refine .al hs ?_; clear hs; intro p_b6 w_13 hs n13 kb_b6
 refine sq ?_
 intro K hK
 have xs := hs.g0
 have d0 : w_13.cell? ⟨p_b6, 0, none⟩ = some (.bool false) := hs.g0.cell 0 rfl
 have d1 : w_13.cell? ⟨p_b6, 1, none⟩ = some (.slice none 0 0) := hs.g0.cell 1 rfl
 have d2 : w_13.cell? ⟨p_b6, 2, none⟩ = some (.bool false) := hs.g0.cell 2 rfl
 have d3 : w_13.cell? ⟨p_b6, 3, none⟩ = some (.slice none 0 0) := hs.g0.cell 3 rfl
 have d4 : w_13.cell? ⟨p_b6, 4, none⟩ = some (.bool false) := hs.g0.cell 4 rfl
 have d5 : w_13.cell? ⟨p_b6, 5, none⟩ = some (.slice none 0 0) := hs.g0.cell 5 rfl
 have d6 : w_13.cell? ⟨p_b6, 6, none⟩ = some (.bool false) := hs.g0.cell 6 rfl
 have d7 : w_13.cell? ⟨p_b6, 7, none⟩ = some (.slice none 0 0) := hs.g0.cell 7 rfl
 have f0 := xs.free 0; have f1 := xs.free 1; have f2 := xs.free 2; have f3 := xs.free 3; have f4 := xs.free 4; have f5 := xs.free 5; have f6 := xs.free 6; have f7 := xs.free 7
 go_big_op
 have hd14 := xs.nod rfl rfl
 obtain ⟨w_14_0, eW, xs_0, ho_0⟩ : ∃ w', ((((w_13.setCell ⟨p_b6, 0, none⟩ (.bool n_ff1)).setCell ⟨p_b6, 1, none⟩ (.slice o_ff1 k_ff1 c_ff1)).setCell ⟨p_b6, 2, none⟩ (.bool n_ff2)).setCell ⟨p_b6, 3, none⟩ (.slice o_ff2 k_ff2 c_ff2)) = w' ∧ Bs w' p_b6 #[.bool n_ff1, .slice o_ff1 k_ff1 c_ff1, .bool n_ff2, .slice o_ff2 k_ff2 c_ff2, .bool false, .slice none 0 0, .bool false, .slice none 0 0] 28 ∧ Only p_b6 w_13 w' := xs.setN [(0, .bool n_ff1), (1, .slice o_ff1 k_ff1 c_ff1), (2, .bool n_ff2), (3, .slice o_ff2 k_ff2 c_ff2)]
 rw [eW]; clear eW
 obtain ⟨w_14, eW, xs', ho_4⟩ : ∃ w', ((((w_14_0.setCell ⟨p_b6, 4, none⟩ (.bool n_ff3)).setCell ⟨p_b6, 5, none⟩ (.slice o_ff3 k_ff3 c_ff3)).setCell ⟨p_b6, 6, none⟩ (.bool n_ff4)).setCell ⟨p_b6, 7, none⟩ (.slice o_ff4 k_ff4 c_ff4)) = w' ∧ Bs w' p_b6 #[.bool n_ff1, .slice o_ff1 k_ff1 c_ff1, .bool n_ff2, .slice o_ff2 k_ff2 c_ff2, .bool n_ff3, .slice o_ff3 k_ff3 c_ff3, .bool n_ff4, .slice o_ff4 k_ff4 c_ff4] 28 ∧ Only p_b6 w_14_0 w' := xs_0.setN [(4, .bool n_ff3), (5, .slice o_ff3 k_ff3 c_ff3), (6, .bool n_ff4), (7, .slice o_ff4 k_ff4 c_ff4)]
 rw [eW]; clear eW xs_0
 have ho14 := (ho_0.trans ho_4)
 clear ho_0 ho_4 d0 d1 d2 d3 d4 d5 d6 d7 f0 f1 f2 f3 f4 f5 f6 f7 xs
 replace hs := hs.u0 kb_b6 xs' ho14; clear xs'
 refine hK _ _ rfl trivial ?_; clear hK K
 refine sm ?_
 apply wpSq_end
 refine hK6 _ _ ?_
 refine wp_seq_k ?_
 intro K7 hK7
 refine wp_seq_k ?_
 intro K8 hK8
 refine wp_region_f4 [(0, true), (1, false), (2, false), (3, false), (5, false), (4, true), (6, true), (7, true), (8, false), (9, false)] [] [] (fun _ => default) [99, 99, 99, 0, 99, 0, 99, 99, 99, 99] [] (.c hs.g4 .n) fn fun w_15 n15 => ?_
 replace hs := hs.bl n15
 refine fl fun w_16 n16 => ?_
 replace hs := hs.bl n16
 intro K hK
 have hb := hs.b
 go_big_op
 go_fit (awake7_any _ (htabs _ hb))
 rintro e w_17 ⟨rfl, hb_17⟩
 clear hb
 replace hs := hs.bl hb_17
 refine hK _ _ rfl ⟨hb_17, (And.intro hs.g4 trivial)⟩ ?_
 clear hK K
 refine f0 ?_
 refine fmv ?_
 refine f4 ?_
 refine f4 ?_
 refine fl fun w_18 n18 => ?_
 replace hs := hs.bl n18
 intro K hK
 have k0_18 := (((((((((((((((k0_2.b hb_3).b n4).o hd5 ho5).b hb_6).b n7).o hd8 ho8).b hb_9).b n10).o hd11 ho11).b hb_12).b n13).o hd14 ho14).b n15).b n16).b hb_17).b n18
 replace hq1 := hq1.k k0_18
 replace hq2 := hq2.k k0_18
 go_big_op
 go_fit (gfOf_any (.mk' hq1 hq2) (by omega) (by omega))
 rintro e w_19 ⟨_, rfl, ⟨n_go1, o_go1, k_go1, c_go1, n_go2, o_go2, k_go2, c_go2, n_go3, o_go3, k_go3, c_go3, n_go4, o_go4, k_go4, c_go4, rfl, go1, go2, go3, go4⟩, hb_19⟩
 replace hs := hs.bl hb_19
 refine hK _ _ rfl ⟨hb_19, (And.intro hs.g4 trivial)⟩ ?_
 clear hK K
 refine fl fun w_20 n20 => ?_
 replace hs := hs.bl n20
 intro K hK
 have k18_20 := (kb hb_19).b n20
 replace hq1 := hq1.k k18_20
 replace hq2 := hq2.k k18_20
 go_big_op
 go_fit (r7Of_any (.mk' hq1 hq2) (by omega) (by omega))
 rintro e w_21 ⟨_, rfl, ⟨n_ro1, o_ro1, k_ro1, c_ro1, n_ro2, o_ro2, k_ro2, c_ro2, n_ro3, o_ro3, k_ro3, c_ro3, n_ro4, o_ro4, k_ro4, c_ro4, rfl, ro1, ro2, ro3, ro4⟩, hb_21⟩
 replace hs := hs.bl hb_21
 have Lro1 := hide (ro1.lenOf (hq1.len))
 have Lro2 := hide (ro2.lenOf (zlen_i (1 : Int) (by decide) (by decide)))
 have Lro3 := hide (ro3.lenOf (hq2.len))
 have Lro4 := hide (ro4.lenOf (zlen_i (1 : Int) (by decide) (by decide)))
 refine hK _ _ rfl ⟨hb_21, (And.intro hs.g4 trivial)⟩ ?_
 clear hK K
 refine fl fun w_22 n22 => ?_
 replace hs := hs.bl n22
 intro K hK
 have k19_22 := ((kb n20).b hb_21).b n22
 replace go1 := go1.k k19_22
 replace go2 := go2.k k19_22
 replace go3 := go3.k k19_22
 replace go4 := go4.k k19_22
 have k21_22 := kb n22
 replace ro1 := ro1.k k21_22
 replace ro2 := ro2.k k21_22
 replace ro3 := ro3.k k21_22
 replace ro4 := ro4.k k21_22
 go_big_op
 go_fit (is7_raw (.mk' go1 go2 go3 go4) (.mk' (ro1.zn Lro1.out) (ro2.zn Lro2.out) (ro3.zn Lro3.out) (ro4.zn Lro4.out)) (by omega) (by omega) (by omega) (by omega) H1.out H1.out)
 rintro e w_23 ⟨rfl, hb_23⟩
 replace hs := hs.bl hb_23
 refine hK _ _ rfl ⟨hb_23, (And.intro hs.g4 trivial)⟩ ?_
 clear hK K
 refine f0 ?_
 refine f0 ?_
 refine e0 hs ?_; clear hs; intro w_24 hs n24
 clear go1 go2 go3 go4 ro1 ro2 ro3 ro4
 apply wpTail_end
 refine hK8 _ _ ?_
 refine cf ?_
 refine wp_skip ?_
 refine hK7 _ _ ?_
 refine wp_seq_k ?_
 intro K9 hK9
 refine wp_seq_k fun K10 hK10 => rg [0, 1, 2, 3, 4, 5, 6, 7] ?_
 refine sm ?_
 refine sq ?_
 intro K hK
 go_big_op
 go_fit (F2.out _)
 rintro e w_25 ⟨rfl, hb_25⟩
 replace hs := hs.bl hb_25
 refine hK _ _ rfl trivial ?_
 clear hK K
 refine sr ?_
 refine sm ?_
 refine sm ?_
 refine sq ?_
 intro K hK
 go_big_op
 go_fit (F4.out _)
 rintro e w_26 ⟨rfl, hb_26⟩
 replace hs := hs.bl hb_26
 refine hK _ _ rfl trivial ?_
 clear hK K
 refine sr ?_
 refine sr ?_
 apply wpSq_end
 refine hK10 _ _ ?_
 refine cf ?_
 refine wp_seq_k ?_
 intro K11 hK11
 refine wp_region_f4 [(0, false), (1, false), (2, false), (4, false), (3, true), (5, true), (6, false), (7, true), (8, false)] [] [] (fun _ => default) [0, 99, 99, 99, 99, 99, 99, 99, 99] [] (.c hs.g0 .n) fn fun w_27 n27 => ?_
 replace hs := hs.bl n27
 apply wpFl_ld rfl rfl; (case h1 => intro w' hC K hK; have c0 := Bs.cell hC 0 rfl; have c1 := Bs.cell hC 1 rfl; have c2 := Bs.cell hC 2 rfl; have c3 := Bs.cell hC 3 rfl; have c4 := Bs.cell hC 4 rfl; have c5 := Bs.cell hC 5 rfl; have c6 := Bs.cell hC 6 rfl; have c7 := Bs.cell hC 7 rfl; go_big_op; exact hK); iterate 4 kernel_rfl
 refine fmv ?_
 refine fmv ?_
 refine fmv ?_
 refine fl fun w_28 n28 => ?_
 replace hs := hs.bl n28
 intro K hK
 go_big_op
 go_fit (F5.out _)
 rintro e w_29 ⟨_, rfl, ⟨n_waa, o_waa, k_waa, c_waa, n_wab, o_wab, k_wab, c_wab, rfl, wa1, wa2⟩, hb_29⟩
 replace hs := hs.bl hb_29
 have Lwa1 := hide (wa1.lenOf (FL.out.1))
 have Lwa2 := hide (wa2.lenOf (FL.out.2))
 refine hK _ _ rfl ⟨hb_29, (And.intro hs.g0 trivial)⟩ ?_
 clear hK K
 refine fl fun w_30 n30 => ?_
 replace hs := hs.bl n30
 intro K hK
 go_big_op
 go_fit (F6.out _)
 rintro e w_31 ⟨_, rfl, ⟨n_wba, o_wba, k_wba, c_wba, n_wbb, o_wbb, k_wbb, c_wbb, rfl, wb1, wb2⟩, hb_31⟩
 replace hs := hs.bl hb_31
 have Lwb1 := hide (wb1.lenOf (GL.out.1))
 have Lwb2 := hide (wb2.lenOf (GL.out.2))
 refine hK _ _ rfl ⟨hb_31, (And.intro hs.g0 trivial)⟩ ?_
 clear hK K
 refine f0 ?_
 refine fl fun w_32 n32 => ?_
 replace hs := hs.bl n32
 intro K hK
 have k12_32 := (((((((((((((((((((kb n13).o hd14 ho14).b n15).b n16).b hb_17).b n18).b hb_19).b n20).b hb_21).b n22).b hb_23).b n24).b hb_25).b hb_26).b n27).b n28).b hb_29).b n30).b hb_31).b n32
 replace ff1 := ff1.k k12_32
 replace ff2 := ff2.k k12_32
 replace ff3 := ff3.k k12_32
 replace ff4 := ff4.k k12_32
 have k29_32 := ((kb n30).b hb_31).b n32
 replace wa1 := wa1.k k29_32
 replace wa2 := wa2.k k29_32
 have k31_32 := kb n32
 replace wb1 := wb1.k k31_32
 replace wb2 := wb2.k k31_32
 go_big_op
 go_fit (told7_ok (.mk' ff1 ff2 ff3 ff4) (.mk' (wa1.zn Lwa1.out) (wa2.zn Lwa2.out) (wb1.zn Lwb1.out) (wb2.zn Lwb2.out)) (by omega) (by omega) (by omega) (by omega))
 rintro e w_33 ⟨rfl, hb_33⟩
 replace hs := hs.bl hb_33
 refine hK _ _ rfl ⟨hb_33, (And.intro hs.g0 trivial)⟩ ?_
 clear hK K
 refine f0 ?_
 refine e0 hs ?_; clear hs; intro w_34 hs n34
 clear hq1 hq2 wa1 wa2 wb1 wb2
 apply wpTail_end
 refine hK11 _ _ ?_
 refine cf ?_
 refine wp_skip ?_
 refine hK9 _ _ ?_
 refine wp_seq_k ?_
 intro K12 hK12
 refine wp_seq_k fun K13 hK13 => rg [0, 1] ?_
 refine sq ?_
 intro K hK
 have d0 : w_34.cell? ⟨p_b1, 0, none⟩ = some (.bool n_0a) := hs.g5.cell 0 rfl
 have d1 : w_34.cell? ⟨p_b1, 1, none⟩ = some (.slice o_0a k_0a c_0a) := hs.g5.cell 1 rfl
 have d2 : w_34.cell? ⟨p_b1, 2, none⟩ = some (.bool n_0b) := hs.g5.cell 2 rfl
 have d3 : w_34.cell? ⟨p_b1, 3, none⟩ = some (.slice o_0b k_0b c_0b) := hs.g5.cell 3 rfl
 have d4 : w_34.cell? ⟨p_b1, 4, none⟩ = some (.bool n_0c) := hs.g5.cell 4 rfl
 have d5 : w_34.cell? ⟨p_b1, 5, none⟩ = some (.slice o_0c k_0c c_0c) := hs.g5.cell 5 rfl
 have d6 : w_34.cell? ⟨p_b1, 6, none⟩ = some (.bool n_0d) := hs.g5.cell 6 rfl
 have d7 : w_34.cell? ⟨p_b1, 7, none⟩ = some (.slice o_0d k_0d c_0d) := hs.g5.cell 7 rfl
 go_big_op; refine hK _ _ rfl trivial ?_; clear hK K d0 d1 d2 d3 d4 d5 d6 d7
 refine sq ?_
 intro K hK
 have k8_34 := (((((((((((((((((((((((((kb hb_9).b n10).o hd11 ho11).b hb_12).b n13).o hd14 ho14).b n15).b n16).b hb_17).b n18).b hb_19).b n20).b hb_21).b n22).b hb_23).b n24).b hb_25).b hb_26).b n27).b n28).b hb_29).b n30).b hb_31).b n32).b hb_33).b n34
 replace ha1 := ha1.k k8_34
 replace ha2 := ha2.k k8_34
 replace ha3 := ha3.k k8_34
 replace ha4 := ha4.k k8_34
 go_big_op
 go_fit (r7Bad_yes (CN.mk' ha1 ha2 ha3 ha4) (by omega) (by omega) (by omega) (by omega) H.out)
 rintro e w_35 ⟨rfl, hb_35⟩
 replace hs := hs.bl hb_35
 refine hK _ _ rfl trivial ?_
 clear hK K
 apply wpSq_end
 refine hK13 _ _ ?_
 refine ct ?_
 refine wp_seq_k fun K14 hK14 => rg [0, 1, 2, 3, 4, 5, 6, 7, 8, 9, 10, 11, 12, 13, 14, 15, 16, 17, 18, 19, 20] ?_
 refine sq ?_
 intro K hK
 have d0 : w_35.cell? ⟨p_b3, 0, none⟩ = some (.bool false) := hs.g3.cell 0 rfl
 have d1 : w_35.cell? ⟨p_b3, 1, none⟩ = some (.slice none 0 0) := hs.g3.cell 1 rfl
 have d2 : w_35.cell? ⟨p_b3, 2, none⟩ = some (.bool false) := hs.g3.cell 2 rfl
 have d3 : w_35.cell? ⟨p_b3, 3, none⟩ = some (.slice none 0 0) := hs.g3.cell 3 rfl
 have d4 : w_35.cell? ⟨p_b3, 4, none⟩ = some (.bool false) := hs.g3.cell 4 rfl
 have d5 : w_35.cell? ⟨p_b3, 5, none⟩ = some (.slice none 0 0) := hs.g3.cell 5 rfl
 have d6 : w_35.cell? ⟨p_b3, 6, none⟩ = some (.bool false) := hs.g3.cell 6 rfl
 have d7 : w_35.cell? ⟨p_b3, 7, none⟩ = some (.slice none 0 0) := hs.g3.cell 7 rfl
 go_big_op; refine hK _ _ rfl trivial ?_; clear hK K d0 d1 d2 d3 d4 d5 d6 d7
 refine sm ?_
 refine sq ?_
 intro K hK
 have d0 : w_35.cell? ⟨p_b3, 0, none⟩ = some (.bool false) := hs.g3.cell 0 rfl
 have d1 : w_35.cell? ⟨p_b3, 1, none⟩ = some (.slice none 0 0) := hs.g3.cell 1 rfl
 have d2 : w_35.cell? ⟨p_b3, 2, none⟩ = some (.bool false) := hs.g3.cell 2 rfl
 have d3 : w_35.cell? ⟨p_b3, 3, none⟩ = some (.slice none 0 0) := hs.g3.cell 3 rfl
 have d4 : w_35.cell? ⟨p_b3, 4, none⟩ = some (.bool false) := hs.g3.cell 4 rfl
 have d5 : w_35.cell? ⟨p_b3, 5, none⟩ = some (.slice none 0 0) := hs.g3.cell 5 rfl
 have d6 : w_35.cell? ⟨p_b3, 6, none⟩ = some (.bool false) := hs.g3.cell 6 rfl
 have d7 : w_35.cell? ⟨p_b3, 7, none⟩ = some (.slice none 0 0) := hs.g3.cell 7 rfl
 go_big_op; refine hK _ _ rfl trivial ?_; clear hK K d0 d1 d2 d3 d4 d5 d6 d7
 refine sq ?_
 intro K hK
 go_big_op
 go_fit (told7_err _ 5 (by decide))
 rintro e w_36 ⟨rfl, hb_36⟩
 replace hs := hs.bl hb_36
 refine hK _ _ rfl trivial ?_
 clear hK K
 refine sm ?_
 refine sm ?_
 refine sr ?_
 refine sr ?_
 refine sm ?_
 refine sq ?_
 refine .r4 hs.g2.f4 ?_
 refine sq ?_
 intro K hK
 go_big_op
 go_fit (rfzero_any _)
 rintro e w_37 ⟨rfl, hb_37⟩
 replace hs := hs.bl hb_37
 refine hK _ _ rfl trivial ?_
 clear hK K
 refine sr ?_
 refine sm ?_
 refine sm ?_
 refine sr ?_
 refine sr ?_
 refine sm ?_
 refine sq ?_
 refine .r4 hs.g1.f4 ?_
 refine sq ?_
 intro K hK
 go_big_op
 go_fit (r4zero_any _)
 rintro e w_38 ⟨rfl, hb_38⟩
 replace hs := hs.bl hb_38
 refine hK _ _ rfl trivial ?_
 clear hK K
 refine sr ?_
 refine sm ?_
 apply wpSq_end
 refine hK14 _ _ ?_
 refine wp_ret ?_
 try dsimp only [Exit.then, Exit.inBlock]
 refine bodyPost_ret (v := (.bool true)) (by simp [results, Tryz.results5, go_sem]) rfl ?_
 have hb := hs.b
 exact ⟨rfl, hb⟩
theorem single_ok_a {b c : Nat} (ha : CN w va x l y m u k v n) (hq : PN w vb p l2 q m2) (hl : l ≤ 1048576) (hm : m ≤ 1048576) (hk : k ≤ 1048576) (hn : n ≤ 1048576) (hl2 : l2 ≤ 1048576) (hm2 : m2 ≤ 1048576) (hy : y ≠ 0) (hv : v ≠ 0) (hf : FinNo b) (hb1 : b < 18446744073709551616) (hc1 : c < 18446744073709551616) (htab : Lib.TabIs Tryz.prog w p10 .u64 Lib.pow10Tab) :
   Calls Tryz.prog 5 #[va, vb, .int .u64 (b : Int), .int .u64 (c : Int)] w fun e w' => e = .returned (.bool true) ∧ Below w.heap.size w w' := by
 have htabs := Lib.tabBelow_of_tabIs htab
 obtain ⟨f1, f2⟩ := hf
 have F1 := hide f1
 have F2 := hide f2
 clear f1 f2
 have HA := hide (And.intro hy hv)
 clear hy hv
 have H1 := hide (show (1 : Int) ≠ 0 by decide)
 obtain ⟨n_0a, o_0a, k_0a, c_0a, n_0b, o_0b, k_0b, c_0b, n_0c, o_0c, k_0c, c_0c, n_0d, o_0d, k_0d, c_0d, rfl, ha1, ha2, ha3, ha4⟩ := ha
 obtain ⟨n_1a, o_1a, k_1a, c_1a, n_1b, o_1b, k_1b, c_1b, rfl, hq1, hq2⟩ := hq
 go_enter Tryz.func5, Tryz.ntmps5
 have hs := St.nil w
 refine wp_seq_k fun K1 hK1 => rg [0, 1, 2] ?_
 refine sq ?_
 refine .al hs ?_; clear hs; intro p_b1 w_1 hs n1 kb_b1
 refine sq ?_
 refine .al hs ?_; clear hs; intro p_b2 w_2 hs n2 kb_b2
 refine sm ?_
 apply wpSq_end
 refine hK1 _ _ ?_
 refine wp_seq_k fun K2 hK2 => rg [0, 1, 2, 3, 4, 5, 6, 7] ?_
 refine sq ?_
 intro K hK
 have d0 : w_2.cell? ⟨p_b1, 0, none⟩ = some (.bool n_0a) := hs.g1.cell 0 rfl
 have d1 : w_2.cell? ⟨p_b1, 1, none⟩ = some (.slice o_0a k_0a c_0a) := hs.g1.cell 1 rfl
 have d2 : w_2.cell? ⟨p_b1, 2, none⟩ = some (.bool n_0b) := hs.g1.cell 2 rfl
 have d3 : w_2.cell? ⟨p_b1, 3, none⟩ = some (.slice o_0b k_0b c_0b) := hs.g1.cell 3 rfl
 have d4 : w_2.cell? ⟨p_b1, 4, none⟩ = some (.bool n_0c) := hs.g1.cell 4 rfl
 have d5 : w_2.cell? ⟨p_b1, 5, none⟩ = some (.slice o_0c k_0c c_0c) := hs.g1.cell 5 rfl
 have d6 : w_2.cell? ⟨p_b1, 6, none⟩ = some (.bool n_0d) := hs.g1.cell 6 rfl
 have d7 : w_2.cell? ⟨p_b1, 7, none⟩ = some (.slice o_0d k_0d c_0d) := hs.g1.cell 7 rfl
 go_big_op; refine hK _ _ rfl trivial ?_; clear hK K d0 d1 d2 d3 d4 d5 d6 d7
 refine sq ?_
 intro K hK
 have k0_2 := (kb n1).b n2
 replace ha1 := ha1.k k0_2
 replace ha2 := ha2.k k0_2
 replace ha3 := ha3.k k0_2
 replace ha4 := ha4.k k0_2
 go_big_op
 go_fit (gfConj_ok (CN.mk' ha1 ha2 ha3 ha4) (by omega) (by omega) (by omega) (by omega) HA.out.1 HA.out.2)
 rintro e w_3 ⟨_, rfl, ⟨n_cj1, o_cj1, k_cj1, c_cj1, n_cj2, o_cj2, k_cj2, c_cj2, n_cj3, o_cj3, k_cj3, c_cj3, n_cj4, o_cj4, k_cj4, c_cj4, rfl, cj1, cj2, cj3, cj4⟩, hb_3⟩
 replace hs := hs.bl hb_3
 refine hK _ _ rfl trivial ?_
 clear hK K
 refine sm ?_
 refine sr ?_
 refine sr ?_
 refine sq ?_
 refine .al hs ?_; clear hs; intro p_b3 w_4 hs n4 kb_b3
 refine sq ?_
 intro K hK
 have xs := hs.g0
 have d0 : w_4.cell? ⟨p_b3, 0, none⟩ = some (.bool false) := hs.g0.cell 0 rfl
 have d1 : w_4.cell? ⟨p_b3, 1, none⟩ = some (.slice none 0 0) := hs.g0.cell 1 rfl
 have d2 : w_4.cell? ⟨p_b3, 2, none⟩ = some (.bool false) := hs.g0.cell 2 rfl
 have d3 : w_4.cell? ⟨p_b3, 3, none⟩ = some (.slice none 0 0) := hs.g0.cell 3 rfl
 have d4 : w_4.cell? ⟨p_b3, 4, none⟩ = some (.bool false) := hs.g0.cell 4 rfl
 have d5 : w_4.cell? ⟨p_b3, 5, none⟩ = some (.slice none 0 0) := hs.g0.cell 5 rfl
 have d6 : w_4.cell? ⟨p_b3, 6, none⟩ = some (.bool false) := hs.g0.cell 6 rfl
 have d7 : w_4.cell? ⟨p_b3, 7, none⟩ = some (.slice none 0 0) := hs.g0.cell 7 rfl
 have f0 := xs.free 0; have f1 := xs.free 1; have f2 := xs.free 2; have f3 := xs.free 3; have f4 := xs.free 4; have f5 := xs.free 5; have f6 := xs.free 6; have f7 := xs.free 7
 go_big_op
 have hd5 := xs.nod rfl rfl
 obtain ⟨w_5_0, eW, xs_0, ho_0⟩ : ∃ w', ((((w_4.setCell ⟨p_b3, 0, none⟩ (.bool n_cj1)).setCell ⟨p_b3, 1, none⟩ (.slice o_cj1 k_cj1 c_cj1)).setCell ⟨p_b3, 2, none⟩ (.bool n_cj2)).setCell ⟨p_b3, 3, none⟩ (.slice o_cj2 k_cj2 c_cj2)) = w' ∧ Bs w' p_b3 #[.bool n_cj1, .slice o_cj1 k_cj1 c_cj1, .bool n_cj2, .slice o_cj2 k_cj2 c_cj2, .bool false, .slice none 0 0, .bool false, .slice none 0 0] 28 ∧ Only p_b3 w_4 w' := xs.setN [(0, .bool n_cj1), (1, .slice o_cj1 k_cj1 c_cj1), (2, .bool n_cj2), (3, .slice o_cj2 k_cj2 c_cj2)]
 rw [eW]; clear eW
 obtain ⟨w_5, eW, xs', ho_4⟩ : ∃ w', ((((w_5_0.setCell ⟨p_b3, 4, none⟩ (.bool n_cj3)).setCell ⟨p_b3, 5, none⟩ (.slice o_cj3 k_cj3 c_cj3)).setCell ⟨p_b3, 6, none⟩ (.bool n_cj4)).setCell ⟨p_b3, 7, none⟩ (.slice o_cj4 k_cj4 c_cj4)) = w' ∧ Bs w' p_b3 #[.bool n_cj1, .slice o_cj1 k_cj1 c_cj1, .bool n_cj2, .slice o_cj2 k_cj2 c_cj2, .bool n_cj3, .slice o_cj3 k_cj3 c_cj3, .bool n_cj4, .slice o_cj4 k_cj4 c_cj4] 28 ∧ Only p_b3 w_5_0 w' := xs_0.setN [(4, .bool n_cj3), (5, .slice o_cj3 k_cj3 c_cj3), (6, .bool n_cj4), (7, .slice o_cj4 k_cj4 c_cj4)]
 rw [eW]; clear eW xs_0
 have ho5 := (ho_0.trans ho_4)
 clear ho_0 ho_4 d0 d1 d2 d3 d4 d5 d6 d7 f0 f1 f2 f3 f4 f5 f6 f7 xs
 replace hs := hs.u0 kb_b3 xs' ho5; clear xs'
 refine hK _ _ rfl trivial ?_; clear hK K
 refine sm ?_
 apply wpSq_end
 refine hK2 _ _ ?_
 refine wp_seq_k fun K3 hK3 => rg [0, 1, 2, 3, 4, 5, 6, 7] ?_
 refine sq ?_
 intro K hK
 have d0 : w_5.cell? ⟨p_b1, 0, none⟩ = some (.bool n_0a) := hs.g2.cell 0 rfl
 have d1 : w_5.cell? ⟨p_b1, 1, none⟩ = some (.slice o_0a k_0a c_0a) := hs.g2.cell 1 rfl
 have d2 : w_5.cell? ⟨p_b1, 2, none⟩ = some (.bool n_0b) := hs.g2.cell 2 rfl
 have d3 : w_5.cell? ⟨p_b1, 3, none⟩ = some (.slice o_0b k_0b c_0b) := hs.g2.cell 3 rfl
 have d4 : w_5.cell? ⟨p_b1, 4, none⟩ = some (.bool n_0c) := hs.g2.cell 4 rfl
 have d5 : w_5.cell? ⟨p_b1, 5, none⟩ = some (.slice o_0c k_0c c_0c) := hs.g2.cell 5 rfl
 have d6 : w_5.cell? ⟨p_b1, 6, none⟩ = some (.bool n_0d) := hs.g2.cell 6 rfl
 have d7 : w_5.cell? ⟨p_b1, 7, none⟩ = some (.slice o_0d k_0d c_0d) := hs.g2.cell 7 rfl
 go_big_op; refine hK _ _ rfl trivial ?_; clear hK K d0 d1 d2 d3 d4 d5 d6 d7
 refine sq ?_
 intro K hK
 have k2_5 := ((kb hb_3).b n4).o hd5 ho5
 replace ha1 := ha1.k k2_5
 replace ha2 := ha2.k k2_5
 replace ha3 := ha3.k k2_5
 replace ha4 := ha4.k k2_5
 go_big_op
 go_fit (gfNorm_ok (CN.mk' ha1 ha2 ha3 ha4) (by omega) (by omega) (by omega) (by omega) HA.out.1 HA.out.2)
 rintro e w_6 ⟨_, rfl, ⟨n_nma, o_nma, k_nma, c_nma, n_nmb, o_nmb, k_nmb, c_nmb, rfl, nm1, nm2⟩, hb_6⟩
 replace hs := hs.bl hb_6
 refine hK _ _ rfl trivial ?_
 clear hK K
 refine sm ?_
 refine sr ?_
 refine sr ?_
 refine sq ?_
 refine .al hs ?_; clear hs; intro p_b4 w_7 hs n7 kb_b4
 refine sq ?_
 refine .s4 hs.g0 (fun _ => hs.u0 kb_b4) ?_; clear hs; intro w_8 hs hd8 ho8
 refine sm ?_
 apply wpSq_end
 refine hK3 _ _ ?_
 refine wp_seq_k fun K4 hK4 => rg [0, 1, 2, 3, 4, 5, 6, 7] ?_
 refine sq ?_
 intro K hK
 have d0 : w_8.cell? ⟨p_b1, 0, none⟩ = some (.bool n_0a) := hs.g3.cell 0 rfl
 have d1 : w_8.cell? ⟨p_b1, 1, none⟩ = some (.slice o_0a k_0a c_0a) := hs.g3.cell 1 rfl
 have d2 : w_8.cell? ⟨p_b1, 2, none⟩ = some (.bool n_0b) := hs.g3.cell 2 rfl
 have d3 : w_8.cell? ⟨p_b1, 3, none⟩ = some (.slice o_0b k_0b c_0b) := hs.g3.cell 3 rfl
 have d4 : w_8.cell? ⟨p_b1, 4, none⟩ = some (.bool n_0c) := hs.g3.cell 4 rfl
 have d5 : w_8.cell? ⟨p_b1, 5, none⟩ = some (.slice o_0c k_0c c_0c) := hs.g3.cell 5 rfl
 have d6 : w_8.cell? ⟨p_b1, 6, none⟩ = some (.bool n_0d) := hs.g3.cell 6 rfl
 have d7 : w_8.cell? ⟨p_b1, 7, none⟩ = some (.slice o_0d k_0d c_0d) := hs.g3.cell 7 rfl
 go_big_op; refine hK _ _ rfl trivial ?_; clear hK K d0 d1 d2 d3 d4 d5 d6 d7
 refine sq ?_
 intro K hK
 have k5_8 := ((kb hb_6).b n7).o hd8 ho8
 replace ha1 := ha1.k k5_8
 replace ha2 := ha2.k k5_8
 replace ha3 := ha3.k k5_8
 replace ha4 := ha4.k k5_8
 go_big_op
 go_fit (gfRound_ok (.mk' ha1 ha2 ha3 ha4) (by omega) (by omega) (by omega) (by omega) HA.out.1 HA.out.2)
 rintro e w_9 ⟨_, rfl, ⟨n_rda, o_rda, k_rda, c_rda, n_rdb, o_rdb, k_rdb, c_rdb, rfl, rd1, rd2⟩, hb_9⟩
 replace hs := hs.bl hb_9
 refine hK _ _ rfl trivial ?_
 clear hK K
 refine sm ?_
 refine sr ?_
 refine sr ?_
 refine sq ?_
 refine .al hs ?_; clear hs; intro p_b5 w_10 hs n10 kb_b5
 refine sq ?_
 refine .s4 hs.g0 (fun _ => hs.u0 kb_b5) ?_; clear hs; intro w_11 hs hd11 ho11
 refine sm ?_
 apply wpSq_end
 refine hK4 _ _ ?_
 refine wp_seq_k fun K5 hK5 => rg [0, 1, 2, 3, 4, 5] ?_
 refine sm ?_
 refine sq ?_
 intro K hK
 go_big_op; (first | rw [ext_from] | rw [ext_fromI]); simp only [Oper.upon, Act.put, List.setIfInBounds_toArray, List.set_cons_succ, List.set_cons_zero]; refine hK _ _ rfl trivial ?_; clear hK K
 refine sm ?_
 refine sq ?_
 intro K hK
 go_big_op; (first | rw [ext_from] | rw [ext_fromI]); simp only [Oper.upon, Act.put, List.setIfInBounds_toArray, List.set_cons_succ, List.set_cons_zero]; refine hK _ _ rfl trivial ?_; clear hK K
 refine sm ?_
 refine sm ?_
 apply wpSq_end
 refine hK5 _ _ ?_
 refine wp_seq_k fun K6 hK6 => rg [0, 1, 2, 3, 4, 5, 6, 7, 8, 9] ?_
 refine sm ?_
 refine sm ?_
 refine sr ?_
 refine sq ?_
 intro K hK
 go_big_op
 go_fit (gfOfFloat_no1 F1.out)
 rintro e w_12 ⟨rfl, hb_12⟩
 replace hs := hs.bl hb_12
 refine hK _ _ rfl trivial ?_
 clear hK K
 refine sm ?_
 refine sr ?_
 refine sr ?_
 refine sq ?_
 refine .al hs ?_; clear hs; intro p_b6 w_13 hs n13 kb_b6
 refine sq ?_
 intro K hK
 have xs := hs.g0
 have d0 : w_13.cell? ⟨p_b6, 0, none⟩ = some (.bool false) := hs.g0.cell 0 rfl
 have d1 : w_13.cell? ⟨p_b6, 1, none⟩ = some (.slice none 0 0) := hs.g0.cell 1 rfl
 have d2 : w_13.cell? ⟨p_b6, 2, none⟩ = some (.bool false) := hs.g0.cell 2 rfl
 have d3 : w_13.cell? ⟨p_b6, 3, none⟩ = some (.slice none 0 0) := hs.g0.cell 3 rfl
 have d4 : w_13.cell? ⟨p_b6, 4, none⟩ = some (.bool false) := hs.g0.cell 4 rfl
 have d5 : w_13.cell? ⟨p_b6, 5, none⟩ = some (.slice none 0 0) := hs.g0.cell 5 rfl
 have d6 : w_13.cell? ⟨p_b6, 6, none⟩ = some (.bool false) := hs.g0.cell 6 rfl
 have d7 : w_13.cell? ⟨p_b6, 7, none⟩ = some (.slice none 0 0) := hs.g0.cell 7 rfl
 have f0 := xs.free 0; have f1 := xs.free 1; have f2 := xs.free 2; have f3 := xs.free 3; have f4 := xs.free 4; have f5 := xs.free 5; have f6 := xs.free 6; have f7 := xs.free 7
 go_big_op
 have hd14 := xs.nod rfl rfl
 obtain ⟨w_14_0, eW, xs_0, ho_0⟩ : ∃ w', ((((w_13.setCell ⟨p_b6, 0, none⟩ (.bool false)).setCell ⟨p_b6, 1, none⟩ (.slice none 0 0)).setCell ⟨p_b6, 2, none⟩ (.bool false)).setCell ⟨p_b6, 3, none⟩ (.slice none 0 0)) = w' ∧ Bs w' p_b6 #[.bool false, .slice none 0 0, .bool false, .slice none 0 0, .bool false, .slice none 0 0, .bool false, .slice none 0 0] 28 ∧ Only p_b6 w_13 w' := xs.setN [(0, .bool false), (1, .slice none 0 0), (2, .bool false), (3, .slice none 0 0)]
 rw [eW]; clear eW
 obtain ⟨w_14, eW, xs', ho_4⟩ : ∃ w', ((((w_14_0.setCell ⟨p_b6, 4, none⟩ (.bool false)).setCell ⟨p_b6, 5, none⟩ (.slice none 0 0)).setCell ⟨p_b6, 6, none⟩ (.bool false)).setCell ⟨p_b6, 7, none⟩ (.slice none 0 0)) = w' ∧ Bs w' p_b6 #[.bool false, .slice none 0 0, .bool false, .slice none 0 0, .bool false, .slice none 0 0, .bool false, .slice none 0 0] 28 ∧ Only p_b6 w_14_0 w' := xs_0.setN [(4, .bool false), (5, .slice none 0 0), (6, .bool false), (7, .slice none 0 0)]
 rw [eW]; clear eW xs_0
 have ho14 := (ho_0.trans ho_4)
 clear ho_0 ho_4 d0 d1 d2 d3 d4 d5 d6 d7 f0 f1 f2 f3 f4 f5 f6 f7 xs
 replace hs := hs.u0 kb_b6 xs' ho14; clear xs'
 refine hK _ _ rfl trivial ?_; clear hK K
 refine sm ?_
 apply wpSq_end
 refine hK6 _ _ ?_
 refine wp_seq_k ?_
 intro K7 hK7
 refine wp_seq_k ?_
 intro K8 hK8
 refine wp_region_f4 [(0, true), (1, false), (2, false), (3, false), (5, false), (4, true), (6, true), (7, true), (8, false), (9, false)] [] [] (fun _ => default) [99, 99, 99, 0, 99, 0, 99, 99, 99, 99] [] (.c hs.g4 .n) fn fun w_15 n15 => ?_
 replace hs := hs.bl n15
 refine fl fun w_16 n16 => ?_
 replace hs := hs.bl n16
 intro K hK
 have hb := hs.b
 go_big_op
 go_fit (awake7_any _ (htabs _ hb))
 rintro e w_17 ⟨rfl, hb_17⟩
 clear hb
 replace hs := hs.bl hb_17
 refine hK _ _ rfl ⟨hb_17, (And.intro hs.g4 trivial)⟩ ?_
 clear hK K
 refine f0 ?_
 refine fmv ?_
 refine f4 ?_
 refine f4 ?_
 refine fl fun w_18 n18 => ?_
 replace hs := hs.bl n18
 intro K hK
 have k0_18 := (((((((((((((((k0_2.b hb_3).b n4).o hd5 ho5).b hb_6).b n7).o hd8 ho8).b hb_9).b n10).o hd11 ho11).b hb_12).b n13).o hd14 ho14).b n15).b n16).b hb_17).b n18
 replace hq1 := hq1.k k0_18
 replace hq2 := hq2.k k0_18
 go_big_op
 go_fit (gfOf_any (.mk' hq1 hq2) (by omega) (by omega))
 rintro e w_19 ⟨_, rfl, ⟨n_go1, o_go1, k_go1, c_go1, n_go2, o_go2, k_go2, c_go2, n_go3, o_go3, k_go3, c_go3, n_go4, o_go4, k_go4, c_go4, rfl, go1, go2, go3, go4⟩, hb_19⟩
 replace hs := hs.bl hb_19
 refine hK _ _ rfl ⟨hb_19, (And.intro hs.g4 trivial)⟩ ?_
 clear hK K
 refine fl fun w_20 n20 => ?_
 replace hs := hs.bl n20
 intro K hK
 have k18_20 := (kb hb_19).b n20
 replace hq1 := hq1.k k18_20
 replace hq2 := hq2.k k18_20
 go_big_op
 go_fit (r7Of_any (.mk' hq1 hq2) (by omega) (by omega))
 rintro e w_21 ⟨_, rfl, ⟨n_ro1, o_ro1, k_ro1, c_ro1, n_ro2, o_ro2, k_ro2, c_ro2, n_ro3, o_ro3, k_ro3, c_ro3, n_ro4, o_ro4, k_ro4, c_ro4, rfl, ro1, ro2, ro3, ro4⟩, hb_21⟩
 replace hs := hs.bl hb_21
 have Lro1 := hide (ro1.lenOf (hq1.len))
 have Lro2 := hide (ro2.lenOf (zlen_i (1 : Int) (by decide) (by decide)))
 have Lro3 := hide (ro3.lenOf (hq2.len))
 have Lro4 := hide (ro4.lenOf (zlen_i (1 : Int) (by decide) (by decide)))
 refine hK _ _ rfl ⟨hb_21, (And.intro hs.g4 trivial)⟩ ?_
 clear hK K
 refine fl fun w_22 n22 => ?_
 replace hs := hs.bl n22
 intro K hK
 have k19_22 := ((kb n20).b hb_21).b n22
 replace go1 := go1.k k19_22
 replace go2 := go2.k k19_22
 replace go3 := go3.k k19_22
 replace go4 := go4.k k19_22
 have k21_22 := kb n22
 replace ro1 := ro1.k k21_22
 replace ro2 := ro2.k k21_22
 replace ro3 := ro3.k k21_22
 replace ro4 := ro4.k k21_22
 go_big_op
 go_fit (is7_raw (.mk' go1 go2 go3 go4) (.mk' (ro1.zn Lro1.out) (ro2.zn Lro2.out) (ro3.zn Lro3.out) (ro4.zn Lro4.out)) (by omega) (by omega) (by omega) (by omega) H1.out H1.out)
 rintro e w_23 ⟨rfl, hb_23⟩
 replace hs := hs.bl hb_23
 refine hK _ _ rfl ⟨hb_23, (And.intro hs.g4 trivial)⟩ ?_
 clear hK K
 refine f0 ?_
 refine f0 ?_
 refine e0 hs ?_; clear hs; intro w_24 hs n24
 clear go1 go2 go3 go4 ro1 ro2 ro3 ro4
 apply wpTail_end
 refine hK8 _ _ ?_
 refine cf ?_
 refine wp_skip ?_
 refine hK7 _ _ ?_
 refine wp_seq_k ?_
 intro K9 hK9
 refine wp_seq_k fun K10 hK10 => rg [0, 1, 2, 3, 4, 5, 6, 7] ?_
 refine sm ?_
 refine sq ?_
 intro K hK
 go_big_op
 go_fit (F2.out _)
 rintro e w_25 ⟨rfl, hb_25⟩
 replace hs := hs.bl hb_25
 refine hK _ _ rfl trivial ?_
 clear hK K
 refine sr ?_
 refine sm ?_
 refine sk ?_
 refine sk ?_
 refine sk ?_
 refine sr ?_
 apply wpSq_end
 refine hK10 _ _ ?_
 refine ct ?_
 refine wp_seq_k fun K11 hK11 => rg [0, 1, 2, 3, 4] ?_
 refine sq ?_
 intro K hK
 have d0 : w_25.cell? ⟨p_b6, 0, none⟩ = some (.bool false) := hs.g0.cell 0 rfl
 have d1 : w_25.cell? ⟨p_b6, 1, none⟩ = some (.slice none 0 0) := hs.g0.cell 1 rfl
 have d2 : w_25.cell? ⟨p_b6, 2, none⟩ = some (.bool false) := hs.g0.cell 2 rfl
 have d3 : w_25.cell? ⟨p_b6, 3, none⟩ = some (.slice none 0 0) := hs.g0.cell 3 rfl
 have d4 : w_25.cell? ⟨p_b6, 4, none⟩ = some (.bool false) := hs.g0.cell 4 rfl
 have d5 : w_25.cell? ⟨p_b6, 5, none⟩ = some (.slice none 0 0) := hs.g0.cell 5 rfl
 have d6 : w_25.cell? ⟨p_b6, 6, none⟩ = some (.bool false) := hs.g0.cell 6 rfl
 have d7 : w_25.cell? ⟨p_b6, 7, none⟩ = some (.slice none 0 0) := hs.g0.cell 7 rfl
 go_big_op; refine hK _ _ rfl trivial ?_; clear hK K d0 d1 d2 d3 d4 d5 d6 d7
 refine sm ?_
 refine sq ?_
 intro K hK
 have d0 : w_25.cell? ⟨p_b6, 0, none⟩ = some (.bool false) := hs.g0.cell 0 rfl
 have d1 : w_25.cell? ⟨p_b6, 1, none⟩ = some (.slice none 0 0) := hs.g0.cell 1 rfl
 have d2 : w_25.cell? ⟨p_b6, 2, none⟩ = some (.bool false) := hs.g0.cell 2 rfl
 have d3 : w_25.cell? ⟨p_b6, 3, none⟩ = some (.slice none 0 0) := hs.g0.cell 3 rfl
 have d4 : w_25.cell? ⟨p_b6, 4, none⟩ = some (.bool false) := hs.g0.cell 4 rfl
 have d5 : w_25.cell? ⟨p_b6, 5, none⟩ = some (.slice none 0 0) := hs.g0.cell 5 rfl
 have d6 : w_25.cell? ⟨p_b6, 6, none⟩ = some (.bool false) := hs.g0.cell 6 rfl
 have d7 : w_25.cell? ⟨p_b6, 7, none⟩ = some (.slice none 0 0) := hs.g0.cell 7 rfl
 go_big_op; refine hK _ _ rfl trivial ?_; clear hK K d0 d1 d2 d3 d4 d5 d6 d7
 refine sq ?_
 intro K hK
 go_big_op
 go_fit (told7_err _ 9 (by decide))
 rintro e w_26 ⟨rfl, hb_26⟩
 replace hs := hs.bl hb_26
 refine hK _ _ rfl trivial ?_
 clear hK K
 refine sr ?_
 apply wpSq_end
 refine hK11 _ _ ?_
 refine cf ?_
 refine wp_skip ?_
 refine hK9 _ _ ?_
 refine wp_seq_k ?_
 intro K12 hK12
 refine wp_seq_k fun K13 hK13 => rg [0, 1] ?_
 refine sq ?_
 intro K hK
 have d0 : w_26.cell? ⟨p_b1, 0, none⟩ = some (.bool n_0a) := hs.g5.cell 0 rfl
 have d1 : w_26.cell? ⟨p_b1, 1, none⟩ = some (.slice o_0a k_0a c_0a) := hs.g5.cell 1 rfl
 have d2 : w_26.cell? ⟨p_b1, 2, none⟩ = some (.bool n_0b) := hs.g5.cell 2 rfl
 have d3 : w_26.cell? ⟨p_b1, 3, none⟩ = some (.slice o_0b k_0b c_0b) := hs.g5.cell 3 rfl
 have d4 : w_26.cell? ⟨p_b1, 4, none⟩ = some (.bool n_0c) := hs.g5.cell 4 rfl
 have d5 : w_26.cell? ⟨p_b1, 5, none⟩ = some (.slice o_0c k_0c c_0c) := hs.g5.cell 5 rfl
 have d6 : w_26.cell? ⟨p_b1, 6, none⟩ = some (.bool n_0d) := hs.g5.cell 6 rfl
 have d7 : w_26.cell? ⟨p_b1, 7, none⟩ = some (.slice o_0d k_0d c_0d) := hs.g5.cell 7 rfl
 go_big_op; refine hK _ _ rfl trivial ?_; clear hK K d0 d1 d2 d3 d4 d5 d6 d7
 refine sq ?_
 intro K hK
 have k8_26 := (((((((((((((((((kb hb_9).b n10).o hd11 ho11).b hb_12).b n13).o hd14 ho14).b n15).b n16).b hb_17).b n18).b hb_19).b n20).b hb_21).b n22).b hb_23).b n24).b hb_25).b hb_26
 replace ha1 := ha1.k k8_26
 replace ha2 := ha2.k k8_26
 replace ha3 := ha3.k k8_26
 replace ha4 := ha4.k k8_26
 go_big_op
 go_fit (r7Bad_no (CN.mk' ha1 ha2 ha3 ha4) (by omega) (by omega) (by omega) (by omega) HA.out.1 HA.out.2)
 rintro e w_27 ⟨rfl, hb_27⟩
 replace hs := hs.bl hb_27
 refine hK _ _ rfl trivial ?_
 clear hK K
 apply wpSq_end
 refine hK13 _ _ ?_
 refine cf ?_
 refine wp_skip ?_
 refine hK12 _ _ ?_
 refine wp_seq_k ?_
 intro K14 hK14
 refine wp_region_f4 [(0, false), (1, false), (2, false), (3, true), (4, true), (5, false), (6, false), (7, false), (8, false), (9, false), (10, false), (11, false), (12, true), (13, true), (14, false), (15, false), (16, false), (17, false), (18, false), (19, false), (20, false), (21, false), (22, true), (23, true), (24, false), (25, false)] [] [] (fun _ => default) [0, 99, 1, 99, 99, 99, 99, 99, 99, 99, 2, 1, 99, 99, 99, 99, 99, 99, 99, 99, 3, 1, 99, 99, 99, 99] [] (.c hs.g3 (.c hs.g5 (.c hs.g2 (.c hs.g1 .n)))) fn fun w_28 n28 => ?_
 replace hs := hs.bl n28
 apply wpFl_ld rfl rfl; (case h1 => intro w' hC K hK; have c0 := Bs.cell hC 0 rfl; have c1 := Bs.cell hC 1 rfl; have c2 := Bs.cell hC 2 rfl; have c3 := Bs.cell hC 3 rfl; have c4 := Bs.cell hC 4 rfl; have c5 := Bs.cell hC 5 rfl; have c6 := Bs.cell hC 6 rfl; have c7 := Bs.cell hC 7 rfl; go_big_op; exact hK); iterate 4 kernel_rfl
 refine fmv ?_
 apply wpFl_ld rfl rfl; (case h1 => intro w' hC K hK; have c0 := Bs.cell hC 0 rfl; have c1 := Bs.cell hC 1 rfl; have c2 := Bs.cell hC 2 rfl; have c3 := Bs.cell hC 3 rfl; have c4 := Bs.cell hC 4 rfl; have c5 := Bs.cell hC 5 rfl; have c6 := Bs.cell hC 6 rfl; have c7 := Bs.cell hC 7 rfl; go_big_op; exact hK); iterate 4 kernel_rfl
 refine fl fun w_29 n29 => ?_
 replace hs := hs.bl n29
 intro K hK
 have k26_29 := ((kb hb_27).b n28).b n29
 replace ha1 := ha1.k k26_29
 replace ha2 := ha2.k k26_29
 replace ha3 := ha3.k k26_29
 replace ha4 := ha4.k k26_29
 go_big_op
 go_fit (r7Conj_ok (CN.mk' ha1 ha2 ha3 ha4) (by omega) (by omega) (by omega) (by omega) HA.out.1 HA.out.2)
 rintro e w_30 ⟨_, rfl, ⟨n_wc1, o_wc1, k_wc1, c_wc1, n_wc2, o_wc2, k_wc2, c_wc2, n_wc3, o_wc3, k_wc3, c_wc3, n_wc4, o_wc4, k_wc4, c_wc4, rfl, wc1, wc2, wc3, wc4⟩, hb_30⟩
 replace hs := hs.bl hb_30
 have Lwc1 := hide (wc1.lenOf ((r_len (HA.out.1) rfl (ha1.len) (ha2.len)).1))
 have Lwc2 := hide (wc2.lenOf ((r_len (HA.out.1) rfl (ha1.len) (ha2.len)).2))
 have Lwc3 := hide (wc3.lenOf ((r_len (HA.out.2) (rv_neg1 _ _) (zlen_neg (ha3.len)) (ha4.len)).1))
 have Lwc4 := hide (wc4.lenOf ((r_len (HA.out.2) (rv_neg1 _ _) (zlen_neg (ha3.len)) (ha4.len)).2))
 refine hK _ _ rfl ⟨hb_30, (And.intro hs.g3 (And.intro hs.g5 (And.intro hs.g2 (And.intro hs.g1 trivial))))⟩ ?_
 clear hK K
 refine fl fun w_31 n31 => ?_
 replace hs := hs.bl n31
 intro K hK
 have k3_31 := (((((((((((((((((((((((((((kb n4).o hd5 ho5).b hb_6).b n7).o hd8 ho8).b hb_9).b n10).o hd11 ho11).b hb_12).b n13).o hd14 ho14).b n15).b n16).b hb_17).b n18).b hb_19).b n20).b hb_21).b n22).b hb_23).b n24).b hb_25).b hb_26).b hb_27).b n28).b n29).b hb_30).b n31
 replace cj1 := cj1.k k3_31
 replace cj2 := cj2.k k3_31
 replace cj3 := cj3.k k3_31
 replace cj4 := cj4.k k3_31
 have k30_31 := kb n31
 replace wc1 := wc1.k k30_31
 replace wc2 := wc2.k k30_31
 replace wc3 := wc3.k k30_31
 replace wc4 := wc4.k k30_31
 go_big_op
 go_fit (told7_ok (.mk' cj1 cj2 cj3 cj4) (.mk' (wc1.zn Lwc1.out) (wc2.zn Lwc2.out) (wc3.zn Lwc3.out) (wc4.zn Lwc4.out)) (by omega) (by omega) (by omega) (by omega))
 rintro e w_32 ⟨rfl, hb_32⟩
 replace hs := hs.bl hb_32
 refine hK _ _ rfl ⟨hb_32, (And.intro hs.g3 (And.intro hs.g5 (And.intro hs.g2 (And.intro hs.g1 trivial))))⟩ ?_
 clear hK K
 refine fmv ?_
 refine fmv ?_
 refine f0 ?_
 refine f0 ?_
 refine fmv ?_
 refine f4 ?_
 apply wpFl_ld rfl rfl; (case h1 => intro w' hC K hK; have c0 := Bs.cell hC 0 rfl; have c1 := Bs.cell hC 1 rfl; have c2 := Bs.cell hC 2 rfl; have c3 := Bs.cell hC 3 rfl; have c4 := Bs.cell hC 4 rfl; have c5 := Bs.cell hC 5 rfl; have c6 := Bs.cell hC 6 rfl; have c7 := Bs.cell hC 7 rfl; go_big_op; exact hK); iterate 4 kernel_rfl
 refine fl fun w_33 n33 => ?_
 clear hq1 hq2 wc1 wc2 wc3 wc4
 replace hs := hs.bl n33
 intro K hK
 have k29_33 := (((kb hb_30).b n31).b hb_32).b n33
 replace ha1 := ha1.k k29_33
 replace ha2 := ha2.k k29_33
 replace ha3 := ha3.k k29_33
 replace ha4 := ha4.k k29_33
 go_big_op
 go_fit (r7Norm_ok (CN.mk' ha1 ha2 ha3 ha4) (by omega) (by omega) (by omega) (by omega) HA.out.1 HA.out.2)
 rintro e w_34 ⟨_, rfl, ⟨n_wna, o_wna, k_wna, c_wna, n_wnb, o_wnb, k_wnb, c_wnb, rfl, wn1, wn2⟩, hb_34⟩
 replace hs := hs.bl hb_34
 have Lwn1 := hide (wn1.lenOf ((r7n_len (HA.out.1) (HA.out.2) (ha1.len) (ha2.len) (ha3.len) (ha4.len)).1))
 have Lwn2 := hide (wn2.lenOf ((r7n_len (HA.out.1) (HA.out.2) (ha1.len) (ha2.len) (ha3.len) (ha4.len)).2))
 refine hK _ _ rfl ⟨hb_34, (And.intro hs.g3 (And.intro hs.g5 (And.intro hs.g2 (And.intro hs.g1 trivial))))⟩ ?_
 clear hK K
 refine fl fun w_35 n35 => ?_
 replace hs := hs.bl n35
 intro K hK
 have k6_35 := ((((((((((((((((((((((((((((kb n7).o hd8 ho8).b hb_9).b n10).o hd11 ho11).b hb_12).b n13).o hd14 ho14).b n15).b n16).b hb_17).b n18).b hb_19).b n20).b hb_21).b n22).b hb_23).b n24).b hb_25).b hb_26).b hb_27).b n28).b n29).b hb_30).b n31).b hb_32).b n33).b hb_34).b n35
 replace nm1 := nm1.k k6_35
 replace nm2 := nm2.k k6_35
 have k34_35 := kb n35
 replace wn1 := wn1.k k34_35
 replace wn2 := wn2.k k34_35
 go_big_op
 go_fit (rfsame_r (.mk' nm1 nm2) (.mk' (wn1.zn Lwn1.out) (wn2.zn Lwn2.out)) (by omega) (by omega))
 rintro e w_36 ⟨rfl, hb_36⟩
 replace hs := hs.bl hb_36
 refine hK _ _ rfl ⟨hb_36, (And.intro hs.g3 (And.intro hs.g5 (And.intro hs.g2 (And.intro hs.g1 trivial))))⟩ ?_
 clear hK K
 refine f0 ?_
 refine fmv ?_
 refine fmv ?_
 refine f0 ?_
 refine f0 ?_
 refine fmv ?_
 refine f4 ?_
 apply wpFl_ld rfl rfl; (case h1 => intro w' hC K hK; have c0 := Bs.cell hC 0 rfl; have c1 := Bs.cell hC 1 rfl; have c2 := Bs.cell hC 2 rfl; have c3 := Bs.cell hC 3 rfl; have c4 := Bs.cell hC 4 rfl; have c5 := Bs.cell hC 5 rfl; have c6 := Bs.cell hC 6 rfl; have c7 := Bs.cell hC 7 rfl; go_big_op; exact hK); iterate 4 kernel_rfl
 refine fl fun w_37 n37 => ?_
 replace hs := hs.bl n37
 intro K hK
 have k33_37 := (((kb hb_34).b n35).b hb_36).b n37
 replace ha1 := ha1.k k33_37
 replace ha2 := ha2.k k33_37
 replace ha3 := ha3.k k33_37
 replace ha4 := ha4.k k33_37
 go_big_op
 go_fit (r7Round_ok (.mk' ha1 ha2 ha3 ha4) (by omega) (by omega) (by omega) (by omega) HA.out.1 HA.out.2)
 rintro e w_38 ⟨_, rfl, ⟨n_wra, o_wra, k_wra, c_wra, n_wrb, o_wrb, k_wrb, c_wrb, rfl, wr1, wr2⟩, hb_38⟩
 replace hs := hs.bl hb_38
 have Lwr1 := hide (wr1.lenOf (rnd_len HA.out.1 ha1.len))
 have Lwr2 := hide (wr2.lenOf (rnd_len HA.out.2 ha3.len))
 refine hK _ _ rfl ⟨hb_38, (And.intro hs.g3 (And.intro hs.g5 (And.intro hs.g2 (And.intro hs.g1 trivial))))⟩ ?_
 clear hK K
 refine fl fun w_39 n39 => ?_
 replace hs := hs.bl n39
 intro K hK
 have k9_39 := (((((((((((((((((((((((((((((kb n10).o hd11 ho11).b hb_12).b n13).o hd14 ho14).b n15).b n16).b hb_17).b n18).b hb_19).b n20).b hb_21).b n22).b hb_23).b n24).b hb_25).b hb_26).b hb_27).b n28).b n29).b hb_30).b n31).b hb_32).b n33).b hb_34).b n35).b hb_36).b n37).b hb_38).b n39
 replace rd1 := rd1.k k9_39
 replace rd2 := rd2.k k9_39
 have k38_39 := kb n39
 replace wr1 := wr1.k k38_39
 replace wr2 := wr2.k k38_39
 go_big_op
 go_fit (rgSame_any (.mk' rd1 rd2) (.mk' (wr1.zn Lwr1.out) (wr2.zn Lwr2.out)) (by omega) (by omega))
 rintro e w_40 ⟨rfl, hb_40⟩
 replace hs := hs.bl hb_40
 refine hK _ _ rfl ⟨hb_40, (And.intro hs.g3 (And.intro hs.g5 (And.intro hs.g2 (And.intro hs.g1 trivial))))⟩ ?_
 clear hK K
 refine f0 ?_
 refine fmv ?_
 refine e0 hs ?_; clear hs; intro w_41 hs n41
 apply wpTail_end
 refine hK14 _ _ ?_
 refine wp_ret ?_
 try dsimp only [Exit.then, Exit.inBlock]
 refine bodyPost_ret (v := (.bool true)) (by simp [results, Tryz.results5, go_sem]) rfl ?_
 have hb := hs.b
 exact ⟨rfl, hb⟩
theorem single_ok_b {b c : Nat} (ha : CN w va x l y m u k v n) (hq : PN w vb p l2 q m2) (hl : l ≤ 1048576) (hm : m ≤ 1048576) (hk : k ≤ 1048576) (hn : n ≤ 1048576) (hl2 : l2 ≤ 1048576) (hm2 : m2 ≤ 1048576) (hy : y ≠ 0) (hv : v ≠ 0) {R : Rat} (hf : FinYes b R) (hg : FinNo c) (hb1 : b < 18446744073709551616) (hc1 : c < 18446744073709551616) (htab : Lib.TabIs Tryz.prog w p10 .u64 Lib.pow10Tab) :
   Calls Tryz.prog 5 #[va, vb, .int .u64 (b : Int), .int .u64 (c : Int)] w fun e w' => e = .returned (.bool true) ∧ Below w.heap.size w w' := by
 have htabs := Lib.tabBelow_of_tabIs htab
 obtain ⟨_, _, f1, f2, _⟩ := hf
 obtain ⟨f3, f4⟩ := hg
 have F1 := hide f1
 have F2 := hide f2
 have F3 := hide f3
 have F4 := hide f4
 clear f1 f2 f3 f4
 have HA := hide (And.intro hy hv)
 clear hy hv
 have H1 := hide (show (1 : Int) ≠ 0 by decide)
 obtain ⟨n_0a, o_0a, k_0a, c_0a, n_0b, o_0b, k_0b, c_0b, n_0c, o_0c, k_0c, c_0c, n_0d, o_0d, k_0d, c_0d, rfl, ha1, ha2, ha3, ha4⟩ := ha
 obtain ⟨n_1a, o_1a, k_1a, c_1a, n_1b, o_1b, k_1b, c_1b, rfl, hq1, hq2⟩ := hq
 go_enter Tryz.func5, Tryz.ntmps5
 have hs := St.nil w
 refine wp_seq_k fun K1 hK1 => rg [0, 1, 2] ?_
 refine sq ?_
 refine .al hs ?_; clear hs; intro p_b1 w_1 hs n1 kb_b1
 refine sq ?_
 refine .al hs ?_; clear hs; intro p_b2 w_2 hs n2 kb_b2
 refine sm ?_
 apply wpSq_end
 refine hK1 _ _ ?_
 refine wp_seq_k fun K2 hK2 => rg [0, 1, 2, 3, 4, 5, 6, 7] ?_
 refine sq ?_
 intro K hK
 have d0 : w_2.cell? ⟨p_b1, 0, none⟩ = some (.bool n_0a) := hs.g1.cell 0 rfl
 have d1 : w_2.cell? ⟨p_b1, 1, none⟩ = some (.slice o_0a k_0a c_0a) := hs.g1.cell 1 rfl
 have d2 : w_2.cell? ⟨p_b1, 2, none⟩ = some (.bool n_0b) := hs.g1.cell 2 rfl
 have d3 : w_2.cell? ⟨p_b1, 3, none⟩ = some (.slice o_0b k_0b c_0b) := hs.g1.cell 3 rfl
 have d4 : w_2.cell? ⟨p_b1, 4, none⟩ = some (.bool n_0c) := hs.g1.cell 4 rfl
 have d5 : w_2.cell? ⟨p_b1, 5, none⟩ = some (.slice o_0c k_0c c_0c) := hs.g1.cell 5 rfl
 have d6 : w_2.cell? ⟨p_b1, 6, none⟩ = some (.bool n_0d) := hs.g1.cell 6 rfl
 have d7 : w_2.cell? ⟨p_b1, 7, none⟩ = some (.slice o_0d k_0d c_0d) := hs.g1.cell 7 rfl
 go_big_op; refine hK _ _ rfl trivial ?_; clear hK K d0 d1 d2 d3 d4 d5 d6 d7
 refine sq ?_
 intro K hK
 have k0_2 := (kb n1).b n2
 replace ha1 := ha1.k k0_2
 replace ha2 := ha2.k k0_2
 replace ha3 := ha3.k k0_2
 replace ha4 := ha4.k k0_2
 go_big_op
 go_fit (gfConj_ok (CN.mk' ha1 ha2 ha3 ha4) (by omega) (by omega) (by omega) (by omega) HA.out.1 HA.out.2)
 rintro e w_3 ⟨_, rfl, ⟨n_cj1, o_cj1, k_cj1, c_cj1, n_cj2, o_cj2, k_cj2, c_cj2, n_cj3, o_cj3, k_cj3, c_cj3, n_cj4, o_cj4, k_cj4, c_cj4, rfl, cj1, cj2, cj3, cj4⟩, hb_3⟩
 replace hs := hs.bl hb_3
 refine hK _ _ rfl trivial ?_
 clear hK K
 refine sm ?_
 refine sr ?_
 refine sr ?_
 refine sq ?_
 refine .al hs ?_; clear hs; intro p_b3 w_4 hs n4 kb_b3
 refine sq ?_
 intro K hK
 have xs := hs.g0
 have d0 : w_4.cell? ⟨p_b3, 0, none⟩ = some (.bool false) := hs.g0.cell 0 rfl
 have d1 : w_4.cell? ⟨p_b3, 1, none⟩ = some (.slice none 0 0) := hs.g0.cell 1 rfl
 have d2 : w_4.cell? ⟨p_b3, 2, none⟩ = some (.bool false) := hs.g0.cell 2 rfl
 have d3 : w_4.cell? ⟨p_b3, 3, none⟩ = some (.slice none 0 0) := hs.g0.cell 3 rfl
 have d4 : w_4.cell? ⟨p_b3, 4, none⟩ = some (.bool false) := hs.g0.cell 4 rfl
 have d5 : w_4.cell? ⟨p_b3, 5, none⟩ = some (.slice none 0 0) := hs.g0.cell 5 rfl
 have d6 : w_4.cell? ⟨p_b3, 6, none⟩ = some (.bool false) := hs.g0.cell 6 rfl
 have d7 : w_4.cell? ⟨p_b3, 7, none⟩ = some (.slice none 0 0) := hs.g0.cell 7 rfl
 have f0 := xs.free 0; have f1 := xs.free 1; have f2 := xs.free 2; have f3 := xs.free 3; have f4 := xs.free 4; have f5 := xs.free 5; have f6 := xs.free 6; have f7 := xs.free 7
 go_big_op
 have hd5 := xs.nod rfl rfl
 obtain ⟨w_5_0, eW, xs_0, ho_0⟩ : ∃ w', ((((w_4.setCell ⟨p_b3, 0, none⟩ (.bool n_cj1)).setCell ⟨p_b3, 1, none⟩ (.slice o_cj1 k_cj1 c_cj1)).setCell ⟨p_b3, 2, none⟩ (.bool n_cj2)).setCell ⟨p_b3, 3, none⟩ (.slice o_cj2 k_cj2 c_cj2)) = w' ∧ Bs w' p_b3 #[.bool n_cj1, .slice o_cj1 k_cj1 c_cj1, .bool n_cj2, .slice o_cj2 k_cj2 c_cj2, .bool false, .slice none 0 0, .bool false, .slice none 0 0] 28 ∧ Only p_b3 w_4 w' := xs.setN [(0, .bool n_cj1), (1, .slice o_cj1 k_cj1 c_cj1), (2, .bool n_cj2), (3, .slice o_cj2 k_cj2 c_cj2)]
 rw [eW]; clear eW
 obtain ⟨w_5, eW, xs', ho_4⟩ : ∃ w', ((((w_5_0.setCell ⟨p_b3, 4, none⟩ (.bool n_cj3)).setCell ⟨p_b3, 5, none⟩ (.slice o_cj3 k_cj3 c_cj3)).setCell ⟨p_b3, 6, none⟩ (.bool n_cj4)).setCell ⟨p_b3, 7, none⟩ (.slice o_cj4 k_cj4 c_cj4)) = w' ∧ Bs w' p_b3 #[.bool n_cj1, .slice o_cj1 k_cj1 c_cj1, .bool n_cj2, .slice o_cj2 k_cj2 c_cj2, .bool n_cj3, .slice o_cj3 k_cj3 c_cj3, .bool n_cj4, .slice o_cj4 k_cj4 c_cj4] 28 ∧ Only p_b3 w_5_0 w' := xs_0.setN [(4, .bool n_cj3), (5, .slice o_cj3 k_cj3 c_cj3), (6, .bool n_cj4), (7, .slice o_cj4 k_cj4 c_cj4)]
 rw [eW]; clear eW xs_0
 have ho5 := (ho_0.trans ho_4)
 clear ho_0 ho_4 d0 d1 d2 d3 d4 d5 d6 d7 f0 f1 f2 f3 f4 f5 f6 f7 xs
 replace hs := hs.u0 kb_b3 xs' ho5; clear xs'
 refine hK _ _ rfl trivial ?_; clear hK K
 refine sm ?_
 apply wpSq_end
 refine hK2 _ _ ?_
 refine wp_seq_k fun K3 hK3 => rg [0, 1, 2, 3, 4, 5, 6, 7] ?_
 refine sq ?_
 intro K hK
 have d0 : w_5.cell? ⟨p_b1, 0, none⟩ = some (.bool n_0a) := hs.g2.cell 0 rfl
 have d1 : w_5.cell? ⟨p_b1, 1, none⟩ = some (.slice o_0a k_0a c_0a) := hs.g2.cell 1 rfl
 have d2 : w_5.cell? ⟨p_b1, 2, none⟩ = some (.bool n_0b) := hs.g2.cell 2 rfl
 have d3 : w_5.cell? ⟨p_b1, 3, none⟩ = some (.slice o_0b k_0b c_0b) := hs.g2.cell 3 rfl
 have d4 : w_5.cell? ⟨p_b1, 4, none⟩ = some (.bool n_0c) := hs.g2.cell 4 rfl
 have d5 : w_5.cell? ⟨p_b1, 5, none⟩ = some (.slice o_0c k_0c c_0c) := hs.g2.cell 5 rfl
 have d6 : w_5.cell? ⟨p_b1, 6, none⟩ = some (.bool n_0d) := hs.g2.cell 6 rfl
 have d7 : w_5.cell? ⟨p_b1, 7, none⟩ = some (.slice o_0d k_0d c_0d) := hs.g2.cell 7 rfl
 go_big_op; refine hK _ _ rfl trivial ?_; clear hK K d0 d1 d2 d3 d4 d5 d6 d7
 refine sq ?_
 intro K hK
 have k2_5 := ((kb hb_3).b n4).o hd5 ho5
 replace ha1 := ha1.k k2_5
 replace ha2 := ha2.k k2_5
 replace ha3 := ha3.k k2_5
 replace ha4 := ha4.k k2_5
 go_big_op
 go_fit (gfNorm_ok (CN.mk' ha1 ha2 ha3 ha4) (by omega) (by omega) (by omega) (by omega) HA.out.1 HA.out.2)
 rintro e w_6 ⟨_, rfl, ⟨n_nma, o_nma, k_nma, c_nma, n_nmb, o_nmb, k_nmb, c_nmb, rfl, nm1, nm2⟩, hb_6⟩
 replace hs := hs.bl hb_6
 refine hK _ _ rfl trivial ?_
 clear hK K
 refine sm ?_
 refine sr ?_
 refine sr ?_
 refine sq ?_
 refine .al hs ?_; clear hs; intro p_b4 w_7 hs n7 kb_b4
 refine sq ?_
 refine .s4 hs.g0 (fun _ => hs.u0 kb_b4) ?_; clear hs; intro w_8 hs hd8 ho8
 refine sm ?_
 apply wpSq_end
 refine hK3 _ _ ?_
 refine wp_seq_k fun K4 hK4 => rg [0, 1, 2, 3, 4, 5, 6, 7] ?_
 refine sq ?_
 intro K hK
 have d0 : w_8.cell? ⟨p_b1, 0, none⟩ = some (.bool n_0a) := hs.g3.cell 0 rfl
 have d1 : w_8.cell? ⟨p_b1, 1, none⟩ = some (.slice o_0a k_0a c_0a) := hs.g3.cell 1 rfl
 have d2 : w_8.cell? ⟨p_b1, 2, none⟩ = some (.bool n_0b) := hs.g3.cell 2 rfl
 have d3 : w_8.cell? ⟨p_b1, 3, none⟩ = some (.slice o_0b k_0b c_0b) := hs.g3.cell 3 rfl
 have d4 : w_8.cell? ⟨p_b1, 4, none⟩ = some (.bool n_0c) := hs.g3.cell 4 rfl
 have d5 : w_8.cell? ⟨p_b1, 5, none⟩ = some (.slice o_0c k_0c c_0c) := hs.g3.cell 5 rfl
 have d6 : w_8.cell? ⟨p_b1, 6, none⟩ = some (.bool n_0d) := hs.g3.cell 6 rfl
 have d7 : w_8.cell? ⟨p_b1, 7, none⟩ = some (.slice o_0d k_0d c_0d) := hs.g3.cell 7 rfl
 go_big_op; refine hK _ _ rfl trivial ?_; clear hK K d0 d1 d2 d3 d4 d5 d6 d7
 refine sq ?_
 intro K hK
 have k5_8 := ((kb hb_6).b n7).o hd8 ho8
 replace ha1 := ha1.k k5_8
 replace ha2 := ha2.k k5_8
 replace ha3 := ha3.k k5_8
 replace ha4 := ha4.k k5_8
 go_big_op
 go_fit (gfRound_ok (.mk' ha1 ha2 ha3 ha4) (by omega) (by omega) (by omega) (by omega) HA.out.1 HA.out.2)
 rintro e w_9 ⟨_, rfl, ⟨n_rda, o_rda, k_rda, c_rda, n_rdb, o_rdb, k_rdb, c_rdb, rfl, rd1, rd2⟩, hb_9⟩
 replace hs := hs.bl hb_9
 refine hK _ _ rfl trivial ?_
 clear hK K
 refine sm ?_
 refine sr ?_
 refine sr ?_
 refine sq ?_
 refine .al hs ?_; clear hs; intro p_b5 w_10 hs n10 kb_b5
 refine sq ?_
 refine .s4 hs.g0 (fun _ => hs.u0 kb_b5) ?_; clear hs; intro w_11 hs hd11 ho11
 refine sm ?_
 apply wpSq_end
 refine hK4 _ _ ?_
 refine wp_seq_k fun K5 hK5 => rg [0, 1, 2, 3, 4, 5] ?_
 refine sm ?_
 refine sq ?_
 intro K hK
 go_big_op; (first | rw [ext_from] | rw [ext_fromI]); simp only [Oper.upon, Act.put, List.setIfInBounds_toArray, List.set_cons_succ, List.set_cons_zero]; refine hK _ _ rfl trivial ?_; clear hK K
 refine sm ?_
 refine sq ?_
 intro K hK
 go_big_op; (first | rw [ext_from] | rw [ext_fromI]); simp only [Oper.upon, Act.put, List.setIfInBounds_toArray, List.set_cons_succ, List.set_cons_zero]; refine hK _ _ rfl trivial ?_; clear hK K
 refine sm ?_
 refine sm ?_
 apply wpSq_end
 refine hK5 _ _ ?_
 refine wp_seq_k fun K6 hK6 => rg [0, 1, 2, 3, 4, 5, 6, 7, 8, 9] ?_
 refine sm ?_
 refine sm ?_
 refine sr ?_
 refine sq ?_
 intro K hK
 go_big_op
 go_fit (gfOfFloat_no2 F1.out F3.out)
 rintro e w_12 ⟨rfl, hb_12⟩
 replace hs := hs.bl hb_12
 refine hK _ _ rfl trivial ?_
 clear hK K
 refine sm ?_
 refine sr ?_
 refine sr ?_
 refine sq ?_
 refine .al hs ?_; clear hs; intro p_b6 w_13 hs n13 kb_b6
 refine sq ?_
 intro K hK
 have xs := hs.g0
 have d0 : w_13.cell? ⟨p_b6, 0, none⟩ = some (.bool false) := hs.g0.cell 0 rfl
 have d1 : w_13.cell? ⟨p_b6, 1, none⟩ = some (.slice none 0 0) := hs.g0.cell 1 rfl
 have d2 : w_13.cell? ⟨p_b6, 2, none⟩ = some (.bool false) := hs.g0.cell 2 rfl
 have d3 : w_13.cell? ⟨p_b6, 3, none⟩ = some (.slice none 0 0) := hs.g0.cell 3 rfl
 have d4 : w_13.cell? ⟨p_b6, 4, none⟩ = some (.bool false) := hs.g0.cell 4 rfl
 have d5 : w_13.cell? ⟨p_b6, 5, none⟩ = some (.slice none 0 0) := hs.g0.cell 5 rfl
 have d6 : w_13.cell? ⟨p_b6, 6, none⟩ = some (.bool false) := hs.g0.cell 6 rfl
 have d7 : w_13.cell? ⟨p_b6, 7, none⟩ = some (.slice none 0 0) := hs.g0.cell 7 rfl
 have f0 := xs.free 0; have f1 := xs.free 1; have f2 := xs.free 2; have f3 := xs.free 3; have f4 := xs.free 4; have f5 := xs.free 5; have f6 := xs.free 6; have f7 := xs.free 7
 go_big_op
 have hd14 := xs.nod rfl rfl
 obtain ⟨w_14_0, eW, xs_0, ho_0⟩ : ∃ w', ((((w_13.setCell ⟨p_b6, 0, none⟩ (.bool false)).setCell ⟨p_b6, 1, none⟩ (.slice none 0 0)).setCell ⟨p_b6, 2, none⟩ (.bool false)).setCell ⟨p_b6, 3, none⟩ (.slice none 0 0)) = w' ∧ Bs w' p_b6 #[.bool false, .slice none 0 0, .bool false, .slice none 0 0, .bool false, .slice none 0 0, .bool false, .slice none 0 0] 28 ∧ Only p_b6 w_13 w' := xs.setN [(0, .bool false), (1, .slice none 0 0), (2, .bool false), (3, .slice none 0 0)]
 rw [eW]; clear eW
 obtain ⟨w_14, eW, xs', ho_4⟩ : ∃ w', ((((w_14_0.setCell ⟨p_b6, 4, none⟩ (.bool false)).setCell ⟨p_b6, 5, none⟩ (.slice none 0 0)).setCell ⟨p_b6, 6, none⟩ (.bool false)).setCell ⟨p_b6, 7, none⟩ (.slice none 0 0)) = w' ∧ Bs w' p_b6 #[.bool false, .slice none 0 0, .bool false, .slice none 0 0, .bool false, .slice none 0 0, .bool false, .slice none 0 0] 28 ∧ Only p_b6 w_14_0 w' := xs_0.setN [(4, .bool false), (5, .slice none 0 0), (6, .bool false), (7, .slice none 0 0)]
 rw [eW]; clear eW xs_0
 have ho14 := (ho_0.trans ho_4)
 clear ho_0 ho_4 d0 d1 d2 d3 d4 d5 d6 d7 f0 f1 f2 f3 f4 f5 f6 f7 xs
 replace hs := hs.u0 kb_b6 xs' ho14; clear xs'
 refine hK _ _ rfl trivial ?_; clear hK K
 refine sm ?_
 apply wpSq_end
 refine hK6 _ _ ?_
 refine wp_seq_k ?_
 intro K7 hK7
 refine wp_seq_k ?_
 intro K8 hK8
 refine wp_region_f4 [(0, true), (1, false), (2, false), (3, false), (5, false), (4, true), (6, true), (7, true), (8, false), (9, false)] [] [] (fun _ => default) [99, 99, 99, 0, 99, 0, 99, 99, 99, 99] [] (.c hs.g4 .n) fn fun w_15 n15 => ?_
 replace hs := hs.bl n15
 refine fl fun w_16 n16 => ?_
 replace hs := hs.bl n16
 intro K hK
 have hb := hs.b
 go_big_op
 go_fit (awake7_any _ (htabs _ hb))
 rintro e w_17 ⟨rfl, hb_17⟩
 clear hb
 replace hs := hs.bl hb_17
 refine hK _ _ rfl ⟨hb_17, (And.intro hs.g4 trivial)⟩ ?_
 clear hK K
 refine f0 ?_
 refine fmv ?_
 refine f4 ?_
 refine f4 ?_
 refine fl fun w_18 n18 => ?_
 replace hs := hs.bl n18
 intro K hK
 have k0_18 := (((((((((((((((k0_2.b hb_3).b n4).o hd5 ho5).b hb_6).b n7).o hd8 ho8).b hb_9).b n10).o hd11 ho11).b hb_12).b n13).o hd14 ho14).b n15).b n16).b hb_17).b n18
 replace hq1 := hq1.k k0_18
 replace hq2 := hq2.k k0_18
 go_big_op
 go_fit (gfOf_any (.mk' hq1 hq2) (by omega) (by omega))
 rintro e w_19 ⟨_, rfl, ⟨n_go1, o_go1, k_go1, c_go1, n_go2, o_go2, k_go2, c_go2, n_go3, o_go3, k_go3, c_go3, n_go4, o_go4, k_go4, c_go4, rfl, go1, go2, go3, go4⟩, hb_19⟩
 replace hs := hs.bl hb_19
 refine hK _ _ rfl ⟨hb_19, (And.intro hs.g4 trivial)⟩ ?_
 clear hK K
 refine fl fun w_20 n20 => ?_
 replace hs := hs.bl n20
 intro K hK
 have k18_20 := (kb hb_19).b n20
 replace hq1 := hq1.k k18_20
 replace hq2 := hq2.k k18_20
 go_big_op
 go_fit (r7Of_any (.mk' hq1 hq2) (by omega) (by omega))
 rintro e w_21 ⟨_, rfl, ⟨n_ro1, o_ro1, k_ro1, c_ro1, n_ro2, o_ro2, k_ro2, c_ro2, n_ro3, o_ro3, k_ro3, c_ro3, n_ro4, o_ro4, k_ro4, c_ro4, rfl, ro1, ro2, ro3, ro4⟩, hb_21⟩
 replace hs := hs.bl hb_21
 have Lro1 := hide (ro1.lenOf (hq1.len))
 have Lro2 := hide (ro2.lenOf (zlen_i (1 : Int) (by decide) (by decide)))
 have Lro3 := hide (ro3.lenOf (hq2.len))
 have Lro4 := hide (ro4.lenOf (zlen_i (1 : Int) (by decide) (by decide)))
 refine hK _ _ rfl ⟨hb_21, (And.intro hs.g4 trivial)⟩ ?_
 clear hK K
 refine fl fun w_22 n22 => ?_
 replace hs := hs.bl n22
 intro K hK
 have k19_22 := ((kb n20).b hb_21).b n22
 replace go1 := go1.k k19_22
 replace go2 := go2.k k19_22
 replace go3 := go3.k k19_22
 replace go4 := go4.k k19_22
 have k21_22 := kb n22
 replace ro1 := ro1.k k21_22
 replace ro2 := ro2.k k21_22
 replace ro3 := ro3.k k21_22
 replace ro4 := ro4.k k21_22
 go_big_op
 go_fit (is7_raw (.mk' go1 go2 go3 go4) (.mk' (ro1.zn Lro1.out) (ro2.zn Lro2.out) (ro3.zn Lro3.out) (ro4.zn Lro4.out)) (by omega) (by omega) (by omega) (by omega) H1.out H1.out)
 rintro e w_23 ⟨rfl, hb_23⟩
 replace hs := hs.bl hb_23
 refine hK _ _ rfl ⟨hb_23, (And.intro hs.g4 trivial)⟩ ?_
 clear hK K
 refine f0 ?_
 refine f0 ?_
 refine e0 hs ?_; clear hs; intro w_24 hs n24
 clear go1 go2 go3 go4 ro1 ro2 ro3 ro4
 apply wpTail_end
 refine hK8 _ _ ?_
 refine cf ?_
 refine wp_skip ?_
 refine hK7 _ _ ?_
 refine wp_seq_k ?_
 intro K9 hK9
 refine wp_seq_k fun K10 hK10 => rg [0, 1, 2, 3, 4, 5, 6, 7] ?_
 refine sm ?_
 refine sq ?_
 intro K hK
 go_big_op
 go_fit (F2.out _)
 rintro e w_25 ⟨rfl, hb_25⟩
 replace hs := hs.bl hb_25
 refine hK _ _ rfl trivial ?_
 clear hK K
 refine sr ?_
 refine sm ?_
 refine sm ?_
 refine sq ?_
 intro K hK
 go_big_op
 go_fit (F4.out _)
 rintro e w_26 ⟨rfl, hb_26⟩
 replace hs := hs.bl hb_26
 refine hK _ _ rfl trivial ?_
 clear hK K
 refine sr ?_
 refine sr ?_
 apply wpSq_end
 refine hK10 _ _ ?_
 refine ct ?_
 refine wp_seq_k fun K11 hK11 => rg [0, 1, 2, 3, 4] ?_
 refine sq ?_
 intro K hK
 have d0 : w_26.cell? ⟨p_b6, 0, none⟩ = some (.bool false) := hs.g0.cell 0 rfl
 have d1 : w_26.cell? ⟨p_b6, 1, none⟩ = some (.slice none 0 0) := hs.g0.cell 1 rfl
 have d2 : w_26.cell? ⟨p_b6, 2, none⟩ = some (.bool false) := hs.g0.cell 2 rfl
 have d3 : w_26.cell? ⟨p_b6, 3, none⟩ = some (.slice none 0 0) := hs.g0.cell 3 rfl
 have d4 : w_26.cell? ⟨p_b6, 4, none⟩ = some (.bool false) := hs.g0.cell 4 rfl
 have d5 : w_26.cell? ⟨p_b6, 5, none⟩ = some (.slice none 0 0) := hs.g0.cell 5 rfl
 have d6 : w_26.cell? ⟨p_b6, 6, none⟩ = some (.bool false) := hs.g0.cell 6 rfl
 have d7 : w_26.cell? ⟨p_b6, 7, none⟩ = some (.slice none 0 0) := hs.g0.cell 7 rfl
 go_big_op; refine hK _ _ rfl trivial ?_; clear hK K d0 d1 d2 d3 d4 d5 d6 d7
 refine sm ?_
 refine sq ?_
 intro K hK
 have d0 : w_26.cell? ⟨p_b6, 0, none⟩ = some (.bool false) := hs.g0.cell 0 rfl
 have d1 : w_26.cell? ⟨p_b6, 1, none⟩ = some (.slice none 0 0) := hs.g0.cell 1 rfl
 have d2 : w_26.cell? ⟨p_b6, 2, none⟩ = some (.bool false) := hs.g0.cell 2 rfl
 have d3 : w_26.cell? ⟨p_b6, 3, none⟩ = some (.slice none 0 0) := hs.g0.cell 3 rfl
 have d4 : w_26.cell? ⟨p_b6, 4, none⟩ = some (.bool false) := hs.g0.cell 4 rfl
 have d5 : w_26.cell? ⟨p_b6, 5, none⟩ = some (.slice none 0 0) := hs.g0.cell 5 rfl
 have d6 : w_26.cell? ⟨p_b6, 6, none⟩ = some (.bool false) := hs.g0.cell 6 rfl
 have d7 : w_26.cell? ⟨p_b6, 7, none⟩ = some (.slice none 0 0) := hs.g0.cell 7 rfl
 go_big_op; refine hK _ _ rfl trivial ?_; clear hK K d0 d1 d2 d3 d4 d5 d6 d7
 refine sq ?_
 intro K hK
 go_big_op
 go_fit (told7_err _ 9 (by decide))
 rintro e w_27 ⟨rfl, hb_27⟩
 replace hs := hs.bl hb_27
 refine hK _ _ rfl trivial ?_
 clear hK K
 refine sr ?_
 apply wpSq_end
 refine hK11 _ _ ?_
 refine cf ?_
 refine wp_skip ?_
 refine hK9 _ _ ?_
 refine wp_seq_k ?_
 intro K12 hK12
 refine wp_seq_k fun K13 hK13 => rg [0, 1] ?_
 refine sq ?_
 intro K hK
 have d0 : w_27.cell? ⟨p_b1, 0, none⟩ = some (.bool n_0a) := hs.g5.cell 0 rfl
 have d1 : w_27.cell? ⟨p_b1, 1, none⟩ = some (.slice o_0a k_0a c_0a) := hs.g5.cell 1 rfl
 have d2 : w_27.cell? ⟨p_b1, 2, none⟩ = some (.bool n_0b) := hs.g5.cell 2 rfl
 have d3 : w_27.cell? ⟨p_b1, 3, none⟩ = some (.slice o_0b k_0b c_0b) := hs.g5.cell 3 rfl
 have d4 : w_27.cell? ⟨p_b1, 4, none⟩ = some (.bool n_0c) := hs.g5.cell 4 rfl
 have d5 : w_27.cell? ⟨p_b1, 5, none⟩ = some (.slice o_0c k_0c c_0c) := hs.g5.cell 5 rfl
 have d6 : w_27.cell? ⟨p_b1, 6, none⟩ = some (.bool n_0d) := hs.g5.cell 6 rfl
 have d7 : w_27.cell? ⟨p_b1, 7, none⟩ = some (.slice o_0d k_0d c_0d) := hs.g5.cell 7 rfl
 go_big_op; refine hK _ _ rfl trivial ?_; clear hK K d0 d1 d2 d3 d4 d5 d6 d7
 refine sq ?_
 intro K hK
 have k8_27 := ((((((((((((((((((kb hb_9).b n10).o hd11 ho11).b hb_12).b n13).o hd14 ho14).b n15).b n16).b hb_17).b n18).b hb_19).b n20).b hb_21).b n22).b hb_23).b n24).b hb_25).b hb_26).b hb_27
 replace ha1 := ha1.k k8_27
 replace ha2 := ha2.k k8_27
 replace ha3 := ha3.k k8_27
 replace ha4 := ha4.k k8_27
 go_big_op
 go_fit (r7Bad_no (CN.mk' ha1 ha2 ha3 ha4) (by omega) (by omega) (by omega) (by omega) HA.out.1 HA.out.2)
 rintro e w_28 ⟨rfl, hb_28⟩
 replace hs := hs.bl hb_28
 refine hK _ _ rfl trivial ?_
 clear hK K
 apply wpSq_end
 refine hK13 _ _ ?_
 refine cf ?_
 refine wp_skip ?_
 refine hK12 _ _ ?_
 refine wp_seq_k ?_
 intro K14 hK14
 refine wp_region_f4 [(0, false), (1, false), (2, false), (3, true), (4, true), (5, false), (6, false), (7, false), (8, false), (9, false), (10, false), (11, false), (12, true), (13, true), (14, false), (15, false), (16, false), (17, false), (18, false), (19, false), (20, false), (21, false), (22, true), (23, true), (24, false), (25, false)] [] [] (fun _ => default) [0, 99, 1, 99, 99, 99, 99, 99, 99, 99, 2, 1, 99, 99, 99, 99, 99, 99, 99, 99, 3, 1, 99, 99, 99, 99] [] (.c hs.g3 (.c hs.g5 (.c hs.g2 (.c hs.g1 .n)))) fn fun w_29 n29 => ?_
 replace hs := hs.bl n29
 apply wpFl_ld rfl rfl; (case h1 => intro w' hC K hK; have c0 := Bs.cell hC 0 rfl; have c1 := Bs.cell hC 1 rfl; have c2 := Bs.cell hC 2 rfl; have c3 := Bs.cell hC 3 rfl; have c4 := Bs.cell hC 4 rfl; have c5 := Bs.cell hC 5 rfl; have c6 := Bs.cell hC 6 rfl; have c7 := Bs.cell hC 7 rfl; go_big_op; exact hK); iterate 4 kernel_rfl
 refine fmv ?_
 apply wpFl_ld rfl rfl; (case h1 => intro w' hC K hK; have c0 := Bs.cell hC 0 rfl; have c1 := Bs.cell hC 1 rfl; have c2 := Bs.cell hC 2 rfl; have c3 := Bs.cell hC 3 rfl; have c4 := Bs.cell hC 4 rfl; have c5 := Bs.cell hC 5 rfl; have c6 := Bs.cell hC 6 rfl; have c7 := Bs.cell hC 7 rfl; go_big_op; exact hK); iterate 4 kernel_rfl
 refine fl fun w_30 n30 => ?_
 replace hs := hs.bl n30
 intro K hK
 have k27_30 := ((kb hb_28).b n29).b n30
 replace ha1 := ha1.k k27_30
 replace ha2 := ha2.k k27_30
 replace ha3 := ha3.k k27_30
 replace ha4 := ha4.k k27_30
 go_big_op
 go_fit (r7Conj_ok (CN.mk' ha1 ha2 ha3 ha4) (by omega) (by omega) (by omega) (by omega) HA.out.1 HA.out.2)
 rintro e w_31 ⟨_, rfl, ⟨n_wc1, o_wc1, k_wc1, c_wc1, n_wc2, o_wc2, k_wc2, c_wc2, n_wc3, o_wc3, k_wc3, c_wc3, n_wc4, o_wc4, k_wc4, c_wc4, rfl, wc1, wc2, wc3, wc4⟩, hb_31⟩
 replace hs := hs.bl hb_31
 have Lwc1 := hide (wc1.lenOf ((r_len (HA.out.1) rfl (ha1.len) (ha2.len)).1))
 have Lwc2 := hide (wc2.lenOf ((r_len (HA.out.1) rfl (ha1.len) (ha2.len)).2))
 have Lwc3 := hide (wc3.lenOf ((r_len (HA.out.2) (rv_neg1 _ _) (zlen_neg (ha3.len)) (ha4.len)).1))
 have Lwc4 := hide (wc4.lenOf ((r_len (HA.out.2) (rv_neg1 _ _) (zlen_neg (ha3.len)) (ha4.len)).2))
 refine hK _ _ rfl ⟨hb_31, (And.intro hs.g3 (And.intro hs.g5 (And.intro hs.g2 (And.intro hs.g1 trivial))))⟩ ?_
 clear hK K
 refine fl fun w_32 n32 => ?_
 replace hs := hs.bl n32
 intro K hK
 have k3_32 := ((((((((((((((((((((((((((((kb n4).o hd5 ho5).b hb_6).b n7).o hd8 ho8).b hb_9).b n10).o hd11 ho11).b hb_12).b n13).o hd14 ho14).b n15).b n16).b hb_17).b n18).b hb_19).b n20).b hb_21).b n22).b hb_23).b n24).b hb_25).b hb_26).b hb_27).b hb_28).b n29).b n30).b hb_31).b n32
 replace cj1 := cj1.k k3_32
 replace cj2 := cj2.k k3_32
 replace cj3 := cj3.k k3_32
 replace cj4 := cj4.k k3_32
 have k31_32 := kb n32
 replace wc1 := wc1.k k31_32
 replace wc2 := wc2.k k31_32
 replace wc3 := wc3.k k31_32
 replace wc4 := wc4.k k31_32
 go_big_op
 go_fit (told7_ok (.mk' cj1 cj2 cj3 cj4) (.mk' (wc1.zn Lwc1.out) (wc2.zn Lwc2.out) (wc3.zn Lwc3.out) (wc4.zn Lwc4.out)) (by omega) (by omega) (by omega) (by omega))
 rintro e w_33 ⟨rfl, hb_33⟩
 replace hs := hs.bl hb_33
 refine hK _ _ rfl ⟨hb_33, (And.intro hs.g3 (And.intro hs.g5 (And.intro hs.g2 (And.intro hs.g1 trivial))))⟩ ?_
 clear hK K
 refine fmv ?_
 refine fmv ?_
 refine f0 ?_
 refine f0 ?_
 refine fmv ?_
 refine f4 ?_
 apply wpFl_ld rfl rfl; (case h1 => intro w' hC K hK; have c0 := Bs.cell hC 0 rfl; have c1 := Bs.cell hC 1 rfl; have c2 := Bs.cell hC 2 rfl; have c3 := Bs.cell hC 3 rfl; have c4 := Bs.cell hC 4 rfl; have c5 := Bs.cell hC 5 rfl; have c6 := Bs.cell hC 6 rfl; have c7 := Bs.cell hC 7 rfl; go_big_op; exact hK); iterate 4 kernel_rfl
 refine fl fun w_34 n34 => ?_
 clear hq1 hq2 wc1 wc2 wc3 wc4
 replace hs := hs.bl n34
 intro K hK
 have k30_34 := (((kb hb_31).b n32).b hb_33).b n34
 replace ha1 := ha1.k k30_34
 replace ha2 := ha2.k k30_34
 replace ha3 := ha3.k k30_34
 replace ha4 := ha4.k k30_34
 go_big_op
 go_fit (r7Norm_ok (CN.mk' ha1 ha2 ha3 ha4) (by omega) (by omega) (by omega) (by omega) HA.out.1 HA.out.2)
 rintro e w_35 ⟨_, rfl, ⟨n_wna, o_wna, k_wna, c_wna, n_wnb, o_wnb, k_wnb, c_wnb, rfl, wn1, wn2⟩, hb_35⟩
 replace hs := hs.bl hb_35
 have Lwn1 := hide (wn1.lenOf ((r7n_len (HA.out.1) (HA.out.2) (ha1.len) (ha2.len) (ha3.len) (ha4.len)).1))
 have Lwn2 := hide (wn2.lenOf ((r7n_len (HA.out.1) (HA.out.2) (ha1.len) (ha2.len) (ha3.len) (ha4.len)).2))
 refine hK _ _ rfl ⟨hb_35, (And.intro hs.g3 (And.intro hs.g5 (And.intro hs.g2 (And.intro hs.g1 trivial))))⟩ ?_
 clear hK K
 refine fl fun w_36 n36 => ?_
 replace hs := hs.bl n36
 intro K hK
 have k6_36 := (((((((((((((((((((((((((((((kb n7).o hd8 ho8).b hb_9).b n10).o hd11 ho11).b hb_12).b n13).o hd14 ho14).b n15).b n16).b hb_17).b n18).b hb_19).b n20).b hb_21).b n22).b hb_23).b n24).b hb_25).b hb_26).b hb_27).b hb_28).b n29).b n30).b hb_31).b n32).b hb_33).b n34).b hb_35).b n36
 replace nm1 := nm1.k k6_36
 replace nm2 := nm2.k k6_36
 have k35_36 := kb n36
 replace wn1 := wn1.k k35_36
 replace wn2 := wn2.k k35_36
 go_big_op
 go_fit (rfsame_r (.mk' nm1 nm2) (.mk' (wn1.zn Lwn1.out) (wn2.zn Lwn2.out)) (by omega) (by omega))
 rintro e w_37 ⟨rfl, hb_37⟩
 replace hs := hs.bl hb_37
 refine hK _ _ rfl ⟨hb_37, (And.intro hs.g3 (And.intro hs.g5 (And.intro hs.g2 (And.intro hs.g1 trivial))))⟩ ?_
 clear hK K
 refine f0 ?_
 refine fmv ?_
 refine fmv ?_
 refine f0 ?_
 refine f0 ?_
 refine fmv ?_
 refine f4 ?_
 apply wpFl_ld rfl rfl; (case h1 => intro w' hC K hK; have c0 := Bs.cell hC 0 rfl; have c1 := Bs.cell hC 1 rfl; have c2 := Bs.cell hC 2 rfl; have c3 := Bs.cell hC 3 rfl; have c4 := Bs.cell hC 4 rfl; have c5 := Bs.cell hC 5 rfl; have c6 := Bs.cell hC 6 rfl; have c7 := Bs.cell hC 7 rfl; go_big_op; exact hK); iterate 4 kernel_rfl
 refine fl fun w_38 n38 => ?_
 replace hs := hs.bl n38
 intro K hK
 have k34_38 := (((kb hb_35).b n36).b hb_37).b n38
 replace ha1 := ha1.k k34_38
 replace ha2 := ha2.k k34_38
 replace ha3 := ha3.k k34_38
 replace ha4 := ha4.k k34_38
 go_big_op
 go_fit (r7Round_ok (.mk' ha1 ha2 ha3 ha4) (by omega) (by omega) (by omega) (by omega) HA.out.1 HA.out.2)
 rintro e w_39 ⟨_, rfl, ⟨n_wra, o_wra, k_wra, c_wra, n_wrb, o_wrb, k_wrb, c_wrb, rfl, wr1, wr2⟩, hb_39⟩
 replace hs := hs.bl hb_39
 have Lwr1 := hide (wr1.lenOf (rnd_len HA.out.1 ha1.len))
 have Lwr2 := hide (wr2.lenOf (rnd_len HA.out.2 ha3.len))
 refine hK _ _ rfl ⟨hb_39, (And.intro hs.g3 (And.intro hs.g5 (And.intro hs.g2 (And.intro hs.g1 trivial))))⟩ ?_
 clear hK K
 refine fl fun w_40 n40 => ?_
 replace hs := hs.bl n40
 intro K hK
 have k9_40 := ((((((((((((((((((((((((((((((kb n10).o hd11 ho11).b hb_12).b n13).o hd14 ho14).b n15).b n16).b hb_17).b n18).b hb_19).b n20).b hb_21).b n22).b hb_23).b n24).b hb_25).b hb_26).b hb_27).b hb_28).b n29).b n30).b hb_31).b n32).b hb_33).b n34).b hb_35).b n36).b hb_37).b n38).b hb_39).b n40
 replace rd1 := rd1.k k9_40
 replace rd2 := rd2.k k9_40
 have k39_40 := kb n40
 replace wr1 := wr1.k k39_40
 replace wr2 := wr2.k k39_40
 go_big_op
 go_fit (rgSame_any (.mk' rd1 rd2) (.mk' (wr1.zn Lwr1.out) (wr2.zn Lwr2.out)) (by omega) (by omega))
 rintro e w_41 ⟨rfl, hb_41⟩
 replace hs := hs.bl hb_41
 refine hK _ _ rfl ⟨hb_41, (And.intro hs.g3 (And.intro hs.g5 (And.intro hs.g2 (And.intro hs.g1 trivial))))⟩ ?_
 clear hK K
 refine f0 ?_
 refine fmv ?_
 refine e0 hs ?_; clear hs; intro w_42 hs n42
 apply wpTail_end
 refine hK14 _ _ ?_
 refine wp_ret ?_
 try dsimp only [Exit.then, Exit.inBlock]
 refine bodyPost_ret (v := (.bool true)) (by simp [results, Tryz.results5, go_sem]) rfl ?_
 have hb := hs.b
 exact ⟨rfl, hb⟩
theorem single_ok_c {b c : Nat} (ha : CN w va x l y m u k v n) (hq : PN w vb p l2 q m2) (hl : l ≤ 1048576) (hm : m ≤ 1048576) (hk : k ≤ 1048576) (hn : n ≤ 1048576) (hl2 : l2 ≤ 1048576) (hm2 : m2 ≤ 1048576) (hy : y ≠ 0) (hv : v ≠ 0) {R T : Rat} (hf : FinYes b R) (hg : FinYes c T) (hb1 : b < 18446744073709551616) (hc1 : c < 18446744073709551616) (htab : Lib.TabIs Tryz.prog w p10 .u64 Lib.pow10Tab) :
   Calls Tryz.prog 5 #[va, vb, .int .u64 (b : Int), .int .u64 (c : Int)] w fun e w' => e = .returned (.bool true) ∧ Below w.heap.size w w' := by
 have htabs := Lib.tabBelow_of_tabIs htab
 obtain ⟨fl, f0, f1, f2, f5⟩ := hf
 obtain ⟨gl, g0, f3, f4, f6⟩ := hg
 have F0 := hide f0
 have G0 := hide g0
 have F1 := hide f1
 have F2 := hide f2
 have F3 := hide f3
 have F4 := hide f4
 have F5 := hide f5
 have F6 := hide f6
 have FL := hide fl
 have GL := hide gl
 clear f0 g0 f1 f2 f3 f4 f5 f6 fl gl
 have HA := hide (And.intro hy hv)
 clear hy hv
 have H1 := hide (show (1 : Int) ≠ 0 by decide)
 obtain ⟨n_0a, o_0a, k_0a, c_0a, n_0b, o_0b, k_0b, c_0b, n_0c, o_0c, k_0c, c_0c, n_0d, o_0d, k_0d, c_0d, rfl, ha1, ha2, ha3, ha4⟩ := ha
 obtain ⟨n_1a, o_1a, k_1a, c_1a, n_1b, o_1b, k_1b, c_1b, rfl, hq1, hq2⟩ := hq
 go_enter Tryz.func5, Tryz.ntmps5
 have hs := St.nil w
 refine wp_seq_k fun K1 hK1 => rg [0, 1, 2] ?_
 refine sq ?_
 refine .al hs ?_; clear hs; intro p_b1 w_1 hs n1 kb_b1
 refine sq ?_
 refine .al hs ?_; clear hs; intro p_b2 w_2 hs n2 kb_b2
 refine sm ?_
 apply wpSq_end
 refine hK1 _ _ ?_
 refine wp_seq_k fun K2 hK2 => rg [0, 1, 2, 3, 4, 5, 6, 7] ?_
 refine sq ?_
 intro K hK
 have d0 : w_2.cell? ⟨p_b1, 0, none⟩ = some (.bool n_0a) := hs.g1.cell 0 rfl
 have d1 : w_2.cell? ⟨p_b1, 1, none⟩ = some (.slice o_0a k_0a c_0a) := hs.g1.cell 1 rfl
 have d2 : w_2.cell? ⟨p_b1, 2, none⟩ = some (.bool n_0b) := hs.g1.cell 2 rfl
 have d3 : w_2.cell? ⟨p_b1, 3, none⟩ = some (.slice o_0b k_0b c_0b) := hs.g1.cell 3 rfl
 have d4 : w_2.cell? ⟨p_b1, 4, none⟩ = some (.bool n_0c) := hs.g1.cell 4 rfl
 have d5 : w_2.cell? ⟨p_b1, 5, none⟩ = some (.slice o_0c k_0c c_0c) := hs.g1.cell 5 rfl
 have d6 : w_2.cell? ⟨p_b1, 6, none⟩ = some (.bool n_0d) := hs.g1.cell 6 rfl
 have d7 : w_2.cell? ⟨p_b1, 7, none⟩ = some (.slice o_0d k_0d c_0d) := hs.g1.cell 7 rfl
 go_big_op; refine hK _ _ rfl trivial ?_; clear hK K d0 d1 d2 d3 d4 d5 d6 d7
 refine sq ?_
 intro K hK
 have k0_2 := (kb n1).b n2
 replace ha1 := ha1.k k0_2
 replace ha2 := ha2.k k0_2
 replace ha3 := ha3.k k0_2
 replace ha4 := ha4.k k0_2
 go_big_op
 go_fit (gfConj_ok (CN.mk' ha1 ha2 ha3 ha4) (by omega) (by omega) (by omega) (by omega) HA.out.1 HA.out.2)
 rintro e w_3 ⟨_, rfl, ⟨n_cj1, o_cj1, k_cj1, c_cj1, n_cj2, o_cj2, k_cj2, c_cj2, n_cj3, o_cj3, k_cj3, c_cj3, n_cj4, o_cj4, k_cj4, c_cj4, rfl, cj1, cj2, cj3, cj4⟩, hb_3⟩
 replace hs := hs.bl hb_3
 refine hK _ _ rfl trivial ?_
 clear hK K
 refine sm ?_
 refine sr ?_
 refine sr ?_
 refine sq ?_
 refine .al hs ?_; clear hs; intro p_b3 w_4 hs n4 kb_b3
 refine sq ?_
 intro K hK
 have xs := hs.g0
 have d0 : w_4.cell? ⟨p_b3, 0, none⟩ = some (.bool false) := hs.g0.cell 0 rfl
 have d1 : w_4.cell? ⟨p_b3, 1, none⟩ = some (.slice none 0 0) := hs.g0.cell 1 rfl
 have d2 : w_4.cell? ⟨p_b3, 2, none⟩ = some (.bool false) := hs.g0.cell 2 rfl
 have d3 : w_4.cell? ⟨p_b3, 3, none⟩ = some (.slice none 0 0) := hs.g0.cell 3 rfl
 have d4 : w_4.cell? ⟨p_b3, 4, none⟩ = some (.bool false) := hs.g0.cell 4 rfl
 have d5 : w_4.cell? ⟨p_b3, 5, none⟩ = some (.slice none 0 0) := hs.g0.cell 5 rfl
 have d6 : w_4.cell? ⟨p_b3, 6, none⟩ = some (.bool false) := hs.g0.cell 6 rfl
 have d7 : w_4.cell? ⟨p_b3, 7, none⟩ = some (.slice none 0 0) := hs.g0.cell 7 rfl
 have f0 := xs.free 0; have f1 := xs.free 1; have f2 := xs.free 2; have f3 := xs.free 3; have f4 := xs.free 4; have f5 := xs.free 5; have f6 := xs.free 6; have f7 := xs.free 7
 go_big_op
 have hd5 := xs.nod rfl rfl
 obtain ⟨w_5_0, eW, xs_0, ho_0⟩ : ∃ w', ((((w_4.setCell ⟨p_b3, 0, none⟩ (.bool n_cj1)).setCell ⟨p_b3, 1, none⟩ (.slice o_cj1 k_cj1 c_cj1)).setCell ⟨p_b3, 2, none⟩ (.bool n_cj2)).setCell ⟨p_b3, 3, none⟩ (.slice o_cj2 k_cj2 c_cj2)) = w' ∧ Bs w' p_b3 #[.bool n_cj1, .slice o_cj1 k_cj1 c_cj1, .bool n_cj2, .slice o_cj2 k_cj2 c_cj2, .bool false, .slice none 0 0, .bool false, .slice none 0 0] 28 ∧ Only p_b3 w_4 w' := xs.setN [(0, .bool n_cj1), (1, .slice o_cj1 k_cj1 c_cj1), (2, .bool n_cj2), (3, .slice o_cj2 k_cj2 c_cj2)]
 rw [eW]; clear eW
 obtain ⟨w_5, eW, xs', ho_4⟩ : ∃ w', ((((w_5_0.setCell ⟨p_b3, 4, none⟩ (.bool n_cj3)).setCell ⟨p_b3, 5, none⟩ (.slice o_cj3 k_cj3 c_cj3)).setCell ⟨p_b3, 6, none⟩ (.bool n_cj4)).setCell ⟨p_b3, 7, none⟩ (.slice o_cj4 k_cj4 c_cj4)) = w' ∧ Bs w' p_b3 #[.bool n_cj1, .slice o_cj1 k_cj1 c_cj1, .bool n_cj2, .slice o_cj2 k_cj2 c_cj2, .bool n_cj3, .slice o_cj3 k_cj3 c_cj3, .bool n_cj4, .slice o_cj4 k_cj4 c_cj4] 28 ∧ Only p_b3 w_5_0 w' := xs_0.setN [(4, .bool n_cj3), (5, .slice o_cj3 k_cj3 c_cj3), (6, .bool n_cj4), (7, .slice o_cj4 k_cj4 c_cj4)]
 rw [eW]; clear eW xs_0
 have ho5 := (ho_0.trans ho_4)
 clear ho_0 ho_4 d0 d1 d2 d3 d4 d5 d6 d7 f0 f1 f2 f3 f4 f5 f6 f7 xs
 replace hs := hs.u0 kb_b3 xs' ho5; clear xs'
 refine hK _ _ rfl trivial ?_; clear hK K
 refine sm ?_
 apply wpSq_end
 refine hK2 _ _ ?_
 refine wp_seq_k fun K3 hK3 => rg [0, 1, 2, 3, 4, 5, 6, 7] ?_
 refine sq ?_
 intro K hK
 have d0 : w_5.cell? ⟨p_b1, 0, none⟩ = some (.bool n_0a) := hs.g2.cell 0 rfl
 have d1 : w_5.cell? ⟨p_b1, 1, none⟩ = some (.slice o_0a k_0a c_0a) := hs.g2.cell 1 rfl
 have d2 : w_5.cell? ⟨p_b1, 2, none⟩ = some (.bool n_0b) := hs.g2.cell 2 rfl
 have d3 : w_5.cell? ⟨p_b1, 3, none⟩ = some (.slice o_0b k_0b c_0b) := hs.g2.cell 3 rfl
 have d4 : w_5.cell? ⟨p_b1, 4, none⟩ = some (.bool n_0c) := hs.g2.cell 4 rfl
 have d5 : w_5.cell? ⟨p_b1, 5, none⟩ = some (.slice o_0c k_0c c_0c) := hs.g2.cell 5 rfl
 have d6 : w_5.cell? ⟨p_b1, 6, none⟩ = some (.bool n_0d) := hs.g2.cell 6 rfl
 have d7 : w_5.cell? ⟨p_b1, 7, none⟩ = some (.slice o_0d k_0d c_0d) := hs.g2.cell 7 rfl
 go_big_op; refine hK _ _ rfl trivial ?_; clear hK K d0 d1 d2 d3 d4 d5 d6 d7
 refine sq ?_
 intro K hK
 have k2_5 := ((kb hb_3).b n4).o hd5 ho5
 replace ha1 := ha1.k k2_5
 replace ha2 := ha2.k k2_5
 replace ha3 := ha3.k k2_5
 replace ha4 := ha4.k k2_5
 go_big_op
 go_fit (gfNorm_ok (CN.mk' ha1 ha2 ha3 ha4) (by omega) (by omega) (by omega) (by omega) HA.out.1 HA.out.2)
 rintro e w_6 ⟨_, rfl, ⟨n_nma, o_nma, k_nma, c_nma, n_nmb, o_nmb, k_nmb, c_nmb, rfl, nm1, nm2⟩, hb_6⟩
 replace hs := hs.bl hb_6
 refine hK _ _ rfl trivial ?_
 clear hK K
 refine sm ?_
 refine sr ?_
 refine sr ?_
 refine sq ?_
 refine .al hs ?_; clear hs; intro p_b4 w_7 hs n7 kb_b4
 refine sq ?_
 refine .s4 hs.g0 (fun _ => hs.u0 kb_b4) ?_; clear hs; intro w_8 hs hd8 ho8
 refine sm ?_
 apply wpSq_end
 refine hK3 _ _ ?_
 refine wp_seq_k fun K4 hK4 => rg [0, 1, 2, 3, 4, 5, 6, 7] ?_
 refine sq ?_
 intro K hK
 have d0 : w_8.cell? ⟨p_b1, 0, none⟩ = some (.bool n_0a) := hs.g3.cell 0 rfl
 have d1 : w_8.cell? ⟨p_b1, 1, none⟩ = some (.slice o_0a k_0a c_0a) := hs.g3.cell 1 rfl
 have d2 : w_8.cell? ⟨p_b1, 2, none⟩ = some (.bool n_0b) := hs.g3.cell 2 rfl
 have d3 : w_8.cell? ⟨p_b1, 3, none⟩ = some (.slice o_0b k_0b c_0b) := hs.g3.cell 3 rfl
 have d4 : w_8.cell? ⟨p_b1, 4, none⟩ = some (.bool n_0c) := hs.g3.cell 4 rfl
 have d5 : w_8.cell? ⟨p_b1, 5, none⟩ = some (.slice o_0c k_0c c_0c) := hs.g3.cell 5 rfl
 have d6 : w_8.cell? ⟨p_b1, 6, none⟩ = some (.bool n_0d) := hs.g3.cell 6 rfl
 have d7 : w_8.cell? ⟨p_b1, 7, none⟩ = some (.slice o_0d k_0d c_0d) := hs.g3.cell 7 rfl
 go_big_op; refine hK _ _ rfl trivial ?_; clear hK K d0 d1 d2 d3 d4 d5 d6 d7
 refine sq ?_
 intro K hK
 have k5_8 := ((kb hb_6).b n7).o hd8 ho8
 replace ha1 := ha1.k k5_8
 replace ha2 := ha2.k k5_8
 replace ha3 := ha3.k k5_8
 replace ha4 := ha4.k k5_8
 go_big_op
 go_fit (gfRound_ok (.mk' ha1 ha2 ha3 ha4) (by omega) (by omega) (by omega) (by omega) HA.out.1 HA.out.2)
 rintro e w_9 ⟨_, rfl, ⟨n_rda, o_rda, k_rda, c_rda, n_rdb, o_rdb, k_rdb, c_rdb, rfl, rd1, rd2⟩, hb_9⟩
 replace hs := hs.bl hb_9
 refine hK _ _ rfl trivial ?_
 clear hK K
 refine sm ?_
 refine sr ?_
 refine sr ?_
 refine sq ?_
 refine .al hs ?_; clear hs; intro p_b5 w_10 hs n10 kb_b5
 refine sq ?_
 refine .s4 hs.g0 (fun _ => hs.u0 kb_b5) ?_; clear hs; intro w_11 hs hd11 ho11
 refine sm ?_
 apply wpSq_end
 refine hK4 _ _ ?_
 refine wp_seq_k fun K5 hK5 => rg [0, 1, 2, 3, 4, 5] ?_
 refine sm ?_
 refine sq ?_
 intro K hK
 go_big_op; (first | rw [ext_from] | rw [ext_fromI]); simp only [Oper.upon, Act.put, List.setIfInBounds_toArray, List.set_cons_succ, List.set_cons_zero]; refine hK _ _ rfl trivial ?_; clear hK K
 refine sm ?_
 refine sq ?_
 intro K hK
 go_big_op; (first | rw [ext_from] | rw [ext_fromI]); simp only [Oper.upon, Act.put, List.setIfInBounds_toArray, List.set_cons_succ, List.set_cons_zero]; refine hK _ _ rfl trivial ?_; clear hK K
 refine sm ?_
 refine sm ?_
 apply wpSq_end
 refine hK5 _ _ ?_
 refine wp_seq_k fun K6 hK6 => rg [0, 1, 2, 3, 4, 5, 6, 7, 8, 9] ?_
 refine sm ?_
 refine sm ?_
 refine sr ?_
 refine sq ?_
 intro K hK
 go_big_op
 go_fit (gfOfFloat_yes F1.out F3.out F0.out G0.out)
 rintro e w_12 ⟨_, rfl, ⟨n_ff1, o_ff1, k_ff1, c_ff1, n_ff2, o_ff2, k_ff2, c_ff2, n_ff3, o_ff3, k_ff3, c_ff3, n_ff4, o_ff4, k_ff4, c_ff4, rfl, ff1, ff2, ff3, ff4⟩, hb_12⟩
 replace hs := hs.bl hb_12
 refine hK _ _ rfl trivial ?_
 clear hK K
 refine sm ?_
 refine sr ?_
 refine sr ?_
 refine sq ?_
 refine .al hs ?_; clear hs; intro p_b6 w_13 hs n13 kb_b6
 refine sq ?_
 intro K hK
 have xs := hs.g0
 have d0 : w_13.cell? ⟨p_b6, 0, none⟩ = some (.bool false) := hs.g0.cell 0 rfl
 have d1 : w_13.cell? ⟨p_b6, 1, none⟩ = some (.slice none 0 0) := hs.g0.cell 1 rfl
 have d2 : w_13.cell? ⟨p_b6, 2, none⟩ = some (.bool false) := hs.g0.cell 2 rfl
 have d3 : w_13.cell? ⟨p_b6, 3, none⟩ = some (.slice none 0 0) := hs.g0.cell 3 rfl
 have d4 : w_13.cell? ⟨p_b6, 4, none⟩ = some (.bool false) := hs.g0.cell 4 rfl
 have d5 : w_13.cell? ⟨p_b6, 5, none⟩ = some (.slice none 0 0) := hs.g0.cell 5 rfl
 have d6 : w_13.cell? ⟨p_b6, 6, none⟩ = some (.bool false) := hs.g0.cell 6 rfl
 have d7 : w_13.cell? ⟨p_b6, 7, none⟩ = some (.slice none 0 0) := hs.g0.cell 7 rfl
 have f0 := xs.free 0; have f1 := xs.free 1; have f2 := xs.free 2; have f3 := xs.free 3; have f4 := xs.free 4; have f5 := xs.free 5; have f6 := xs.free 6; have f7 := xs.free 7
 go_big_op
 have hd14 := xs.nod rfl rfl
 obtain ⟨w_14_0, eW, xs_0, ho_0⟩ : ∃ w', ((((w_13.setCell ⟨p_b6, 0, none⟩ (.bool n_ff1)).setCell ⟨p_b6, 1, none⟩ (.slice o_ff1 k_ff1 c_ff1)).setCell ⟨p_b6, 2, none⟩ (.bool n_ff2)).setCell ⟨p_b6, 3, none⟩ (.slice o_ff2 k_ff2 c_ff2)) = w' ∧ Bs w' p_b6 #[.bool n_ff1, .slice o_ff1 k_ff1 c_ff1, .bool n_ff2, .slice o_ff2 k_ff2 c_ff2, .bool false, .slice none 0 0, .bool false, .slice none 0 0] 28 ∧ Only p_b6 w_13 w' := xs.setN [(0, .bool n_ff1), (1, .slice o_ff1 k_ff1 c_ff1), (2, .bool n_ff2), (3, .slice o_ff2 k_ff2 c_ff2)]
 rw [eW]; clear eW
 obtain ⟨w_14, eW, xs', ho_4⟩ : ∃ w', ((((w_14_0.setCell ⟨p_b6, 4, none⟩ (.bool n_ff3)).setCell ⟨p_b6, 5, none⟩ (.slice o_ff3 k_ff3 c_ff3)).setCell ⟨p_b6, 6, none⟩ (.bool n_ff4)).setCell ⟨p_b6, 7, none⟩ (.slice o_ff4 k_ff4 c_ff4)) = w' ∧ Bs w' p_b6 #[.bool n_ff1, .slice o_ff1 k_ff1 c_ff1, .bool n_ff2, .slice o_ff2 k_ff2 c_ff2, .bool n_ff3, .slice o_ff3 k_ff3 c_ff3, .bool n_ff4, .slice o_ff4 k_ff4 c_ff4] 28 ∧ Only p_b6 w_14_0 w' := xs_0.setN [(4, .bool n_ff3), (5, .slice o_ff3 k_ff3 c_ff3), (6, .bool n_ff4), (7, .slice o_ff4 k_ff4 c_ff4)]
 rw [eW]; clear eW xs_0
 have ho14 := (ho_0.trans ho_4)
 clear ho_0 ho_4 d0 d1 d2 d3 d4 d5 d6 d7 f0 f1 f2 f3 f4 f5 f6 f7 xs
 replace hs := hs.u0 kb_b6 xs' ho14; clear xs'
 refine hK _ _ rfl trivial ?_; clear hK K
 refine sm ?_
 apply wpSq_end
 refine hK6 _ _ ?_
 refine wp_seq_k ?_
 intro K7 hK7
 refine wp_seq_k ?_
 intro K8 hK8
 refine wp_region_f4 [(0, true), (1, false), (2, false), (3, false), (5, false), (4, true), (6, true), (7, true), (8, false), (9, false)] [] [] (fun _ => default) [99, 99, 99, 0, 99, 0, 99, 99, 99, 99] [] (.c hs.g4 .n) fn fun w_15 n15 => ?_
 replace hs := hs.bl n15
 refine fl fun w_16 n16 => ?_
 replace hs := hs.bl n16
 intro K hK
 have hb := hs.b
 go_big_op
 go_fit (awake7_any _ (htabs _ hb))
 rintro e w_17 ⟨rfl, hb_17⟩
 clear hb
 replace hs := hs.bl hb_17
 refine hK _ _ rfl ⟨hb_17, (And.intro hs.g4 trivial)⟩ ?_
 clear hK K
 refine f0 ?_
 refine fmv ?_
 refine f4 ?_
 refine f4 ?_
 refine fl fun w_18 n18 => ?_
 replace hs := hs.bl n18
 intro K hK
 have k0_18 := (((((((((((((((k0_2.b hb_3).b n4).o hd5 ho5).b hb_6).b n7).o hd8 ho8).b hb_9).b n10).o hd11 ho11).b hb_12).b n13).o hd14 ho14).b n15).b n16).b hb_17).b n18
 replace hq1 := hq1.k k0_18
 replace hq2 := hq2.k k0_18
 go_big_op
 go_fit (gfOf_any (.mk' hq1 hq2) (by omega) (by omega))
 rintro e w_19 ⟨_, rfl, ⟨n_go1, o_go1, k_go1, c_go1, n_go2, o_go2, k_go2, c_go2, n_go3, o_go3, k_go3, c_go3, n_go4, o_go4, k_go4, c_go4, rfl, go1, go2, go3, go4⟩, hb_19⟩
 replace hs := hs.bl hb_19
 refine hK _ _ rfl ⟨hb_19, (And.intro hs.g4 trivial)⟩ ?_
 clear hK K
 refine fl fun w_20 n20 => ?_
 replace hs := hs.bl n20
 intro K hK
 have k18_20 := (kb hb_19).b n20
 replace hq1 := hq1.k k18_20
 replace hq2 := hq2.k k18_20
 go_big_op
 go_fit (r7Of_any (.mk' hq1 hq2) (by omega) (by omega))
 rintro e w_21 ⟨_, rfl, ⟨n_ro1, o_ro1, k_ro1, c_ro1, n_ro2, o_ro2, k_ro2, c_ro2, n_ro3, o_ro3, k_ro3, c_ro3, n_ro4, o_ro4, k_ro4, c_ro4, rfl, ro1, ro2, ro3, ro4⟩, hb_21⟩
 replace hs := hs.bl hb_21
 have Lro1 := hide (ro1.lenOf (hq1.len))
 have Lro2 := hide (ro2.lenOf (zlen_i (1 : Int) (by decide) (by decide)))
 have Lro3 := hide (ro3.lenOf (hq2.len))
 have Lro4 := hide (ro4.lenOf (zlen_i (1 : Int) (by decide) (by decide)))
 refine hK _ _ rfl ⟨hb_21, (And.intro hs.g4 trivial)⟩ ?_
 clear hK K
 refine fl fun w_22 n22 => ?_
 replace hs := hs.bl n22
 intro K hK
 have k19_22 := ((kb n20).b hb_21).b n22
 replace go1 := go1.k k19_22
 replace go2 := go2.k k19_22
 replace go3 := go3.k k19_22
 replace go4 := go4.k k19_22
 have k21_22 := kb n22
 replace ro1 := ro1.k k21_22
 replace ro2 := ro2.k k21_22
 replace ro3 := ro3.k k21_22
 replace ro4 := ro4.k k21_22
 go_big_op
 go_fit (is7_raw (.mk' go1 go2 go3 go4) (.mk' (ro1.zn Lro1.out) (ro2.zn Lro2.out) (ro3.zn Lro3.out) (ro4.zn Lro4.out)) (by omega) (by omega) (by omega) (by omega) H1.out H1.out)
 rintro e w_23 ⟨rfl, hb_23⟩
 replace hs := hs.bl hb_23
 refine hK _ _ rfl ⟨hb_23, (And.intro hs.g4 trivial)⟩ ?_
 clear hK K
 refine f0 ?_
 refine f0 ?_
 refine e0 hs ?_; clear hs; intro w_24 hs n24
 clear go1 go2 go3 go4 ro1 ro2 ro3 ro4
 apply wpTail_end
 refine hK8 _ _ ?_
 refine cf ?_
 refine wp_skip ?_
 refine hK7 _ _ ?_
 refine wp_seq_k ?_
 intro K9 hK9
 refine wp_seq_k fun K10 hK10 => rg [0, 1, 2, 3, 4, 5, 6, 7] ?_
 refine sm ?_
 refine sq ?_
 intro K hK
 go_big_op
 go_fit (F2.out _)
 rintro e w_25 ⟨rfl, hb_25⟩
 replace hs := hs.bl hb_25
 refine hK _ _ rfl trivial ?_
 clear hK K
 refine sr ?_
 refine sm ?_
 refine sm ?_
 refine sq ?_
 intro K hK
 go_big_op
 go_fit (F4.out _)
 rintro e w_26 ⟨rfl, hb_26⟩
 replace hs := hs.bl hb_26
 refine hK _ _ rfl trivial ?_
 clear hK K
 refine sr ?_
 refine sr ?_
 apply wpSq_end
 refine hK10 _ _ ?_
 refine cf ?_
 refine wp_seq_k ?_
 intro K11 hK11
 refine wp_region_f4 [(0, false), (1, false), (2, false), (4, false), (3, true), (5, true), (6, false), (7, true), (8, false)] [] [] (fun _ => default) [0, 99, 99, 99, 99, 99, 99, 99, 99] [] (.c hs.g0 .n) fn fun w_27 n27 => ?_
 replace hs := hs.bl n27
 apply wpFl_ld rfl rfl; (case h1 => intro w' hC K hK; have c0 := Bs.cell hC 0 rfl; have c1 := Bs.cell hC 1 rfl; have c2 := Bs.cell hC 2 rfl; have c3 := Bs.cell hC 3 rfl; have c4 := Bs.cell hC 4 rfl; have c5 := Bs.cell hC 5 rfl; have c6 := Bs.cell hC 6 rfl; have c7 := Bs.cell hC 7 rfl; go_big_op; exact hK); iterate 4 kernel_rfl
 refine fmv ?_
 refine fmv ?_
 refine fmv ?_
 refine fl fun w_28 n28 => ?_
 replace hs := hs.bl n28
 intro K hK
 go_big_op
 go_fit (F5.out _)
 rintro e w_29 ⟨_, rfl, ⟨n_waa, o_waa, k_waa, c_waa, n_wab, o_wab, k_wab, c_wab, rfl, wa1, wa2⟩, hb_29⟩
 replace hs := hs.bl hb_29
 have Lwa1 := hide (wa1.lenOf (FL.out.1))
 have Lwa2 := hide (wa2.lenOf (FL.out.2))
 refine hK _ _ rfl ⟨hb_29, (And.intro hs.g0 trivial)⟩ ?_
 clear hK K
 refine fl fun w_30 n30 => ?_
 replace hs := hs.bl n30
 intro K hK
 go_big_op
 go_fit (F6.out _)
 rintro e w_31 ⟨_, rfl, ⟨n_wba, o_wba, k_wba, c_wba, n_wbb, o_wbb, k_wbb, c_wbb, rfl, wb1, wb2⟩, hb_31⟩
 replace hs := hs.bl hb_31
 have Lwb1 := hide (wb1.lenOf (GL.out.1))
 have Lwb2 := hide (wb2.lenOf (GL.out.2))
 refine hK _ _ rfl ⟨hb_31, (And.intro hs.g0 trivial)⟩ ?_
 clear hK K
 refine f0 ?_
 refine fl fun w_32 n32 => ?_
 replace hs := hs.bl n32
 intro K hK
 have k12_32 := (((((((((((((((((((kb n13).o hd14 ho14).b n15).b n16).b hb_17).b n18).b hb_19).b n20).b hb_21).b n22).b hb_23).b n24).b hb_25).b hb_26).b n27).b n28).b hb_29).b n30).b hb_31).b n32
 replace ff1 := ff1.k k12_32
 replace ff2 := ff2.k k12_32
 replace ff3 := ff3.k k12_32
 replace ff4 := ff4.k k12_32
 have k29_32 := ((kb n30).b hb_31).b n32
 replace wa1 := wa1.k k29_32
 replace wa2 := wa2.k k29_32
 have k31_32 := kb n32
 replace wb1 := wb1.k k31_32
 replace wb2 := wb2.k k31_32
 go_big_op
 go_fit (told7_ok (.mk' ff1 ff2 ff3 ff4) (.mk' (wa1.zn Lwa1.out) (wa2.zn Lwa2.out) (wb1.zn Lwb1.out) (wb2.zn Lwb2.out)) (by omega) (by omega) (by omega) (by omega))
 rintro e w_33 ⟨rfl, hb_33⟩
 replace hs := hs.bl hb_33
 refine hK _ _ rfl ⟨hb_33, (And.intro hs.g0 trivial)⟩ ?_
 clear hK K
 refine f0 ?_
 refine e0 hs ?_; clear hs; intro w_34 hs n34
 clear hq1 hq2 wa1 wa2 wb1 wb2
 apply wpTail_end
 refine hK11 _ _ ?_
 refine cf ?_
 refine wp_skip ?_
 refine hK9 _ _ ?_
 refine wp_seq_k ?_
 intro K12 hK12
 refine wp_seq_k fun K13 hK13 => rg [0, 1] ?_
 refine sq ?_
 intro K hK
 have d0 : w_34.cell? ⟨p_b1, 0, none⟩ = some (.bool n_0a) := hs.g5.cell 0 rfl
 have d1 : w_34.cell? ⟨p_b1, 1, none⟩ = some (.slice o_0a k_0a c_0a) := hs.g5.cell 1 rfl
 have d2 : w_34.cell? ⟨p_b1, 2, none⟩ = some (.bool n_0b) := hs.g5.cell 2 rfl
 have d3 : w_34.cell? ⟨p_b1, 3, none⟩ = some (.slice o_0b k_0b c_0b) := hs.g5.cell 3 rfl
 have d4 : w_34.cell? ⟨p_b1, 4, none⟩ = some (.bool n_0c) := hs.g5.cell 4 rfl
 have d5 : w_34.cell? ⟨p_b1, 5, none⟩ = some (.slice o_0c k_0c c_0c) := hs.g5.cell 5 rfl
 have d6 : w_34.cell? ⟨p_b1, 6, none⟩ = some (.bool n_0d) := hs.g5.cell 6 rfl
 have d7 : w_34.cell? ⟨p_b1, 7, none⟩ = some (.slice o_0d k_0d c_0d) := hs.g5.cell 7 rfl
 go_big_op; refine hK _ _ rfl trivial ?_; clear hK K d0 d1 d2 d3 d4 d5 d6 d7
 refine sq ?_
 intro K hK
 have k8_34 := (((((((((((((((((((((((((kb hb_9).b n10).o hd11 ho11).b hb_12).b n13).o hd14 ho14).b n15).b n16).b hb_17).b n18).b hb_19).b n20).b hb_21).b n22).b hb_23).b n24).b hb_25).b hb_26).b n27).b n28).b hb_29).b n30).b hb_31).b n32).b hb_33).b n34
 replace ha1 := ha1.k k8_34
 replace ha2 := ha2.k k8_34
 replace ha3 := ha3.k k8_34
 replace ha4 := ha4.k k8_34
 go_big_op
 go_fit (r7Bad_no (CN.mk' ha1 ha2 ha3 ha4) (by omega) (by omega) (by omega) (by omega) HA.out.1 HA.out.2)
 rintro e w_35 ⟨rfl, hb_35⟩
 replace hs := hs.bl hb_35
 refine hK _ _ rfl trivial ?_
 clear hK K
 apply wpSq_end
 refine hK13 _ _ ?_
 refine cf ?_
 refine wp_skip ?_
 refine hK12 _ _ ?_
 refine wp_seq_k ?_
 intro K14 hK14
 refine wp_region_f4 [(0, false), (1, false), (2, false), (3, true), (4, true), (5, false), (6, false), (7, false), (8, false), (9, false), (10, false), (11, false), (12, true), (13, true), (14, false), (15, false), (16, false), (17, false), (18, false), (19, false), (20, false), (21, false), (22, true), (23, true), (24, false), (25, false)] [] [] (fun _ => default) [0, 99, 1, 99, 99, 99, 99, 99, 99, 99, 2, 1, 99, 99, 99, 99, 99, 99, 99, 99, 3, 1, 99, 99, 99, 99] [] (.c hs.g3 (.c hs.g5 (.c hs.g2 (.c hs.g1 .n)))) fn fun w_36 n36 => ?_
 replace hs := hs.bl n36
 apply wpFl_ld rfl rfl; (case h1 => intro w' hC K hK; have c0 := Bs.cell hC 0 rfl; have c1 := Bs.cell hC 1 rfl; have c2 := Bs.cell hC 2 rfl; have c3 := Bs.cell hC 3 rfl; have c4 := Bs.cell hC 4 rfl; have c5 := Bs.cell hC 5 rfl; have c6 := Bs.cell hC 6 rfl; have c7 := Bs.cell hC 7 rfl; go_big_op; exact hK); iterate 4 kernel_rfl
 refine fmv ?_
 apply wpFl_ld rfl rfl; (case h1 => intro w' hC K hK; have c0 := Bs.cell hC 0 rfl; have c1 := Bs.cell hC 1 rfl; have c2 := Bs.cell hC 2 rfl; have c3 := Bs.cell hC 3 rfl; have c4 := Bs.cell hC 4 rfl; have c5 := Bs.cell hC 5 rfl; have c6 := Bs.cell hC 6 rfl; have c7 := Bs.cell hC 7 rfl; go_big_op; exact hK); iterate 4 kernel_rfl
 refine fl fun w_37 n37 => ?_
 replace hs := hs.bl n37
 intro K hK
 have k34_37 := ((kb hb_35).b n36).b n37
 replace ha1 := ha1.k k34_37
 replace ha2 := ha2.k k34_37
 replace ha3 := ha3.k k34_37
 replace ha4 := ha4.k k34_37
 go_big_op
 go_fit (r7Conj_ok (CN.mk' ha1 ha2 ha3 ha4) (by omega) (by omega) (by omega) (by omega) HA.out.1 HA.out.2)
 rintro e w_38 ⟨_, rfl, ⟨n_wc1, o_wc1, k_wc1, c_wc1, n_wc2, o_wc2, k_wc2, c_wc2, n_wc3, o_wc3, k_wc3, c_wc3, n_wc4, o_wc4, k_wc4, c_wc4, rfl, wc1, wc2, wc3, wc4⟩, hb_38⟩
 replace hs := hs.bl hb_38
 have Lwc1 := hide (wc1.lenOf ((r_len (HA.out.1) rfl (ha1.len) (ha2.len)).1))
 have Lwc2 := hide (wc2.lenOf ((r_len (HA.out.1) rfl (ha1.len) (ha2.len)).2))
 have Lwc3 := hide (wc3.lenOf ((r_len (HA.out.2) (rv_neg1 _ _) (zlen_neg (ha3.len)) (ha4.len)).1))
 have Lwc4 := hide (wc4.lenOf ((r_len (HA.out.2) (rv_neg1 _ _) (zlen_neg (ha3.len)) (ha4.len)).2))
 refine hK _ _ rfl ⟨hb_38, (And.intro hs.g3 (And.intro hs.g5 (And.intro hs.g2 (And.intro hs.g1 trivial))))⟩ ?_
 clear hK K
 refine fl fun w_39 n39 => ?_
 replace hs := hs.bl n39
 intro K hK
 have k3_39 := (((((((((((((((((((((((((((((((((((kb n4).o hd5 ho5).b hb_6).b n7).o hd8 ho8).b hb_9).b n10).o hd11 ho11).b hb_12).b n13).o hd14 ho14).b n15).b n16).b hb_17).b n18).b hb_19).b n20).b hb_21).b n22).b hb_23).b n24).b hb_25).b hb_26).b n27).b n28).b hb_29).b n30).b hb_31).b n32).b hb_33).b n34).b hb_35).b n36).b n37).b hb_38).b n39
 replace cj1 := cj1.k k3_39
 replace cj2 := cj2.k k3_39
 replace cj3 := cj3.k k3_39
 replace cj4 := cj4.k k3_39
 have k38_39 := kb n39
 replace wc1 := wc1.k k38_39
 replace wc2 := wc2.k k38_39
 replace wc3 := wc3.k k38_39
 replace wc4 := wc4.k k38_39
 go_big_op
 go_fit (told7_ok (.mk' cj1 cj2 cj3 cj4) (.mk' (wc1.zn Lwc1.out) (wc2.zn Lwc2.out) (wc3.zn Lwc3.out) (wc4.zn Lwc4.out)) (by omega) (by omega) (by omega) (by omega))
 rintro e w_40 ⟨rfl, hb_40⟩
 replace hs := hs.bl hb_40
 refine hK _ _ rfl ⟨hb_40, (And.intro hs.g3 (And.intro hs.g5 (And.intro hs.g2 (And.intro hs.g1 trivial))))⟩ ?_
 clear hK K
 refine fmv ?_
 refine fmv ?_
 refine f0 ?_
 refine f0 ?_
 refine fmv ?_
 refine f4 ?_
 apply wpFl_ld rfl rfl; (case h1 => intro w' hC K hK; have c0 := Bs.cell hC 0 rfl; have c1 := Bs.cell hC 1 rfl; have c2 := Bs.cell hC 2 rfl; have c3 := Bs.cell hC 3 rfl; have c4 := Bs.cell hC 4 rfl; have c5 := Bs.cell hC 5 rfl; have c6 := Bs.cell hC 6 rfl; have c7 := Bs.cell hC 7 rfl; go_big_op; exact hK); iterate 4 kernel_rfl
 refine fl fun w_41 n41 => ?_
 clear ff1 ff2 ff3 ff4 wc1 wc2 wc3 wc4
 replace hs := hs.bl n41
 intro K hK
 have k37_41 := (((kb hb_38).b n39).b hb_40).b n41
 replace ha1 := ha1.k k37_41
 replace ha2 := ha2.k k37_41
 replace ha3 := ha3.k k37_41
 replace ha4 := ha4.k k37_41
 go_big_op
 go_fit (r7Norm_ok (CN.mk' ha1 ha2 ha3 ha4) (by omega) (by omega) (by omega) (by omega) HA.out.1 HA.out.2)
 rintro e w_42 ⟨_, rfl, ⟨n_wna, o_wna, k_wna, c_wna, n_wnb, o_wnb, k_wnb, c_wnb, rfl, wn1, wn2⟩, hb_42⟩
 replace hs := hs.bl hb_42
 have Lwn1 := hide (wn1.lenOf ((r7n_len (HA.out.1) (HA.out.2) (ha1.len) (ha2.len) (ha3.len) (ha4.len)).1))
 have Lwn2 := hide (wn2.lenOf ((r7n_len (HA.out.1) (HA.out.2) (ha1.len) (ha2.len) (ha3.len) (ha4.len)).2))
 refine hK _ _ rfl ⟨hb_42, (And.intro hs.g3 (And.intro hs.g5 (And.intro hs.g2 (And.intro hs.g1 trivial))))⟩ ?_
 clear hK K
 refine fl fun w_43 n43 => ?_
 replace hs := hs.bl n43
 intro K hK
 have k6_43 := ((((((((((((((((((((((((((((((((((((kb n7).o hd8 ho8).b hb_9).b n10).o hd11 ho11).b hb_12).b n13).o hd14 ho14).b n15).b n16).b hb_17).b n18).b hb_19).b n20).b hb_21).b n22).b hb_23).b n24).b hb_25).b hb_26).b n27).b n28).b hb_29).b n30).b hb_31).b n32).b hb_33).b n34).b hb_35).b n36).b n37).b hb_38).b n39).b hb_40).b n41).b hb_42).b n43
 replace nm1 := nm1.k k6_43
 replace nm2 := nm2.k k6_43
 have k42_43 := kb n43
 replace wn1 := wn1.k k42_43
 replace wn2 := wn2.k k42_43
 go_big_op
 go_fit (rfsame_r (.mk' nm1 nm2) (.mk' (wn1.zn Lwn1.out) (wn2.zn Lwn2.out)) (by omega) (by omega))
 rintro e w_44 ⟨rfl, hb_44⟩
 replace hs := hs.bl hb_44
 refine hK _ _ rfl ⟨hb_44, (And.intro hs.g3 (And.intro hs.g5 (And.intro hs.g2 (And.intro hs.g1 trivial))))⟩ ?_
 clear hK K
 refine f0 ?_
 refine fmv ?_
 refine fmv ?_
 refine f0 ?_
 refine f0 ?_
 refine fmv ?_
 refine f4 ?_
 apply wpFl_ld rfl rfl; (case h1 => intro w' hC K hK; have c0 := Bs.cell hC 0 rfl; have c1 := Bs.cell hC 1 rfl; have c2 := Bs.cell hC 2 rfl; have c3 := Bs.cell hC 3 rfl; have c4 := Bs.cell hC 4 rfl; have c5 := Bs.cell hC 5 rfl; have c6 := Bs.cell hC 6 rfl; have c7 := Bs.cell hC 7 rfl; go_big_op; exact hK); iterate 4 kernel_rfl
 refine fl fun w_45 n45 => ?_
 replace hs := hs.bl n45
 intro K hK
 have k41_45 := (((kb hb_42).b n43).b hb_44).b n45
 replace ha1 := ha1.k k41_45
 replace ha2 := ha2.k k41_45
 replace ha3 := ha3.k k41_45
 replace ha4 := ha4.k k41_45
 go_big_op
 go_fit (r7Round_ok (.mk' ha1 ha2 ha3 ha4) (by omega) (by omega) (by omega) (by omega) HA.out.1 HA.out.2)
 rintro e w_46 ⟨_, rfl, ⟨n_wra, o_wra, k_wra, c_wra, n_wrb, o_wrb, k_wrb, c_wrb, rfl, wr1, wr2⟩, hb_46⟩
 replace hs := hs.bl hb_46
 have Lwr1 := hide (wr1.lenOf (rnd_len HA.out.1 ha1.len))
 have Lwr2 := hide (wr2.lenOf (rnd_len HA.out.2 ha3.len))
 refine hK _ _ rfl ⟨hb_46, (And.intro hs.g3 (And.intro hs.g5 (And.intro hs.g2 (And.intro hs.g1 trivial))))⟩ ?_
 clear hK K
 refine fl fun w_47 n47 => ?_
 replace hs := hs.bl n47
 intro K hK
 have k9_47 := (((((((((((((((((((((((((((((((((((((kb n10).o hd11 ho11).b hb_12).b n13).o hd14 ho14).b n15).b n16).b hb_17).b n18).b hb_19).b n20).b hb_21).b n22).b hb_23).b n24).b hb_25).b hb_26).b n27).b n28).b hb_29).b n30).b hb_31).b n32).b hb_33).b n34).b hb_35).b n36).b n37).b hb_38).b n39).b hb_40).b n41).b hb_42).b n43).b hb_44).b n45).b hb_46).b n47
 replace rd1 := rd1.k k9_47
 replace rd2 := rd2.k k9_47
 have k46_47 := kb n47
 replace wr1 := wr1.k k46_47
 replace wr2 := wr2.k k46_47
 go_big_op
 go_fit (rgSame_any (.mk' rd1 rd2) (.mk' (wr1.zn Lwr1.out) (wr2.zn Lwr2.out)) (by omega) (by omega))
 rintro e w_48 ⟨rfl, hb_48⟩
 replace hs := hs.bl hb_48
 refine hK _ _ rfl ⟨hb_48, (And.intro hs.g3 (And.intro hs.g5 (And.intro hs.g2 (And.intro hs.g1 trivial))))⟩ ?_
 clear hK K
 refine f0 ?_
 refine fmv ?_
 refine e0 hs ?_; clear hs; intro w_49 hs n49
 apply wpTail_end
 refine hK14 _ _ ?_
 refine wp_ret ?_
 try dsimp only [Exit.then, Exit.inBlock]
 refine bodyPost_ret (v := (.bool true)) (by simp [results, Tryz.results5, go_sem]) rfl ?_
 have hb := hs.b
 exact ⟨rfl, hb⟩
end
theorem walk_GfracSingle (w : World) (n1 : Bool) (s1 : Value) (xs : List Nat) (h1 : Rd w s1 xs) (l1 : xs.length ≤ 1048576) (n2 : Bool) (s2 : Value) (ys : List Nat) (h2 : Rd w s2 ys) (l2 : ys.length ≤ 1048576) (n3 : Bool) (s3 : Value) (us : List Nat) (h3 : Rd w s3 us) (l3 : us.length ≤ 1048576) (n4 : Bool) (s4 : Value) (vs : List Nat) (h4 : Rd w s4 vs) (l4 : vs.length ≤ 1048576)
   (n5 : Bool) (s5 : Value) (ps : List Nat) (h5 : Rd w s5 ps) (l5 : ps.length ≤ 1048576) (n6 : Bool) (s6 : Value) (qs : List Nat) (h6 : Rd w s6 qs) (l6 : qs.length ≤ 1048576) (b : Int) (b0 : 0 ≤ b) (b1 : b ≤ 18446744073709551615) (c : Int) (c0 : 0 ≤ c) (c1 : c ≤ 18446744073709551615) (htab : Lib.TabIs Tryz.prog w p10 .u64 Lib.pow10Tab) :
   Calls Tryz.prog 5 #[.agg #[.bool n1, s1, .bool n2, s2, .bool n3, s3, .bool n4, s4], .agg #[.bool n5, s5, .bool n6, s6], .int .u64 b, .int .u64 c] w fun e w' => e = .returned (.bool true) ∧ Below w.heap.size w w' := by
 have ha := CN.of_rd n1 n2 n3 n4 h1 l1 h2 l2 h3 l3 h4 l4
 have hq := PN.of_rd n5 n6 h5 l5 h6 l6
 have r := Nat.le_refl 1048576
 obtain ⟨B, rfl⟩ : ∃ B : Nat, b = (B : Int) := ⟨b.toNat, by omega⟩
 obtain ⟨D, rfl⟩ : ∃ D : Nat, c = (D : Int) := ⟨c.toNat, by omega⟩
 have hB : B < 18446744073709551616 := by omega
 have hD : D < 18446744073709551616 := by omega
 by_cases hy : zv n2 ys = 0 ∨ zv n4 vs = 0
 · rcases fin_or B hB with h | ⟨R, h⟩
   · exact single_bad_a ha hq r r r r r r hy h hB hD htab
   · rcases fin_or D hD with g | ⟨T, g⟩
     · exact single_bad_b ha hq r r r r r r hy h g hB hD htab
     · exact single_bad_c ha hq r r r r r r hy h g hB hD htab
 · have h9 : zv n2 ys ≠ 0 := fun h => hy (.inl h)
   have h8 : zv n4 vs ≠ 0 := fun h => hy (.inr h)
   rcases fin_or B hB with h | ⟨R, h⟩
   · exact single_ok_a ha hq r r r r r r h9 h8 h hB hD htab
   · rcases fin_or D hD with g | ⟨T, g⟩
     · exact single_ok_b ha hq r r r r r r h9 h8 h g hB hD htab
     · exact single_ok_c ha hq r r r r r r h9 h8 h g hB hD htab
end Go.Proofs.YthlhekkcjficdaaGreatDoor
