/- The walk of GdetInverses. -/
import Derived.Test.YtjfjlloibmebeaaGreatT1ToB1
namespace Go.Proofs.YtjfjlloibmebeaaGreat
open Go Go.RowKit Dig
set_option maxHeartbeats 4000000
set_option maxRecDepth 20000
set_option linter.unusedVariables false
theorem mxmt {K n : Nat} {a : Array Value} {w : World} {v : Value} {M : List (List (Int × Int))} (h : Calls Tryz.prog K a w fun e w' => ∃ o c rs, e = .returned (.tuple #[.slice o n c, v]) ∧ rs.length = n ∧ St w (Mx w.heap.size (.slice o n c) rs) w' ∧ RD w' rs M ∧ Below w.heap.size w w') :
   Calls Tryz.prog K a w fun e w' => ∃ o c, e = .returned (.tuple #[.slice o n c, v]) ∧ MC w' o M ∧ Below w.heap.size w w' :=
 Calls.mono h fun e w' ⟨o, c, rs, h1, h2, h3, h4, h5⟩ => ⟨o, c, h1, Mx.mc0 h3 h2 h4, h5⟩
theorem mxm0 {K n : Nat} {a : Array Value} {w : World} {M : List (List (Int × Int))} (h : Calls Tryz.prog K a w fun e w' => ∃ o c rs, e = .returned (.slice o n c) ∧ rs.length = n ∧ St w (Mx w.heap.size (.slice o n c) rs) w' ∧ RD w' rs M ∧ Below w.heap.size w w') :
   Calls Tryz.prog K a w fun e w' => ∃ o c, e = .returned (.slice o n c) ∧ MC w' o M ∧ Below w.heap.size w w' :=
 Calls.mono h fun e w' ⟨o, c, rs, h1, h2, h3, h4, h5⟩ => ⟨o, c, h1, Mx.mc0 h3 h2 h4, h5⟩
section
variable {w : World} {l n k c1 c2 : Nat} {o1 o2 : Option Addr} {Ms : List (List (Int × Int))}
theorem mat9_yes (h1 : MC w o1 Ms) (h2 : MN l w o2 Ms) (hn : Ms.length = n) (hl : n ≤ 1000000000) (hr : ∀ r ∈ Ms, r.length ≤ 1000000000) (hl2 : l ≤ 100000000) :
   Calls Tryz.prog 22 #[.slice o1 n c1, .int .i64 0, .slice o2 n c2, .int .i64 0] w fun e w' => e = .returned (.bool true) ∧ Below w.heap.size w w' := by
 have H1 := hide h1
 have H2 := hide h2
 clear h1 h2
 go_enter Tryz.func22, Tryz.ntmps22
 have hs := St.nil w
 refine wp_seq_k fun K1 hK1 => rg [0] ?_
 refine sm ?_
 apply wpSq_end
 refine hK1 _ _ ?_
 refine wp_seq_k ?_
 intro K2 hK2
 refine wp_seq_k fun K3 hK3 => rg [0, 1] ?_
 refine sm ?_
 refine sr ?_
 apply wpSq_end
 refine hK3 _ _ ?_
 refine cf ?_
 refine wp_skip ?_
 refine hK2 _ _ ?_
 refine wp_seq_k fun K4 hK4 => rg [0, 1, 2, 3, 4, 5, 6, 7] ?_
 refine sm ?_
 refine sr ?_
 refine sm ?_
 refine sm ?_
 refine sm ?_
 refine sq ?_
 intro K hK
 have hb := hs.b
 go_big_op
 go_fit (msame_any (H1.out.bl hb) (H2.out.bl stab_n hb) hn hl hr hl2)
 rintro e w_1 ⟨rfl, hb_1⟩
 clear hb
 replace hs := hs.bl hb_1
 refine hK _ _ rfl trivial ?_
 clear hK K
 refine sr ?_
 refine sm ?_
 apply wpSq_end
 refine hK4 _ _ ?_
 refine wp_ret ?_
 try dsimp only [Exit.then, Exit.inBlock]
 refine bodyPost_ret (v := (.bool true)) (by simp [results, Tryz.results22, go_sem]) rfl ?_
 exact ⟨rfl, hs.b⟩
theorem mat9_no (f : Int) (hf : f ≠ 0) {m : Nat} (hl : n = 0) :
   Calls Tryz.prog 22 #[.slice o1 n c1, .int .i64 f, .slice o2 m c2, .int .i64 f] w fun e w' => e = .returned (.bool true) ∧ Below w.heap.size w w' := by
 have t1 : ((f : Int) != 0) = true := bne_iff_ne.2 hf
 have t2 : ((f : Int) == f) = true := beq_self_eq_true f
 subst hl
 go_enter Tryz.func22, Tryz.ntmps22
 have hs := St.nil w
 refine wp_seq_k fun K1 hK1 => rg [0] ?_
 refine sm ?_
 apply wpSq_end
 refine hK1 _ _ ?_
 refine wp_seq_k ?_
 intro K2 hK2
 refine wp_seq_k fun K3 hK3 => rg [0, 1] ?_
 refine sm ?_
 refine sr ?_
 apply wpSq_end
 refine hK3 _ _ ?_
 refine ct ?_
 refine wp_seq_k fun K4 hK4 => rg [0, 1, 2, 3, 4, 5, 6, 7, 8] ?_
 refine sm ?_
 refine sm ?_
 refine sr ?_
 refine sm ?_
 refine sm ?_
 refine sr ?_
 refine sr ?_
 refine sr ?_
 refine sm ?_
 apply wpSq_end
 refine hK4 _ _ ?_
 refine wp_ret ?_
 try dsimp only [Exit.then, Exit.inBlock]
 refine bodyPost_ret (v := (.bool true)) (by simp [results, Tryz.results22, go_sem]) rfl ?_
 exact ⟨rfl, hs.b⟩
end
section
variable {w : World} {n c k r : Nat} {o : Option Addr} {A : List (List (Int × Int))}
theorem inv_bad (ha : MN 1048576 w o A) (hn : A.length = n) (ln : n ≤ 1048576) (h : ¬ gd A) :
   Calls Tryz.prog 3 #[.slice o n c] w fun e w' => e = .returned (.bool true) ∧ Below w.heap.size w w' := by
 have HA := hide ha
 have HG := hide h
 have HW := hide (show ¬ (gd A ∧ wd A = n) from fun c => h c.1)
 clear ha h
 go_enter Tryz.func3, Tryz.ntmps3
 have hs := St.nil w
 refine wp_seq_k fun K1 hK1 => rg [0] ?_
 refine sm ?_
 apply wpSq_end
 refine hK1 _ _ ?_
 refine wp_seq_k fun K2 hK2 => rg [0, 1, 2, 3, 4, 5, 6] ?_
 refine sm ?_
 refine sq ?_
 intro K hK
 have hb := hs.b
 go_big_op
 go_fit (adjugate_bad (HA.out.bl stab_n hb) hn HW.out (by omega))
 rintro e w_1 ⟨rfl, hb_1⟩
 clear hb
 replace hs := hs.bl hb_1
 refine hK _ _ rfl trivial ?_
 clear hK K
 refine sm ?_
 refine sr ?_
 refine sr ?_
 refine sm ?_
 refine sm ?_
 apply wpSq_end
 refine hK2 _ _ ?_
 refine wp_seq_k fun K3 hK3 => rg [0, 1, 2, 3, 4, 5, 6] ?_
 refine sm ?_
 refine sq ?_
 intro K hK
 have hb := hs.b
 go_big_op
 go_fit (inverse_bad (HA.out.bl stab_n hb) hn HW.out (by omega))
 rintro e w_2 ⟨rfl, hb_2⟩
 clear hb
 replace hs := hs.bl hb_2
 refine hK _ _ rfl trivial ?_
 clear hK K
 refine sm ?_
 refine sr ?_
 refine sr ?_
 refine sm ?_
 refine sm ?_
 apply wpSq_end
 refine hK3 _ _ ?_
 refine wp_seq_k ?_
 intro K4 hK4
 refine wp_seq_k fun K5 hK5 => rg [0, 1] ?_
 refine sq ?_
 intro K hK
 go_big_op
 go_fit (awake9_any _)
 rintro e w_3 ⟨rfl, hb_3⟩
 replace hs := hs.bl hb_3
 refine hK _ _ rfl trivial ?_
 clear hK K
 refine sr ?_
 apply wpSq_end
 refine hK5 _ _ ?_
 refine cf ?_
 refine wp_skip ?_
 refine hK4 _ _ ?_
 refine wp_seq_k ?_
 intro K6 hK6
 refine wp_seq_k fun K7 hK7 => rg [0, 1, 2, 3, 4, 5, 6, 7, 8, 9] ?_
 refine sm ?_
 refine sq ?_
 intro K hK
 have hb := hs.b
 go_big_op
 go_fit (rGood_any (HA.out.bl stab_n hb) hn (by omega))
 rintro e w_4 ⟨rfl, hb_4⟩
 clear hb
 replace hs := hs.bl hb_4
 rw [decide_eq_false HG.out]
 refine hK _ _ rfl trivial ?_
 clear hK K
 refine sr ?_
 refine sm ?_
 refine sk ?_
 refine sk ?_
 refine sk ?_
 refine sk ?_
 refine sk ?_
 refine sr ?_
 apply wpSq_end
 refine hK7 _ _ ?_
 refine ct ?_
 refine wp_seq_k fun K8 hK8 => rg [0, 1, 2, 3, 4, 5, 6, 7, 8, 9, 10] ?_
 refine sm ?_
 refine sm ?_
 refine sm ?_
 refine sq ?_
 intro K hK
 go_big_op
 go_fit (mat9_no 4 (by decide) rfl)
 rintro e w_5 ⟨rfl, hb_5⟩
 replace hs := hs.bl hb_5
 refine hK _ _ rfl trivial ?_
 clear hK K
 refine sm ?_
 refine sm ?_
 refine sm ?_
 refine sm ?_
 refine sq ?_
 intro K hK
 go_big_op
 go_fit (mat9_no 4 (by decide) rfl)
 rintro e w_6 ⟨rfl, hb_6⟩
 replace hs := hs.bl hb_6
 refine hK _ _ rfl trivial ?_
 clear hK K
 refine sr ?_
 refine sm ?_
 apply wpSq_end
 refine hK8 _ _ ?_
 refine wp_ret ?_
 try dsimp only [Exit.then, Exit.inBlock]
 refine bodyPost_ret (v := (.bool true)) (by simp [results, Tryz.results3, go_sem]) rfl ?_
 exact ⟨rfl, hs.b⟩
theorem inv_wide (ha : MN 1048576 w o A) (hn : A.length = n) (ln : n ≤ 1048576) (h : gd A) (hk : wd A = k) (hne : k ≠ n) :
   Calls Tryz.prog 3 #[.slice o n c] w fun e w' => e = .returned (.bool true) ∧ Below w.heap.size w w' := by
 have HA := hide ha
 have HG := hide h
 have HK := hide hk
 have HW := hide (show ¬ (gd A ∧ wd A = n) from fun c => hne (hk.symm.trans c.2))
 have t3 : ((n : Int) != (k : Int)) = true := bne_iff_ne.2 (by omega)
 clear ha h hk
 go_enter Tryz.func3, Tryz.ntmps3
 have hs := St.nil w
 refine wp_seq_k fun K1 hK1 => rg [0] ?_
 refine sm ?_
 apply wpSq_end
 refine hK1 _ _ ?_
 refine wp_seq_k fun K2 hK2 => rg [0, 1, 2, 3, 4, 5, 6] ?_
 refine sm ?_
 refine sq ?_
 intro K hK
 have hb := hs.b
 go_big_op
 go_fit (adjugate_bad (HA.out.bl stab_n hb) hn HW.out (by omega))
 rintro e w_1 ⟨rfl, hb_1⟩
 clear hb
 replace hs := hs.bl hb_1
 refine hK _ _ rfl trivial ?_
 clear hK K
 refine sm ?_
 refine sr ?_
 refine sr ?_
 refine sm ?_
 refine sm ?_
 apply wpSq_end
 refine hK2 _ _ ?_
 refine wp_seq_k fun K3 hK3 => rg [0, 1, 2, 3, 4, 5, 6] ?_
 refine sm ?_
 refine sq ?_
 intro K hK
 have hb := hs.b
 go_big_op
 go_fit (inverse_bad (HA.out.bl stab_n hb) hn HW.out (by omega))
 rintro e w_2 ⟨rfl, hb_2⟩
 clear hb
 replace hs := hs.bl hb_2
 refine hK _ _ rfl trivial ?_
 clear hK K
 refine sm ?_
 refine sr ?_
 refine sr ?_
 refine sm ?_
 refine sm ?_
 apply wpSq_end
 refine hK3 _ _ ?_
 refine wp_seq_k ?_
 intro K4 hK4
 refine wp_seq_k fun K5 hK5 => rg [0, 1] ?_
 refine sq ?_
 intro K hK
 go_big_op
 go_fit (awake9_any _)
 rintro e w_3 ⟨rfl, hb_3⟩
 replace hs := hs.bl hb_3
 refine hK _ _ rfl trivial ?_
 clear hK K
 refine sr ?_
 apply wpSq_end
 refine hK5 _ _ ?_
 refine cf ?_
 refine wp_skip ?_
 refine hK4 _ _ ?_
 refine wp_seq_k ?_
 intro K6 hK6
 refine wp_seq_k fun K7 hK7 => rg [0, 1, 2, 3, 4, 5, 6, 7, 8, 9] ?_
 refine sm ?_
 refine sq ?_
 intro K hK
 have hb := hs.b
 go_big_op
 go_fit (rGood_any (HA.out.bl stab_n hb) hn (by omega))
 rintro e w_4 ⟨rfl, hb_4⟩
 clear hb
 replace hs := hs.bl hb_4
 rw [decide_eq_true HG.out]
 refine hK _ _ rfl trivial ?_
 clear hK K
 refine sr ?_
 refine sm ?_
 refine sm ?_
 refine sr ?_
 refine sm ?_
 refine sq ?_
 intro K hK
 have hb := hs.b
 go_big_op
 go_fit (rCols_any (HA.out.bl stab_n hb) hn HK.out)
 rintro e w_5 ⟨rfl, hb_5⟩
 clear hb
 replace hs := hs.bl hb_5
 refine hK _ _ rfl trivial ?_
 clear hK K
 refine sr ?_
 refine sr ?_
 apply wpSq_end
 refine hK7 _ _ ?_
 refine ct ?_
 refine wp_seq_k fun K8 hK8 => rg [0, 1, 2, 3, 4, 5, 6, 7, 8, 9, 10] ?_
 refine sm ?_
 refine sm ?_
 refine sm ?_
 refine sq ?_
 intro K hK
 go_big_op
 go_fit (mat9_no 4 (by decide) rfl)
 rintro e w_6 ⟨rfl, hb_6⟩
 replace hs := hs.bl hb_6
 refine hK _ _ rfl trivial ?_
 clear hK K
 refine sm ?_
 refine sm ?_
 refine sm ?_
 refine sm ?_
 refine sq ?_
 intro K hK
 go_big_op
 go_fit (mat9_no 4 (by decide) rfl)
 rintro e w_7 ⟨rfl, hb_7⟩
 replace hs := hs.bl hb_7
 refine hK _ _ rfl trivial ?_
 clear hK K
 refine sr ?_
 refine sm ?_
 apply wpSq_end
 refine hK8 _ _ ?_
 refine wp_ret ?_
 try dsimp only [Exit.then, Exit.inBlock]
 refine bodyPost_ret (v := (.bool true)) (by simp [results, Tryz.results3, go_sem]) rfl ?_
 exact ⟨rfl, hs.b⟩
theorem inv_unit (ha : MN 1048576 w o A) (hn : A.length = n) (ln : n ≤ 1048576) (h : gd A) (hk : wd A = n) (hT : Tot 1048576 A) (hr : Dt.Rk n n (at2 A) r) (hu : gN (Dt.det n (at2 A)).1 (Dt.det n (at2 A)).2 = 1) :
   Calls Tryz.prog 3 #[.slice o n c] w fun e w' => e = .returned (.bool true) ∧ Below w.heap.size w w' := by
 have HA := hide ha
 have HG := hide h
 have HK := hide hk
 have HR := hide hr
 have HU := hide hu
 have n64 : n ≤ 64 := by have := h.1; omega
 have HB := hide (show MinB n n 1050641 (at2 A) from fun s f g h1 h2 => zl_up (hT.minB (W := n) hn n64 s f g h1 h2) (by omega))
 have HC := hide (show MinB (n + n) (n + n) 1050641 (brd n (at2 A)) from hT.brd hn n64)
 have LD := hide (show zl 1050641 (Dt.det n (at2 A)) from HB.out n id id (fun r hr => ⟨hr, hr⟩) (fun r q h _ => by simp only [id]; omega))
 have BJ := hide (show BdM 1050641 (mkM n n (adjE n (at2 A))) from bdM_mk fun i hi j hj => zl_adjE HC.out hi hj)
 have BI := hide (show BdM 3000000 (mkM n n (invE n (at2 A))) from bdM_mk fun i hi j hj => zl_up (zl_invE HC.out LD.out hi hj) (by omega))
 have RL := hide (show ∀ (F : Nat → Nat → Int × Int), ∀ r ∈ mkM n n F, r.length ≤ 1000000000 from fun F => mkM_rl n64)
 have t3 : ((n : Int) != (n : Int)) = false := by simp
 clear ha h hk hr hu hT
 go_enter Tryz.func3, Tryz.ntmps3
 have hs := St.nil w
 refine wp_seq_k fun K1 hK1 => rg [0] ?_
 refine sm ?_
 apply wpSq_end
 refine hK1 _ _ ?_
 refine wp_seq_k fun K2 hK2 => rg [0, 1, 2, 3, 4, 5, 6] ?_
 refine sm ?_
 refine sq ?_
 intro K hK
 have hb := hs.b
 go_big_op
 go_fit (mxmt (adjugate_ok (HA.out.bl stab_n hb) hn HG.out HK.out HC.out (by decide) (by decide)))
 rintro e w_1 ⟨o_J, c_J, rfl, m_J, hb_1⟩
 clear hb
 replace hs := hs.bl hb_1
 refine hK _ _ rfl trivial ?_
 clear hK K
 refine sm ?_
 refine sr ?_
 refine sr ?_
 refine sm ?_
 refine sm ?_
 apply wpSq_end
 refine hK2 _ _ ?_
 refine wp_seq_k fun K3 hK3 => rg [0, 1, 2, 3, 4, 5, 6] ?_
 refine sm ?_
 refine sq ?_
 intro K hK
 have hb := hs.b
 go_big_op
 go_fit (mxmt (inverse_ok (HA.out.bl stab_n hb) hn HG.out HK.out HB.out HC.out (by decide) (by decide) HU.out))
 rintro e w_2 ⟨o_I, c_I, rfl, m_I, hb_2⟩
 clear hb
 replace m_J := m_J.bl hb_2; replace hs := hs.bl hb_2
 refine hK _ _ rfl trivial ?_
 clear hK K
 refine sm ?_
 refine sr ?_
 refine sr ?_
 refine sm ?_
 refine sm ?_
 apply wpSq_end
 refine hK3 _ _ ?_
 refine wp_seq_k ?_
 intro K4 hK4
 refine wp_seq_k fun K5 hK5 => rg [0, 1] ?_
 refine sq ?_
 intro K hK
 go_big_op
 go_fit (awake9_any _)
 rintro e w_3 ⟨rfl, hb_3⟩
 replace m_J := m_J.bl hb_3; replace m_I := m_I.bl hb_3; replace hs := hs.bl hb_3
 refine hK _ _ rfl trivial ?_
 clear hK K
 refine sr ?_
 apply wpSq_end
 refine hK5 _ _ ?_
 refine cf ?_
 refine wp_skip ?_
 refine hK4 _ _ ?_
 refine wp_seq_k ?_
 intro K6 hK6
 refine wp_seq_k fun K7 hK7 => rg [0, 1, 2, 3, 4, 5, 6, 7, 8, 9] ?_
 refine sm ?_
 refine sq ?_
 intro K hK
 have hb := hs.b
 go_big_op
 go_fit (rGood_any (HA.out.bl stab_n hb) hn (by omega))
 rintro e w_4 ⟨rfl, hb_4⟩
 clear hb
 replace m_J := m_J.bl hb_4; replace m_I := m_I.bl hb_4; replace hs := hs.bl hb_4
 rw [decide_eq_true HG.out]
 refine hK _ _ rfl trivial ?_
 clear hK K
 refine sr ?_
 refine sm ?_
 refine sm ?_
 refine sr ?_
 refine sm ?_
 refine sq ?_
 intro K hK
 have hb := hs.b
 go_big_op
 go_fit (rCols_any (HA.out.bl stab_n hb) hn HK.out)
 rintro e w_5 ⟨rfl, hb_5⟩
 clear hb
 replace m_J := m_J.bl hb_5; replace m_I := m_I.bl hb_5; replace hs := hs.bl hb_5
 refine hK _ _ rfl trivial ?_
 clear hK K
 refine sr ?_
 refine sr ?_
 apply wpSq_end
 refine hK7 _ _ ?_
 refine cf ?_
 refine wp_skip ?_
 refine hK6 _ _ ?_
 refine wp_seq_k ?_
 intro K8 hK8
 refine wp_seq_k fun K9 hK9 => rg [0, 1, 2, 3, 4, 5] ?_
 refine sm ?_
 refine sm ?_
 refine sm ?_
 refine sq ?_
 intro K hK
 have hb := hs.b
 go_big_op
 go_fit (mxm0 (rAdjg_any (HA.out.bl stab_n hb) hn HG.out HK.out HB.out (by decide) (by decide) (by decide)))
 rintro e w_6 ⟨o_X, c_X, rfl, m_X, hb_6⟩
 clear hb
 replace m_J := m_J.bl hb_6; replace m_I := m_I.bl hb_6; replace hs := hs.bl hb_6
 refine hK _ _ rfl trivial ?_
 clear hK K
 refine sq ?_
 intro K hK
 go_big_op
 go_fit (mat9_yes m_J (m_X.mn BJ.out) len_mkM (by omega) (RL.out _) (by decide))
 rintro e w_7 ⟨rfl, hb_7⟩
 replace m_J := m_J.bl hb_7; replace m_I := m_I.bl hb_7; replace m_X := m_X.bl hb_7; replace hs := hs.bl hb_7
 refine hK _ _ rfl trivial ?_
 clear hK K
 refine sr ?_
 apply wpSq_end
 refine hK9 _ _ ?_
 refine cf ?_
 refine wp_skip ?_
 refine hK8 _ _ ?_
 refine wp_seq_k fun K10 hK10 => rg [0, 1, 2, 3, 4, 5, 6] ?_
 refine sm ?_
 refine sq ?_
 intro K hK
 have hb := hs.b
 go_big_op
 go_fit (mxmt (rInverse_ok (HA.out.bl stab_n hb) hn HG.out HK.out HB.out HC.out (by decide) (by decide) (by decide) HR.out HU.out))
 rintro e w_8 ⟨o_Y, c_Y, rfl, m_Y, hb_8⟩
 clear hb
 replace m_I := m_I.bl hb_8; replace hs := hs.bl hb_8
 refine hK _ _ rfl trivial ?_
 clear hK K
 refine sm ?_
 refine sr ?_
 refine sr ?_
 refine sm ?_
 refine sm ?_
 apply wpSq_end
 refine hK10 _ _ ?_
 refine wp_seq_k ?_
 intro K11 hK11
 refine wp_seq_k fun K12 hK12 => rg [0, 1] ?_
 refine sm ?_
 refine sr ?_
 apply wpSq_end
 refine hK12 _ _ ?_
 refine cf ?_
 refine wp_skip ?_
 refine hK11 _ _ ?_
 refine wp_seq_k fun K13 hK13 => rg [0, 1, 2, 3, 4] ?_
 refine sm ?_
 refine sm ?_
 refine sm ?_
 refine sq ?_
 intro K hK
 go_big_op
 go_fit (mat9_yes m_I (m_Y.mn BI.out) len_mkM (by omega) (RL.out _) (by decide))
 rintro e w_9 ⟨rfl, hb_9⟩
 replace m_I := m_I.bl hb_9; replace m_Y := m_Y.bl hb_9; replace hs := hs.bl hb_9
 refine hK _ _ rfl trivial ?_
 clear hK K
 refine sm ?_
 apply wpSq_end
 refine hK13 _ _ ?_
 refine wp_ret ?_
 try dsimp only [Exit.then, Exit.inBlock]
 refine bodyPost_ret (v := (.bool true)) (by simp [results, Tryz.results3, go_sem]) rfl ?_
 exact ⟨rfl, hs.b⟩
theorem inv_none (ha : MN 1048576 w o A) (hn : A.length = n) (ln : n ≤ 1048576) (h : gd A) (hk : wd A = n) (hT : Tot 1048576 A) (hr : Dt.Rk n n (at2 A) r) (hu : gN (Dt.det n (at2 A)).1 (Dt.det n (at2 A)).2 ≠ 1) :
   Calls Tryz.prog 3 #[.slice o n c] w fun e w' => e = .returned (.bool true) ∧ Below w.heap.size w w' := by
 have HA := hide ha
 have HG := hide h
 have HK := hide hk
 have HR := hide hr
 have HU := hide hu
 have n64 : n ≤ 64 := by have := h.1; omega
 have HB := hide (show MinB n n 1050641 (at2 A) from fun s f g h1 h2 => zl_up (hT.minB (W := n) hn n64 s f g h1 h2) (by omega))
 have HC := hide (show MinB (n + n) (n + n) 1050641 (brd n (at2 A)) from hT.brd hn n64)
 have LD := hide (show zl 1050641 (Dt.det n (at2 A)) from HB.out n id id (fun r hr => ⟨hr, hr⟩) (fun r q h _ => by simp only [id]; omega))
 have BJ := hide (show BdM 1050641 (mkM n n (adjE n (at2 A))) from bdM_mk fun i hi j hj => zl_adjE HC.out hi hj)
 have BI := hide (show BdM 3000000 (mkM n n (invE n (at2 A))) from bdM_mk fun i hi j hj => zl_up (zl_invE HC.out LD.out hi hj) (by omega))
 have RL := hide (show ∀ (F : Nat → Nat → Int × Int), ∀ r ∈ mkM n n F, r.length ≤ 1000000000 from fun F => mkM_rl n64)
 have t3 : ((n : Int) != (n : Int)) = false := by simp
 clear ha h hk hr hu hT
 go_enter Tryz.func3, Tryz.ntmps3
 have hs := St.nil w
 refine wp_seq_k fun K1 hK1 => rg [0] ?_
 refine sm ?_
 apply wpSq_end
 refine hK1 _ _ ?_
 refine wp_seq_k fun K2 hK2 => rg [0, 1, 2, 3, 4, 5, 6] ?_
 refine sm ?_
 refine sq ?_
 intro K hK
 have hb := hs.b
 go_big_op
 go_fit (mxmt (adjugate_ok (HA.out.bl stab_n hb) hn HG.out HK.out HC.out (by decide) (by decide)))
 rintro e w_1 ⟨o_J, c_J, rfl, m_J, hb_1⟩
 clear hb
 replace hs := hs.bl hb_1
 refine hK _ _ rfl trivial ?_
 clear hK K
 refine sm ?_
 refine sr ?_
 refine sr ?_
 refine sm ?_
 refine sm ?_
 apply wpSq_end
 refine hK2 _ _ ?_
 refine wp_seq_k fun K3 hK3 => rg [0, 1, 2, 3, 4, 5, 6] ?_
 refine sm ?_
 refine sq ?_
 intro K hK
 have hb := hs.b
 go_big_op
 go_fit (inverse_none (HA.out.bl stab_n hb) hn HG.out HK.out HB.out (by decide) (by decide) HU.out)
 rintro e w_2 ⟨rfl, hb_2⟩
 clear hb
 replace m_J := m_J.bl hb_2; replace hs := hs.bl hb_2
 refine hK _ _ rfl trivial ?_
 clear hK K
 refine sm ?_
 refine sr ?_
 refine sr ?_
 refine sm ?_
 refine sm ?_
 apply wpSq_end
 refine hK3 _ _ ?_
 refine wp_seq_k ?_
 intro K4 hK4
 refine wp_seq_k fun K5 hK5 => rg [0, 1] ?_
 refine sq ?_
 intro K hK
 go_big_op
 go_fit (awake9_any _)
 rintro e w_3 ⟨rfl, hb_3⟩
 replace m_J := m_J.bl hb_3; replace hs := hs.bl hb_3
 refine hK _ _ rfl trivial ?_
 clear hK K
 refine sr ?_
 apply wpSq_end
 refine hK5 _ _ ?_
 refine cf ?_
 refine wp_skip ?_
 refine hK4 _ _ ?_
 refine wp_seq_k ?_
 intro K6 hK6
 refine wp_seq_k fun K7 hK7 => rg [0, 1, 2, 3, 4, 5, 6, 7, 8, 9] ?_
 refine sm ?_
 refine sq ?_
 intro K hK
 have hb := hs.b
 go_big_op
 go_fit (rGood_any (HA.out.bl stab_n hb) hn (by omega))
 rintro e w_4 ⟨rfl, hb_4⟩
 clear hb
 replace m_J := m_J.bl hb_4; replace hs := hs.bl hb_4
 rw [decide_eq_true HG.out]
 refine hK _ _ rfl trivial ?_
 clear hK K
 refine sr ?_
 refine sm ?_
 refine sm ?_
 refine sr ?_
 refine sm ?_
 refine sq ?_
 intro K hK
 have hb := hs.b
 go_big_op
 go_fit (rCols_any (HA.out.bl stab_n hb) hn HK.out)
 rintro e w_5 ⟨rfl, hb_5⟩
 clear hb
 replace m_J := m_J.bl hb_5; replace hs := hs.bl hb_5
 refine hK _ _ rfl trivial ?_
 clear hK K
 refine sr ?_
 refine sr ?_
 apply wpSq_end
 refine hK7 _ _ ?_
 refine cf ?_
 refine wp_skip ?_
 refine hK6 _ _ ?_
 refine wp_seq_k ?_
 intro K8 hK8
 refine wp_seq_k fun K9 hK9 => rg [0, 1, 2, 3, 4, 5] ?_
 refine sm ?_
 refine sm ?_
 refine sm ?_
 refine sq ?_
 intro K hK
 have hb := hs.b
 go_big_op
 go_fit (mxm0 (rAdjg_any (HA.out.bl stab_n hb) hn HG.out HK.out HB.out (by decide) (by decide) (by decide)))
 rintro e w_6 ⟨o_X, c_X, rfl, m_X, hb_6⟩
 clear hb
 replace m_J := m_J.bl hb_6; replace hs := hs.bl hb_6
 refine hK _ _ rfl trivial ?_
 clear hK K
 refine sq ?_
 intro K hK
 go_big_op
 go_fit (mat9_yes m_J (m_X.mn BJ.out) len_mkM (by omega) (RL.out _) (by decide))
 rintro e w_7 ⟨rfl, hb_7⟩
 replace m_J := m_J.bl hb_7; replace m_X := m_X.bl hb_7; replace hs := hs.bl hb_7
 refine hK _ _ rfl trivial ?_
 clear hK K
 refine sr ?_
 apply wpSq_end
 refine hK9 _ _ ?_
 refine cf ?_
 refine wp_skip ?_
 refine hK8 _ _ ?_
 refine wp_seq_k fun K10 hK10 => rg [0, 1, 2, 3, 4, 5, 6] ?_
 refine sm ?_
 refine sq ?_
 intro K hK
 have hb := hs.b
 go_big_op
 go_fit (rInverse_none (HA.out.bl stab_n hb) hn HG.out HK.out HB.out (by decide) (by decide) (by decide) HR.out HU.out)
 rintro e w_8 ⟨rfl, hb_8⟩
 clear hb
 replace hs := hs.bl hb_8
 refine hK _ _ rfl trivial ?_
 clear hK K
 refine sm ?_
 refine sr ?_
 refine sr ?_
 refine sm ?_
 refine sm ?_
 apply wpSq_end
 refine hK10 _ _ ?_
 refine wp_seq_k ?_
 intro K11 hK11
 refine wp_seq_k fun K12 hK12 => rg [0, 1] ?_
 refine sm ?_
 refine sr ?_
 apply wpSq_end
 refine hK12 _ _ ?_
 refine ct ?_
 refine wp_seq_k fun K13 hK13 => rg [0, 1, 2, 3, 4] ?_
 refine sm ?_
 refine sm ?_
 refine sm ?_
 refine sq ?_
 intro K hK
 go_big_op
 go_fit (mat9_no 10 (by decide) rfl)
 rintro e w_9 ⟨rfl, hb_9⟩
 replace hs := hs.bl hb_9
 refine hK _ _ rfl trivial ?_
 clear hK K
 refine sm ?_
 apply wpSq_end
 refine hK13 _ _ ?_
 refine wp_ret ?_
 try dsimp only [Exit.then, Exit.inBlock]
 refine bodyPost_ret (v := (.bool true)) (by simp [results, Tryz.results3, go_sem]) rfl ?_
 exact ⟨rfl, hs.b⟩
end
theorem walk_GdetInverses (w : World) (oa : Option Addr) (na ca : Nat) (A : List (List (Int × Int))) (ha : MN 1048576 w oa A) (hna : A.length = na) (la : na ≤ 1048576) (ta : Tot 1048576 A) :
   Calls Tryz.prog 3 #[.slice oa na ca] w fun e w' => e = .returned (.bool true) ∧ Below w.heap.size w w' := by
 by_cases h : gd A
 · by_cases hk : wd A = na
   · obtain ⟨r, hr⟩ := Dt.rk_exists one_ne na na (at2 A)
     by_cases hu : gN (Dt.det na (at2 A)).1 (Dt.det na (at2 A)).2 = 1
     · exact inv_unit ha hna la h hk ta hr hu
     · exact inv_none ha hna la h hk ta hr hu
   · exact inv_wide ha hna la h rfl hk
 · exact inv_bad ha hna la h
end Go.Proofs.YtjfjlloibmebeaaGreat
