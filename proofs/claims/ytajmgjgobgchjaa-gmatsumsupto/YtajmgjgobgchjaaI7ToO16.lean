/- gmat: Equal. -/
import Derived.Test.YtajmgjgobgchjaaI5ToO2
import Derived.Test.YtajmgjgobgchjaaO3ToO9
import Derived.Test.YtajmgjgobgchjaaO10ToO14

namespace Go.Proofs.Ytajmgjgobgchjaa
open Go Go.RowKit Dig
set_option linter.unusedVariables false
/-- Two good matrices of one size that hold the same numbers. -/
def eqM (A B : List (List (Int × Int))) : Prop := os2 A B ∧ ∀ i, i < A.length → ∀ j, j < wd A → at2 A i j = at2 B i j
instance (A B : List (List (Int × Int))) : Decidable (eqM A B) := inferInstanceAs (Decidable (_ ∧ ∀ i, i < A.length → _))
section
variable {w : World} {va vb : Value} {x y u v : Int} {l m k n la lb na nb ca cb : Nat} {oa ob' : Option Addr} {A B : List (List (Int × Int))}
theorem gEqual_t (ha : PN w va x l y m) (hq : PN w vb u k v n) (hl : l ≤ 100000000) (hm : m ≤ 100000000) (hk : k ≤ 100000000) (hn : n ≤ 100000000) (h : (x, y) = (u, v)) :
    Calls Try.prog 69 #[va, vb] w fun e w' => e = .returned (.bool true) ∧ Below w.heap.size w w' := by
  have := gEqual_any ha hq hl hm hk hn
  simp only [Prod.mk.injEq] at h
  rw [decide_eq_true h] at this
  exact this
theorem gEqual_f (ha : PN w va x l y m) (hq : PN w vb u k v n) (hl : l ≤ 100000000) (hm : m ≤ 100000000) (hk : k ≤ 100000000) (hn : n ≤ 100000000) (h : (x, y) ≠ (u, v)) :
    Calls Try.prog 69 #[va, vb] w fun e w' => e = .returned (.bool false) ∧ Below w.heap.size w w' := by
  have := gEqual_any ha hq hl hm hk hn
  simp only [ne_eq, Prod.mk.injEq] at h
  rw [decide_eq_false h] at this
  exact this
set_option maxHeartbeats 4000000 in
set_option maxRecDepth 20000 in
theorem mEqual_any (ha : MN la w oa A) (hb' : MN lb w ob' B) (hna : A.length = na) (hnb : B.length = nb) (hla : na ≤ 1000000000) (hlb : nb ≤ 1000000000) (h1 : la ≤ 10000000) (h2 : lb ≤ 10000000) :
    Calls Try.prog 17 #[.slice oa na ca, .slice ob' nb cb] w fun e w' => e = .returned (.bool (decide (eqM A B))) ∧ Below w.heap.size w w' := by
  have HA := hide ha
  have HB := hide hb'
  by_cases h : os2 A B
  · obtain rfl : na = nb := by have := h.2.2.1; omega
    have hn64 : na ≤ 64 := by have := h.1.1; omega
    obtain ⟨kk, hkk⟩ : ∃ kk, wd A = kk := ⟨_, rfl⟩
    have hk64 : kk ≤ 64 := by have := h.1.2.1; omega
    have HR := hide (show ∀ i, i < na → (rw_ A i).length = kk ∧ (rw_ B i).length = kk from fun i hi => ⟨by rw [gd_row h.1 (by omega)]; exact hkk, by rw [gd_row h.2.1 (by omega), ← h.2.2.2]; exact hkk⟩)
    have HQ := hide (show (∀ i, i < na → ∀ j, j < kk → at2 A i j = at2 B i j) ↔ eqM A B by unfold eqM; rw [hna, hkk]; exact ⟨fun g => ⟨h, g⟩, fun g => g.2⟩)
    obtain ⟨g1, off1, cur1, t1, z1, B1, D1⟩ := ha.blk
    obtain ⟨g2, off2, cur2, t2, z2, B2, D2⟩ := hb'.blk
    rw [hna] at B1
    rw [hnb] at B2
    have HK := hide (And.intro B1 B2)
    have I1 := D1.isS
    have I2 := D2.isS
    rw [hna] at I1
    rw [hnb] at I2
    have HI := hide (And.intro I1 I2)
    have HD := hide (And.intro D1 D2)
    clear B1 B2 I1 I2 D1 D2 ha hb' hkk
    refine calls_of_marks Try.func17 rfl ?_
    simp only [Try.ntmps17, List.size_toArray, List.length_cons, List.length_nil, Nat.reduceAdd, Nat.reduceSub, Array.replicate_succ, Array.replicate_zero, List.push_toArray, List.append_toArray, List.nil_append, List.cons_append]
    have hs := St.nil w
    refine wp_seq_k ?_
    intro K1 hK1
    refine rg [0] ?_
    refine sq ?_
    refine .al hs ?_; clear hs; intro p_b1 w_1 hs n1 kb_b1
    apply wpSq_end
    refine hK1 _ _ ?_
    refine wp_seq_k ?_
    intro K2 hK2
    refine wp_seq_k ?_
    intro K3 hK3
    refine rg [0, 1, 2, 3] ?_
    refine sq ?_
    refine .mv ?_
    refine sq ?_
    refine .mv ?_
    refine sq ?_
    intro K hK
    have hb := hs.b
    go_big_op
    go_fit (oneSize_yes (HA.out.bl stab_n hb) (HB.out.bl stab_n hb) hna hnb (by omega) (by omega) h)
    rintro e w_2 ⟨rfl, hb_2⟩
    clear hb
    replace hs := hs.bl hb_2
    refine hK _ _ rfl trivial ?_
    clear hK K
    refine sq ?_
    refine .r0 ?_
    apply wpSq_end
    refine hK3 _ _ ?_
    refine cf ?_
    refine wp_skip ?_
    refine hK2 _ _ ?_
    refine wp_seq_k ?_
    intro K4 hK4
    refine wp_seq_k ?_
    intro K5 hK5
    refine rg [0, 1, 2] ?_
    refine sq ?_
    refine .mv ?_
    refine sq ?_
    refine .mv ?_
    refine sq ?_
    intro K hK
    go_big_op
    go_fit (mkBesideSS)
    rintro e w_3 ⟨p_ita, p_itb, rfl, kb_ita, kb_itb, hs_it, hb_3⟩
    have kz_it := hs.k; replace hs := hs.app2 hs_it kb_ita kb_itb; replace kb_ita := Nat.le_trans kz_it kb_ita; replace kb_itb := Nat.le_trans kz_it kb_itb
    refine hK _ _ rfl trivial ?_
    clear hK K
    apply wpSq_end
    refine hK5 _ _ ?_
    refine wp_block ?_
    refine wp_rangeN (X := Unit) (fun k _ => ∀ i, i < k → ∀ j, j < kk → at2 A i j = at2 B i j) (fun c _ _ => c = .ret ∧ ¬ eqM A B) (fun _ => [bx p_ita #[.slice oa na ca] 22, bx p_itb #[.slice ob' na cb] 22, bx p_b1 #[.bool false] 4])
      (fun _ _ => True) (itSS (c1 := ca) (c2 := cb) (t1 := t1) (t2 := t2) (fz1 := z1) (fz2 := z2) (by omega) HI.out.1 HI.out.2 (fun h => (HK.out.1 h).1) (fun h => (HK.out.2 h).1)) () (fun i hi => absurd hi (Nat.not_lt_zero i)) hs trivial ?hR ?hF ?round ?done ?stop
    case hR => exact fun x W hst _ => ⟨hst.g0, hst.g1, fun h => ⟨(HK.out.1 h).2.bl hst.b, (HK.out.2 h).2.bl hst.b⟩⟩
    case hF => exact fun _ _ _ _ _ => trivial
    case stop =>
      rintro l D r c k ⟨⟩ W hk hD ⟨rfl, hI⟩ hs hf
      have Hg := hide (decide_eq_false hI)
      refine wp_ret ?_
      try dsimp only [Exit.then, Exit.inBlock]
      refine ret_mark (hs.obj 1) fun w_4 e_4 => ?_
      have cm_4 := Cm.po (.deferred none) (hs.obj 1) rfl
      replace hs := hs.po 1 (.deferred none) hD; rw [e_4] at hs cm_4; clear e_4; simp only [List.set_cons_succ, List.set_cons_zero] at hs
      have r0_0 := hs.g4.f1
      refine ⟨(.bool false), by simp [results, Try.results17, go_sem, r0_0], ?_⟩
      exact ⟨by rw [Hg.out], hs.b⟩
    case done =>
      rintro l D r ⟨⟩ W hD hI hs hf
      have Hg := hide (decide_eq_true (HQ.out.1 hI))
      try dsimp only [Exit.then, Exit.inBlock]
      refine hK4 _ _ ?_
      refine wp_seq_k ?_
      intro K6 hK6
      refine rg [0] ?_
      refine sq ?_
      refine .s1 hs.g4 (fun _ => hs.u4 kb_b1) ?_; clear hs; intro w_4 hs hd4 ho4
      apply wpSq_end
      refine hK6 _ _ ?_
      refine wp_ret ?_
      try dsimp only [Exit.then, Exit.inBlock]
      refine ret_mark (hs.obj 1) fun w_5 e_5 => ?_
      have cm_5 := Cm.po (.deferred none) (hs.obj 1) rfl
      replace hs := hs.po 1 (.deferred none) hD; rw [e_5] at hs cm_5; clear e_5; simp only [List.set_cons_succ, List.set_cons_zero] at hs
      have r0_0 := hs.g4.f1
      refine ⟨(.bool true), by simp [results, Try.results17, go_sem, r0_0], ?_⟩
      exact ⟨by rw [Hg.out], hs.b⟩
    case round =>
      rintro l D r d k ⟨⟩ W hk hI hs hf
      have hkA := HR.out k hk
      obtain ⟨oA, cA, eA, sA⟩ := HD.out.1 k (by omega)
      obtain ⟨oB, cB, eB, sB⟩ := HD.out.2 k (by omega)
      rw [← rw_eq (Ms := A) (by omega)] at eA sA
      rw [← rw_eq (Ms := B) (by omega)] at eB sB
      rw [hkA.1] at eA
      rw [hkA.2] at eB
      obtain ⟨g3, off3, cur3, t3, z3, B3, D3⟩ := sA.blk
      obtain ⟨g4, off4, cur4, t4, z4, B4, D4⟩ := sB.blk
      rw [hkA.1] at B3
      rw [hkA.2] at B4
      have HK2 := hide (And.intro B3 B4)
      have I3 := D3.isG
      have I4 := D4.isG
      rw [hkA.1] at I3
      rw [hkA.2] at I4
      have HI2 := hide (And.intro I3 I4)
      have HD2 := hide (And.intro D3 D4)
      have hlU := hkA.1
      have hlV := hkA.2
      have HS := hide (show (∀ j, j < kk → at1 (rw_ A k) j = at1 (rw_ B k) j) → ∀ i, i < k + 1 → ∀ j, j < kk → at2 A i j = at2 B i j from fun g i hi => by
        rcases Nat.lt_succ_iff_lt_or_eq.1 hi with hi | hi
        · exact hI i hi
        · subst hi; exact g)
      have HNE := hide (show (∃ j, j < kk ∧ at1 (rw_ A k) j ≠ at1 (rw_ B k) j) → ¬ eqM A B from fun ⟨j, hj, hne⟩ he => hne (HQ.out.2 he k hk j hj))
      simp only [cg_eq eA, cg_eq eB, List.zip_toArray, List.zip_cons_cons, List.zip_nil_right, List.foldl_toArray', List.foldl_cons, List.foldl_nil, List.setIfInBounds_toArray, List.set_cons_succ, List.set_cons_zero]
      clear B3 B4 I3 I4 D3 D4 sA sB hkA eA eB hI
      generalize rw_ A k = U at *
      generalize rw_ B k = V at *
      refine wpIn_seq_k ?_
      intro K6 hK6
      refine rgR [0] ?_
      refine sq ?_
      refine .mv ?_
      apply wpSq_end
      refine hK6 _ _ ?_
      refine rgR [0] ?_
      refine sq ?_
      refine .mv ?_
      apply wpSq_end
      try dsimp only [Exit.then, Exit.inBlock]
      refine ⟨_, 0, hs, rfl, ?_⟩; clear hs; intro r_4 w_4 hs cm_4; simp only [List.set_cons_zero] at hs
      refine wpIn_block ?_
      refine wpIn_seq_k ?_
      intro K7 hK7
      refine rgR [0, 1, 2] ?_
      refine sq ?_
      refine .mv ?_
      refine sq ?_
      refine .mv ?_
      refine sq ?_
      intro K hK
      go_big_op
      go_fit (mkBesideGG)
      rintro e w_5 ⟨p_jta, p_jtb, rfl, kb_jta, kb_jtb, hs_jt, hb_5⟩
      have kz_jt := hs.k; replace hs := hs.app2 hs_jt kb_jta kb_jtb; replace kb_jta := Nat.le_trans kz_jt kb_jta; replace kb_jtb := Nat.le_trans kz_jt kb_jtb
      refine hK _ _ rfl trivial ?_
      clear hK K
      apply wpSq_end
      refine hK7 _ _ ?_
      refine wpIn_block ?_
      refine wp_rangeR (X := Unit) 2 (fun k2 _ => ∀ j, j < k2 → at1 U j = at1 V j) (fun c _ _ => c = .ret ∧ ∃ j, j < kk ∧ at1 U j ≠ at1 V j) (fun _ => [bx p_jta #[.slice oA kk cA] 51, bx p_jtb #[.slice oB kk cB] 51, ob l (.loop r_4), ob D d, bx p_ita #[.slice oa na ca] 22, bx p_itb #[.slice ob' na cb] 22, bx p_b1 #[.bool false] 4])
        (fun _ _ => True) (itGG (c1 := cA) (c2 := cB) (t1 := t3) (t2 := t4) (fz1 := z3) (fz2 := z4) (by omega) HI2.out.1 HI2.out.2 (fun h => (HK2.out.1 h).1) (fun h => (HK2.out.2 h).1)) () (fun i hi => absurd hi (Nat.not_lt_zero i)) hs trivial rfl ?hR2 ?hF2 ?round2 ?done2 ?stop2
      case hR2 => exact fun x W hst _ => ⟨hst.g0, hst.g1, fun h => ⟨(HK2.out.1 h).2.bl hst.b, (HK2.out.2 h).2.bl hst.b⟩⟩
      case hF2 => exact fun _ _ _ _ _ => trivial
      case stop2 =>
        rintro l2 r2 c k2 ⟨⟩ W2 hk2 ⟨rfl, hI2⟩ hs hf
        refine wpIn_ret ?_
        try dsimp only [Exit.then, Exit.inBlock]
        exact ⟨(), ⟨rfl, HNE.out hI2⟩, hs.sub (.cons _ (.cons _ (.cons _ (List.Sublist.refl _)))), trivial⟩
      case done2 =>
        rintro l2 r2 ⟨⟩ W2 hI2 hs hf
        try dsimp only [Exit.then, Exit.inBlock]
        exact ⟨(), HS.out hI2, hs.sub (.cons _ (.cons _ (.cons _ (List.Sublist.refl _)))), trivial⟩
      case round2 =>
        rintro l2 r2 k2 ⟨⟩ W2 hk2 hI2 hs hf
        obtain ⟨a1, a2, a3, a4, a5, a6, a7, a8, e1, e2, e3, e4, x1, x2⟩ := HD2.out.1 k2 (by omega)
        obtain ⟨d1, d2, d3, d4, d5, d6, d7, d8, e5, e6, e7, e8, y1, y2⟩ := HD2.out.2 k2 (by omega)
        rw [← at1_eq (ps := U) (by omega)] at x1 x2
        rw [← at1_eq (ps := V) (by omega)] at y1 y2
        simp only [enG, cg_eq e1, cg_eq e2, cg_eq e3, cg_eq e4, cg_eq e5, cg_eq e6, cg_eq e7, cg_eq e8, List.zip_toArray, List.zip_cons_cons, List.zip_nil_right, List.foldl_toArray', List.foldl_cons, List.foldl_nil, List.setIfInBounds_toArray, List.set_cons_succ, List.set_cons_zero]
        replace x1 : ZN W2 (.agg #[.bool a1, .slice a2 a3 a4]) (at1 U k2).1 la := x1.bl hs.b
        replace x2 : ZN W2 (.agg #[.bool a5, .slice a6 a7 a8]) (at1 U k2).2 la := x2.bl hs.b
        replace y1 : ZN W2 (.agg #[.bool d1, .slice d2 d3 d4]) (at1 V k2).1 lb := y1.bl hs.b
        replace y2 : ZN W2 (.agg #[.bool d5, .slice d6 d7 d8]) (at1 V k2).2 lb := y2.bl hs.b
        have HS2 := hide (show at1 U k2 = at1 V k2 → ∀ j, j < k2 + 1 → at1 U j = at1 V j from fun g i hi => by
          rcases Nat.lt_succ_iff_lt_or_eq.1 hi with hi | hi
          · exact hI2 i hi
          · subst hi; exact g)
        have HN2 := hide (show at1 U k2 ≠ at1 V k2 → ∃ j, j < kk ∧ at1 U j ≠ at1 V j from fun g => ⟨k2, hk2, g⟩)
        clear hI2
        generalize at1 U k2 = u at *
        generalize at1 V k2 = v at *
        refine wpIn_seq_k ?_
        intro K8 hK8
        refine rgR [0, 1] ?_
        refine sq ?_
        refine .al hs ?_; clear hs; intro p_b2 w_6 hs n6 kb_b2
        refine sq ?_
        refine .s4 hs.g0 (fun _ => hs.u0 kb_b2) ?_; clear hs; intro w_7 hs hd7 ho7
        apply wpSq_end
        refine hK8 _ _ ?_
        refine rgR [0, 1] ?_
        refine sq ?_
        refine .al hs ?_; clear hs; intro p_b3 w_8 hs n8 kb_b3
        refine sq ?_
        refine .s4 hs.g0 (fun _ => hs.u0 kb_b3) ?_; clear hs; intro w_9 hs hd9 ho9
        apply wpSq_end
        try dsimp only [Exit.then, Exit.inBlock]
        refine ⟨_, 2, hs, rfl, ?_⟩; clear hs; intro r_10 w_10 hs cm_10; simp only [List.set_cons_succ, List.set_cons_zero] at hs
        refine wpIn_block ?_
        refine wpIn_seq_k ?_
        intro K9 hK9
        refine rgR [0, 1, 2, 3] ?_
        refine sq ?_
        refine .r4 hs.g1.f4 ?_
        refine sq ?_
        refine .r4 hs.g0.f4 ?_
        by_cases huv : (u.1, u.2) = (v.1, v.2)
        · have HX := hide huv
          clear huv
          refine sq ?_
          intro K hK
          have k0_5 := ((((kb n6).o hd7 ho7).b n8).o hd9 ho9).t cm_10.kp
          replace x1 := x1.k k0_5
          replace x2 := x2.k k0_5
          replace y1 := y1.k k0_5
          replace y2 := y2.k k0_5
          go_big_op
          go_fit (gEqual_t (PN.mk' x1 x2) (PN.mk' y1 y2) (by omega) (by omega) (by omega) (by omega) HX.out)
          rintro e w_11 ⟨rfl, hb_11⟩
          replace hs := hs.bl hb_11
          refine hK _ _ rfl trivial ?_
          clear hK K
          refine sq ?_
          refine .r0 ?_
          apply wpSq_end
          refine hK9 _ _ ?_
          refine cfR ?_
          refine wpIn_skip ?_
          try dsimp only [Exit.then, Exit.inBlock]
          exact ⟨(), HS2.out HX.out, hs.sub (.cons _ (.cons _ (List.Sublist.refl _))), trivial⟩
        · have HX := hide huv
          clear huv
          refine sq ?_
          intro K hK
          have k0_5 := ((((kb n6).o hd7 ho7).b n8).o hd9 ho9).t cm_10.kp
          replace x1 := x1.k k0_5
          replace x2 := x2.k k0_5
          replace y1 := y1.k k0_5
          replace y2 := y2.k k0_5
          go_big_op
          go_fit (gEqual_f (PN.mk' x1 x2) (PN.mk' y1 y2) (by omega) (by omega) (by omega) (by omega) HX.out)
          rintro e w_11 ⟨rfl, hb_11⟩
          replace hs := hs.bl hb_11
          refine hK _ _ rfl trivial ?_
          clear hK K
          refine sq ?_
          refine .r0 ?_
          apply wpSq_end
          refine hK9 _ _ ?_
          refine ctR ?_
          refine wpIn_seq_k ?_
          intro K10 hK10
          refine rgR [0] ?_
          refine sq ?_
          refine .s1 hs.g9 (fun _ => hs.u9 kb_b1) ?_; clear hs; intro w_12 hs hd12 ho12
          apply wpSq_end
          refine hK10 _ _ ?_
          refine wpIn_ret ?_
          try dsimp only [Exit.then, Exit.inBlock]
          exact ⟨(), ⟨rfl, HN2.out HX.out⟩, hs.sub (.cons _ (.cons _ (List.Sublist.refl _))), trivial⟩
  · have Hg := hide (show decide (eqM A B) = false from decide_eq_false fun g => h g.1)
    refine calls_of_marks Try.func17 rfl ?_
    simp only [Try.ntmps17, List.size_toArray, List.length_cons, List.length_nil, Nat.reduceAdd, Nat.reduceSub, Array.replicate_succ, Array.replicate_zero, List.push_toArray, List.append_toArray, List.nil_append, List.cons_append]
    have hs := St.nil w
    refine wp_seq_k ?_
    intro K1 hK1
    refine rg [0] ?_
    refine sq ?_
    refine .al hs ?_; clear hs; intro p_b1 w_1 hs n1 kb_b1
    apply wpSq_end
    refine hK1 _ _ ?_
    refine wp_seq_k ?_
    intro K2 hK2
    refine wp_seq_k ?_
    intro K3 hK3
    refine rg [0, 1, 2, 3] ?_
    refine sq ?_
    refine .mv ?_
    refine sq ?_
    refine .mv ?_
    refine sq ?_
    intro K hK
    have hb := hs.b
    go_big_op
    go_fit (oneSize_no (HA.out.bl stab_n hb) (HB.out.bl stab_n hb) hna hnb (by omega) (by omega) h)
    rintro e w_2 ⟨rfl, hb_2⟩
    clear hb
    replace hs := hs.bl hb_2
    refine hK _ _ rfl trivial ?_
    clear hK K
    refine sq ?_
    refine .r0 ?_
    apply wpSq_end
    refine hK3 _ _ ?_
    refine ct ?_
    refine wp_seq_k ?_
    intro K4 hK4
    refine rg [0] ?_
    refine sq ?_
    refine .s1 hs.g0 (fun _ => hs.u0 kb_b1) ?_; clear hs; intro w_3 hs hd3 ho3
    apply wpSq_end
    refine hK4 _ _ ?_
    refine wp_ret ?_
    try dsimp only [Exit.then, Exit.inBlock]
    have r0_0 := hs.g0.f1
    refine retM (v := (.bool false)) (by simp [results, Try.results17, go_sem, r0_0]) rfl ?_
    exact ⟨by rw [Hg.out], hs.b⟩
end
end Go.Proofs.Ytajmgjgobgchjaa


/- The reference's Equal. -/
namespace Go.Proofs.Ytajmgjgobgchjaa
open Go Go.RowKit Dig
set_option linter.unusedVariables false
section
variable {w : World} {va vb : Value} {x y u v : Int} {l m k n la lb na nb ca cb : Nat} {oa ob : Option Addr} {A B : List (List (Int × Int))}
set_option maxHeartbeats 4000000 in
set_option maxRecDepth 20000 in
theorem rgEqual8 (ha : PN w va x l y m) (hq : PN w vb u k v n) (hl : l ≤ 40000000) (hm : m ≤ 40000000) (hk : k ≤ 40000000) (hn : n ≤ 40000000) :
    Calls Try.prog 70 #[va, vb] w fun e w' => e = .returned (.bool (decide (x = u ∧ y = v))) ∧ Below w.heap.size w w' := by
  obtain ⟨D, hD⟩ : ∃ D, decide (x = u ∧ y = v) = D := ⟨_, rfl⟩
  have HD := hide (show decide (x - u = 0 ∧ y - v = 0) = D by rw [← hD]; congr 1; rw [eq_iff_iff]; omega)
  rw [hD]
  clear hD
  obtain ⟨n_0a, o_0a, k_0a, c_0a, n_0b, o_0b, k_0b, c_0b, rfl, ha1, ha2⟩ := ha
  obtain ⟨n_1a, o_1a, k_1a, c_1a, n_1b, o_1b, k_1b, c_1b, rfl, hq1, hq2⟩ := hq
  go_enter Try.func70, Try.ntmps70
  have hs := St.nil w
  refine wp_seq_k ?_
  intro K1 hK1
  refine rg [0, 1, 2] ?_
  refine sq ?_
  refine .al hs ?_; clear hs; intro p_b1 w_1 hs n1 kb_b1
  refine sq ?_
  refine .al hs ?_; clear hs; intro p_b2 w_2 hs n2 kb_b2
  refine sq ?_
  refine .mv ?_
  apply wpSq_end
  refine hK1 _ _ ?_
  refine wp_seq_k ?_
  intro K2 hK2
  refine rg [0, 1, 2, 3, 4] ?_
  refine sq ?_
  refine .r4 hs.g1.f4 ?_
  refine sq ?_
  refine .r4 hs.g0.f4 ?_
  refine sq ?_
  intro K hK
  have k0_2 := (kb n1).b n2
  replace ha1 := ha1.k k0_2
  replace ha2 := ha2.k k0_2
  replace hq1 := hq1.k k0_2
  replace hq2 := hq2.k k0_2
  go_big_op
  go_fit (rgSub_any (PN.mk' ha1 ha2) (PN.mk' hq1 hq2) (by omega) (by omega) (by omega) (by omega) )
  rintro e w_3 ⟨_, rfl, ⟨n_ga, o_ga, k_ga, c_ga, n_gb, o_gb, k_gb, c_gb, rfl, g1, g2⟩, hb_3⟩
  replace hs := hs.bl hb_3
  have Lg1 := hide (g1.lenOf (zlen_sub (ha1.len) (hq1.len)))
  have Lg2 := hide (g2.lenOf (zlen_sub (ha2.len) (hq2.len)))
  refine hK _ _ rfl trivial ?_
  clear hK K
  refine sq ?_
  intro K hK
  go_big_op
  go_fit (rgNull_any (.mk' (g1.zn Lg1.out) (g2.zn Lg2.out)) (by omega) (by omega))
  rintro e w_4 ⟨rfl, hb_4⟩
  replace hs := hs.bl hb_4
  rw [HD.out]
  refine hK _ _ rfl trivial ?_
  clear hK K
  refine sq ?_
  refine .mv ?_
  apply wpSq_end
  refine hK2 _ _ ?_
  refine wp_ret ?_
  try dsimp only [Exit.then, Exit.inBlock]
  refine bodyPost_ret (v := (.bool D)) (by simp [results, Try.results70, go_sem]) rfl ?_
  have hb := hs.b
  exact ⟨rfl, hb⟩
set_option maxHeartbeats 4000000 in
set_option maxRecDepth 20000 in
theorem rEqual_len (hne : na ≠ nb) (hla : na ≤ 1000000000) (hlb : nb ≤ 1000000000) :
    Calls Try.prog 18 #[.slice oa na ca, .slice ob nb cb] w fun e w' => e = .returned (.bool false) ∧ Below w.heap.size w w' := by
  have t1 : ((na : Int) != (nb : Int)) = true := bne_iff_ne.2 (by omega)
  go_enter Try.func18, Try.ntmps18
  have hs := St.nil w
  refine wp_seq_k ?_
  intro K1 hK1
  refine rg [0] ?_
  refine sq ?_
  refine .mv ?_
  apply wpSq_end
  refine hK1 _ _ ?_
  refine wp_seq_k ?_
  intro K2 hK2
  refine wp_seq_k ?_
  intro K3 hK3
  refine rg [0, 1, 2, 3, 4, 5, 6, 7, 8, 9, 10, 11] ?_
  refine sq ?_
  refine .mv ?_
  refine sq ?_
  refine .r0 ?_
  refine sq ?_
  refine .mv ?_
  refine sq ?_
  refine .r0 ?_
  refine sq ?_
  refine .r0 ?_
  refine sq ?_
  refine .mv ?_
  refine sk ?_
  refine sk ?_
  refine sk ?_
  refine sk ?_
  refine sk ?_
  refine sq ?_
  refine .r0 ?_
  apply wpSq_end
  refine hK3 _ _ ?_
  refine ct ?_
  refine wp_seq_k ?_
  intro K4 hK4
  refine rg [0] ?_
  refine sq ?_
  refine .mv ?_
  apply wpSq_end
  refine hK4 _ _ ?_
  refine wp_ret ?_
  try dsimp only [Exit.then, Exit.inBlock]
  refine bodyPost_ret (v := (.bool false)) (by simp [results, Try.results18, go_sem]) rfl ?_
  exact ⟨rfl, hs.b⟩
set_option maxHeartbeats 4000000 in
set_option maxRecDepth 20000 in
theorem rEqual_wd {ka kb' : Nat} (ha : MN la w oa A) (hb' : MN lb w ob B) (hna : A.length = n) (hnb : B.length = n) (hk1 : wd A = ka) (hk2 : wd B = kb') (hne : ka ≠ kb') (h1 : ka ≤ 64) (h2 : kb' ≤ 64) (hn : n ≤ 64) :
    Calls Try.prog 18 #[.slice oa n ca, .slice ob n cb] w fun e w' => e = .returned (.bool false) ∧ Below w.heap.size w w' := by
  have t1 : ((n : Int) != (n : Int)) = false := by simp
  have t2 : ((ka : Int) != (kb' : Int)) = true := bne_iff_ne.2 (by omega)
  have HA := hide ha
  have HB := hide hb'
  clear ha hb'
  go_enter Try.func18, Try.ntmps18
  have hs := St.nil w
  refine wp_seq_k ?_
  intro K1 hK1
  refine rg [0] ?_
  refine sq ?_
  refine .mv ?_
  apply wpSq_end
  refine hK1 _ _ ?_
  refine wp_seq_k ?_
  intro K2 hK2
  refine wp_seq_k ?_
  intro K3 hK3
  refine rg [0, 1, 2, 3, 4, 5, 6, 7, 8, 9, 10, 11] ?_
  refine sq ?_
  refine .mv ?_
  refine sq ?_
  refine .r0 ?_
  refine sq ?_
  refine .mv ?_
  refine sq ?_
  refine .r0 ?_
  refine sq ?_
  refine .r0 ?_
  refine sq ?_
  refine .mv ?_
  refine sq ?_
  refine .mv ?_
  refine sq ?_
  intro K hK
  have hb := hs.b
  go_big_op
  go_fit (rCols_any (HA.out.bl stab_n hb) hna hk1)
  rintro e w_1 ⟨rfl, hb_1⟩
  clear hb
  replace hs := hs.bl hb_1
  refine hK _ _ rfl trivial ?_
  clear hK K
  refine sq ?_
  refine .mv ?_
  refine sq ?_
  intro K hK
  have hb := hs.b
  go_big_op
  go_fit (rCols_any (HB.out.bl stab_n hb) hnb hk2)
  rintro e w_2 ⟨rfl, hb_2⟩
  clear hb
  replace hs := hs.bl hb_2
  refine hK _ _ rfl trivial ?_
  clear hK K
  refine sq ?_
  refine .r0 ?_
  refine sq ?_
  refine .r0 ?_
  apply wpSq_end
  refine hK3 _ _ ?_
  refine ct ?_
  refine wp_seq_k ?_
  intro K4 hK4
  refine rg [0] ?_
  refine sq ?_
  refine .mv ?_
  apply wpSq_end
  refine hK4 _ _ ?_
  refine wp_ret ?_
  try dsimp only [Exit.then, Exit.inBlock]
  refine bodyPost_ret (v := (.bool false)) (by simp [results, Try.results18, go_sem]) rfl ?_
  exact ⟨rfl, hs.b⟩
set_option maxHeartbeats 4000000 in
set_option maxRecDepth 20000 in
theorem rEqual_os (ha : MN la w oa A) (hb' : MN lb w ob B) (hna : A.length = n) (hnb : B.length = n) (h : gd A) (h2 : gd B) (hk : wd A = k) (hk2 : wd B = k) (hl1 : la ≤ 40000000) (hl2 : lb ≤ 40000000) :
    Calls Try.prog 18 #[.slice oa n ca, .slice ob n cb] w fun e w' => e = .returned (.bool (decide (eqM A B))) ∧ Below w.heap.size w w' := by
  have HN := hide (fun (p q : Nat) (hp : p < n) (hq : q < k) (hc : at2 A p q ≠ at2 B p q) => show decide (eqM A B) = false from decide_eq_false fun c => hc (c.2 p (by omega) q (by omega)))
  have HY := hide (fun (hc : ∀ p, p < n → ∀ q, q < k → at2 A p q = at2 B p q) => show decide (eqM A B) = true from decide_eq_true ⟨⟨h, h2, by omega, by omega⟩, fun p hp q hq => hc p (by omega) q (by omega)⟩)
  obtain ⟨D, hD⟩ : ∃ D, decide (eqM A B) = D := ⟨_, rfl⟩
  rw [hD] at HN HY ⊢
  clear hD
  have t1 : ((n : Int) != (n : Int)) = false := by simp
  have t2 : ((k : Int) != (k : Int)) = false := by simp
  have HA := hide ha
  have HB := hide hb'
  have hn64 : n ≤ 64 := by have := h.1; omega
  have hk64 : k ≤ 64 := by have := h.2.1; omega
  have HR := hide (show ∀ i, i < n → (rw_ A i).length = k ∧ (rw_ B i).length = k from fun i hi => ⟨by rw [gd_row h (by omega)]; exact hk, by rw [gd_row h2 (by omega)]; exact hk2⟩)
  clear ha hb' h h2
  go_enter Try.func18, Try.ntmps18
  have hs := St.nil w
  refine wp_seq_k ?_
  intro K1 hK1
  refine rg [0] ?_
  refine sq ?_
  refine .mv ?_
  apply wpSq_end
  refine hK1 _ _ ?_
  refine wp_seq_k ?_
  intro K2 hK2
  refine wp_seq_k ?_
  intro K3 hK3
  refine rg [0, 1, 2, 3, 4, 5, 6, 7, 8, 9, 10, 11] ?_
  refine sq ?_
  refine .mv ?_
  refine sq ?_
  refine .r0 ?_
  refine sq ?_
  refine .mv ?_
  refine sq ?_
  refine .r0 ?_
  refine sq ?_
  refine .r0 ?_
  refine sq ?_
  refine .mv ?_
  refine sq ?_
  refine .mv ?_
  refine sq ?_
  intro K hK
  have hb := hs.b
  go_big_op
  go_fit (rCols_any (HA.out.bl stab_n hb) hna hk)
  rintro e w_1 ⟨rfl, hb_1⟩
  clear hb
  replace hs := hs.bl hb_1
  refine hK _ _ rfl trivial ?_
  clear hK K
  refine sq ?_
  refine .mv ?_
  refine sq ?_
  intro K hK
  have hb := hs.b
  go_big_op
  go_fit (rCols_any (HB.out.bl stab_n hb) hnb hk2)
  rintro e w_2 ⟨rfl, hb_2⟩
  clear hb
  replace hs := hs.bl hb_2
  refine hK _ _ rfl trivial ?_
  clear hK K
  refine sq ?_
  refine .r0 ?_
  refine sq ?_
  refine .r0 ?_
  apply wpSq_end
  refine hK3 _ _ ?_
  refine cf ?_
  refine wp_skip ?_
  refine hK2 _ _ ?_
  refine wp_seq_k ?_
  intro K4 hK4
  refine wp_seq_k ?_
  intro K5 hK5
  refine rg [0] ?_
  refine sq ?_
  refine .mv ?_
  apply wpSq_end
  refine hK5 _ _ ?_
  refine wp_block ?_
  have hd3 := hs.2.1
  go_loopg [5] n (fun kk s5 wr => ∃ (i : Nat), s5 = .int .i64 (i : Int) ∧ i + kk = n ∧ Hid (∀ p, p < i → ∀ q, q < k → at2 A p q = at2 B p q) ∧ St w [] wr)
  case atStart => exact ⟨0, rfl, by omega, hide (fun p hp => absurd hp (Nat.not_lt_zero _)), hs⟩
  case round =>
  clear hs
  obtain ⟨i, rfl, hik, HI, hs⟩ := hrel
  have HO := ‹∀ (a' : Act) (w' : World), Handed _ _ a' w' → _›
  obtain ⟨g1, hg1⟩ : ∃ g, gk = g := ⟨_, rfl⟩
  by_cases hi : i < n
  · have HX := hide hi
    refine wp_seq_k ?_
    intro K6 hK6
    refine wp_seq_k ?_
    intro K7 hK7
    refine rg [0, 1, 2, 3] ?_
    refine sq ?_
    refine .mv ?_
    refine sq ?_
    refine .mv ?_
    refine sq ?_
    refine .r0 ?_
    refine sq ?_
    refine .r0 ?_
    apply wpSq_end
    refine hK7 _ _ ?_
    refine ct ?_
    refine wp_skip ?_
    refine hK6 _ _ ?_
    refine wp_seq_k ?_
    intro K8 hK8
    refine wp_block ?_
    refine wp_seq_k ?_
    intro K9 hK9
    refine rg [0] ?_
    refine sq ?_
    refine .mv ?_
    apply wpSq_end
    refine hK9 _ _ ?_
    refine wp_block ?_
    have hd4 := hs.2.1
    go_loopg [6] k (fun kk s6 wr => ∃ (j : Nat), s6 = .int .i64 (j : Int) ∧ j + kk = k ∧ Hid (∀ q, q < j → at2 A i q = at2 B i q) ∧ St w [] wr)
    case atStart => exact ⟨0, rfl, by omega, hide (fun q hq => absurd hq (Nat.not_lt_zero _)), hs⟩
    case round =>
    clear hs
    obtain ⟨j, rfl, hjk, HJ', hs⟩ := hrel
    by_cases hj : j < k
    · have HJ := hide hj
      obtain ⟨gm, offm, curm, tym, fzm, g2, off2, cur2, ty2, fz2, ci, a1, a2, a3, a4, a5, a6, a7, a8, rfl, x1, e0', x2, e1, e2, e3, e4, z1, z2⟩ := HA.out.op (i := i) (j := j) (by have := HX.out; omega) (by rw [(HR.out i HX.out).1]; exact hj)
      obtain ⟨gn, offn, curn, tyn, fzn, g4, off4, cur4, ty4, fz4, cj, d1, d2, d3, d4, d5, d6, d7, d8, rfl, x3, e5', x4, e5, e6, e7, e8, z3, z4⟩ := HB.out.op (i := i) (j := j) (by have := HX.out; omega) (by rw [(HR.out i HX.out).2]; exact hj)
      rw [(HR.out i HX.out).1] at e0'
      rw [(HR.out i HX.out).2] at e5'
      have hE := e0'
      have hF := e5'
      clear e0' e5'
      replace z1 : ZN wr (.agg #[.bool a1, .slice a2 a3 a4]) (at2 A i j).1 la := z1.bl hs.b
      replace z2 : ZN wr (.agg #[.bool a5, .slice a6 a7 a8]) (at2 A i j).2 la := z2.bl hs.b
      replace z3 : ZN wr (.agg #[.bool d1, .slice d2 d3 d4]) (at2 B i j).1 lb := z3.bl hs.b
      replace z4 : ZN wr (.agg #[.bool d5, .slice d6 d7 d8]) (at2 B i j).2 lb := z4.bl hs.b
      replace x1 := x1.bl hs.b
      replace x2 := x2.bl hs.b
      replace x3 := x3.bl hs.b
      replace x4 := x4.bl hs.b
      by_cases he : at2 A i j = at2 B i j
      · have HE := hide (show decide ((at2 A i j).1 = (at2 B i j).1 ∧ (at2 A i j).2 = (at2 B i j).2) = true from decide_eq_true ⟨by rw [he], by rw [he]⟩)
        have HF := hide (show ∀ q, q < j + 1 → at2 A i q = at2 B i q from fun q hq => by
          rcases Nat.lt_or_ge q j with h | h
          · exact HJ'.out q h
          · obtain rfl : q = j := by omega
            exact he)
        clear he HJ'
        refine wp_seq_k ?_
        intro K10 hK10
        refine wp_seq_k ?_
        intro K11 hK11
        refine rg [0, 1, 2, 3, 4, 5, 6] ?_
        refine sq ?_
        refine .mv ?_
        refine sq ?_
        refine .mv ?_
        refine sq ?_
        refine .mv ?_
        refine sq ?_
        refine .r0 ?_
        refine sq ?_
        refine .r1 (x1.cell _ hE) ?_
        refine sq ?_
        refine .r0 ?_
        refine sq ?_
        refine .r0 ?_
        apply wpSq_end
        refine hK11 _ _ ?_
        refine ct ?_
        refine wp_skip ?_
        refine hK10 _ _ ?_
        refine wp_seq_k ?_
        intro K12 hK12
        refine wp_block ?_
        refine wp_seq_k ?_
        intro K13 hK13
        refine wp_region_f4 [(0, false), (1, false), (2, false), (3, false), (4, false), (5, false), (6, false), (7, false), (8, false), (9, false), (10, false), (11, false), (12, false), (13, false), (14, true), (15, false)] [] [] (fun _ => default) [99, 99, 99, 0, 99, 99, 1, 99, 99, 99, 2, 99, 99, 3, 99, 99] [] (.c x1 (.c x2 (.c x3 (.c x4 .n)))) fn fun w_5 n5 => ?_
        replace x1 := x1.bl n5; replace x2 := x2.bl n5; replace x3 := x3.bl n5; replace x4 := x4.bl n5; replace hs := hs.bl n5
        refine fmv ?_
        refine fmv ?_
        refine f0 ?_
        apply wpFl_ld rfl rfl; (case h1 => intro w' hC K hK; have c0 := Bs.cell hC ((offm + i)) hE; go_big_op; exact hK); iterate 4 kernel_rfl
        refine fmv ?_
        refine f0 ?_
        apply wpFl_ld rfl rfl; (case h1 => intro w' hC K hK; have c0 := Bs.cell hC ((off2 + j * 4)) e1; have c1 := Bs.cell hC ((off2 + j * 4) + 1) e2; have c2 := Bs.cell hC ((off2 + j * 4) + 2) e3; have c3 := Bs.cell hC ((off2 + j * 4) + 3) e4; go_big_op; exact hK); iterate 4 kernel_rfl
        refine fmv ?_
        refine fmv ?_
        refine f0 ?_
        apply wpFl_ld rfl rfl; (case h1 => intro w' hC K hK; have c0 := Bs.cell hC ((offn + i)) hF; go_big_op; exact hK); iterate 4 kernel_rfl
        refine fmv ?_
        refine f0 ?_
        apply wpFl_ld rfl rfl; (case h1 => intro w' hC K hK; have c0 := Bs.cell hC ((off4 + j * 4)) e5; have c1 := Bs.cell hC ((off4 + j * 4) + 1) e6; have c2 := Bs.cell hC ((off4 + j * 4) + 2) e7; have c3 := Bs.cell hC ((off4 + j * 4) + 3) e8; go_big_op; exact hK); iterate 4 kernel_rfl
        refine fl fun w_6 n6 => ?_
        replace x1 := x1.bl n6; replace x2 := x2.bl n6; replace x3 := x3.bl n6; replace x4 := x4.bl n6; replace hs := hs.bl n6
        intro K hK
        have k0_2 := (kb n5).b n6
        replace z1 := z1.k k0_2
        replace z2 := z2.k k0_2
        replace z3 := z3.k k0_2
        replace z4 := z4.k k0_2
        go_big_op
        go_fit (rgEqual8 (.mk' z1 z2) (.mk' z3 z4) hl1 hl1 hl2 hl2)
        rintro e w_7 ⟨rfl, hb_7⟩
        replace x1 := x1.bl hb_7; replace x2 := x2.bl hb_7; replace x3 := x3.bl hb_7; replace x4 := x4.bl hb_7; replace hs := hs.bl hb_7
        rw [HE.out]
        refine hK _ _ rfl ⟨hb_7, (And.intro x1 (And.intro x2 (And.intro x3 (And.intro x4 trivial))))⟩ ?_
        clear hK K
        refine f0 ?_
        refine e0 hs ?_; clear hs; intro w_8 hs n8
        replace x1 := x1.bl n8; replace x2 := x2.bl n8; replace x3 := x3.bl n8; replace x4 := x4.bl n8
        apply wpTail_end
        refine hK13 _ _ ?_
        refine cf ?_
        refine wp_skip ?_
        refine hK12 _ _ ?_
        refine rg [0, 1, 2] ?_
        refine sq ?_
        refine .mv ?_
        refine sq ?_
        refine .r0 ?_
        refine sq ?_
        refine .mv ?_
        apply wpSq_end
        refine ‹∀ (a' : Act) (w' : World), Handed _ _ a' w' → _› _ _ ?_
        go_roundg (gk - 1)
        case rel => exact ⟨j + 1, by rfl, by omega, HF, hs⟩
        case measure => omega
      · have HE := hide (show decide ((at2 A i j).1 = (at2 B i j).1 ∧ (at2 A i j).2 = (at2 B i j).2) = false from decide_eq_false fun c => he (Prod.ext c.1 c.2))
        have HF := hide (HN.out i j HX.out hj he)
        clear he HJ'
        refine wp_seq_k ?_
        intro K10 hK10
        refine wp_seq_k ?_
        intro K11 hK11
        refine rg [0, 1, 2, 3, 4, 5, 6] ?_
        refine sq ?_
        refine .mv ?_
        refine sq ?_
        refine .mv ?_
        refine sq ?_
        refine .mv ?_
        refine sq ?_
        refine .r0 ?_
        refine sq ?_
        refine .r1 (x1.cell _ hE) ?_
        refine sq ?_
        refine .r0 ?_
        refine sq ?_
        refine .r0 ?_
        apply wpSq_end
        refine hK11 _ _ ?_
        refine ct ?_
        refine wp_skip ?_
        refine hK10 _ _ ?_
        refine wp_seq_k ?_
        intro K12 hK12
        refine wp_block ?_
        refine wp_seq_k ?_
        intro K13 hK13
        refine wp_region_f4 [(0, false), (1, false), (2, false), (3, false), (4, false), (5, false), (6, false), (7, false), (8, false), (9, false), (10, false), (11, false), (12, false), (13, false), (14, true), (15, false)] [] [] (fun _ => default) [99, 99, 99, 0, 99, 99, 1, 99, 99, 99, 2, 99, 99, 3, 99, 99] [] (.c x1 (.c x2 (.c x3 (.c x4 .n)))) fn fun w_5 n5 => ?_
        replace x1 := x1.bl n5; replace x2 := x2.bl n5; replace x3 := x3.bl n5; replace x4 := x4.bl n5; replace hs := hs.bl n5
        refine fmv ?_
        refine fmv ?_
        refine f0 ?_
        apply wpFl_ld rfl rfl; (case h1 => intro w' hC K hK; have c0 := Bs.cell hC ((offm + i)) hE; go_big_op; exact hK); iterate 4 kernel_rfl
        refine fmv ?_
        refine f0 ?_
        apply wpFl_ld rfl rfl; (case h1 => intro w' hC K hK; have c0 := Bs.cell hC ((off2 + j * 4)) e1; have c1 := Bs.cell hC ((off2 + j * 4) + 1) e2; have c2 := Bs.cell hC ((off2 + j * 4) + 2) e3; have c3 := Bs.cell hC ((off2 + j * 4) + 3) e4; go_big_op; exact hK); iterate 4 kernel_rfl
        refine fmv ?_
        refine fmv ?_
        refine f0 ?_
        apply wpFl_ld rfl rfl; (case h1 => intro w' hC K hK; have c0 := Bs.cell hC ((offn + i)) hF; go_big_op; exact hK); iterate 4 kernel_rfl
        refine fmv ?_
        refine f0 ?_
        apply wpFl_ld rfl rfl; (case h1 => intro w' hC K hK; have c0 := Bs.cell hC ((off4 + j * 4)) e5; have c1 := Bs.cell hC ((off4 + j * 4) + 1) e6; have c2 := Bs.cell hC ((off4 + j * 4) + 2) e7; have c3 := Bs.cell hC ((off4 + j * 4) + 3) e8; go_big_op; exact hK); iterate 4 kernel_rfl
        refine fl fun w_6 n6 => ?_
        replace x1 := x1.bl n6; replace x2 := x2.bl n6; replace x3 := x3.bl n6; replace x4 := x4.bl n6; replace hs := hs.bl n6
        intro K hK
        have k0_2 := (kb n5).b n6
        replace z1 := z1.k k0_2
        replace z2 := z2.k k0_2
        replace z3 := z3.k k0_2
        replace z4 := z4.k k0_2
        go_big_op
        go_fit (rgEqual8 (.mk' z1 z2) (.mk' z3 z4) hl1 hl1 hl2 hl2)
        rintro e w_7 ⟨rfl, hb_7⟩
        replace x1 := x1.bl hb_7; replace x2 := x2.bl hb_7; replace x3 := x3.bl hb_7; replace x4 := x4.bl hb_7; replace hs := hs.bl hb_7
        rw [HE.out]
        refine hK _ _ rfl ⟨hb_7, (And.intro x1 (And.intro x2 (And.intro x3 (And.intro x4 trivial))))⟩ ?_
        clear hK K
        refine f0 ?_
        refine e0 hs ?_; clear hs; intro w_8 hs n8
        replace x1 := x1.bl n8; replace x2 := x2.bl n8; replace x3 := x3.bl n8; replace x4 := x4.bl n8
        apply wpTail_end
        refine hK13 _ _ ?_
        refine ct ?_
        refine wp_seq_k ?_
        intro K14 hK14
        refine rg [0] ?_
        refine sq ?_
        refine .mv ?_
        apply wpSq_end
        refine hK14 _ _ ?_
        refine wp_ret ?_
        try dsimp only [Exit.then, Exit.inBlock]
        refine bodyPost_ret (v := (.bool false)) (by simp [results, Try.results18, go_sem]) rfl ?_
        exact ⟨by rw [HF.out], hs.b⟩
    · obtain rfl : k = j := by omega
      have HJ := hide hj
      obtain ⟨gm, offm, curm, tym, fzm, oi, ci, rfl, x1, e5, s2⟩ := HA.out.row (i := i) (by have := HX.out; omega)
      rw [(HR.out i HX.out).1] at e5
      clear s2
      replace x1 := x1.bl hs.b
      refine wp_seq_k ?_
      intro K10 hK10
      refine wp_seq_k ?_
      intro K11 hK11
      refine rg [0, 1, 2, 3, 4, 5, 6] ?_
      refine sq ?_
      refine .mv ?_
      refine sq ?_
      refine .mv ?_
      refine sq ?_
      refine .mv ?_
      refine sq ?_
      refine .r0 ?_
      refine sq ?_
      refine .r1 (x1.cell _ e5) ?_
      refine sq ?_
      refine .r0 ?_
      refine sq ?_
      refine .r0 ?_
      apply wpSq_end
      refine hK11 _ _ ?_
      refine cf ?_
      refine wp_exit ?_
      refine hK8 _ _ ?_
      refine rg [0, 1, 2] ?_
      refine sq ?_
      refine .mv ?_
      refine sq ?_
      refine .r0 ?_
      refine sq ?_
      refine .mv ?_
      apply wpSq_end
      refine HO _ _ ?_
      go_roundg (g1 - 1)
      case rel => exact ⟨i + 1, by rfl, by omega, hide (fun p hp q hq => by
        rcases Nat.lt_or_ge p i with h | h
        · exact HI.out p h q hq
        · obtain rfl : p = i := by omega
          exact HJ'.out q hq), hs⟩
      case measure => omega
  · obtain rfl : n = i := by omega
    have HX := hide hi
    refine wp_seq_k ?_
    intro K6 hK6
    refine wp_seq_k ?_
    intro K7 hK7
    refine rg [0, 1, 2, 3] ?_
    refine sq ?_
    refine .mv ?_
    refine sq ?_
    refine .mv ?_
    refine sq ?_
    refine .r0 ?_
    refine sq ?_
    refine .r0 ?_
    apply wpSq_end
    refine hK7 _ _ ?_
    refine cf ?_
    refine wp_exit ?_
    refine hK4 _ _ ?_
    refine wp_seq_k ?_
    intro K8 hK8
    refine rg [0] ?_
    refine sq ?_
    refine .mv ?_
    apply wpSq_end
    refine hK8 _ _ ?_
    refine wp_ret ?_
    try dsimp only [Exit.then, Exit.inBlock]
    refine bodyPost_ret (v := (.bool true)) (by simp [results, Try.results18, go_sem]) rfl ?_
    exact ⟨by rw [HY.out HI.out], hs.b⟩
theorem rEqual_any (ha : MN la w oa A) (hb' : MN lb w ob B) (hna : A.length = na) (hnb : B.length = nb) (h : gd A) (h2 : gd B) (hl1 : la ≤ 40000000) (hl2 : lb ≤ 40000000) :
    Calls Try.prog 18 #[.slice oa na ca, .slice ob nb cb] w fun e w' => e = .returned (.bool (decide (eqM A B))) ∧ Below w.heap.size w w' := by
  have i1 := h.1
  have i2 := h2.1
  by_cases e1 : na = nb
  · subst e1
    by_cases e2 : wd A = wd B
    · exact rEqual_os ha hb' hna hnb h h2 e2 rfl hl1 hl2
    · have := rEqual_wd (ca := ca) (cb := cb) ha hb' hna hnb rfl rfl e2 h.2.1 h2.2.1 (by omega)
      rw [decide_eq_false (fun c : eqM A B => e2 c.1.2.2.2)]; exact this
  · have := rEqual_len (w := w) (oa := oa) (ob := ob) (ca := ca) (cb := cb) e1 (by omega) (by omega)
    rw [decide_eq_false (fun c : eqM A B => e1 (by have := c.1.2.2.1; omega))]; exact this
end
end Go.Proofs.Ytajmgjgobgchjaa


/- GmatSums: what its calls tell. -/
namespace Go.Proofs.Ytajmgjgobgchjaa
open Go Go.RowKit Dig
set_option linter.unusedVariables false
def adM (A B : List (List (Int × Int))) : List (List (Int × Int)) := mkM A.length (wd A) fun i j => aP (at2 A i j) (at2 B i j)
def suM (A B : List (List (Int × Int))) : List (List (Int × Int)) := mkM A.length (wd A) fun i j => sP (at2 A i j) (at2 B i j)
theorem aP_one {a b : Int × Int} : aP a (mP b (1, 0)) = aP a b := Prod.ext (by simp only [aP, mP]; grind) (by simp only [aP, mP]; grind)
theorem aP_neg {a b : Int × Int} : aP a (mP b (-1, 0)) = sP a b := Prod.ext (by simp only [aP, mP, sP]; grind) (by simp only [aP, mP, sP]; grind)
theorem zl_sP {p q : Int × Int} {l : Nat} (hp : zl l p) (hq : zl l q) : zl (l + 1) (sP p q) := ⟨zlen_subM hp.1 hq.1, zlen_subM hp.2 hq.2⟩
section
variable {w : World} {l m n k c ca cb na nb : Nat} {o oa ob : Option Addr} {A B : List (List (Int × Int))}
theorem lAdd (ha : MN l w oa A) (hb : MN m w ob B) (hna : A.length = n) (hnb : B.length = n) (h : os2 A B) (h1 : l ≤ 100000000) (h2 : m ≤ 100000000) :
    Calls Try.prog 10 #[.slice oa n ca, .slice ob n cb] w fun e w' => ∃ o c, e = .returned (.tuple #[.slice o n c, .int .i64 0]) ∧ MC w' o (adM A B) ∧ Below w.heap.size w w' := by
  have := mxmc (mAdd_ok (ca := ca) (cb := cb) ha hb hna hnb h h1 h2)
  subst hna; exact this
theorem lSub (ha : MN l w oa A) (hb : MN m w ob B) (hna : A.length = n) (hnb : B.length = n) (h : os2 A B) (h1 : l ≤ 100000000) (h2 : m ≤ 100000000) :
    Calls Try.prog 11 #[.slice oa n ca, .slice ob n cb] w fun e w' => ∃ o c, e = .returned (.tuple #[.slice o n c, .int .i64 0]) ∧ MC w' o (suM A B) ∧ Below w.heap.size w w' := by
  have := mxmc (mSub_ok (ca := ca) (cb := cb) ha hb hna hnb h h1 h2)
  subst hna; exact this
theorem lIdent (hn : n ≤ 64) :
    Calls Try.prog 13 #[.int .i64 (n : Int)] w fun e w' => ∃ o c, e = .returned (.tuple #[.slice o n c, .int .i64 0]) ∧ MC w' o (mkM n n one2) ∧ Below w.heap.size w w' := mxmc (mIdent_ok hn)
theorem rIdent8 (hn : n ≤ 64) :
    Calls Try.prog 21 #[.int .i64 (n : Int)] w fun e w' => ∃ o c, e = .returned (.slice o n c) ∧ MC w' o (mkM n n one2) ∧ Below w.heap.size w w' := mxmc2 (rIdent_any hn)
theorem rAdd8 (ha : MN l w oa A) (hb : MN m w ob B) (hna : A.length = n) (hnb : B.length = n) (h : os2 A B) (h1 : l ≤ 20000000) (h2 : m ≤ 20000000) :
    Calls Try.prog 22 #[.slice oa n ca, .slice ob n cb, .int .i64 1] w fun e w' => ∃ o c, e = .returned (.slice o n c) ∧ MC w' o (adM A B) ∧ Below w.heap.size w w' := by
  have := mxmc2 (rSum_any (ca := ca) (cb := cb) (z := 1) ha hb hna hnb h.1 h.2.1 rfl h.2.2.2.symm h1 h2 (by decide) (by decide))
  subst hna; simp only [aP_one] at this; exact this
theorem rSub8 (ha : MN l w oa A) (hb : MN m w ob B) (hna : A.length = n) (hnb : B.length = n) (h : os2 A B) (h1 : l ≤ 20000000) (h2 : m ≤ 20000000) :
    Calls Try.prog 22 #[.slice oa n ca, .slice ob n cb, .int .i64 (-1)] w fun e w' => ∃ o c, e = .returned (.slice o n c) ∧ MC w' o (suM A B) ∧ Below w.heap.size w w' := by
  have := mxmc2 (rSum_any (ca := ca) (cb := cb) (z := -1) ha hb hna hnb h.1 h.2.1 rfl h.2.2.2.symm h1 h2 (by decide) (by decide))
  subst hna; simp only [aP_neg] at this; exact this
theorem rMul8 (ha : MN l w oa A) (hb : MN m w ob B) (hna : A.length = na) (hnb : B.length = nb) (h : ml2 A B) (h1 : l ≤ 9000000) (h2 : m ≤ 9000000) :
    Calls Try.prog 23 #[.slice oa na ca, .slice ob nb cb] w fun e w' => ∃ o c, e = .returned (.slice o na c) ∧ MC w' o (mulM A B) ∧ Below w.heap.size w w' := mxmc2 (rMul_any ha hb hna hnb h rfl h1 h2)
theorem bd_adM (ha : BdM l A) (hb : BdM l B) : BdM (l + 1) (adM A B) := bd_mkM fun i _ j _ => zl_aP (at2_bd ha) (at2_bd hb)
theorem bd_suM (ha : BdM l A) (hb : BdM l B) : BdM (l + 1) (suM A B) := bd_mkM fun i _ j _ => zl_sP (at2_bd ha) (at2_bd hb)
theorem bd_one : BdM 1 (mkM n n one2) := bd_mkM fun i _ j _ => by
  unfold one2
  split <;> exact ⟨zlen_small8 (by decide), zlen_small8 (by decide)⟩
end
end Go.Proofs.Ytajmgjgobgchjaa

