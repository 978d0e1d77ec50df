/- Texts with a sign: CutPrefix, the references Is and Parse. -/
import Derived.Test.YtjfjlloibmebeaaGreatU5ToR10
import Derived.Test.YtjfjlloibmebeaaGreatR11
import Derived.Test.YtjfjlloibmebeaaGreatR12
import Derived.Test.YtjfjlloibmebeaaGreatG3ToM5
import Derived.Test.YtjfjlloibmebeaaGreatE14ToRt
import Derived.Test.YtjfjlloibmebeaaGreatI3ToN4

namespace Go.Proofs.YtjfjlloibmebeaaGreat
open Go.RowKit Dig

end Go.Proofs.YtjfjlloibmebeaaGreat


/- zint.Parse, Text; the reference's Text. -/
namespace Go.Proofs.YtjfjlloibmebeaaGreat
open Go.RowKit Dig

end Go.Proofs.YtjfjlloibmebeaaGreat


/- Texts with a sign, in one piece: what is a number, and which. -/
namespace Go.Proofs.YtjfjlloibmebeaaGreat
open Go Go.RowKit Dig
set_option linter.unusedVariables false

end Go.Proofs.YtjfjlloibmebeaaGreat


/- gint: Text; the law's awake. -/
namespace Go.Proofs.YtjfjlloibmebeaaGreat
open Go Go.RowKit Dig
set_option linter.unusedVariables false

section
variable {w : World} {va vb : Value} {x y u v : Int} {l m k n : Nat}
end
end Go.Proofs.YtjfjlloibmebeaaGreat


/- The reference's Round, Zero; what quotients and rests are. -/
namespace Go.Proofs.YtjfjlloibmebeaaGreat
open Go Go.RowKit Dig
set_option linter.unusedVariables false

section
variable {w : World} {va vb : Value} {x y u v : Int} {l m k n : Nat}
end
end Go.Proofs.YtjfjlloibmebeaaGreat


/- gint: Cmp, IsUnit, Canon; the reference's. -/
namespace Go.Proofs.YtjfjlloibmebeaaGreat
open Go Go.RowKit Dig
set_option linter.unusedVariables false

section
variable {w : World} {va vb : Value} {x y u v : Int} {l m k n : Nat}
end
end Go.Proofs.YtjfjlloibmebeaaGreat


/- gdet: Inverse; the reference's. -/
namespace Go.Proofs.YtjfjlloibmebeaaGreat
open Go Go.RowKit Dig
set_option linter.unusedVariables false
set_option linter.unusedSimpArgs false
theorem Tot.brd {T n : Nat} {Ms : List (List (Int × Int))} (h : Tot T Ms) (hn : Ms.length = n) (h64 : n ≤ 64) : MinB (n + n) (n + n) (T + 64 + 2001) (Go.Proofs.YtjfjlloibmebeaaGreat.brd n (at2 Ms)) := by
  subst hn
  obtain ⟨b, hT, hb⟩ := h
  rw [brd_G]
  refine minB_brd (b := b) (d := fun _ => 1) (D := 64) (by omega) hT (by rw [sN_one]; omega) (fun i hi q hq => ?_) (fun i _ q _ => zl_one i q)
  have h0 : rw_ Ms i = Ms[i] := by simp [rw_, List.getD, hi]
  unfold at2
  rw [h0]
  rcases Nat.lt_or_ge q Ms[i].length with c | c
  · have : at1 Ms[i] q = Ms[i][q] := by simp [at1, List.getD, c]
    rw [this]; exact hb i hi _ (List.getElem_mem c)
  · have : at1 Ms[i] q = (0, 0) := by simp [at1, List.getD, c]
    rw [this]; exact zl_0 _
theorem zl_adjE {n L i j : Nat} {M : Nat → Nat → Int × Int} (hB : MinB (n + n) (n + n) L (brd n M)) (hi : i < n) (hj : j < n) : zl L (adjE n M i j) := by
  have h := (hB.D n (n + i) (by omega) (n + j) (by omega))
  rw [brd_D hi hj] at h
  have h1 : zl L (-(adjE n M i j).1, -(adjE n M i j).2) := h
  exact ⟨Nat.le_trans (Nat.le_of_eq (by rw [Int.natAbs_neg])) h1.1, Nat.le_trans (Nat.le_of_eq (by rw [Int.natAbs_neg])) h1.2⟩
section
variable {w : World} {la n L ca r l : Nat} {oa : Option Addr} {A : List (List (Int × Int))}
end
end Go.Proofs.YtjfjlloibmebeaaGreat


/- gmat: Equal. -/
namespace Go.Proofs.YtjfjlloibmebeaaGreat
open Go Go.RowKit Dig
set_option linter.unusedVariables false
/-- Two good matrices of one size that hold the same numbers. -/
def eqM (A B : List (List (Int × Int))) : Prop := os2 A B ∧ ∀ i, i < A.length → ∀ j, j < wd A → at2 A i j = at2 B i j
instance (A B : List (List (Int × Int))) : Decidable (eqM A B) := inferInstanceAs (Decidable (_ ∧ ∀ i, i < A.length → _))
section
variable {w : World} {va vb : Value} {x y u v : Int} {l m k n la lb na nb ca cb : Nat} {oa ob' : Option Addr} {A B : List (List (Int × Int))}
theorem gEqual_t (ha : PN w va x l y m) (hq : PN w vb u k v n) (hl : l ≤ 100000000) (hm : m ≤ 100000000) (hk : k ≤ 100000000) (hn : n ≤ 100000000) (h : (x, y) = (u, v)) :
    Calls Tryz.prog 27 #[va, vb] w fun e w' => e = .returned (.bool true) ∧ Below w.heap.size w w' := by
  have := gEqual_any ha hq hl hm hk hn
  simp only [Prod.mk.injEq] at h
  rw [decide_eq_true h] at this
  exact this
theorem gEqual_f (ha : PN w va x l y m) (hq : PN w vb u k v n) (hl : l ≤ 100000000) (hm : m ≤ 100000000) (hk : k ≤ 100000000) (hn : n ≤ 100000000) (h : (x, y) ≠ (u, v)) :
    Calls Tryz.prog 27 #[va, vb] w fun e w' => e = .returned (.bool false) ∧ Below w.heap.size w w' := by
  have := gEqual_any ha hq hl hm hk hn
  simp only [ne_eq, Prod.mk.injEq] at h
  rw [decide_eq_false h] at this
  exact this
set_option maxHeartbeats 4000000 in
set_option maxRecDepth 20000 in
theorem mEqual_any (ha : MN la w oa A) (hb' : MN lb w ob' B) (hna : A.length = na) (hnb : B.length = nb) (hla : na ≤ 1000000000) (hlb : nb ≤ 1000000000) (h1 : la ≤ 10000000) (h2 : lb ≤ 10000000) :
    Calls Tryz.prog 34 #[.slice oa na ca, .slice ob' nb cb] w fun e w' => e = .returned (.bool (decide (eqM A B))) ∧ Below w.heap.size w w' := by
  have HA := hide ha
  have HB := hide hb'
  by_cases h : os2 A B
  · obtain rfl : na = nb := by have := h.2.2.1; omega
    have hn64 : na ≤ 64 := by have := h.1.1; omega
    obtain ⟨kk, hkk⟩ : ∃ kk, wd A = kk := ⟨_, rfl⟩
    have hk64 : kk ≤ 64 := by have := h.1.2.1; omega
    have HR := hide (show ∀ i, i < na → (rw_ A i).length = kk ∧ (rw_ B i).length = kk from fun i hi => ⟨by rw [gd_row h.1 (by omega)]; exact hkk, by rw [gd_row h.2.1 (by omega), ← h.2.2.2]; exact hkk⟩)
    have HQ := hide (show (∀ i, i < na → ∀ j, j < kk → at2 A i j = at2 B i j) ↔ eqM A B by unfold eqM; rw [hna, hkk]; exact ⟨fun g => ⟨h, g⟩, fun g => g.2⟩)
    obtain ⟨g1, off1, cur1, t1, z1, B1, D1⟩ := ha.blk
    obtain ⟨g2, off2, cur2, t2, z2, B2, D2⟩ := hb'.blk
    rw [hna] at B1
    rw [hnb] at B2
    have HK := hide (And.intro B1 B2)
    have I1 := D1.isS
    have I2 := D2.isS
    rw [hna] at I1
    rw [hnb] at I2
    have HI := hide (And.intro I1 I2)
    have HD := hide (And.intro D1 D2)
    clear B1 B2 I1 I2 D1 D2 ha hb' hkk
    refine calls_of_marks Tryz.func34 rfl ?_
    simp only [Tryz.ntmps34, List.size_toArray, List.length_cons, List.length_nil, Nat.reduceAdd, Nat.reduceSub, Array.replicate_succ, Array.replicate_zero, List.push_toArray, List.append_toArray, List.nil_append, List.cons_append]
    have hs := St.nil w
    refine wp_seq_k ?_
    intro K1 hK1
    refine rg [0] ?_
    refine sq ?_
    refine .al hs ?_; clear hs; intro p_b1 w_1 hs n1 kb_b1
    apply wpSq_end
    refine hK1 _ _ ?_
    refine wp_seq_k ?_
    intro K2 hK2
    refine wp_seq_k ?_
    intro K3 hK3
    refine rg [0, 1, 2, 3] ?_
    refine sq ?_
    refine .mv ?_
    refine sq ?_
    refine .mv ?_
    refine sq ?_
    intro K hK
    have hb := hs.b
    go_big_op
    go_fit (oneSize_yes (HA.out.bl stab_n hb) (HB.out.bl stab_n hb) hna hnb (by omega) (by omega) h)
    rintro e w_2 ⟨rfl, hb_2⟩
    clear hb
    replace hs := hs.bl hb_2
    refine hK _ _ rfl trivial ?_
    clear hK K
    refine sq ?_
    refine .r0 ?_
    apply wpSq_end
    refine hK3 _ _ ?_
    refine cf ?_
    refine wp_skip ?_
    refine hK2 _ _ ?_
    refine wp_seq_k ?_
    intro K4 hK4
    refine wp_seq_k ?_
    intro K5 hK5
    refine rg [0, 1, 2] ?_
    refine sq ?_
    refine .mv ?_
    refine sq ?_
    refine .mv ?_
    refine sq ?_
    intro K hK
    go_big_op
    go_fit (mkBesideSS)
    rintro e w_3 ⟨p_ita, p_itb, rfl, kb_ita, kb_itb, hs_it, hb_3⟩
    have kz_it := hs.k; replace hs := hs.app2 hs_it kb_ita kb_itb; replace kb_ita := Nat.le_trans kz_it kb_ita; replace kb_itb := Nat.le_trans kz_it kb_itb
    refine hK _ _ rfl trivial ?_
    clear hK K
    apply wpSq_end
    refine hK5 _ _ ?_
    refine wp_block ?_
    refine wp_rangeN (X := Unit) (fun k _ => ∀ i, i < k → ∀ j, j < kk → at2 A i j = at2 B i j) (fun c _ _ => c = .ret ∧ ¬ eqM A B) (fun _ => [bx p_ita #[.slice oa na ca] 22, bx p_itb #[.slice ob' na cb] 22, bx p_b1 #[.bool false] 4])
      (fun _ _ => True) (itSS (c1 := ca) (c2 := cb) (t1 := t1) (t2 := t2) (fz1 := z1) (fz2 := z2) (by omega) HI.out.1 HI.out.2 (fun h => (HK.out.1 h).1) (fun h => (HK.out.2 h).1)) () (fun i hi => absurd hi (Nat.not_lt_zero i)) hs trivial ?hR ?hF ?round ?done ?stop
    case hR => exact fun x W hst _ => ⟨hst.g0, hst.g1, fun h => ⟨(HK.out.1 h).2.bl hst.b, (HK.out.2 h).2.bl hst.b⟩⟩
    case hF => exact fun _ _ _ _ _ => trivial
    case stop =>
      rintro l D r c k ⟨⟩ W hk hD ⟨rfl, hI⟩ hs hf
      have Hg := hide (decide_eq_false hI)
      refine wp_ret ?_
      try dsimp only [Exit.then, Exit.inBlock]
      refine ret_mark (hs.obj 1) fun w_4 e_4 => ?_
      have cm_4 := Cm.po (.deferred none) (hs.obj 1) rfl
      replace hs := hs.po 1 (.deferred none) hD; rw [e_4] at hs cm_4; clear e_4; simp only [List.set_cons_succ, List.set_cons_zero] at hs
      have r0_0 := hs.g4.f1
      refine ⟨(.bool false), by simp [results, Tryz.results34, go_sem, r0_0], ?_⟩
      exact ⟨by rw [Hg.out], hs.b⟩
    case done =>
      rintro l D r ⟨⟩ W hD hI hs hf
      have Hg := hide (decide_eq_true (HQ.out.1 hI))
      try dsimp only [Exit.then, Exit.inBlock]
      refine hK4 _ _ ?_
      refine wp_seq_k ?_
      intro K6 hK6
      refine rg [0] ?_
      refine sq ?_
      refine .s1 hs.g4 (fun _ => hs.u4 kb_b1) ?_; clear hs; intro w_4 hs hd4 ho4
      apply wpSq_end
      refine hK6 _ _ ?_
      refine wp_ret ?_
      try dsimp only [Exit.then, Exit.inBlock]
      refine ret_mark (hs.obj 1) fun w_5 e_5 => ?_
      have cm_5 := Cm.po (.deferred none) (hs.obj 1) rfl
      replace hs := hs.po 1 (.deferred none) hD; rw [e_5] at hs cm_5; clear e_5; simp only [List.set_cons_succ, List.set_cons_zero] at hs
      have r0_0 := hs.g4.f1
      refine ⟨(.bool true), by simp [results, Tryz.results34, go_sem, r0_0], ?_⟩
      exact ⟨by rw [Hg.out], hs.b⟩
    case round =>
      rintro l D r d k ⟨⟩ W hk hI hs hf
      have hkA := HR.out k hk
      obtain ⟨oA, cA, eA, sA⟩ := HD.out.1 k (by omega)
      obtain ⟨oB, cB, eB, sB⟩ := HD.out.2 k (by omega)
      rw [← rw_eq (Ms := A) (by omega)] at eA sA
      rw [← rw_eq (Ms := B) (by omega)] at eB sB
      rw [hkA.1] at eA
      rw [hkA.2] at eB
      obtain ⟨g3, off3, cur3, t3, z3, B3, D3⟩ := sA.blk
      obtain ⟨g4, off4, cur4, t4, z4, B4, D4⟩ := sB.blk
      rw [hkA.1] at B3
      rw [hkA.2] at B4
      have HK2 := hide (And.intro B3 B4)
      have I3 := D3.isG
      have I4 := D4.isG
      rw [hkA.1] at I3
      rw [hkA.2] at I4
      have HI2 := hide (And.intro I3 I4)
      have HD2 := hide (And.intro D3 D4)
      have hlU := hkA.1
      have hlV := hkA.2
      have HS := hide (show (∀ j, j < kk → at1 (rw_ A k) j = at1 (rw_ B k) j) → ∀ i, i < k + 1 → ∀ j, j < kk → at2 A i j = at2 B i j from fun g i hi => by
        rcases Nat.lt_succ_iff_lt_or_eq.1 hi with hi | hi
        · exact hI i hi
        · subst hi; exact g)
      have HNE := hide (show (∃ j, j < kk ∧ at1 (rw_ A k) j ≠ at1 (rw_ B k) j) → ¬ eqM A B from fun ⟨j, hj, hne⟩ he => hne (HQ.out.2 he k hk j hj))
      simp only [cg_eq eA, cg_eq eB, List.zip_toArray, List.zip_cons_cons, List.zip_nil_right, List.foldl_toArray', List.foldl_cons, List.foldl_nil, List.setIfInBounds_toArray, List.set_cons_succ, List.set_cons_zero]
      clear B3 B4 I3 I4 D3 D4 sA sB hkA eA eB hI
      generalize rw_ A k = U at *
      generalize rw_ B k = V at *
      refine wpIn_seq_k ?_
      intro K6 hK6
      refine rgR [0] ?_
      refine sq ?_
      refine .mv ?_
      apply wpSq_end
      refine hK6 _ _ ?_
      refine rgR [0] ?_
      refine sq ?_
      refine .mv ?_
      apply wpSq_end
      try dsimp only [Exit.then, Exit.inBlock]
      refine ⟨_, 0, hs, rfl, ?_⟩; clear hs; intro r_4 w_4 hs cm_4; simp only [List.set_cons_zero] at hs
      refine wpIn_block ?_
      refine wpIn_seq_k ?_
      intro K7 hK7
      refine rgR [0, 1, 2] ?_
      refine sq ?_
      refine .mv ?_
      refine sq ?_
      refine .mv ?_
      refine sq ?_
      intro K hK
      go_big_op
      go_fit (mkBesideGG)
      rintro e w_5 ⟨p_jta, p_jtb, rfl, kb_jta, kb_jtb, hs_jt, hb_5⟩
      have kz_jt := hs.k; replace hs := hs.app2 hs_jt kb_jta kb_jtb; replace kb_jta := Nat.le_trans kz_jt kb_jta; replace kb_jtb := Nat.le_trans kz_jt kb_jtb
      refine hK _ _ rfl trivial ?_
      clear hK K
      apply wpSq_end
      refine hK7 _ _ ?_
      refine wpIn_block ?_
      refine wp_rangeR (X := Unit) 2 (fun k2 _ => ∀ j, j < k2 → at1 U j = at1 V j) (fun c _ _ => c = .ret ∧ ∃ j, j < kk ∧ at1 U j ≠ at1 V j) (fun _ => [bx p_jta #[.slice oA kk cA] 51, bx p_jtb #[.slice oB kk cB] 51, ob l (.loop r_4), ob D d, bx p_ita #[.slice oa na ca] 22, bx p_itb #[.slice ob' na cb] 22, bx p_b1 #[.bool false] 4])
        (fun _ _ => True) (itGG (c1 := cA) (c2 := cB) (t1 := t3) (t2 := t4) (fz1 := z3) (fz2 := z4) (by omega) HI2.out.1 HI2.out.2 (fun h => (HK2.out.1 h).1) (fun h => (HK2.out.2 h).1)) () (fun i hi => absurd hi (Nat.not_lt_zero i)) hs trivial rfl ?hR2 ?hF2 ?round2 ?done2 ?stop2
      case hR2 => exact fun x W hst _ => ⟨hst.g0, hst.g1, fun h => ⟨(HK2.out.1 h).2.bl hst.b, (HK2.out.2 h).2.bl hst.b⟩⟩
      case hF2 => exact fun _ _ _ _ _ => trivial
      case stop2 =>
        rintro l2 r2 c k2 ⟨⟩ W2 hk2 ⟨rfl, hI2⟩ hs hf
        refine wpIn_ret ?_
        try dsimp only [Exit.then, Exit.inBlock]
        exact ⟨(), ⟨rfl, HNE.out hI2⟩, hs.sub (.cons _ (.cons _ (.cons _ (List.Sublist.refl _)))), trivial⟩
      case done2 =>
        rintro l2 r2 ⟨⟩ W2 hI2 hs hf
        try dsimp only [Exit.then, Exit.inBlock]
        exact ⟨(), HS.out hI2, hs.sub (.cons _ (.cons _ (.cons _ (List.Sublist.refl _)))), trivial⟩
      case round2 =>
        rintro l2 r2 k2 ⟨⟩ W2 hk2 hI2 hs hf
        obtain ⟨a1, a2, a3, a4, a5, a6, a7, a8, e1, e2, e3, e4, x1, x2⟩ := HD2.out.1 k2 (by omega)
        obtain ⟨d1, d2, d3, d4, d5, d6, d7, d8, e5, e6, e7, e8, y1, y2⟩ := HD2.out.2 k2 (by omega)
        rw [← at1_eq (ps := U) (by omega)] at x1 x2
        rw [← at1_eq (ps := V) (by omega)] at y1 y2
        simp only [enG, cg_eq e1, cg_eq e2, cg_eq e3, cg_eq e4, cg_eq e5, cg_eq e6, cg_eq e7, cg_eq e8, List.zip_toArray, List.zip_cons_cons, List.zip_nil_right, List.foldl_toArray', List.foldl_cons, List.foldl_nil, List.setIfInBounds_toArray, List.set_cons_succ, List.set_cons_zero]
        replace x1 : ZN W2 (.agg #[.bool a1, .slice a2 a3 a4]) (at1 U k2).1 la := x1.bl hs.b
        replace x2 : ZN W2 (.agg #[.bool a5, .slice a6 a7 a8]) (at1 U k2).2 la := x2.bl hs.b
        replace y1 : ZN W2 (.agg #[.bool d1, .slice d2 d3 d4]) (at1 V k2).1 lb := y1.bl hs.b
        replace y2 : ZN W2 (.agg #[.bool d5, .slice d6 d7 d8]) (at1 V k2).2 lb := y2.bl hs.b
        have HS2 := hide (show at1 U k2 = at1 V k2 → ∀ j, j < k2 + 1 → at1 U j = at1 V j from fun g i hi => by
          rcases Nat.lt_succ_iff_lt_or_eq.1 hi with hi | hi
          · exact hI2 i hi
          · subst hi; exact g)
        have HN2 := hide (show at1 U k2 ≠ at1 V k2 → ∃ j, j < kk ∧ at1 U j ≠ at1 V j from fun g => ⟨k2, hk2, g⟩)
        clear hI2
        generalize at1 U k2 = u at *
        generalize at1 V k2 = v at *
        refine wpIn_seq_k ?_
        intro K8 hK8
        refine rgR [0, 1] ?_
        refine sq ?_
        refine .al hs ?_; clear hs; intro p_b2 w_6 hs n6 kb_b2
        refine sq ?_
        refine .s4 hs.g0 (fun _ => hs.u0 kb_b2) ?_; clear hs; intro w_7 hs hd7 ho7
        apply wpSq_end
        refine hK8 _ _ ?_
        refine rgR [0, 1] ?_
        refine sq ?_
        refine .al hs ?_; clear hs; intro p_b3 w_8 hs n8 kb_b3
        refine sq ?_
        refine .s4 hs.g0 (fun _ => hs.u0 kb_b3) ?_; clear hs; intro w_9 hs hd9 ho9
        apply wpSq_end
        try dsimp only [Exit.then, Exit.inBlock]
        refine ⟨_, 2, hs, rfl, ?_⟩; clear hs; intro r_10 w_10 hs cm_10; simp only [List.set_cons_succ, List.set_cons_zero] at hs
        refine wpIn_block ?_
        refine wpIn_seq_k ?_
        intro K9 hK9
        refine rgR [0, 1, 2, 3] ?_
        refine sq ?_
        refine .r4 hs.g1.f4 ?_
        refine sq ?_
        refine .r4 hs.g0.f4 ?_
        by_cases huv : (u.1, u.2) = (v.1, v.2)
        · have HX := hide huv
          clear huv
          refine sq ?_
          intro K hK
          have k0_5 := ((((kb n6).o hd7 ho7).b n8).o hd9 ho9).t cm_10.kp
          replace x1 := x1.k k0_5
          replace x2 := x2.k k0_5
          replace y1 := y1.k k0_5
          replace y2 := y2.k k0_5
          go_big_op
          go_fit (gEqual_t (PN.mk' x1 x2) (PN.mk' y1 y2) (by omega) (by omega) (by omega) (by omega) HX.out)
          rintro e w_11 ⟨rfl, hb_11⟩
          replace hs := hs.bl hb_11
          refine hK _ _ rfl trivial ?_
          clear hK K
          refine sq ?_
          refine .r0 ?_
          apply wpSq_end
          refine hK9 _ _ ?_
          refine cfR ?_
          refine wpIn_skip ?_
          try dsimp only [Exit.then, Exit.inBlock]
          exact ⟨(), HS2.out HX.out, hs.sub (.cons _ (.cons _ (List.Sublist.refl _))), trivial⟩
        · have HX := hide huv
          clear huv
          refine sq ?_
          intro K hK
          have k0_5 := ((((kb n6).o hd7 ho7).b n8).o hd9 ho9).t cm_10.kp
          replace x1 := x1.k k0_5
          replace x2 := x2.k k0_5
          replace y1 := y1.k k0_5
          replace y2 := y2.k k0_5
          go_big_op
          go_fit (gEqual_f (PN.mk' x1 x2) (PN.mk' y1 y2) (by omega) (by omega) (by omega) (by omega) HX.out)
          rintro e w_11 ⟨rfl, hb_11⟩
          replace hs := hs.bl hb_11
          refine hK _ _ rfl trivial ?_
          clear hK K
          refine sq ?_
          refine .r0 ?_
          apply wpSq_end
          refine hK9 _ _ ?_
          refine ctR ?_
          refine wpIn_seq_k ?_
          intro K10 hK10
          refine rgR [0] ?_
          refine sq ?_
          refine .s1 hs.g9 (fun _ => hs.u9 kb_b1) ?_; clear hs; intro w_12 hs hd12 ho12
          apply wpSq_end
          refine hK10 _ _ ?_
          refine wpIn_ret ?_
          try dsimp only [Exit.then, Exit.inBlock]
          exact ⟨(), ⟨rfl, HN2.out HX.out⟩, hs.sub (.cons _ (.cons _ (List.Sublist.refl _))), trivial⟩
  · have Hg := hide (show decide (eqM A B) = false from decide_eq_false fun g => h g.1)
    refine calls_of_marks Tryz.func34 rfl ?_
    simp only [Tryz.ntmps34, List.size_toArray, List.length_cons, List.length_nil, Nat.reduceAdd, Nat.reduceSub, Array.replicate_succ, Array.replicate_zero, List.push_toArray, List.append_toArray, List.nil_append, List.cons_append]
    have hs := St.nil w
    refine wp_seq_k ?_
    intro K1 hK1
    refine rg [0] ?_
    refine sq ?_
    refine .al hs ?_; clear hs; intro p_b1 w_1 hs n1 kb_b1
    apply wpSq_end
    refine hK1 _ _ ?_
    refine wp_seq_k ?_
    intro K2 hK2
    refine wp_seq_k ?_
    intro K3 hK3
    refine rg [0, 1, 2, 3] ?_
    refine sq ?_
    refine .mv ?_
    refine sq ?_
    refine .mv ?_
    refine sq ?_
    intro K hK
    have hb := hs.b
    go_big_op
    go_fit (oneSize_no (HA.out.bl stab_n hb) (HB.out.bl stab_n hb) hna hnb (by omega) (by omega) h)
    rintro e w_2 ⟨rfl, hb_2⟩
    clear hb
    replace hs := hs.bl hb_2
    refine hK _ _ rfl trivial ?_
    clear hK K
    refine sq ?_
    refine .r0 ?_
    apply wpSq_end
    refine hK3 _ _ ?_
    refine ct ?_
    refine wp_seq_k ?_
    intro K4 hK4
    refine rg [0] ?_
    refine sq ?_
    refine .s1 hs.g0 (fun _ => hs.u0 kb_b1) ?_; clear hs; intro w_3 hs hd3 ho3
    apply wpSq_end
    refine hK4 _ _ ?_
    refine wp_ret ?_
    try dsimp only [Exit.then, Exit.inBlock]
    have r0_0 := hs.g0.f1
    refine retM (v := (.bool false)) (by simp [results, Tryz.results34, go_sem, r0_0]) rfl ?_
    exact ⟨by rw [Hg.out], hs.b⟩
end
end Go.Proofs.YtjfjlloibmebeaaGreat

