/- gint: Turn, timesI, Canon; the reference's. -/
import Derived.Test.YtjfjlloibmebeaaG3ToI2
import Derived.Test.YtjfjlloibmebeaaG1ToG2

namespace Go.Proofs.Ytjfjlloibmebeaa
open Go Go.RowKit Dig
set_option linter.unusedVariables false

section
variable {w : World} {va vb : Value} {x y u v : Int} {l m k n : Nat}
end
end Go.Proofs.Ytjfjlloibmebeaa


/- gmat: Add, Sub, Scale, Trans, Adj, Ident, Size; copied. -/
namespace Go.Proofs.Ytjfjlloibmebeaa
open Go Go.RowKit Dig
set_option linter.unusedVariables false

section
variable {w : World} {l la lb i j n na nb cm ca cb pa pb pm pf pg k : Nat} {om oa ob : Option Addr} {Ms A B : List (List (Int × Int))} {va : Value} {x y u v : Int}
end
end Go.Proofs.Ytjfjlloibmebeaa


/- gmat.product: the product of two vectors. -/
namespace Go.Proofs.Ytjfjlloibmebeaa
open Go Go.RowKit Dig
set_option linter.unusedVariables false

theorem zlen_addM {x y : Int} {l : Nat} (hx : (dig x.natAbs).length ≤ l) (hy : (dig y.natAbs).length ≤ l) : (dig (x + y).natAbs).length ≤ l + 1 := by
  refine dig_length_le ?_
  have h1 := Nat.lt_of_lt_of_le (lt_pw_dig x.natAbs) (pw_mono hx)
  have h2 := Nat.lt_of_lt_of_le (lt_pw_dig y.natAbs) (pw_mono hy)
  have h3 : (x + y).natAbs ≤ x.natAbs + y.natAbs := Int.natAbs_add_le x y
  simp only [pw]; omega
theorem zlen_subM {x y : Int} {l : Nat} (hx : (dig x.natAbs).length ≤ l) (hy : (dig y.natAbs).length ≤ l) : (dig (x - y).natAbs).length ≤ l + 1 := by
  rw [Int.sub_eq_add_neg]
  exact zlen_addM hx (by rw [Int.natAbs_neg]; exact hy)
def sumP : Nat → (Nat → Int × Int) → Int × Int
  | 0, _ => (0, 0)
  | k + 1, f => aP (sumP k f) (f k)
def zl (l : Nat) (p : Int × Int) : Prop := (dig p.1.natAbs).length ≤ l ∧ (dig p.2.natAbs).length ≤ l
theorem zl_mP {p q : Int × Int} {l m : Nat} (hp : zl l p) (hq : zl m q) : zl (l + m + 1) (mP p q) :=
  ⟨zlen_subM (zlen_mul hp.1 hq.1) (zlen_mul hp.2 hq.2), zlen_addM (zlen_mul hp.1 hq.2) (zlen_mul hp.2 hq.1)⟩
theorem zl_cP {p : Int × Int} {l : Nat} (hp : zl l p) : zl l (cP p) := ⟨hp.1, by show (dig (-p.2).natAbs).length ≤ l; rw [Int.natAbs_neg]; exact hp.2⟩
theorem zl_up {p : Int × Int} {l m : Nat} (hp : zl l p) (h : l ≤ m) : zl m p := ⟨Nat.le_trans hp.1 h, Nat.le_trans hp.2 h⟩
theorem zl_aP {p q : Int × Int} {l : Nat} (hp : zl l p) (hq : zl l q) : zl (l + 1) (aP p q) := ⟨zlen_addM hp.1 hq.1, zlen_addM hp.2 hq.2⟩
theorem zl_0 (l : Nat) : zl l (0, 0) := by
  have : (dig (Int.natAbs 0)).length ≤ l := by rw [show dig (Int.natAbs 0) = [] from dig_eq_nil.2 rfl]; exact Nat.zero_le _
  exact ⟨this, this⟩
theorem zl_sum {f : Nat → Int × Int} {l : Nat} : ∀ {k : Nat}, (∀ i, i < k → zl l (f i)) → zl (l + k) (sumP k f)
  | 0, _ => zl_0 _
  | k + 1, h => zl_aP (l := l + k) (zl_sum fun i hi => h i (by omega)) (zl_up (h k (by omega)) (Nat.le_add_right l k))
theorem Bd.at1 {l i : Nat} {ps : List (Int × Int)} (h : Bd l ps) : zl l (at1 ps i) := by
  rcases Nat.lt_or_ge i ps.length with hi | hi
  · rw [at1_eq hi]; exact h _ (List.getElem_mem hi)
  · rw [Go.Proofs.Ytjfjlloibmebeaa.at1, List.getD, List.getElem?_eq_none hi]; exact zl_0 _
section
variable {w : World} {lu lv n cu cv : Nat} {ou ov : Option Addr} {U V : List (Int × Int)}
set_option maxHeartbeats 4000000 in
set_option maxRecDepth 20000 in
theorem product_any (hu : SN lu w ou U) (hv : SN lv w ov V) (hn : U.length = n) (hm : V.length = n) (hl : n ≤ 2000000) (h1 : lu ≤ 10000000) (h2 : lv ≤ 10000000) :
    Calls Try.prog 44 #[.slice ou n cu, .slice ov n cv] w fun e w' => ∃ r, e = .returned r ∧ PC w' r (sumP n fun i => mP (at1 U i) (cP (at1 V i))).1 (sumP n fun i => mP (at1 U i) (cP (at1 V i))).2 ∧ Below w.heap.size w w' := by
  obtain ⟨g1, off1, cur1, t1, z1, B1, D1⟩ := hu.blk
  obtain ⟨g2, off2, cur2, t2, z2, B2, D2⟩ := hv.blk
  rw [hn] at B1
  rw [hm] at B2
  have HB := hide (And.intro B1 B2)
  have I1 := D1.isG
  have I2 := D2.isG
  rw [hn] at I1
  rw [hm] at I2
  have HI := hide (And.intro I1 I2)
  have HD := hide (And.intro D1 D2)
  have HU := hide (And.intro hu.bd hv.bd)
  obtain ⟨f, hf⟩ : ∃ f : Nat → Int × Int, f = fun i => mP (at1 U i) (cP (at1 V i)) := ⟨_, rfl⟩
  rw [← hf]
  have HF := hide hf
  clear B1 B2 I1 I2 D1 D2 hu hv hf
  refine calls_of_marks Try.func44 rfl ?_
  simp only [Try.ntmps44, List.size_toArray, List.length_cons, List.length_nil, Nat.reduceAdd, Nat.reduceSub, Array.replicate_succ, Array.replicate_zero, List.push_toArray, List.append_toArray, List.nil_append, List.cons_append]
  have hs := St.nil w
  refine wp_seq_k ?_
  intro K1 hK1
  refine rg [0] ?_
  refine sq ?_
  refine .al hs ?_; clear hs; intro p_b1 w_1 hs n1 kb_b1
  apply wpSq_end
  refine hK1 _ _ ?_
  refine wp_seq_k ?_
  intro K2 hK2
  refine rg [0, 1, 2] ?_
  refine sq ?_
  refine .r0 ?_
  refine sq ?_
  refine .al hs ?_; clear hs; intro p_b2 w_2 hs n2 kb_b2
  refine sq ?_
  refine .s4 hs.g0 (fun _ => hs.u0 kb_b2) ?_; clear hs; intro w_3 hs hd3 ho3
  apply wpSq_end
  refine hK2 _ _ ?_
  refine wp_seq_k ?_
  intro K3 hK3
  refine wp_seq_k ?_
  intro K4 hK4
  refine rg [0, 1, 2] ?_
  refine sq ?_
  refine .mv ?_
  refine sq ?_
  refine .mv ?_
  refine sq ?_
  intro K hK
  go_big_op
  go_fit (mkBesideGG)
  rintro e w_4 ⟨p_ita, p_itb, rfl, kb_ita, kb_itb, hs_it, hb_4⟩
  have kz_it := hs.k; replace hs := hs.app2 hs_it kb_ita kb_itb; replace kb_ita := Nat.le_trans kz_it kb_ita; replace kb_itb := Nat.le_trans kz_it kb_itb
  refine hK _ _ rfl trivial ?_
  clear hK K
  apply wpSq_end
  refine hK4 _ _ ?_
  refine wp_block ?_
  refine wp_rangeN (X := Nat × Value × Value × Value × Value) (fun k x => x.1 = k) (fun _ _ _ => False) (fun x => [bx p_ita #[.slice ou n cu] 39, bx p_itb #[.slice ov n cv] 39, bx p_b2 #[x.2.1, x.2.2.1, x.2.2.2.1, x.2.2.2.2] 41, bx p_b1 #[.bool false, .slice none 0 0, .bool false, .slice none 0 0] 41])
    (fun x W => PC W (.agg #[x.2.1, x.2.2.1, x.2.2.2.1, x.2.2.2.2]) (sumP x.1 f).1 (sumP x.1 f).2) (itGG (c1 := cu) (c2 := cv) (t1 := t1) (t2 := t2) (fz1 := z1) (fz2 := z2) (by omega) HI.out.1 HI.out.2 (fun h => (HB.out.1 h).1) (fun h => (HB.out.2 h).1)) (0, .bool false, .slice none 0 0, .bool false, .slice none 0 0) rfl hs (.mk' (zc_zero _) (zc_zero _)) ?hR ?hF ?round ?done ?stop
  case hR => exact fun x W hst _ => ⟨hst.g0, hst.g1, fun h => ⟨(HB.out.1 h).2.bl hst.b, (HB.out.2 h).2.bl hst.b⟩⟩
  case hF => exact fun x A B h c => h.k c.kp
  case stop => exact fun l D r c k x W hk hD hI => hI.elim
  case round =>
    intro l D r d k x W hk hI hs hf
    obtain ⟨k', c0, c1, c2, c3⟩ := x
    obtain rfl : k' = k := hI
    obtain ⟨n1, o1, k1, q1, n2, o2, k2, q2, hcs, s1, s2⟩ := hf
    simp only [Value.agg.injEq, Array.mk.injEq, List.cons.injEq, and_true] at hcs
    obtain ⟨rfl, rfl, rfl, rfl⟩ := hcs
    obtain ⟨a1, a2, a3, a4, a5, a6, a7, a8, e1, e2, e3, e4, x1, x2⟩ := HD.out.1 k' (by omega)
    obtain ⟨d1, d2, d3, d4, d5, d6, d7, d8, e5, e6, e7, e8, y1, y2⟩ := HD.out.2 k' (by omega)
    simp only [enG, cg_eq e1, cg_eq e2, cg_eq e3, cg_eq e4, cg_eq e5, cg_eq e6, cg_eq e7, cg_eq e8, List.zip_toArray, List.zip_cons_cons, List.zip_nil_right, List.foldl_toArray', List.foldl_cons, List.foldl_nil, List.setIfInBounds_toArray, List.set_cons_succ, List.set_cons_zero]
    replace x1 : ZN W (.agg #[.bool a1, .slice a2 a3 a4]) (U[k']'(by omega)).1 lu := x1.bl hs.b
    replace x2 : ZN W (.agg #[.bool a5, .slice a6 a7 a8]) (U[k']'(by omega)).2 lu := x2.bl hs.b
    replace y1 : ZN W (.agg #[.bool d1, .slice d2 d3 d4]) (V[k']'(by omega)).1 lv := y1.bl hs.b
    replace y2 : ZN W (.agg #[.bool d5, .slice d6 d7 d8]) (V[k']'(by omega)).2 lv := y2.bl hs.b
    have ez : f k' = mP (U[k']'(by omega)) (cP (V[k']'(by omega))) := by rw [HF.out]; show mP (at1 U k') (cP (at1 V k')) = _; rw [at1_eq (ps := U) (by omega), at1_eq (ps := V) (by omega)]
    have hz : zl (lu + lv + 1 + k') (sumP k' f) := zl_sum fun i hi => by rw [HF.out]; exact zl_mP HU.out.1.at1 (zl_cP HU.out.2.at1)
    have Ls1 := hide hz.1
    have Ls2 := hide hz.2
    have HE := hide (show sumP (k' + 1) f = aP (sumP k' f) (f k') from rfl)
    rw [ez] at HE
    generalize U[k']'(by omega) = u at *
    generalize V[k']'(by omega) = v at *
    clear ez hz
    generalize sumP k' f = S at *
    refine wpIn_seq_k ?_
    intro K5 hK5
    refine rgR [0, 1] ?_
    refine sq ?_
    refine .al hs ?_; clear hs; intro p_b3 w_5 hs n5 kb_b3
    refine sq ?_
    refine .s4 hs.g0 (fun _ => hs.u0 kb_b3) ?_; clear hs; intro w_6 hs hd6 ho6
    apply wpSq_end
    refine hK5 _ _ ?_
    refine rgR [0, 1] ?_
    refine sq ?_
    refine .al hs ?_; clear hs; intro p_b4 w_7 hs n7 kb_b4
    refine sq ?_
    refine .s4 hs.g0 (fun _ => hs.u0 kb_b4) ?_; clear hs; intro w_8 hs hd8 ho8
    apply wpSq_end
    try dsimp only [Exit.then, Exit.inBlock]
    refine ⟨_, 2, hs, rfl, ?_⟩; clear hs; intro r_9 w_9 hs cm_9; simp only [List.set_cons_succ, List.set_cons_zero] at hs
    refine wpIn_block ?_
    refine wp_region_f4R [(0, false), (1, false), (2, false), (3, true), (4, true), (5, true)] [6] [] (fun _ => default) [0, 1, 2, 99, 99, 99, 99] [(6, 0)] (.c hs.g6 (.c hs.g1 (.c hs.g0 .n))) fn fun w_10 n10 => ?_
    replace hs := hs.bl n10
    refine f4 ?_
    refine f4 ?_
    refine f4 ?_
    refine fl fun w_11 n11 => ?_
    replace hs := hs.bl n11
    intro K hK
    have k0_7 := ((((((kb n5).o hd6 ho6).b n7).o hd8 ho8).t cm_9.kp).b n10).b n11
    replace y1 := y1.k k0_7
    replace y2 := y2.k k0_7
    go_big_op
    go_fit (gConj_any (PN.mk' y1 y2) (by omega) (by omega) )
    rintro e w_12 ⟨_, rfl, ⟨n_aa, o_aa, k_aa, c_aa, n_ab, o_ab, k_ab, c_ab, rfl, a1, a2⟩, hb_12⟩
    replace hs := hs.bl hb_12
    have La1 := hide (a1.lenOf ((y1.len)))
    have La2 := hide (a2.lenOf (zlen_neg (y2.len)))
    refine hK _ _ rfl ⟨hb_12, (And.intro hs.g6 (And.intro hs.g1 (And.intro hs.g0 trivial)))⟩ ?_
    clear hK K
    refine fl fun w_13 n13 => ?_
    replace hs := hs.bl n13
    intro K hK
    have k0_9 := (k0_7.b hb_12).b n13
    replace x1 := x1.k k0_9
    replace x2 := x2.k k0_9
    have k8_9 := kb n13
    replace a1 := a1.k k8_9
    replace a2 := a2.k k8_9
    go_big_op
    go_fit (gMul_any (PN.mk' x1 x2) (PN.mk' (a1.zn La1.out) (a2.zn La2.out)) (by omega) (by omega) (by omega) (by omega) )
    rintro e w_14 ⟨_, rfl, ⟨n_ba, o_ba, k_ba, c_ba, n_bb, o_bb, k_bb, c_bb, rfl, b1, b2⟩, hb_14⟩
    replace hs := hs.bl hb_14
    have Lb1 := hide (b1.lenOf (zlen_sub (zlen_mul (x1.len) (La1.out)) (zlen_mul (x2.len) (La2.out))))
    have Lb2 := hide (b2.lenOf (zlen_add (zlen_mul (x1.len) (La2.out)) (zlen_mul (x2.len) (La1.out))))
    refine hK _ _ rfl ⟨hb_14, (And.intro hs.g6 (And.intro hs.g1 (And.intro hs.g0 trivial)))⟩ ?_
    clear hK K
    refine fl fun w_15 n15 => ?_
    replace hs := hs.bl n15
    intro K hK
    have k0_11 := (k0_9.b hb_14).b n15
    replace s1 := s1.k k0_11
    replace s2 := s2.k k0_11
    have k10_11 := kb n15
    replace b1 := b1.k k10_11
    replace b2 := b2.k k10_11
    go_big_op
    go_fit (gAdd_any (PN.mk' (s1.zn Ls1.out) (s2.zn Ls2.out)) (PN.mk' (b1.zn Lb1.out) (b2.zn Lb2.out)) (by omega) (by omega) (by omega) (by omega) )
    rintro e w_16 ⟨_, rfl, ⟨n_ca, o_ca, k_ca, c_ca, n_cb, o_cb, k_cb, c_cb, rfl, c1, c2⟩, hb_16⟩
    replace hs := hs.bl hb_16
    have Lc1 := hide (c1.lenOf (zlen_add (Ls1.out) (Lb1.out)))
    have Lc2 := hide (c2.lenOf (zlen_add (Ls2.out) (Lb2.out)))
    refine hK _ _ rfl ⟨hb_16, (And.intro hs.g6 (And.intro hs.g1 (And.intro hs.g0 trivial)))⟩ ?_
    clear hK K
    refine e0 hs ?_; clear hs; intro w_17 hs n17
    refine tl ?_
    refine .s4 hs.g6 (fun _ => hs.u6 kb_b2) ?_ (e := fun _ hs => (And.intro True.intro (And.intro hs.g1 (And.intro hs.g0 True.intro)))); clear hs; intro w_18 hs hd18 ho18
    clear a1 a2 b1 b2 s1 s2
    apply wpTail_end
    try dsimp only [Exit.then, Exit.inBlock]
    have k12_14 := (kb n17).o hd18 ho18
    replace c1 := c1.k k12_14
    replace c2 := c2.k k12_14
    exact ⟨(k' + 1, _, _, _, _), rfl, hs.sub (.cons _ (.cons _ (List.Sublist.refl _))), by show PC _ _ (sumP (k' + 1) f).1 (sumP (k' + 1) f).2; rw [HE.out]; exact .mk' c1 c2⟩
  case done =>
    intro l D r x W hD hI hs hf
    obtain ⟨k', c0, c1, c2, c3⟩ := x
    obtain rfl : k' = n := hI
    obtain ⟨n1, o1, k1, q1, n2, o2, k2, q2, hcs, s1, s2⟩ := hf
    simp only [Value.agg.injEq, Array.mk.injEq, List.cons.injEq, and_true] at hcs
    obtain ⟨rfl, rfl, rfl, rfl⟩ := hcs
    try dsimp only [Exit.then, Exit.inBlock]
    refine hK3 _ _ ?_
    refine wp_seq_k ?_
    intro K5 hK5
    refine rg [0, 1] ?_
    refine sq ?_
    refine .r4 hs.g4.f4 ?_
    refine sq ?_
    refine .s4 hs.g5 (fun _ => hs.u5 kb_b1) ?_; clear hs; intro w_5 hs hd5 ho5
    apply wpSq_end
    refine hK5 _ _ ?_
    refine wp_ret ?_
    try dsimp only [Exit.then, Exit.inBlock]
    refine ret_mark (hs.obj 1) fun w_6 e_6 => ?_
    have cm_6 := Cm.po (.deferred none) (hs.obj 1) rfl
    replace hs := hs.po 1 (.deferred none) hD; rw [e_6] at hs cm_6; clear e_6; simp only [List.set_cons_succ, List.set_cons_zero] at hs
    obtain ⟨r0_0, r0_1, r0_2, r0_3⟩ := hs.g5.f4
    refine ⟨(.agg #[.bool n1, .slice o1 k1 q1, .bool n2, .slice o2 k2 q2]), by simp [results, Try.results44, go_sem, r0_0, r0_1, r0_2, r0_3], ?_⟩
    have k0_2 := (ko hd5 ho5).t cm_6.kp
    replace s1 := s1.k k0_2
    replace s2 := s2.k k0_2
    exact ⟨_, rfl, .mk' s1 s2, hs.b⟩
end
end Go.Proofs.Ytjfjlloibmebeaa


/- gmat: Add, Sub, Scale, Trans, Adj, Ident, Size. -/
namespace Go.Proofs.Ytjfjlloibmebeaa
open Go Go.RowKit Dig
set_option linter.unusedVariables false

theorem gd_row {A : List (List (Int × Int))} {i : Nat} (h : gd A) (hi : i < A.length) : (rw_ A i).length = wd A := by rw [rw_eq hi]; exact h.2.2 _ (List.getElem_mem hi)
section
variable {w : World} {l la lb n na nb cm ca cb : Nat} {om oa ob : Option Addr} {Ms A B : List (List (Int × Int))} {vg : Value} {u v : Int}
end
end Go.Proofs.Ytjfjlloibmebeaa


/- gmat.combined: the sum of a matrix's rows. -/
namespace Go.Proofs.Ytjfjlloibmebeaa
open Go Go.RowKit Dig
set_option linter.unusedVariables false
theorem BdM.at2 {l i j : Nat} {Ms : List (List (Int × Int))} (h : BdM l Ms) : zl l (at2 Ms i j) := by
  rcases Nat.lt_or_ge i Ms.length with hi | hi
  · rw [Go.Proofs.Ytjfjlloibmebeaa.at2, rw_eq hi]; exact Bd.at1 (h _ (List.getElem_mem hi))
  · rw [Go.Proofs.Ytjfjlloibmebeaa.at2, rw_, List.getD, List.getElem?_eq_none hi]; exact Bd.at1 (ps := []) fun p hp => by cases hp
section
variable {w : World} {lu lv n cu cv pv pm j : Nat} {ou ov : Option Addr} {V : List (Int × Int)} {M : List (List (Int × Int))}
end
end Go.Proofs.Ytjfjlloibmebeaa


/- gmat: Scale, Trans, Adj, Ident, Size. -/
namespace Go.Proofs.Ytjfjlloibmebeaa
open Go Go.RowKit Dig
set_option linter.unusedVariables false

section
variable {w : World} {l la lb n na nb cm ca cb i j : Nat} {om oa ob : Option Addr} {Ms A B : List (List (Int × Int))} {vg : Value} {u v : Int}
set_option maxHeartbeats 4000000 in
set_option maxRecDepth 20000 in
theorem mSize_ok (ha : MN la w oa A) (hna : A.length = na) (h : gd A) {k : Nat} (hk : wd A = k) :
    Calls Try.prog 60 #[.slice oa na ca] w fun e w' => e = .returned (.tuple #[.int .i64 (na : Int), .int .i64 (k : Int), .int .i64 0]) ∧ Below w.heap.size w w' := by
  have HA := hide ha
  have hn64 : na ≤ 64 := by have := h.1; omega
  clear ha
  go_enter Try.func60, Try.ntmps60
  have hs := St.nil w
  refine wp_seq_k ?_
  intro K1 hK1
  refine rg [0, 1, 2] ?_
  refine sq ?_
  refine .mv ?_
  refine sq ?_
  refine .mv ?_
  refine sq ?_
  refine .mv ?_
  apply wpSq_end
  refine hK1 _ _ ?_
  refine wp_seq_k ?_
  intro K2 hK2
  refine wp_seq_k ?_
  intro K3 hK3
  refine rg [0, 1, 2] ?_
  refine sq ?_
  refine .mv ?_
  refine sq ?_
  intro K hK
  have hb := hs.b
  go_big_op
  go_fit (good_yes (HA.out.bl stab_n hb) hna (by omega) h)
  rintro e w_1 ⟨rfl, hb_1⟩
  clear hb
  replace hs := hs.bl hb_1
  refine hK _ _ rfl trivial ?_
  clear hK K
  refine sq ?_
  refine .r0 ?_
  apply wpSq_end
  refine hK3 _ _ ?_
  refine cf ?_
  refine wp_skip ?_
  refine hK2 _ _ ?_
  refine wp_seq_k ?_
  intro K4 hK4
  refine rg [0, 1, 2, 3, 4, 5, 6] ?_
  refine sq ?_
  refine .mv ?_
  refine sq ?_
  refine .r0 ?_
  refine sq ?_
  refine .mv ?_
  refine sq ?_
  intro K hK
  have hb := hs.b
  go_big_op
  go_fit (width_any (HA.out.bl stab_n hb) hna hk)
  rintro e w_2 ⟨rfl, hb_2⟩
  clear hb
  replace hs := hs.bl hb_2
  refine hK _ _ rfl trivial ?_
  clear hK K
  refine sq ?_
  refine .mv ?_
  refine sq ?_
  refine .mv ?_
  refine sq ?_
  refine .mv ?_
  apply wpSq_end
  refine hK4 _ _ ?_
  refine wp_ret ?_
  try dsimp only [Exit.then, Exit.inBlock]
  refine bodyPost_ret (v := (.tuple #[(.int .i64 ((na : Nat) : Int)), (.int .i64 (k : Int)), (.int .i64 0)])) (by simp [results, Try.results60, go_sem]) rfl ?_
  exact ⟨rfl, hs.b⟩
set_option maxHeartbeats 4000000 in
set_option maxRecDepth 20000 in
theorem mSize_bad (ha : MN la w oa A) (hna : A.length = na) (h : ¬ gd A) (hla : na ≤ 1000000000) :
    Calls Try.prog 60 #[.slice oa na ca] w fun e w' => e = .returned (.tuple #[.int .i64 0, .int .i64 0, .int .i64 4]) ∧ Below w.heap.size w w' := by
  have HA := hide ha
  clear ha
  go_enter Try.func60, Try.ntmps60
  have hs := St.nil w
  refine wp_seq_k ?_
  intro K1 hK1
  refine rg [0, 1, 2] ?_
  refine sq ?_
  refine .mv ?_
  refine sq ?_
  refine .mv ?_
  refine sq ?_
  refine .mv ?_
  apply wpSq_end
  refine hK1 _ _ ?_
  refine wp_seq_k ?_
  intro K2 hK2
  refine wp_seq_k ?_
  intro K3 hK3
  refine rg [0, 1, 2] ?_
  refine sq ?_
  refine .mv ?_
  refine sq ?_
  intro K hK
  have hb := hs.b
  go_big_op
  go_fit (good_no (HA.out.bl stab_n hb) hna hla h)
  rintro e w_1 ⟨rfl, hb_1⟩
  clear hb
  replace hs := hs.bl hb_1
  refine hK _ _ rfl trivial ?_
  clear hK K
  refine sq ?_
  refine .r0 ?_
  apply wpSq_end
  refine hK3 _ _ ?_
  refine ct ?_
  refine wp_seq_k ?_
  intro K4 hK4
  refine rg [0, 1, 2] ?_
  refine sq ?_
  refine .mv ?_
  refine sq ?_
  refine .mv ?_
  refine sq ?_
  refine .mv ?_
  apply wpSq_end
  refine hK4 _ _ ?_
  refine wp_ret ?_
  try dsimp only [Exit.then, Exit.inBlock]
  refine bodyPost_ret (v := (.tuple #[(.int .i64 0), (.int .i64 0), (.int .i64 4)])) (by simp [results, Try.results60, go_sem]) rfl ?_
  exact ⟨rfl, hs.b⟩
end
end Go.Proofs.Ytjfjlloibmebeaa

