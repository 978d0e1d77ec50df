/- gmat.product: the product of two vectors. -/
import Derived.Test.YtjfjlloibmebeaaGreatG3ToM5

namespace Go.Proofs.YtjfjlloibmebeaaGreat
open Go Go.RowKit Dig
set_option linter.unusedVariables false

theorem zlen_addM {x y : Int} {l : Nat} (hx : (dig x.natAbs).length ≤ l) (hy : (dig y.natAbs).length ≤ l) : (dig (x + y).natAbs).length ≤ l + 1 := by
  refine dig_length_le ?_
  have h1 := Nat.lt_of_lt_of_le (lt_pw_dig x.natAbs) (pw_mono hx)
  have h2 := Nat.lt_of_lt_of_le (lt_pw_dig y.natAbs) (pw_mono hy)
  have h3 : (x + y).natAbs ≤ x.natAbs + y.natAbs := Int.natAbs_add_le x y
  simp only [pw]; omega
theorem zlen_subM {x y : Int} {l : Nat} (hx : (dig x.natAbs).length ≤ l) (hy : (dig y.natAbs).length ≤ l) : (dig (x - y).natAbs).length ≤ l + 1 := by
  rw [Int.sub_eq_add_neg]
  exact zlen_addM hx (by rw [Int.natAbs_neg]; exact hy)
def sumP : Nat → (Nat → Int × Int) → Int × Int
  | 0, _ => (0, 0)
  | k + 1, f => aP (sumP k f) (f k)
def zl (l : Nat) (p : Int × Int) : Prop := (dig p.1.natAbs).length ≤ l ∧ (dig p.2.natAbs).length ≤ l
theorem zl_mP {p q : Int × Int} {l m : Nat} (hp : zl l p) (hq : zl m q) : zl (l + m + 1) (mP p q) :=
  ⟨zlen_subM (zlen_mul hp.1 hq.1) (zlen_mul hp.2 hq.2), zlen_addM (zlen_mul hp.1 hq.2) (zlen_mul hp.2 hq.1)⟩
theorem zl_up {p : Int × Int} {l m : Nat} (hp : zl l p) (h : l ≤ m) : zl m p := ⟨Nat.le_trans hp.1 h, Nat.le_trans hp.2 h⟩
theorem zl_aP {p q : Int × Int} {l : Nat} (hp : zl l p) (hq : zl l q) : zl (l + 1) (aP p q) := ⟨zlen_addM hp.1 hq.1, zlen_addM hp.2 hq.2⟩
theorem zl_0 (l : Nat) : zl l (0, 0) := by
  have : (dig (Int.natAbs 0)).length ≤ l := by rw [show dig (Int.natAbs 0) = [] from dig_eq_nil.2 rfl]; exact Nat.zero_le _
  exact ⟨this, this⟩
theorem zl_sum {f : Nat → Int × Int} {l : Nat} : ∀ {k : Nat}, (∀ i, i < k → zl l (f i)) → zl (l + k) (sumP k f)
  | 0, _ => zl_0 _
  | k + 1, h => zl_aP (l := l + k) (zl_sum fun i hi => h i (by omega)) (zl_up (h k (by omega)) (Nat.le_add_right l k))
theorem Bd.at1 {l i : Nat} {ps : List (Int × Int)} (h : Bd l ps) : zl l (at1 ps i) := by
  rcases Nat.lt_or_ge i ps.length with hi | hi
  · rw [at1_eq hi]; exact h _ (List.getElem_mem hi)
  · rw [Go.Proofs.YtjfjlloibmebeaaGreat.at1, List.getD, List.getElem?_eq_none hi]; exact zl_0 _
section
variable {w : World} {lu lv n cu cv : Nat} {ou ov : Option Addr} {U V : List (Int × Int)}
end
end Go.Proofs.YtjfjlloibmebeaaGreat


/- gmat: Add, Sub, Scale, Trans, Adj, Ident, Size. -/
namespace Go.Proofs.YtjfjlloibmebeaaGreat
open Go Go.RowKit Dig
set_option linter.unusedVariables false

theorem gd_row {A : List (List (Int × Int))} {i : Nat} (h : gd A) (hi : i < A.length) : (rw_ A i).length = wd A := by rw [rw_eq hi]; exact h.2.2 _ (List.getElem_mem hi)
section
variable {w : World} {l la lb n na nb cm ca cb : Nat} {om oa ob : Option Addr} {Ms A B : List (List (Int × Int))} {vg : Value} {u v : Int}
end
end Go.Proofs.YtjfjlloibmebeaaGreat


/- gmat.combined: the sum of a matrix's rows. -/
namespace Go.Proofs.YtjfjlloibmebeaaGreat
open Go Go.RowKit Dig
set_option linter.unusedVariables false
theorem BdM.at2 {l i j : Nat} {Ms : List (List (Int × Int))} (h : BdM l Ms) : zl l (at2 Ms i j) := by
  rcases Nat.lt_or_ge i Ms.length with hi | hi
  · rw [Go.Proofs.YtjfjlloibmebeaaGreat.at2, rw_eq hi]; exact Bd.at1 (h _ (List.getElem_mem hi))
  · rw [Go.Proofs.YtjfjlloibmebeaaGreat.at2, rw_, List.getD, List.getElem?_eq_none hi]; exact Bd.at1 (ps := []) fun p hp => by cases hp
section
variable {w : World} {lu lv n cu cv pv pm j : Nat} {ou ov : Option Addr} {V : List (Int × Int)} {M : List (List (Int × Int))}
set_option maxHeartbeats 4000000 in
set_option maxRecDepth 20000 in
theorem combined1 (xv : Bs w pv #[.slice ou n cu] 51) (xm : Bs w pm #[.slice ov n cv] 23) (hu : SN lu w ou V) (hv : MN lv w ov M) (hn : V.length = n) (hm : M.length = n) (hj : ∀ i, i < n → j < (rw_ M i).length) (hl : n ≤ 2000000) (h1 : lu ≤ 10000000) (h2 : lv ≤ 10000000) (hj2 : j ≤ 1000000) :
    Calls Tryz.prog 173 (#[.int .i64 (j : Int)] ++ #[.pointer (some ⟨pv, 0, none⟩), .pointer (some ⟨pm, 0, none⟩)]) w fun e w' => ∃ r, e = .returned r ∧ PC w' r (sumP n fun i => mP (at1 V i) (at2 M i j)).1 (sumP n fun i => mP (at1 V i) (at2 M i j)).2 ∧ Below w.heap.size w w' := by
  show Calls _ _ #[.int .i64 (j : Int), .pointer (some ⟨pv, 0, none⟩), .pointer (some ⟨pm, 0, none⟩)] w _
  obtain ⟨g1, off1, cur1, t1, z1, B1, D1⟩ := hu.blk
  obtain ⟨g2, off2, cur2, t2, z2, B2, D2⟩ := hv.blk
  rw [hn] at B1
  rw [hm] at B2
  have HB := hide (And.intro B1 B2)
  have I1 := D1.isG
  have I2 := D2.isS
  rw [hn] at I1
  rw [hm] at I2
  have HI := hide (And.intro I1 I2)
  have HD := hide (And.intro D1 D2)
  have HU := hide (And.intro hu.bd hv.bd)
  have HJ := hide hj
  obtain ⟨f, hf⟩ : ∃ f : Nat → Int × Int, f = fun i => mP (at1 V i) (at2 M i j) := ⟨_, rfl⟩
  rw [← hf]
  have HF := hide hf
  clear B1 B2 I1 I2 D1 D2 hu hv hf hj
  refine calls_of_marks Tryz.func173 rfl ?_
  simp only [Tryz.ntmps173, List.size_toArray, List.length_cons, List.length_nil, Nat.reduceAdd, Nat.reduceSub, Array.replicate_succ, Array.replicate_zero, List.push_toArray, List.append_toArray, List.nil_append, List.cons_append]
  have hs := St.nil w
  have lt_bv := xv.lt
  have xvz := xv
  have lt_bm := xm.lt
  have xmz := xm
  refine wp_seq_k ?_
  intro K1 hK1
  refine rg [0, 1] ?_
  refine sq ?_
  refine .al hs ?_; clear hs; intro p_b1 w_1 hs n1 kb_b1
  replace xv := xv.bl n1; replace xm := xm.bl n1
  refine sq ?_
  refine .al hs ?_; clear hs; intro p_b2 w_2 hs n2 kb_b2
  replace xv := xv.bl n2; replace xm := xm.bl n2
  apply wpSq_end
  refine hK1 _ _ ?_
  refine wp_seq_k ?_
  intro K2 hK2
  refine rg [0, 1, 2] ?_
  refine sq ?_
  refine .r0 ?_
  refine sq ?_
  refine .al hs ?_; clear hs; intro p_b3 w_3 hs n3 kb_b3
  replace xv := xv.bl n3; replace xm := xm.bl n3
  refine sq ?_
  refine .s4 hs.g0 (fun _ => hs.u0 kb_b3) ?_; clear hs; intro w_4 hs hd4 ho4
  replace xv := xv.frame ho4 (Nat.ne_of_lt (Nat.lt_of_lt_of_le lt_bv kb_b3)); replace xm := xm.frame ho4 (Nat.ne_of_lt (Nat.lt_of_lt_of_le lt_bm kb_b3))
  apply wpSq_end
  refine hK2 _ _ ?_
  refine wp_seq_k ?_
  intro K3 hK3
  refine wp_seq_k ?_
  intro K4 hK4
  refine rg [0, 1, 2] ?_
  refine sq ?_
  refine .r1 xv.f1 ?_
  refine sq ?_
  refine .r1 xm.f1 ?_
  refine sq ?_
  intro K hK
  go_big_op
  go_fit (mkBesideGS)
  rintro e w_5 ⟨p_ita, p_itb, rfl, kb_ita, kb_itb, hs_it, hb_5⟩
  have kz_it := hs.k; replace hs := hs.app2 hs_it kb_ita kb_itb; replace kb_ita := Nat.le_trans kz_it kb_ita; replace kb_itb := Nat.le_trans kz_it kb_itb
  refine hK _ _ rfl trivial ?_
  clear hK K
  apply wpSq_end
  refine hK4 _ _ ?_
  refine wp_block ?_
  refine wp_rangeN (X := Nat × Value × Value × Value × Value) (fun k x => x.1 = k) (fun _ _ _ => False) (fun x => [bx p_ita #[.slice ou n cu] 51, bx p_itb #[.slice ov n cv] 22, bx p_b3 #[x.2.1, x.2.2.1, x.2.2.2.1, x.2.2.2.2] 38, bx p_b2 #[.bool false, .slice none 0 0, .bool false, .slice none 0 0] 38, bx p_b1 #[.int .i64 (j : Int)] 3])
    (fun x W => PC W (.agg #[x.2.1, x.2.2.1, x.2.2.2.1, x.2.2.2.2]) (sumP x.1 f).1 (sumP x.1 f).2) (itGS (c1 := cu) (c2 := cv) (t1 := t1) (t2 := t2) (fz1 := z1) (fz2 := z2) (by omega) HI.out.1 HI.out.2 (fun h => (HB.out.1 h).1) (fun h => (HB.out.2 h).1)) (0, .bool false, .slice none 0 0, .bool false, .slice none 0 0) rfl hs (.mk' (zc_zero _) (zc_zero _)) ?hR ?hF ?round ?done ?stop
  case hR => exact fun x W hst _ => ⟨hst.g0, hst.g1, fun h => ⟨(HB.out.1 h).2.bl hst.b, (HB.out.2 h).2.bl hst.b⟩⟩
  case hF => exact fun x A B h c => h.k c.kp
  case stop => exact fun l D r c k x W hk hD hI => hI.elim
  case round =>
    intro l D r d k x W hk hI hs hf
    obtain ⟨k', c0, c1, c2, c3⟩ := x
    obtain rfl : k' = k := hI
    obtain ⟨n1, o1, k1, q1, n2, o2, k2, q2, hcs, s1, s2⟩ := hf
    simp only [Value.agg.injEq, Array.mk.injEq, List.cons.injEq, and_true] at hcs
    obtain ⟨rfl, rfl, rfl, rfl⟩ := hcs
    obtain ⟨a1, a2, a3, a4, a5, a6, a7, a8, e1, e2, e3, e4, x1, x2⟩ := HD.out.1 k' (by omega)
    obtain ⟨o3, c3, e5, hrow⟩ := HD.out.2 k' (by omega)
    rw [← rw_eq (Ms := M) (by omega)] at e5 hrow
    obtain ⟨g3, off3, cur3, ty3, fz3, d1, d2, d3, d4, d5, d6, d7, d8, rfl, x3, e6, e7, e8, e9, y1, y2⟩ := hrow.op (HJ.out k' hk)
    have hj' := HJ.out k' hk
    obtain ⟨m, hm'⟩ : ∃ m, (rw_ M k').length = m := ⟨_, rfl⟩
    rw [hm'] at e5 hj'
    rw [← at1_eq (ps := V) (by omega)] at x1 x2
    simp only [enG, cg_eq e1, cg_eq e2, cg_eq e3, cg_eq e4, cg_eq e5, List.zip_toArray, List.zip_cons_cons, List.zip_nil_right, List.foldl_toArray', List.foldl_cons, List.foldl_nil, List.setIfInBounds_toArray, List.set_cons_succ, List.set_cons_zero]
    replace x1 : ZN W (.agg #[.bool a1, .slice a2 a3 a4]) (at1 V k').1 lu := x1.bl hs.b
    replace x2 : ZN W (.agg #[.bool a5, .slice a6 a7 a8]) (at1 V k').2 lu := x2.bl hs.b
    replace y1 : ZN W (.agg #[.bool d1, .slice d2 d3 d4]) (at2 M k' j).1 lv := y1.bl hs.b
    replace y2 : ZN W (.agg #[.bool d5, .slice d6 d7 d8]) (at2 M k' j).2 lv := y2.bl hs.b
    have lt_kRM := x3.lt
    replace x3 := x3.bl hs.b
    have hz : zl (lu + lv + 1 + k') (sumP k' f) := zl_sum fun i hi => by rw [HF.out]; exact zl_mP HU.out.1.at1 HU.out.2.at2
    have Ls1 := hide hz.1
    have Ls2 := hide hz.2
    have HE := hide (show sumP (k' + 1) f = aP (sumP k' f) (mP (at1 V k') (at2 M k' j)) from by rw [show f = fun i => mP (at1 V i) (at2 M i j) from HF.out]; rfl)
    generalize at1 V k' = u at *
    generalize at2 M k' j = v at *
    clear hz hrow hm'
    generalize sumP k' f = S at *
    refine wpIn_seq_k ?_
    intro K5 hK5
    refine rgR [0, 1] ?_
    refine sq ?_
    refine .al hs ?_; clear hs; intro p_b4 w_6 hs n6 kb_b4
    replace x3 := x3.bl n6
    refine sq ?_
    refine .s4 hs.g0 (fun _ => hs.u0 kb_b4) ?_; clear hs; intro w_7 hs hd7 ho7
    replace x3 := x3.frame ho7 (Nat.ne_of_lt (Nat.lt_of_lt_of_le lt_kRM kb_b4))
    apply wpSq_end
    refine hK5 _ _ ?_
    refine rgR [0] ?_
    refine sq ?_
    refine .mv ?_
    apply wpSq_end
    try dsimp only [Exit.then, Exit.inBlock]
    refine ⟨_, 1, hs, rfl, ?_⟩; clear hs; intro r_8 w_8 hs cm_8; simp only [List.set_cons_succ, List.set_cons_zero] at hs
    replace x3 := x3.cm cm_8
    refine wpIn_block ?_
    refine wp_region_f4R [(0, false), (1, false), (2, false), (3, false), (4, false), (5, false), (6, true), (7, true)] [8] [] (fun _ => default) [0, 1, 99, 2, 99, 3, 99, 99, 99] [(8, 0)] (.c hs.g5 (.c hs.g0 (.c hs.g7 (.c x3 .n)))) fn fun w_9 n9 => ?_
    replace x3 := x3.bl n9; replace hs := hs.bl n9
    refine f4 ?_
    refine f4 ?_
    refine fmv ?_
    refine f1 ?_
    refine f0 ?_
    apply wpFl_ld rfl rfl; (case h1 => intro w' hC K hK; have c0 := Bs.cell hC ((off3 + j * 4)) e6; have c1 := Bs.cell hC ((off3 + j * 4) + 1) e7; have c2 := Bs.cell hC ((off3 + j * 4) + 2) e8; have c3 := Bs.cell hC ((off3 + j * 4) + 3) e9; go_big_op; exact hK); iterate 4 kernel_rfl
    refine fl fun w_10 n10 => ?_
    replace x3 := x3.bl n10; replace hs := hs.bl n10
    intro K hK
    have k0_5 := ((((kb n6).o hd7 ho7).t cm_8.kp).b n9).b n10
    replace x1 := x1.k k0_5
    replace x2 := x2.k k0_5
    replace y1 := y1.k k0_5
    replace y2 := y2.k k0_5
    go_big_op
    go_fit (gMul_any (PN.mk' x1 x2) (PN.mk' y1 y2) (by omega) (by omega) (by omega) (by omega) )
    rintro e w_11 ⟨_, rfl, ⟨n_ba, o_ba, k_ba, c_ba, n_bb, o_bb, k_bb, c_bb, rfl, b1, b2⟩, hb_11⟩
    replace x3 := x3.bl hb_11; replace hs := hs.bl hb_11
    have Lb1 := hide (b1.lenOf (zlen_sub (zlen_mul (x1.len) (y1.len)) (zlen_mul (x2.len) (y2.len))))
    have Lb2 := hide (b2.lenOf (zlen_add (zlen_mul (x1.len) (y2.len)) (zlen_mul (x2.len) (y1.len))))
    refine hK _ _ rfl ⟨hb_11, (And.intro hs.g5 (And.intro hs.g0 (And.intro hs.g7 (And.intro x3 trivial))))⟩ ?_
    clear hK K
    refine fl fun w_12 n12 => ?_
    replace x3 := x3.bl n12; replace hs := hs.bl n12
    intro K hK
    have k0_7 := (k0_5.b hb_11).b n12
    replace s1 := s1.k k0_7
    replace s2 := s2.k k0_7
    have k6_7 := kb n12
    replace b1 := b1.k k6_7
    replace b2 := b2.k k6_7
    go_big_op
    go_fit (gAdd_any (PN.mk' (s1.zn Ls1.out) (s2.zn Ls2.out)) (PN.mk' (b1.zn Lb1.out) (b2.zn Lb2.out)) (by omega) (by omega) (by omega) (by omega) )
    rintro e w_13 ⟨_, rfl, ⟨n_ca, o_ca, k_ca, c_ca, n_cb, o_cb, k_cb, c_cb, rfl, c1, c2⟩, hb_13⟩
    replace x3 := x3.bl hb_13; replace hs := hs.bl hb_13
    have Lc1 := hide (c1.lenOf (zlen_add (Ls1.out) (Lb1.out)))
    have Lc2 := hide (c2.lenOf (zlen_add (Ls2.out) (Lb2.out)))
    refine hK _ _ rfl ⟨hb_13, (And.intro hs.g5 (And.intro hs.g0 (And.intro hs.g7 (And.intro x3 trivial))))⟩ ?_
    clear hK K
    refine e0 hs ?_; clear hs; intro w_14 hs n14
    replace x3 := x3.bl n14
    refine tl ?_
    refine .s4o hs.g5 (fun _ => hs.u5 kb_b3) ?_ (e := fun _ hs hO => (And.intro True.intro (And.intro hs.g0 (And.intro hs.g7 (And.intro (x3.frame hO (Nat.ne_of_lt (Nat.lt_of_lt_of_le lt_kRM kb_b3))) True.intro))))); clear hs; intro w_15 hs hd15 ho15
    replace x3 := x3.frame ho15 (Nat.ne_of_lt (Nat.lt_of_lt_of_le lt_kRM kb_b3))
    apply wpTail_end
    try dsimp only [Exit.then, Exit.inBlock]
    have k8_10 := (kb n14).o hd15 ho15
    replace c1 := c1.k k8_10
    replace c2 := c2.k k8_10
    exact ⟨(k' + 1, _, _, _, _), rfl, hs.sub (.cons _ (List.Sublist.refl _)), by show PC _ _ (sumP (k' + 1) f).1 (sumP (k' + 1) f).2; rw [HE.out]; exact .mk' c1 c2⟩
  case done =>
    intro l D r x W hD hI hs hf
    obtain ⟨k', c0, c1, c2, c3⟩ := x
    obtain rfl : k' = n := hI
    obtain ⟨n1, o1, k1, q1, n2, o2, k2, q2, hcs, s1, s2⟩ := hf
    simp only [Value.agg.injEq, Array.mk.injEq, List.cons.injEq, and_true] at hcs
    obtain ⟨rfl, rfl, rfl, rfl⟩ := hcs
    try dsimp only [Exit.then, Exit.inBlock]
    refine hK3 _ _ ?_
    refine wp_seq_k ?_
    intro K5 hK5
    refine rg [0, 1] ?_
    refine sq ?_
    refine .r4 hs.g4.f4 ?_
    refine sq ?_
    refine .s4 hs.g5 (fun _ => hs.u5 kb_b2) ?_; clear hs; intro w_6 hs hd6 ho6
    apply wpSq_end
    refine hK5 _ _ ?_
    refine wp_ret ?_
    try dsimp only [Exit.then, Exit.inBlock]
    refine ret_mark (hs.obj 1) fun w_7 e_7 => ?_
    have cm_7 := Cm.po (.deferred none) (hs.obj 1) rfl
    replace hs := hs.po 1 (.deferred none) hD; rw [e_7] at hs cm_7; clear e_7; simp only [List.set_cons_succ, List.set_cons_zero] at hs
    obtain ⟨r0_0, r0_1, r0_2, r0_3⟩ := hs.g5.f4
    refine ⟨(.agg #[.bool n1, .slice o1 k1 q1, .bool n2, .slice o2 k2 q2]), by simp [results, Tryz.results173, go_sem, r0_0, r0_1, r0_2, r0_3], ?_⟩
    have k0_2 := (ko hd6 ho6).t cm_7.kp
    replace s1 := s1.k k0_2
    replace s2 := s2.k k0_2
    exact ⟨_, rfl, .mk' s1 s2, hs.b⟩
end
end Go.Proofs.YtjfjlloibmebeaaGreat


/- gmat: Scale, Trans, Adj, Ident, Size. -/
namespace Go.Proofs.YtjfjlloibmebeaaGreat
open Go Go.RowKit Dig
set_option linter.unusedVariables false

def one2 (i j : Nat) : Int × Int := if i = j then (1, 0) else (0, 0)
section
variable {w : World} {l la lb n na nb cm ca cb i j : Nat} {om oa ob : Option Addr} {Ms A B : List (List (Int × Int))} {vg : Value} {u v : Int}
set_option maxHeartbeats 4000000 in
set_option maxRecDepth 20000 in
theorem mScale_ok (ha : MN la w oa A) (hg : PN w vg u lb v lb) (hna : A.length = na) (h : gd A) (hla : la ≤ 40000000) (hlb : lb ≤ 40000000) :
    Calls Tryz.prog 33 #[.slice oa na ca, vg] w fun e w' => ∃ o c rs, e = .returned (.tuple #[.slice o na c, .int .i64 0]) ∧ rs.length = na ∧ St w (Mx w.heap.size (.slice o na c) rs) w' ∧ RD w' rs (mkM na (wd A) fun i j => mP (at2 A i j) (u, v)) ∧ Below w.heap.size w w' := by
  have HA := hide ha
  have HG := hide hg
  have hn64 : na ≤ 64 := by have := h.1; omega
  have RA := hide (show ∀ i, i < na → (rw_ A i).length = wd A from fun i hi => gd_row h (by omega))
  have hk64 := h.2.1
  obtain ⟨k, hk⟩ : ∃ k, wd A = k := ⟨_, rfl⟩
  rw [hk] at RA hk64 ⊢
  clear ha
  obtain ⟨n_1a, o_1a, k_1a, c_1a, n_1b, o_1b, k_1b, c_1b, rfl, hg1, hg2⟩ := hg
  go_enter Tryz.func33, Tryz.ntmps33
  have hs := St.nil w
  refine wp_seq_k ?_
  intro K1 hK1
  refine rg [0, 1, 2, 3] ?_
  refine sq ?_
  refine .al hs ?_; clear hs; intro p_b1 w_1 hs n1 kb_b1
  refine sq ?_
  refine .al hs ?_; clear hs; intro p_b2 w_2 hs n2 kb_b2
  refine sq ?_
  refine .mv ?_
  refine sq ?_
  refine .mv ?_
  apply wpSq_end
  refine hK1 _ _ ?_
  refine wp_seq_k ?_
  intro K2 hK2
  refine wp_seq_k ?_
  intro K3 hK3
  refine rg [0, 1, 2] ?_
  refine sq ?_
  refine .r1 hs.g1.f1 ?_
  refine sq ?_
  intro K hK
  have hb := hs.b
  go_big_op
  go_fit (good_yes (HA.out.bl stab_n hb) hna (by omega) h)
  rintro e w_3 ⟨rfl, hb_3⟩
  clear hb
  replace hs := hs.bl hb_3
  refine hK _ _ rfl trivial ?_
  clear hK K
  refine sq ?_
  refine .r0 ?_
  apply wpSq_end
  refine hK3 _ _ ?_
  refine cf ?_
  refine wp_skip ?_
  refine hK2 _ _ ?_
  refine wp_seq_k ?_
  intro K4 hK4
  refine wp_region_f4 [(0, false), (1, false), (2, false), (4, false), (3, true), (5, true), (6, false), (7, false)] [] [] (fun _ => default) [0, 99, 0, 99, 99, 99, 99, 99] [] (.c hs.g1 .n) fn fun w_4 n4 => ?_
  replace hs := hs.bl n4
  refine f1 ?_
  refine fb ?_
  refine f1 ?_
  refine f0 ?_
  refine fl fun w_5 n5 => ?_
  replace hs := hs.bl n5
  intro K hK
  have hb := hs.b
  go_big_op
  go_fit (width_any (HA.out.bl stab_n hb) hna hk)
  rintro e w_6 ⟨rfl, hb_6⟩
  clear hb
  replace hs := hs.bl hb_6
  refine hK _ _ rfl ⟨hb_6, (And.intro hs.g1 trivial)⟩ ?_
  clear hK K
  have k0_6 := (((((kb n1).b n2).b hb_3).b n4).b n5).b hb_6
  replace hg1 := hg1.k k0_6
  have hgz1 := hg1
  replace hg2 := hg2.k k0_6
  have hgz2 := hg2
  refine fl fun w_7 n7 => ?_
  replace hs := hs.bl n7
  intro K hK
  have x_b1 := hs.g1
  have x_b2 := hs.g0
  have hb := hs.b
  have k6_7 := kb n7
  replace hg1 := hg1.k k6_7
  replace hg2 := hg2.k k6_7
  go_big_op
  go_fit (matrix_any (F := fun i j ↦ mP (at2 A i j) (u, v)) (fun _ _ _ ↦ by kernel_rfl) (fun i j w1 hi hj h1 ↦ scale1 (x_b1.bl h1) (x_b2.bl h1) (HA.out.bl stab_n (hb.trans (h1.mono hb.size))) (hg1.bl h1) (hg2.bl h1) hna hi (by rw [RA.out i hi]; exact hj) hla hlb) (by omega) (by omega))
  rintro e w_8 ⟨o_r, c_r, rs_r, rfl, hl_r, hs_r, d_r, hb_8⟩
  clear x_b1 x_b2 hb
  replace hs := hs.mx hl_r hs_r; simp only [List.cons_append, List.nil_append] at hs
  refine hK _ _ rfl ⟨hb_8, (And.intro hs.g2 trivial)⟩ ?_
  clear hK K
  refine fmv ?_
  refine fmv ?_
  refine e0 hs ?_; clear hs; intro w_9 hs n9
  apply wpTail_end
  refine hK4 _ _ ?_
  refine wp_ret ?_
  try dsimp only [Exit.then, Exit.inBlock]
  refine bodyPost_ret (v := (.tuple #[(.slice o_r na c_r), (.int .i64 0)])) (by simp [results, Tryz.results33, go_sem]) rfl ?_
  have k8_9 := kb n9
  replace d_r := d_r.k k8_9
  exact ⟨_, _, _, rfl, hl_r, (by unfold Mx; rw [hl_r]; exact hs.sub (.cons_cons _ (.cons _ (.cons _ (List.Sublist.refl _))))), d_r, hs.b⟩
set_option maxHeartbeats 4000000 in
set_option maxRecDepth 20000 in
theorem ident1 (hi : i ≤ 1000) (hj : j ≤ 1000) :
    Calls Tryz.prog 112 (#[.int .i64 (i : Int), .int .i64 (j : Int)] ++ #[]) w fun e w' => ∃ v, e = .returned v ∧ PC w' v (one2 i j).1 (one2 i j).2 ∧ Below w.heap.size w w' := by
  show Calls _ _ #[.int .i64 (i : Int), .int .i64 (j : Int)] w _
  by_cases h : i = j
  · have e : one2 i j = (1, 0) := if_pos h
    have t1 : ((i : Int) == (j : Int)) = true := by rw [h]; simp
    rw [e]
    clear e h
    go_enter Tryz.func112, Tryz.ntmps112
    have hs := St.nil w
    refine wp_seq_k ?_
    intro K1 hK1
    refine rg [0] ?_
    refine sq ?_
    refine .al hs ?_; clear hs; intro p_b1 w_1 hs n1 kb_b1
    apply wpSq_end
    refine hK1 _ _ ?_
    refine wp_seq_k ?_
    intro K2 hK2
    refine wp_seq_k ?_
    intro K3 hK3
    refine rg [0, 1, 2] ?_
    refine sq ?_
    refine .mv ?_
    refine sq ?_
    refine .mv ?_
    refine sq ?_
    refine .r0 ?_
    apply wpSq_end
    refine hK3 _ _ ?_
    refine ct ?_
    refine wp_seq_k ?_
    intro K4 hK4
    refine rg [0, 1] ?_
    refine sq ?_
    intro K hK
    go_big_op
    go_fit (gFrom_any 1 0 _ (by omega) (by omega) (by omega) (by omega))
    rintro e w_2 ⟨_, rfl, ⟨n_ga, o_ga, k_ga, c_ga, n_gb, o_gb, k_gb, c_gb, rfl, g1, g2⟩, hb_2⟩
    replace hs := hs.bl hb_2
    refine hK _ _ rfl trivial ?_
    clear hK K
    refine sq ?_
    refine .s4 hs.g0 (fun _ => hs.u0 kb_b1) ?_; clear hs; intro w_3 hs hd3 ho3
    apply wpSq_end
    refine hK4 _ _ ?_
    refine wp_ret ?_
    try dsimp only [Exit.then, Exit.inBlock]
    obtain ⟨r0_0, r0_1, r0_2, r0_3⟩ := hs.g0.f4
    refine bodyPost_ret (v := (.agg #[.bool n_ga, .slice o_ga k_ga c_ga, .bool n_gb, .slice o_gb k_gb c_gb])) (by simp [results, Tryz.results112, go_sem, r0_0, r0_1, r0_2, r0_3]) rfl ?_
    have k2_3 := ko hd3 ho3
    replace g1 := g1.k k2_3
    replace g2 := g2.k k2_3
    exact ⟨_, rfl, .mk' g1 g2, hs.b⟩
  · have e : one2 i j = (0, 0) := if_neg h
    have t1 : ((i : Int) == (j : Int)) = false := beq_eq_false_iff_ne.2 (by omega)
    rw [e]
    clear e
    go_enter Tryz.func112, Tryz.ntmps112
    have hs := St.nil w
    refine wp_seq_k ?_
    intro K1 hK1
    refine rg [0] ?_
    refine sq ?_
    refine .al hs ?_; clear hs; intro p_b1 w_1 hs n1 kb_b1
    apply wpSq_end
    refine hK1 _ _ ?_
    refine wp_seq_k ?_
    intro K2 hK2
    refine wp_seq_k ?_
    intro K3 hK3
    refine rg [0, 1, 2] ?_
    refine sq ?_
    refine .mv ?_
    refine sq ?_
    refine .mv ?_
    refine sq ?_
    refine .r0 ?_
    apply wpSq_end
    refine hK3 _ _ ?_
    refine cf ?_
    refine wp_skip ?_
    refine hK2 _ _ ?_
    refine wp_seq_k ?_
    intro K4 hK4
    refine rg [0, 1] ?_
    refine sq ?_
    refine .r0 ?_
    refine sq ?_
    refine .s4 hs.g0 (fun _ => hs.u0 kb_b1) ?_; clear hs; intro w_2 hs hd2 ho2
    apply wpSq_end
    refine hK4 _ _ ?_
    refine wp_ret ?_
    try dsimp only [Exit.then, Exit.inBlock]
    obtain ⟨r0_0, r0_1, r0_2, r0_3⟩ := hs.g0.f4
    refine bodyPost_ret (v := (.agg #[.bool false, .slice none 0 0, .bool false, .slice none 0 0])) (by simp [results, Tryz.results112, go_sem, r0_0, r0_1, r0_2, r0_3]) rfl ?_
    exact ⟨_, rfl, .mk' (zc_zero w_2) (zc_zero w_2), hs.b⟩
set_option maxHeartbeats 4000000 in
set_option maxRecDepth 20000 in
theorem mIdent_ok (hn : n ≤ 64) :
    Calls Tryz.prog 32 #[.int .i64 (n : Int)] w fun e w' => ∃ o c rs, e = .returned (.tuple #[.slice o n c, .int .i64 0]) ∧ rs.length = n ∧ St w (Mx w.heap.size (.slice o n c) rs) w' ∧ RD w' rs (mkM n n one2) ∧ Below w.heap.size w w' := by
  go_enter Tryz.func32, Tryz.ntmps32
  have hs := St.nil w
  refine wp_seq_k ?_
  intro K1 hK1
  refine rg [0, 1] ?_
  refine sq ?_
  refine .mv ?_
  refine sq ?_
  refine .mv ?_
  apply wpSq_end
  refine hK1 _ _ ?_
  refine wp_seq_k ?_
  intro K2 hK2
  refine wp_seq_k ?_
  intro K3 hK3
  refine rg [0, 1] ?_
  refine sq ?_
  refine .mv ?_
  refine sq ?_
  refine .r0 ?_
  apply wpSq_end
  refine hK3 _ _ ?_
  refine cf ?_
  refine wp_skip ?_
  refine hK2 _ _ ?_
  refine wp_seq_k ?_
  intro K4 hK4
  refine wp_seq_k ?_
  intro K5 hK5
  refine rg [0, 1] ?_
  refine sq ?_
  refine .mv ?_
  refine sq ?_
  refine .r0 ?_
  apply wpSq_end
  refine hK5 _ _ ?_
  refine cf ?_
  refine wp_skip ?_
  refine hK4 _ _ ?_
  refine wp_seq_k ?_
  intro K6 hK6
  refine rg [0, 1, 2, 3, 4] ?_
  refine sq ?_
  refine .mv ?_
  refine sq ?_
  refine .mv ?_
  refine sq ?_
  intro K hK
  go_big_op
  go_fit (matrix_any (F := one2) (fun _ _ _ ↦ by kernel_rfl) (fun i j w1 hi hj h1 ↦ ident1 (by omega) (by omega)) (by omega) (by omega))
  rintro e w_1 ⟨o_r, c_r, rs_r, rfl, hl_r, hs_r, d_r, hb_1⟩
  replace hs := hs.mx hl_r hs_r; simp only [List.nil_append] at hs
  refine hK _ _ rfl trivial ?_
  clear hK K
  refine sq ?_
  refine .mv ?_
  refine sq ?_
  refine .mv ?_
  apply wpSq_end
  refine hK6 _ _ ?_
  refine wp_ret ?_
  try dsimp only [Exit.then, Exit.inBlock]
  refine bodyPost_ret (v := (.tuple #[(.slice o_r n c_r), (.int .i64 0)])) (by simp [results, Tryz.results32, go_sem]) rfl ?_
  exact ⟨_, _, _, rfl, hl_r, (by unfold Mx; rw [hl_r]; exact hs), d_r, hs.b⟩
set_option maxHeartbeats 4000000 in
set_option maxRecDepth 20000 in
theorem mSize_ok (ha : MN la w oa A) (hna : A.length = na) (h : gd A) {k : Nat} (hk : wd A = k) :
    Calls Tryz.prog 117 #[.slice oa na ca] w fun e w' => e = .returned (.tuple #[.int .i64 (na : Int), .int .i64 (k : Int), .int .i64 0]) ∧ Below w.heap.size w w' := by
  have HA := hide ha
  have hn64 : na ≤ 64 := by have := h.1; omega
  clear ha
  go_enter Tryz.func117, Tryz.ntmps117
  have hs := St.nil w
  refine wp_seq_k ?_
  intro K1 hK1
  refine rg [0, 1, 2] ?_
  refine sq ?_
  refine .mv ?_
  refine sq ?_
  refine .mv ?_
  refine sq ?_
  refine .mv ?_
  apply wpSq_end
  refine hK1 _ _ ?_
  refine wp_seq_k ?_
  intro K2 hK2
  refine wp_seq_k ?_
  intro K3 hK3
  refine rg [0, 1, 2] ?_
  refine sq ?_
  refine .mv ?_
  refine sq ?_
  intro K hK
  have hb := hs.b
  go_big_op
  go_fit (good_yes (HA.out.bl stab_n hb) hna (by omega) h)
  rintro e w_1 ⟨rfl, hb_1⟩
  clear hb
  replace hs := hs.bl hb_1
  refine hK _ _ rfl trivial ?_
  clear hK K
  refine sq ?_
  refine .r0 ?_
  apply wpSq_end
  refine hK3 _ _ ?_
  refine cf ?_
  refine wp_skip ?_
  refine hK2 _ _ ?_
  refine wp_seq_k ?_
  intro K4 hK4
  refine rg [0, 1, 2, 3, 4, 5, 6] ?_
  refine sq ?_
  refine .mv ?_
  refine sq ?_
  refine .r0 ?_
  refine sq ?_
  refine .mv ?_
  refine sq ?_
  intro K hK
  have hb := hs.b
  go_big_op
  go_fit (width_any (HA.out.bl stab_n hb) hna hk)
  rintro e w_2 ⟨rfl, hb_2⟩
  clear hb
  replace hs := hs.bl hb_2
  refine hK _ _ rfl trivial ?_
  clear hK K
  refine sq ?_
  refine .mv ?_
  refine sq ?_
  refine .mv ?_
  refine sq ?_
  refine .mv ?_
  apply wpSq_end
  refine hK4 _ _ ?_
  refine wp_ret ?_
  try dsimp only [Exit.then, Exit.inBlock]
  refine bodyPost_ret (v := (.tuple #[(.int .i64 ((na : Nat) : Int)), (.int .i64 (k : Int)), (.int .i64 0)])) (by simp [results, Tryz.results117, go_sem]) rfl ?_
  exact ⟨rfl, hs.b⟩
set_option maxHeartbeats 4000000 in
set_option maxRecDepth 20000 in
theorem mSize_bad (ha : MN la w oa A) (hna : A.length = na) (h : ¬ gd A) (hla : na ≤ 1000000000) :
    Calls Tryz.prog 117 #[.slice oa na ca] w fun e w' => e = .returned (.tuple #[.int .i64 0, .int .i64 0, .int .i64 4]) ∧ Below w.heap.size w w' := by
  have HA := hide ha
  clear ha
  go_enter Tryz.func117, Tryz.ntmps117
  have hs := St.nil w
  refine wp_seq_k ?_
  intro K1 hK1
  refine rg [0, 1, 2] ?_
  refine sq ?_
  refine .mv ?_
  refine sq ?_
  refine .mv ?_
  refine sq ?_
  refine .mv ?_
  apply wpSq_end
  refine hK1 _ _ ?_
  refine wp_seq_k ?_
  intro K2 hK2
  refine wp_seq_k ?_
  intro K3 hK3
  refine rg [0, 1, 2] ?_
  refine sq ?_
  refine .mv ?_
  refine sq ?_
  intro K hK
  have hb := hs.b
  go_big_op
  go_fit (good_no (HA.out.bl stab_n hb) hna hla h)
  rintro e w_1 ⟨rfl, hb_1⟩
  clear hb
  replace hs := hs.bl hb_1
  refine hK _ _ rfl trivial ?_
  clear hK K
  refine sq ?_
  refine .r0 ?_
  apply wpSq_end
  refine hK3 _ _ ?_
  refine ct ?_
  refine wp_seq_k ?_
  intro K4 hK4
  refine rg [0, 1, 2] ?_
  refine sq ?_
  refine .mv ?_
  refine sq ?_
  refine .mv ?_
  refine sq ?_
  refine .mv ?_
  apply wpSq_end
  refine hK4 _ _ ?_
  refine wp_ret ?_
  try dsimp only [Exit.then, Exit.inBlock]
  refine bodyPost_ret (v := (.tuple #[(.int .i64 0), (.int .i64 0), (.int .i64 4)])) (by simp [results, Tryz.results117, go_sem]) rfl ?_
  exact ⟨rfl, hs.b⟩
end
end Go.Proofs.YtjfjlloibmebeaaGreat


/- gmat: combined, Mul, Times, Dot, Gram. -/
namespace Go.Proofs.YtjfjlloibmebeaaGreat
open Go Go.RowKit Dig
set_option linter.unusedVariables false
section
variable {w : World} {la lb lu lv n k na nb ca cb cu cv pv pm pa pb i j : Nat} {oa ob ou ov : Option Addr} {U V : List (Int × Int)} {A B M : List (List (Int × Int))}
/-- The sum of a matrix's rows, each times its number. -/
def rowC (V : List (Int × Int)) (M : List (List (Int × Int))) (n k : Nat) : List (Int × Int) := (List.range k).map fun j => sumP n fun i => mP (at1 V i) (at2 M i j)
theorem rowC_len : (rowC V M n k).length = k := by rw [rowC, List.length_map, List.length_range]
set_option maxHeartbeats 4000000 in
set_option maxRecDepth 20000 in
theorem combined_any (hu : SN lu w ou V) (hv : MN lv w ov M) (hn : V.length = n) (hm : M.length = n) (h : gd M) (hk : wd M = k) (h1 : lu ≤ 10000000) (h2 : lv ≤ 10000000) :
    Calls Tryz.prog 105 #[.slice ou n cu, .slice ov n cv] w fun e w' => ∃ o c xs, e = .returned (.slice o k c) ∧ Lst w' w.heap.size 38 4 (.slice o k c) k xs ∧ GD w' xs (rowC V M n k) ∧ Below w.heap.size w w' := by
  have HU := hide hu
  have HV := hide hv
  have hn64 : n ≤ 64 := by have := h.1; omega
  have hk64 : k ≤ 64 := by have := h.2.1; omega
  have HR := hide (show ∀ i, i < n → (rw_ M i).length = k from fun i hi => by rw [gd_row h (by omega)]; exact hk)
  clear hu hv h
  go_enter Tryz.func105, Tryz.ntmps105
  have hs := St.nil w
  refine wp_seq_k ?_
  intro K1 hK1
  refine rg [0, 1, 2] ?_
  refine sq ?_
  refine .al hs ?_; clear hs; intro p_b1 w_1 hs n1 kb_b1
  refine sq ?_
  refine .al hs ?_; clear hs; intro p_b2 w_2 hs n2 kb_b2
  refine sq ?_
  refine .mv ?_
  apply wpSq_end
  refine hK1 _ _ ?_
  refine wp_seq_k ?_
  intro K2 hK2
  refine rg [0, 1, 2, 3, 4] ?_
  refine sq ?_
  refine .r1 hs.g0.f1 ?_
  refine sq ?_
  intro K hK
  have hb := hs.b
  go_big_op
  go_fit (width_any (HV.out.bl stab_n hb) hm hk)
  rintro e w_3 ⟨rfl, hb_3⟩
  clear hb
  replace hs := hs.bl hb_3
  refine hK _ _ rfl trivial ?_
  clear hK K
  refine sq ?_
  refine .r0 ?_
  refine sq ?_
  intro K hK
  have x_b1 := hs.g1
  have x_b2 := hs.g0
  have hb := hs.b
  go_big_op
  go_fit (buildG_any (F := fun j ↦ sumP n fun i ↦ mP (at1 V i) (at2 M i j)) (fun _ _ ↦ by kernel_rfl) (fun j w1 hj h3 ↦ combined1 (x_b1.bl h3) (x_b2.bl h3) (HU.out.bl stab_n (hb.trans (h3.mono hb.size))) (HV.out.bl stab_n (hb.trans (h3.mono hb.size))) hn hm (fun i hi ↦ by rw [HR.out i hi]; exact hj) (by omega) h1 h2 (by omega)) (by omega))
  rintro e w_4 ⟨o_r, c_r, xs_r, rfl, L_r, d_r, hb_4⟩
  clear x_b1 x_b2 hb
  replace hs := hs.la hb_4 L_r
  refine hK _ _ rfl trivial ?_
  clear hK K
  refine sq ?_
  refine .mv ?_
  apply wpSq_end
  refine hK2 _ _ ?_
  refine wp_ret ?_
  try dsimp only [Exit.then, Exit.inBlock]
  refine bodyPost_ret (v := (.slice o_r k c_r)) (by simp [results, Tryz.results105, go_sem]) rfl ?_
  exact ⟨_, _, _, rfl, hs.1.1.1, d_r, hs.b⟩
set_option maxHeartbeats 4000000 in
set_option maxRecDepth 20000 in
theorem mul1 (xa : Bs w pa #[.slice oa na ca] 23) (xb : Bs w pb #[.slice ob nb cb] 23) (ha : MN la w oa A) (hb' : MN lb w ob B) (hna : A.length = na) (hnb : B.length = nb) (hi : i < na) (hr : (rw_ A i).length = nb) (h : gd B) (hk : wd B = k) (h1 : la ≤ 10000000) (h2 : lb ≤ 10000000) :
    Calls Tryz.prog 104 (#[.int .i64 (i : Int)] ++ #[.pointer (some ⟨pa, 0, none⟩), .pointer (some ⟨pb, 0, none⟩)]) w fun e w' => ∃ o c xs, e = .returned (.slice o k c) ∧ Lst w' w.heap.size 38 4 (.slice o k c) k xs ∧ GD w' xs (rowC (rw_ A i) B nb k) ∧ Below w.heap.size w w' := by
  show Calls _ _ #[.int .i64 (i : Int), .pointer (some ⟨pa, 0, none⟩), .pointer (some ⟨pb, 0, none⟩)] w _
  obtain ⟨g, off, cur, ty, fz, oi, ci, rfl, x, e, hrow⟩ := ha.row (i := i) (by omega)
  rw [hr] at e
  have HR := hide hrow
  have HB := hide hb'
  clear ha hb' hrow
  go_enter Tryz.func104, Tryz.ntmps104
  have hs := St.nil w
  have lt_ba := xa.lt
  have xaz := xa
  have lt_bb := xb.lt
  have xbz := xb
  have lt_kA := x.lt
  have xz := x
  refine wp_seq_k ?_
  intro K1 hK1
  refine rg [0] ?_
  refine sq ?_
  refine .mv ?_
  apply wpSq_end
  refine hK1 _ _ ?_
  refine wp_seq_k ?_
  intro K2 hK2
  refine wp_region_f4 [(0, false), (1, false), (2, false), (3, false), (4, false), (5, true), (6, false)] [] [] (fun _ => default) [0, 99, 99, 1, 2, 99, 99] [] (.c xa (.c x (.c xb .n))) fn fun w_1 n1 => ?_
  replace xa := xa.bl n1; replace xb := xb.bl n1; replace x := x.bl n1; replace hs := hs.bl n1
  refine f1 ?_
  refine fmv ?_
  refine f0 ?_
  apply wpFl_ld rfl rfl; (case h1 => intro w' hC K hK; have c0 := Bs.cell hC ((off + i)) e; go_big_op; exact hK); iterate 4 kernel_rfl
  refine f1 ?_
  refine fl fun w_2 n2 => ?_
  replace xa := xa.bl n2; replace xb := xb.bl n2; replace x := x.bl n2; replace hs := hs.bl n2
  intro K hK
  have hb := hs.b
  go_big_op
  go_fit (combined_any (HR.out.bl stab_n hb) (HB.out.bl stab_n hb) hr hnb h hk h1 h2)
  rintro e w_3 ⟨o_r, c_r, xs_r, rfl, L_r, d_r, hb_3⟩
  clear hb
  replace xa := xa.bl hb_3; replace xb := xb.bl hb_3; replace x := x.bl hb_3
  replace hs := hs.la hb_3 L_r
  refine hK _ _ rfl ⟨hb_3, (And.intro xa (And.intro x (And.intro xb trivial)))⟩ ?_
  clear hK K
  refine fmv ?_
  refine e0 hs ?_; clear hs; intro w_4 hs n4
  replace xa := xa.bl n4; replace xb := xb.bl n4; replace x := x.bl n4
  apply wpTail_end
  refine hK2 _ _ ?_
  refine wp_ret ?_
  try dsimp only [Exit.then, Exit.inBlock]
  refine bodyPost_ret (v := (.slice o_r k c_r)) (by simp [results, Tryz.results104, go_sem]) rfl ?_
  have k3_4 := kb n4
  replace d_r := d_r.k k3_4
  exact ⟨_, _, _, rfl, hs.1.1.1, d_r, hs.b⟩
/-- The product of two. -/
def mulM (A B : List (List (Int × Int))) : List (List (Int × Int)) := (List.range A.length).map fun i => rowC (rw_ A i) B B.length (wd B)
/-- They can be multiplied. -/
def ml2 (A B : List (List (Int × Int))) : Prop := gd A ∧ gd B ∧ wd A = B.length
instance (A B : List (List (Int × Int))) : Decidable (ml2 A B) := inferInstanceAs (Decidable (_ ∧ _ ∧ _))
set_option maxHeartbeats 4000000 in
set_option maxRecDepth 20000 in
theorem mMul_ok (ha : MN la w oa A) (hb' : MN lb w ob B) (hna : A.length = na) (hnb : B.length = nb) (h : ml2 A B) (h1 : la ≤ 10000000) (h2 : lb ≤ 10000000) :
    Calls Tryz.prog 26 #[.slice oa na ca, .slice ob nb cb] w fun e w' => ∃ o c rs, e = .returned (.tuple #[.slice o na c, .int .i64 0]) ∧ rs.length = na ∧ St w (Mx w.heap.size (.slice o na c) rs) w' ∧ RD w' rs (mulM A B) ∧ Below w.heap.size w w' := by
  have HA := hide ha
  have HB := hide hb'
  have hn64 : na ≤ 64 := by have := h.1.1; omega
  have hm64 : nb ≤ 64 := by have := h.2.1.1; omega
  have hw : wd A = nb := by rw [h.2.2, hnb]
  have HR := hide (show ∀ i, i < na → (rw_ A i).length = nb from fun i hi => by rw [gd_row h.1 (by omega)]; exact hw)
  obtain ⟨k, hk⟩ : ∃ k, wd B = k := ⟨_, rfl⟩
  have HM := hide (show mulM A B = (List.range na).map fun i => rowC (rw_ A i) B nb k by rw [mulM, hna, hnb, hk])
  rw [HM.out]
  have t1 : ((nb : Int) != (nb : Int)) = false := by simp
  clear ha hb'
  go_enter Tryz.func26, Tryz.ntmps26
  have hs := St.nil w
  refine wp_seq_k ?_
  intro K1 hK1
  refine rg [0, 1, 2, 3] ?_
  refine sq ?_
  refine .al hs ?_; clear hs; intro p_b1 w_1 hs n1 kb_b1
  refine sq ?_
  refine .al hs ?_; clear hs; intro p_b2 w_2 hs n2 kb_b2
  refine sq ?_
  refine .mv ?_
  refine sq ?_
  refine .mv ?_
  apply wpSq_end
  refine hK1 _ _ ?_
  refine wp_seq_k ?_
  intro K2 hK2
  refine wp_seq_k ?_
  intro K3 hK3
  refine wp_region_f4 [(0, false), (1, true), (2, false), (3, false), (4, false), (5, true), (6, false), (7, false), (8, false), (9, false), (11, false), (12, false), (10, true), (13, false), (14, false)] [] [] (fun _ => default) [0, 99, 99, 99, 1, 99, 99, 99, 99, 0, 99, 1, 99, 99, 99] [] (.c hs.g1 (.c hs.g0 .n)) fn fun w_3 n3 => ?_
  replace hs := hs.bl n3
  refine f1 ?_
  refine fl fun w_4 n4 => ?_
  replace hs := hs.bl n4
  intro K hK
  have hb := hs.b
  go_big_op
  go_fit (good_yes (HA.out.bl stab_n hb) hna (by omega) h.1)
  rintro e w_5 ⟨rfl, hb_5⟩
  clear hb
  replace hs := hs.bl hb_5
  refine hK _ _ rfl ⟨hb_5, (And.intro hs.g1 (And.intro hs.g0 trivial))⟩ ?_
  clear hK K
  refine f0 ?_
  refine fmv ?_
  refine f1 ?_
  refine fl fun w_6 n6 => ?_
  replace hs := hs.bl n6
  intro K hK
  have hb := hs.b
  go_big_op
  go_fit (good_yes (HB.out.bl stab_n hb) hnb (by omega) h.2.1)
  rintro e w_7 ⟨rfl, hb_7⟩
  clear hb
  replace hs := hs.bl hb_7
  refine hK _ _ rfl ⟨hb_7, (And.intro hs.g1 (And.intro hs.g0 trivial))⟩ ?_
  clear hK K
  refine f0 ?_
  refine f0 ?_
  refine fmv ?_
  refine f1 ?_
  refine f1 ?_
  refine fb ?_
  refine fl fun w_8 n8 => ?_
  replace hs := hs.bl n8
  intro K hK
  have hb := hs.b
  go_big_op
  go_fit (width_any (HA.out.bl stab_n hb) hna hw)
  rintro e w_9 ⟨rfl, hb_9⟩
  clear hb
  replace hs := hs.bl hb_9
  refine hK _ _ rfl ⟨hb_9, (And.intro hs.g1 (And.intro hs.g0 trivial))⟩ ?_
  clear hK K
  refine f0 ?_
  refine f0 ?_
  refine e0 hs ?_; clear hs; intro w_10 hs n10
  apply wpTail_end
  refine hK3 _ _ ?_
  refine cf ?_
  refine wp_skip ?_
  refine hK2 _ _ ?_
  refine wp_seq_k ?_
  intro K4 hK4
  refine rg [0, 1, 2, 3, 4, 5] ?_
  refine sq ?_
  refine .r1 hs.g1.f1 ?_
  refine sq ?_
  refine .r0 ?_
  refine sq ?_
  refine .r0 ?_
  refine sq ?_
  intro K hK
  have x_b1 := hs.g1
  have x_b2 := hs.g0
  have hb := hs.b
  go_big_op
  go_fit (buildL_any (F := fun i ↦ rowC (rw_ A i) B nb k) (fun _ _ ↦ by kernel_rfl) (fun i w1 hi h3 ↦ by have := mul1 (x_b1.bl h3) (x_b2.bl h3) (HA.out.bl stab_n (hb.trans (h3.mono hb.size))) (HB.out.bl stab_n (hb.trans (h3.mono hb.size))) hna hnb hi (HR.out i hi) h.2.1 hk h1 h2; simp only [rowC_len]; exact this) (by omega))
  rintro e w_11 ⟨o_r, c_r, rs_r, rfl, hl_r, hs_r, d_r, hb_11⟩
  clear x_b1 x_b2 hb
  replace hs := hs.mx hl_r hs_r; simp only [List.cons_append, List.nil_append] at hs
  refine hK _ _ rfl trivial ?_
  clear hK K
  refine sq ?_
  refine .mv ?_
  refine sq ?_
  refine .mv ?_
  apply wpSq_end
  refine hK4 _ _ ?_
  refine wp_ret ?_
  try dsimp only [Exit.then, Exit.inBlock]
  refine bodyPost_ret (v := (.tuple #[(.slice o_r na c_r), (.int .i64 0)])) (by simp [results, Tryz.results26, go_sem]) rfl ?_
  exact ⟨_, _, _, rfl, hl_r, (by unfold Mx; rw [hl_r]; exact hs.sub (.cons_cons _ (.cons _ (.cons _ (List.Sublist.refl _))))), d_r, hs.b⟩
set_option maxHeartbeats 4000000 in
set_option maxRecDepth 20000 in
theorem mMul_bad (ha : MN la w oa A) (hb' : MN lb w ob B) (hna : A.length = na) (hnb : B.length = nb) (h : ¬ ml2 A B) (hla : na ≤ 1000000000) (hlb : nb ≤ 1000000000) :
    Calls Tryz.prog 26 #[.slice oa na ca, .slice ob nb cb] w fun e w' => e = .returned (.tuple #[.slice none 0 0, .int .i64 4]) ∧ Below w.heap.size w w' := by
  have HA := hide ha
  have HB := hide hb'
  clear ha hb'
  by_cases g1 : gd A
  · by_cases g2 : gd B
    · obtain ⟨k, hk⟩ : ∃ k, wd A = k := ⟨_, rfl⟩
      have hne : k ≠ nb := fun e => h ⟨g1, g2, by omega⟩
      have t1 : ((k : Int) != (nb : Int)) = true := bne_iff_ne.2 (by omega)
      go_enter Tryz.func26, Tryz.ntmps26
      have hs := St.nil w
      refine wp_seq_k ?_
      intro K1 hK1
      refine rg [0, 1, 2, 3] ?_
      refine sq ?_
      refine .al hs ?_; clear hs; intro p_b1 w_1 hs n1 kb_b1
      refine sq ?_
      refine .al hs ?_; clear hs; intro p_b2 w_2 hs n2 kb_b2
      refine sq ?_
      refine .mv ?_
      refine sq ?_
      refine .mv ?_
      apply wpSq_end
      refine hK1 _ _ ?_
      refine wp_seq_k ?_
      intro K2 hK2
      refine wp_seq_k ?_
      intro K3 hK3
      refine wp_region_f4 [(0, false), (1, true), (2, false), (3, false), (4, false), (5, true), (6, false), (7, false), (8, false), (9, false), (11, false), (12, false), (10, true), (13, false), (14, false)] [] [] (fun _ => default) [0, 99, 99, 99, 1, 99, 99, 99, 99, 0, 99, 1, 99, 99, 99] [] (.c hs.g1 (.c hs.g0 .n)) fn fun w_3 n3 => ?_
      replace hs := hs.bl n3
      refine f1 ?_
      refine fl fun w_4 n4 => ?_
      replace hs := hs.bl n4
      intro K hK
      have hb := hs.b
      go_big_op
      go_fit (good_yes (HA.out.bl stab_n hb) hna (by omega) g1)
      rintro e w_5 ⟨rfl, hb_5⟩
      clear hb
      replace hs := hs.bl hb_5
      refine hK _ _ rfl ⟨hb_5, (And.intro hs.g1 (And.intro hs.g0 trivial))⟩ ?_
      clear hK K
      refine f0 ?_
      refine fmv ?_
      refine f1 ?_
      refine fl fun w_6 n6 => ?_
      replace hs := hs.bl n6
      intro K hK
      have hb := hs.b
      go_big_op
      go_fit (good_yes (HB.out.bl stab_n hb) hnb (by omega) g2)
      rintro e w_7 ⟨rfl, hb_7⟩
      clear hb
      replace hs := hs.bl hb_7
      refine hK _ _ rfl ⟨hb_7, (And.intro hs.g1 (And.intro hs.g0 trivial))⟩ ?_
      clear hK K
      refine f0 ?_
      refine f0 ?_
      refine fmv ?_
      refine f1 ?_
      refine f1 ?_
      refine fb ?_
      refine fl fun w_8 n8 => ?_
      replace hs := hs.bl n8
      intro K hK
      have hb := hs.b
      go_big_op
      go_fit (width_any (HA.out.bl stab_n hb) hna hk)
      rintro e w_9 ⟨rfl, hb_9⟩
      clear hb
      replace hs := hs.bl hb_9
      refine hK _ _ rfl ⟨hb_9, (And.intro hs.g1 (And.intro hs.g0 trivial))⟩ ?_
      clear hK K
      refine f0 ?_
      refine f0 ?_
      refine e0 hs ?_; clear hs; intro w_10 hs n10
      apply wpTail_end
      refine hK3 _ _ ?_
      refine ct ?_
      refine wp_seq_k ?_
      intro K4 hK4
      refine rg [0, 1] ?_
      refine sq ?_
      refine .mv ?_
      refine sq ?_
      refine .mv ?_
      apply wpSq_end
      refine hK4 _ _ ?_
      refine wp_ret ?_
      try dsimp only [Exit.then, Exit.inBlock]
      refine bodyPost_ret (v := (.tuple #[(.slice none 0 0), (.int .i64 4)])) (by simp [results, Tryz.results26, go_sem]) rfl ?_
      exact ⟨rfl, hs.b⟩
    · have HX := hide g2
      go_enter Tryz.func26, Tryz.ntmps26
      have hs := St.nil w
      refine wp_seq_k ?_
      intro K1 hK1
      refine rg [0, 1, 2, 3] ?_
      refine sq ?_
      refine .al hs ?_; clear hs; intro p_b1 w_1 hs n1 kb_b1
      refine sq ?_
      refine .al hs ?_; clear hs; intro p_b2 w_2 hs n2 kb_b2
      refine sq ?_
      refine .mv ?_
      refine sq ?_
      refine .mv ?_
      apply wpSq_end
      refine hK1 _ _ ?_
      refine wp_seq_k ?_
      intro K2 hK2
      refine wp_seq_k ?_
      intro K3 hK3
      refine wp_region_f4 [(0, false), (1, true), (2, false), (3, false), (4, false), (5, true), (6, false), (7, false), (8, false), (9, false), (11, false), (12, false), (10, true), (13, false), (14, false)] [] [] (fun _ => default) [0, 99, 99, 99, 1, 99, 99, 99, 99, 0, 99, 1, 99, 99, 99] [] (.c hs.g1 (.c hs.g0 .n)) fn fun w_3 n3 => ?_
      replace hs := hs.bl n3
      refine f1 ?_
      refine fl fun w_4 n4 => ?_
      replace hs := hs.bl n4
      intro K hK
      have hb := hs.b
      go_big_op
      go_fit (good_yes (HA.out.bl stab_n hb) hna (by omega) g1)
      rintro e w_5 ⟨rfl, hb_5⟩
      clear hb
      replace hs := hs.bl hb_5
      refine hK _ _ rfl ⟨hb_5, (And.intro hs.g1 (And.intro hs.g0 trivial))⟩ ?_
      clear hK K
      refine f0 ?_
      refine fmv ?_
      refine f1 ?_
      refine fl fun w_6 n6 => ?_
      replace hs := hs.bl n6
      intro K hK
      have hb := hs.b
      go_big_op
      go_fit (good_no (HB.out.bl stab_n hb) hnb (by omega) g2)
      rintro e w_7 ⟨rfl, hb_7⟩
      clear hb
      replace hs := hs.bl hb_7
      refine hK _ _ rfl ⟨hb_7, (And.intro hs.g1 (And.intro hs.g0 trivial))⟩ ?_
      clear hK K
      refine f0 ?_
      refine f0 ?_
      refine fmv ?_
      refine fk ?_
      refine fk ?_
      refine fk ?_
      refine fkc ?_
      refine fk ?_
      refine f0 ?_
      refine e0 hs ?_; clear hs; intro w_8 hs n8
      apply wpTail_end
      refine hK3 _ _ ?_
      refine ct ?_
      refine wp_seq_k ?_
      intro K4 hK4
      refine rg [0, 1] ?_
      refine sq ?_
      refine .mv ?_
      refine sq ?_
      refine .mv ?_
      apply wpSq_end
      refine hK4 _ _ ?_
      refine wp_ret ?_
      try dsimp only [Exit.then, Exit.inBlock]
      refine bodyPost_ret (v := (.tuple #[(.slice none 0 0), (.int .i64 4)])) (by simp [results, Tryz.results26, go_sem]) rfl ?_
      exact ⟨rfl, hs.b⟩
  · have HX := hide g1
    go_enter Tryz.func26, Tryz.ntmps26
    have hs := St.nil w
    refine wp_seq_k ?_
    intro K1 hK1
    refine rg [0, 1, 2, 3] ?_
    refine sq ?_
    refine .al hs ?_; clear hs; intro p_b1 w_1 hs n1 kb_b1
    refine sq ?_
    refine .al hs ?_; clear hs; intro p_b2 w_2 hs n2 kb_b2
    refine sq ?_
    refine .mv ?_
    refine sq ?_
    refine .mv ?_
    apply wpSq_end
    refine hK1 _ _ ?_
    refine wp_seq_k ?_
    intro K2 hK2
    refine wp_seq_k ?_
    intro K3 hK3
    refine wp_region_f4 [(0, false), (1, true), (2, false), (3, false), (4, false), (5, true), (6, false), (7, false), (8, false), (9, false), (11, false), (12, false), (10, true), (13, false), (14, false)] [] [] (fun _ => default) [0, 99, 99, 99, 1, 99, 99, 99, 99, 0, 99, 1, 99, 99, 99] [] (.c hs.g1 (.c hs.g0 .n)) fn fun w_3 n3 => ?_
    replace hs := hs.bl n3
    refine f1 ?_
    refine fl fun w_4 n4 => ?_
    replace hs := hs.bl n4
    intro K hK
    have hb := hs.b
    go_big_op
    go_fit (good_no (HA.out.bl stab_n hb) hna (by omega) g1)
    rintro e w_5 ⟨rfl, hb_5⟩
    clear hb
    replace hs := hs.bl hb_5
    refine hK _ _ rfl ⟨hb_5, (And.intro hs.g1 (And.intro hs.g0 trivial))⟩ ?_
    clear hK K
    refine f0 ?_
    refine fmv ?_
    refine fk ?_
    refine fkc ?_
    refine fk ?_
    refine f0 ?_
    refine fmv ?_
    refine fk ?_
    refine fk ?_
    refine fk ?_
    refine fkc ?_
    refine fk ?_
    refine f0 ?_
    refine e0 hs ?_; clear hs; intro w_6 hs n6
    apply wpTail_end
    refine hK3 _ _ ?_
    refine ct ?_
    refine wp_seq_k ?_
    intro K4 hK4
    refine rg [0, 1] ?_
    refine sq ?_
    refine .mv ?_
    refine sq ?_
    refine .mv ?_
    apply wpSq_end
    refine hK4 _ _ ?_
    refine wp_ret ?_
    try dsimp only [Exit.then, Exit.inBlock]
    refine bodyPost_ret (v := (.tuple #[(.slice none 0 0), (.int .i64 4)])) (by simp [results, Tryz.results26, go_sem]) rfl ?_
    exact ⟨rfl, hs.b⟩
end
end Go.Proofs.YtjfjlloibmebeaaGreat


/- The law's g, Simple, told, list, awake (gmat). -/
namespace Go.Proofs.YtjfjlloibmebeaaGreat
open Go Go.RowKit Dig
set_option linter.unusedVariables false
theorem zlen_small8 {z : Int} (h : z.natAbs < 4294967296) : (dig z.natAbs).length ≤ 1 := dig_length_le (by rw [show pw 1 = 4294967296 from rfl]; exact h)
theorem sc2 {w : World} {p : Nat} {ty : TypeId} {fz : Nat × Nat} {n1 n2 n3 n4 : Bool} {o1 o2 o3 o4 : Option Addr} {k1 c1 k2 c2 k3 c3 k4 c4 : Nat} {x y z u : Int}
    (hx : Bs w p #[.bool n1, .slice o1 k1 c1, .bool n2, .slice o2 k2 c2, .bool n3, .slice o3 k3 c3, .bool n4, .slice o4 k4 c4] ty fz)
    (h1 : ZC w (.agg #[.bool n1, .slice o1 k1 c1]) x) (h2 : ZC w (.agg #[.bool n2, .slice o2 k2 c2]) y) (h3 : ZC w (.agg #[.bool n3, .slice o3 k3 c3]) z) (h4 : ZC w (.agg #[.bool n4, .slice o4 k4 c4]) u) : SC w (some ⟨p, 0, none⟩) [(x, y), (z, u)] :=
  .inr ⟨p, 0, _, ty, fz, rfl, hx, fun i hi => match i, hi with
    | 0, _ => ⟨n1, o1, k1, c1, n2, o2, k2, c2, rfl, rfl, rfl, rfl, h1, h2⟩
    | 1, _ => ⟨n3, o3, k3, c3, n4, o4, k4, c4, rfl, rfl, rfl, rfl, h3, h4⟩⟩
theorem mc2 {w : World} {p : Nat} {ty : TypeId} {fz : Nat × Nat} {o1 o2 : Option Addr} {c1 c2 : Nat} {r1 r2 : List (Int × Int)}
    (hx : Bs w p #[.slice o1 r1.length c1, .slice o2 r2.length c2] ty fz) (h1 : SC w o1 r1) (h2 : SC w o2 r2) : MC w (some ⟨p, 0, none⟩) [r1, r2] :=
  .inr ⟨p, 0, _, ty, fz, rfl, hx, fun i hi => match i, hi with
    | 0, _ => ⟨o1, c1, rfl, h1⟩
    | 1, _ => ⟨o2, c2, rfl, h2⟩⟩
theorem MC.bl {w w' : World} {o : Option Addr} {Ms : List (List (Int × Int))} (h : MC w o Ms) (hb : Below w.heap.size w w') : MC w' o Ms := MV.bl stab_c h hb
theorem gd_simple : gd [[(1, 0), (2, 0)], [(0, 1), (0, 0)]] := ⟨by decide, by decide, by decide⟩
theorem bd_small {Ms : List (List (Int × Int))} (h : ∀ r ∈ Ms, ∀ p ∈ r, p.1.natAbs < 4294967296 ∧ p.2.natAbs < 4294967296) : BdM 1 Ms := fun r hr p hp => ⟨zlen_small8 (h r hr p hp).1, zlen_small8 (h r hr p hp).2⟩
section
variable {w : World} {l n k c1 c2 : Nat} {o1 o2 : Option Addr} {Ms : List (List (Int × Int))} {ps : List (Int × Int)}
end
end Go.Proofs.YtjfjlloibmebeaaGreat


/- gmat: Length. -/
namespace Go.Proofs.YtjfjlloibmebeaaGreat
open Go Go.RowKit Dig
set_option linter.unusedVariables false
section
variable {w : World} {l n c : Nat} {ov : Option Addr} {V : List (Int × Int)}
end
end Go.Proofs.YtjfjlloibmebeaaGreat


/- Matrices' mathematics: brackets, Adj of products, Gram, lengths. -/
namespace Go.Proofs.YtjfjlloibmebeaaGreat
open Go Go.RowKit Dig
set_option linter.unusedVariables false
section
variable {a b c d : Int × Int} {f g : Nat → Int × Int} {k n r i j : Nat} {F G : Nat → Nat → Int × Int} {A B C : List (List (Int × Int))}
theorem len_mkM : (mkM r k F).length = r := by simp [mkM]
theorem wd_mkM (h : 0 < r ∨ k = 0) : wd (mkM r k F) = k := by
  unfold wd mkM
  cases r with
  | zero => have : k = 0 := by omega
            subst this; rfl
  | succ r => rw [List.range_succ_eq_map]; simp
theorem at2_mkM (hi : i < r) (hj : j < k) : at2 (mkM r k F) i j = F i j := by simp [at2, rw_, at1, mkM, List.getD, hi, hj]
theorem gd_mkM (hr : r ≤ 64) (hk : k ≤ 64) : gd (mkM r k F) := by
  refine ⟨by rw [len_mkM]; exact hr, ?_, ?_⟩
  · rcases Nat.eq_zero_or_pos r with h | h
    · subst h; exact Nat.zero_le _
    · rw [wd_mkM (.inl h)]; exact hk
  · intro q hq
    have h : 0 < r := by
      rcases Nat.eq_zero_or_pos r with h | h
      · subst h; cases hq
      · exact h
    rw [wd_mkM (.inl h)]
    obtain ⟨i, hi, rfl⟩ := List.mem_map.1 hq
    simp
theorem mkM_eq {r' k' : Nat} (hr : r = r') (hk : k = k') (h : ∀ i, i < r → ∀ j, j < k → F i j = G i j) : mkM r k F = mkM r' k' G := by
  subst hr hk
  exact List.map_congr_left fun i hi => List.map_congr_left fun j hj => h i (List.mem_range.1 hi) j (List.mem_range.1 hj)
theorem len_mulM : (mulM A B).length = A.length := len_mkM
theorem ml2_wd (h : ml2 A B) : wd (mulM A B) = wd B := wd_mkM (by
  rcases Nat.eq_zero_or_pos A.length with h0 | h0
  · right
    have h1 := h.2.2
    rw [wd_nil h0] at h1
    exact wd_nil h1.symm
  · exact .inl h0)
theorem gd_mulM (h : ml2 A B) : gd (mulM A B) := gd_mkM h.1.1 h.2.1.2.1
theorem at2_mulM (hi : i < A.length) (hj : j < wd B) : at2 (mulM A B) i j = sumP B.length fun q => mP (at2 A i q) (at2 B q j) := at2_mkM hi hj
theorem bd_mkM {l : Nat} (h : ∀ i, i < r → ∀ j, j < k → zl l (F i j)) : BdM l (mkM r k F) := fun q hq p hp => by
  obtain ⟨i, hi, rfl⟩ := List.mem_map.1 hq
  obtain ⟨j, hj, rfl⟩ := List.mem_map.1 hp
  exact h i (List.mem_range.1 hi) j (List.mem_range.1 hj)
theorem at2_bd {l : Nat} (h : BdM l A) : zl l (at2 A i j) := by
  unfold at2 rw_
  rcases Nat.lt_or_ge i A.length with hi | hi
  · rw [List.getD, List.getElem?_eq_getElem hi]
    exact Bd.at1 (h _ (List.getElem_mem hi))
  · rw [List.getD, List.getElem?_eq_none hi]
    exact zl_0 _
theorem bd_mulM {l m : Nat} (ha : BdM l A) (hb : BdM m B) : BdM (l + m + 1 + B.length) (mulM A B) := bd_mkM fun i _ j _ => zl_sum fun q _ => zl_mP (at2_bd ha) (at2_bd hb)
theorem bdM_up {l m : Nat} (h : BdM l A) (hl : l ≤ m) : BdM m A := fun r hr p hp => zl_up (h r hr p hp) hl
end
end Go.Proofs.YtjfjlloibmebeaaGreat

