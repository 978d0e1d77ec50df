/- gint.Xgcd. -/
import Derived.Test.YtlomgfgedkkhkaaGreatDoorG4ToG15
namespace Go.Proofs.YtlomgfgedkkhkaaGreatDoor
open Go Go.RowKit Dig
set_option linter.unusedVariables false
/-- A block that holds six. -/
def BN (L : Nat) (w : World) (p : Nat) (ty : TypeId) (z1 z2 z3 z4 z5 z6 : Int) : Prop :=
  ∃ n1 o1 k1 c1 n2 o2 k2 c2 n3 o3 k3 c3 n4 o4 k4 c4 n5 o5 k5 c5 n6 o6 k6 c6, Bs w p #[.bool n1, .slice o1 k1 c1, .bool n2, .slice o2 k2 c2, .bool n3, .slice o3 k3 c3, .bool n4, .slice o4 k4 c4, .bool n5, .slice o5 k5 c5, .bool n6, .slice o6 k6 c6] ty ∧ ZN w (.agg #[.bool n1, .slice o1 k1 c1]) z1 L ∧ ZN w (.agg #[.bool n2, .slice o2 k2 c2]) z2 L ∧ ZN w (.agg #[.bool n3, .slice o3 k3 c3]) z3 L ∧ ZN w (.agg #[.bool n4, .slice o4 k4 c4]) z4 L ∧ ZN w (.agg #[.bool n5, .slice o5 k5 c5]) z5 L ∧ ZN w (.agg #[.bool n6, .slice o6 k6 c6]) z6 L
theorem GS.step_s1 (t : GS) : t.r1 - (gQ1 t.r1 t.r2 t.s1 t.s2 * t.s1 - gQ2 t.r1 t.r2 t.s1 t.s2 * t.s2) = t.step.s1 := rfl
theorem GS.step_s2 (t : GS) : t.r2 - (gQ1 t.r1 t.r2 t.s1 t.s2 * t.s2 + gQ2 t.r1 t.r2 t.s1 t.s2 * t.s1) = t.step.s2 := rfl
theorem GS.step_u1 (t : GS) : t.x1 - (gQ1 t.r1 t.r2 t.s1 t.s2 * t.u1 - gQ2 t.r1 t.r2 t.s1 t.s2 * t.u2) = t.step.u1 := rfl
theorem GS.step_u2 (t : GS) : t.x2 - (gQ1 t.r1 t.r2 t.s1 t.s2 * t.u2 + gQ2 t.r1 t.r2 t.s1 t.s2 * t.u1) = t.step.u2 := rfl
theorem GS.step_v1 (t : GS) : t.y1 - (gQ1 t.r1 t.r2 t.s1 t.s2 * t.v1 - gQ2 t.r1 t.r2 t.s1 t.s2 * t.v2) = t.step.v1 := rfl
theorem GS.step_v2 (t : GS) : t.y2 - (gQ1 t.r1 t.r2 t.s1 t.s2 * t.v2 + gQ2 t.r1 t.r2 t.s1 t.s2 * t.v1) = t.step.v2 := rfl
/-- The next sum's cells, put together by their proofs. -/
theorem BN.mk' {L : Nat} {w : World} {p : Nat} {ty : TypeId} {n1 n2 n3 n4 n5 n6 : Bool} {o1 o2 o3 o4 o5 o6 : Option Addr} {k1 c1 k2 c2 k3 c3 k4 c4 k5 c5 k6 c6 : Nat} {z1 z2 z3 z4 z5 z6 : Int} (hb : Bs w p #[.bool n1, .slice o1 k1 c1, .bool n2, .slice o2 k2 c2, .bool n3, .slice o3 k3 c3, .bool n4, .slice o4 k4 c4, .bool n5, .slice o5 k5 c5, .bool n6, .slice o6 k6 c6] ty) (h1 : ZN w (.agg #[.bool n1, .slice o1 k1 c1]) z1 L) (h2 : ZN w (.agg #[.bool n2, .slice o2 k2 c2]) z2 L) (h3 : ZN w (.agg #[.bool n3, .slice o3 k3 c3]) z3 L) (h4 : ZN w (.agg #[.bool n4, .slice o4 k4 c4]) z4 L) (h5 : ZN w (.agg #[.bool n5, .slice o5 k5 c5]) z5 L) (h6 : ZN w (.agg #[.bool n6, .slice o6 k6 c6]) z6 L) : BN L w p ty z1 z2 z3 z4 z5 z6 :=
  ⟨_, _, _, _, _, _, _, _, _, _, _, _, _, _, _, _, _, _, _, _, _, _, _, _, hb, h1, h2, h3, h4, h5, h6⟩
section
variable {w : World} {va vb : Value} {x y u v : Int} {l m k n : Nat}
set_option maxHeartbeats 8000000 in
set_option maxRecDepth 20000 in
theorem gxgcd_any {L : Nat} (ha : PN w va x L y L) (hq : PN w vb u L v L) (hL : L + 1 ≤ 2200000) :
    Calls Tryz.prog 16 #[va, vb] w fun e w' => ∃ v1 v2 v3, e = .returned (.tuple #[v1, v2, v3]) ∧ PC w' v1 (turn (kq (GS.start x y u v).fin.r1 (GS.start x y u v).fin.r2) ((GS.start x y u v).fin.r1, (GS.start x y u v).fin.r2)).1 (turn (kq (GS.start x y u v).fin.r1 (GS.start x y u v).fin.r2) ((GS.start x y u v).fin.r1, (GS.start x y u v).fin.r2)).2 ∧
      PC w' v2 (turn (kq (GS.start x y u v).fin.r1 (GS.start x y u v).fin.r2) ((GS.start x y u v).fin.x1, (GS.start x y u v).fin.x2)).1 (turn (kq (GS.start x y u v).fin.r1 (GS.start x y u v).fin.r2) ((GS.start x y u v).fin.x1, (GS.start x y u v).fin.x2)).2 ∧
      PC w' v3 (turn (kq (GS.start x y u v).fin.r1 (GS.start x y u v).fin.r2) ((GS.start x y u v).fin.y1, (GS.start x y u v).fin.y2)).1 (turn (kq (GS.start x y u v).fin.r1 (GS.start x y u v).fin.r2) ((GS.start x y u v).fin.y1, (GS.start x y u v).fin.y2)).2 ∧ Below w.heap.size w w' := by
  have LL := hide (And.intro (And.intro ha.len1 ha.len2) (And.intro hq.len1 hq.len2))
  have hst : GI x y u v (GS.start x y u v) := GI.start x y u v
  have HST := hide hst
  have L1 := hide (show (dig (Int.natAbs 1)).length ≤ L + 1 by rw [show (dig (Int.natAbs 1)).length = 1 by decide]; omega)
  have L0 := hide (show (dig (Int.natAbs 0)).length ≤ L + 1 by rw [show (dig (Int.natAbs 0)).length = 0 by decide]; omega)
  obtain ⟨F, hF⟩ : ∃ F, (GS.start x y u v).fin = F := ⟨_, rfl⟩
  rw [hF]
  have HF := hide hF
  have HM := hide (kq_mod F.r1 F.r2)
  obtain ⟨N, hN⟩ : ∃ N, (gN u v).toNat = N := ⟨_, rfl⟩
  have HN := hide hN
  clear hst hF hN
  obtain ⟨n_0a, o_0a, k_0a, c_0a, n_0b, o_0b, k_0b, c_0b, rfl, ha1, ha2⟩ := ha
  obtain ⟨n_1a, o_1a, k_1a, c_1a, n_1b, o_1b, k_1b, c_1b, rfl, hq1, hq2⟩ := hq
  go_enter Tryz.func16, Tryz.ntmps16
  have hs := St.nil w
  refine wp_seq_k ?_
  intro K1 hK1
  refine rg [0, 1, 2, 3, 4] ?_
  refine sq ?_
  refine .al hs ?_; clear hs; intro p_b1 w_1 hs n1 kb_b1
  refine sq ?_
  refine .al hs ?_; clear hs; intro p_b2 w_2 hs n2 kb_b2
  refine sq ?_
  refine .al hs ?_; clear hs; intro p_b3 w_3 hs n3 kb_b3
  refine sq ?_
  refine .al hs ?_; clear hs; intro p_b4 w_4 hs n4 kb_b4
  refine sq ?_
  refine .al hs ?_; clear hs; intro p_b5 w_5 hs n5 kb_b5
  apply wpSq_end
  refine hK1 _ _ ?_
  refine wp_seq_k ?_
  intro K2 hK2
  refine wp_region_f4 [(0, false), (2, false), (4, false), (5, false), (1, true), (3, false), (6, true), (7, false)] [10, 11] [8, 9] (fun j => if j = 8 then (.cells #[.bool false, .slice none 0 0, .bool false, .slice none 0 0, .bool false, .slice none 0 0, .bool false, .slice none 0 0, .bool false, .slice none 0 0, .bool false, .slice none 0 0] 68) else (.cells #[.bool false, .slice none 0 0, .bool false, .slice none 0 0, .bool false, .slice none 0 0, .bool false, .slice none 0 0, .bool false, .slice none 0 0, .bool false, .slice none 0 0] 68)) [0, 99, 99, 99, 1, 99, 99, 99, 99, 99, 99, 99] [] (.c hs.g4 (.c hs.g3 .n)) (fm (fm fn)) fun w_6 n6 => ?_
  replace hs := hs.bl n6
  have hlB := hs.lt; have hkB := hs.k
  refine f4 ?_
  refine f0 ?_
  refine f4 ?_
  refine f0 ?_
  refine fl fun w_7 n7 => ?_
  replace hs := hs.bl n7
  intro K hK
  go_big_op
  go_fit (gFrom_any 1 0 _ (by decide) (by decide) (by decide) (by decide))
  rintro e w_8 ⟨_, rfl, ⟨n_ca, o_ca, k_ca, c_ca, n_cb, o_cb, k_cb, c_cb, rfl, c1, c2⟩, hb_8⟩
  replace hs := hs.bl hb_8
  have Lc1 := hide (c1.lenOf (L1.out))
  have Lc2 := hide (c2.lenOf (L0.out))
  refine hK _ _ rfl ⟨hb_8, (And.intro hs.g4 (And.intro hs.g3 trivial))⟩ ?_
  clear hK K
  refine f0 ?_
  refine fl fun w_9 n9 => ?_
  replace hs := hs.bl n9
  intro K hK
  go_big_op
  go_fit (gFrom_any 1 0 _ (by decide) (by decide) (by decide) (by decide))
  rintro e w_10 ⟨_, rfl, ⟨n_da, o_da, k_da, c_da, n_db, o_db, k_db, c_db, rfl, d1, d2⟩, hb_10⟩
  replace hs := hs.bl hb_10
  have Ld1 := hide (d1.lenOf (L1.out))
  have Ld2 := hide (d2.lenOf (L0.out))
  refine hK _ _ rfl ⟨hb_10, (And.intro hs.g4 (And.intro hs.g3 trivial))⟩ ?_
  clear hK K
  refine f0 ?_
  refine e2 hs hlB hkB ?_; clear hs hlB hkB; intro w_11 p_b6 p_b7 hs n11 kb_b6 kb_b7
  refine tl ?_
  intro K hK
  have xs := hs.g0
  have d0 : w_11.cell? ⟨p_b6, 0, none⟩ = some (.bool false) := hs.g0.cell 0 rfl
  have d1 : w_11.cell? ⟨p_b6, 1, none⟩ = some (.slice none 0 0) := hs.g0.cell 1 rfl
  have d2 : w_11.cell? ⟨p_b6, 2, none⟩ = some (.bool false) := hs.g0.cell 2 rfl
  have d3 : w_11.cell? ⟨p_b6, 3, none⟩ = some (.slice none 0 0) := hs.g0.cell 3 rfl
  have d4 : w_11.cell? ⟨p_b6, 4, none⟩ = some (.bool false) := hs.g0.cell 4 rfl
  have d5 : w_11.cell? ⟨p_b6, 5, none⟩ = some (.slice none 0 0) := hs.g0.cell 5 rfl
  have d6 : w_11.cell? ⟨p_b6, 6, none⟩ = some (.bool false) := hs.g0.cell 6 rfl
  have d7 : w_11.cell? ⟨p_b6, 7, none⟩ = some (.slice none 0 0) := hs.g0.cell 7 rfl
  have d8 : w_11.cell? ⟨p_b6, 8, none⟩ = some (.bool false) := hs.g0.cell 8 rfl
  have d9 : w_11.cell? ⟨p_b6, 9, none⟩ = some (.slice none 0 0) := hs.g0.cell 9 rfl
  have d10 : w_11.cell? ⟨p_b6, 10, none⟩ = some (.bool false) := hs.g0.cell 10 rfl
  have d11 : w_11.cell? ⟨p_b6, 11, none⟩ = some (.slice none 0 0) := hs.g0.cell 11 rfl
  have f0 := xs.free 0; have f1 := xs.free 1; have f2 := xs.free 2; have f3 := xs.free 3; have f4 := xs.free 4; have f5 := xs.free 5; have f6 := xs.free 6; have f7 := xs.free 7; have f8 := xs.free 8; have f9 := xs.free 9; have f10 := xs.free 10; have f11 := xs.free 11
  go_big_op
  have hd12 := xs.nod rfl rfl
  obtain ⟨w_12_0, eW, xs_0, ho_0⟩ : ∃ w', ((((w_11.setCell ⟨p_b6, 0, none⟩ (.bool n_0a)).setCell ⟨p_b6, 1, none⟩ (.slice o_0a k_0a c_0a)).setCell ⟨p_b6, 2, none⟩ (.bool n_0b)).setCell ⟨p_b6, 3, none⟩ (.slice o_0b k_0b c_0b)) = w' ∧ Bs w' p_b6 #[.bool n_0a, .slice o_0a k_0a c_0a, .bool n_0b, .slice o_0b k_0b c_0b, .bool false, .slice none 0 0, .bool false, .slice none 0 0, .bool false, .slice none 0 0, .bool false, .slice none 0 0] 68 ∧ Only p_b6 w_11 w' := xs.setN [(0, .bool n_0a), (1, .slice o_0a k_0a c_0a), (2, .bool n_0b), (3, .slice o_0b k_0b c_0b)]
  rw [eW]; clear eW
  obtain ⟨w_12_4, eW, xs_4, ho_4⟩ : ∃ w', ((((w_12_0.setCell ⟨p_b6, 4, none⟩ (.bool n_ca)).setCell ⟨p_b6, 5, none⟩ (.slice o_ca k_ca c_ca)).setCell ⟨p_b6, 6, none⟩ (.bool n_cb)).setCell ⟨p_b6, 7, none⟩ (.slice o_cb k_cb c_cb)) = w' ∧ Bs w' p_b6 #[.bool n_0a, .slice o_0a k_0a c_0a, .bool n_0b, .slice o_0b k_0b c_0b, .bool n_ca, .slice o_ca k_ca c_ca, .bool n_cb, .slice o_cb k_cb c_cb, .bool false, .slice none 0 0, .bool false, .slice none 0 0] 68 ∧ Only p_b6 w_12_0 w' := xs_0.setN [(4, .bool n_ca), (5, .slice o_ca k_ca c_ca), (6, .bool n_cb), (7, .slice o_cb k_cb c_cb)]
  rw [eW]; clear eW xs_0
  obtain ⟨w_12, eW, xs', ho_8⟩ : ∃ w', ((((w_12_4.setCell ⟨p_b6, 8, none⟩ (.bool false)).setCell ⟨p_b6, 9, none⟩ (.slice none 0 0)).setCell ⟨p_b6, 10, none⟩ (.bool false)).setCell ⟨p_b6, 11, none⟩ (.slice none 0 0)) = w' ∧ Bs w' p_b6 #[.bool n_0a, .slice o_0a k_0a c_0a, .bool n_0b, .slice o_0b k_0b c_0b, .bool n_ca, .slice o_ca k_ca c_ca, .bool n_cb, .slice o_cb k_cb c_cb, .bool false, .slice none 0 0, .bool false, .slice none 0 0] 68 ∧ Only p_b6 w_12_4 w' := xs_4.setN [(8, .bool false), (9, .slice none 0 0), (10, .bool false), (11, .slice none 0 0)]
  rw [eW]; clear eW xs_4
  have ho12 := ((ho_0.trans ho_4).trans ho_8)
  clear ho_0 ho_4 ho_8 d0 d1 d2 d3 d4 d5 d6 d7 d8 d9 d10 d11 f0 f1 f2 f3 f4 f5 f6 f7 f8 f9 f10 f11 xs
  replace hs := hs.u0 kb_b6 xs' ho12; clear xs'
  refine hK _ _ rfl (And.intro hs.g6 (And.intro hs.g5 True.intro)) ?_; clear hK K
  refine tl ?_
  intro K hK
  have xs := hs.g1
  have d0 : w_12.cell? ⟨p_b7, 0, none⟩ = some (.bool false) := hs.g1.cell 0 rfl
  have d1 : w_12.cell? ⟨p_b7, 1, none⟩ = some (.slice none 0 0) := hs.g1.cell 1 rfl
  have d2 : w_12.cell? ⟨p_b7, 2, none⟩ = some (.bool false) := hs.g1.cell 2 rfl
  have d3 : w_12.cell? ⟨p_b7, 3, none⟩ = some (.slice none 0 0) := hs.g1.cell 3 rfl
  have d4 : w_12.cell? ⟨p_b7, 4, none⟩ = some (.bool false) := hs.g1.cell 4 rfl
  have d5 : w_12.cell? ⟨p_b7, 5, none⟩ = some (.slice none 0 0) := hs.g1.cell 5 rfl
  have d6 : w_12.cell? ⟨p_b7, 6, none⟩ = some (.bool false) := hs.g1.cell 6 rfl
  have d7 : w_12.cell? ⟨p_b7, 7, none⟩ = some (.slice none 0 0) := hs.g1.cell 7 rfl
  have d8 : w_12.cell? ⟨p_b7, 8, none⟩ = some (.bool false) := hs.g1.cell 8 rfl
  have d9 : w_12.cell? ⟨p_b7, 9, none⟩ = some (.slice none 0 0) := hs.g1.cell 9 rfl
  have d10 : w_12.cell? ⟨p_b7, 10, none⟩ = some (.bool false) := hs.g1.cell 10 rfl
  have d11 : w_12.cell? ⟨p_b7, 11, none⟩ = some (.slice none 0 0) := hs.g1.cell 11 rfl
  have f0 := xs.free 0; have f1 := xs.free 1; have f2 := xs.free 2; have f3 := xs.free 3; have f4 := xs.free 4; have f5 := xs.free 5; have f6 := xs.free 6; have f7 := xs.free 7; have f8 := xs.free 8; have f9 := xs.free 9; have f10 := xs.free 10; have f11 := xs.free 11
  go_big_op
  have hd13 := xs.nod rfl rfl
  obtain ⟨w_13_0, eW, xs_0, ho_0⟩ : ∃ w', ((((w_12.setCell ⟨p_b7, 0, none⟩ (.bool n_1a)).setCell ⟨p_b7, 1, none⟩ (.slice o_1a k_1a c_1a)).setCell ⟨p_b7, 2, none⟩ (.bool n_1b)).setCell ⟨p_b7, 3, none⟩ (.slice o_1b k_1b c_1b)) = w' ∧ Bs w' p_b7 #[.bool n_1a, .slice o_1a k_1a c_1a, .bool n_1b, .slice o_1b k_1b c_1b, .bool false, .slice none 0 0, .bool false, .slice none 0 0, .bool false, .slice none 0 0, .bool false, .slice none 0 0] 68 ∧ Only p_b7 w_12 w' := xs.setN [(0, .bool n_1a), (1, .slice o_1a k_1a c_1a), (2, .bool n_1b), (3, .slice o_1b k_1b c_1b)]
  rw [eW]; clear eW
  obtain ⟨w_13_4, eW, xs_4, ho_4⟩ : ∃ w', ((((w_13_0.setCell ⟨p_b7, 4, none⟩ (.bool false)).setCell ⟨p_b7, 5, none⟩ (.slice none 0 0)).setCell ⟨p_b7, 6, none⟩ (.bool false)).setCell ⟨p_b7, 7, none⟩ (.slice none 0 0)) = w' ∧ Bs w' p_b7 #[.bool n_1a, .slice o_1a k_1a c_1a, .bool n_1b, .slice o_1b k_1b c_1b, .bool false, .slice none 0 0, .bool false, .slice none 0 0, .bool false, .slice none 0 0, .bool false, .slice none 0 0] 68 ∧ Only p_b7 w_13_0 w' := xs_0.setN [(4, .bool false), (5, .slice none 0 0), (6, .bool false), (7, .slice none 0 0)]
  rw [eW]; clear eW xs_0
  obtain ⟨w_13, eW, xs', ho_8⟩ : ∃ w', ((((w_13_4.setCell ⟨p_b7, 8, none⟩ (.bool n_da)).setCell ⟨p_b7, 9, none⟩ (.slice o_da k_da c_da)).setCell ⟨p_b7, 10, none⟩ (.bool n_db)).setCell ⟨p_b7, 11, none⟩ (.slice o_db k_db c_db)) = w' ∧ Bs w' p_b7 #[.bool n_1a, .slice o_1a k_1a c_1a, .bool n_1b, .slice o_1b k_1b c_1b, .bool false, .slice none 0 0, .bool false, .slice none 0 0, .bool n_da, .slice o_da k_da c_da, .bool n_db, .slice o_db k_db c_db] 68 ∧ Only p_b7 w_13_4 w' := xs_4.setN [(8, .bool n_da), (9, .slice o_da k_da c_da), (10, .bool n_db), (11, .slice o_db k_db c_db)]
  rw [eW]; clear eW xs_4
  have ho13 := ((ho_0.trans ho_4).trans ho_8)
  clear ho_0 ho_4 ho_8 d0 d1 d2 d3 d4 d5 d6 d7 d8 d9 d10 d11 f0 f1 f2 f3 f4 f5 f6 f7 f8 f9 f10 f11 xs
  replace hs := hs.u1 kb_b7 xs' ho13; clear xs'
  refine hK _ _ rfl (And.intro hs.g6 (And.intro hs.g5 True.intro)) ?_; clear hK K
  apply wpTail_end
  refine hK2 _ _ ?_
  refine wp_seq_k ?_
  intro K3 hK3
  refine wp_block ?_
  have x_b6 := hs.g0
  have k0_13 := ((((((((((((kb n1).b n2).b n3).b n4).b n5).b n6).b n7).b hb_8).b n9).b hb_10).b n11).o hd12 ho12).o hd13 ho13
  replace ha1 := ha1.k k0_13
  replace ha2 := ha2.k k0_13
  have k8_13 := ((((kb n9).b hb_10).b n11).o hd12 ho12).o hd13 ho13
  replace c1 := c1.k k8_13
  replace c2 := c2.k k8_13
  have x_b7 := hs.g1
  replace hq1 := hq1.k k0_13
  replace hq2 := hq2.k k0_13
  have k10_13 := ((kb n11).o hd12 ho12).o hd13 ho13
  replace d1 := d1.k k10_13
  replace d2 := d2.k k10_13
  have x_b3 := hs.g4
  have x_b4 := hs.g3
  have x_b5 := hs.g2
  have hb := hs.b
  have hd14 := hs.2.1
  go_loopg [] N (fun k wr => ∃ t : GS, Hid (GI x y u v t ∧ t.fin = F ∧ (gN t.s1 t.s2).toNat ≤ k) ∧ BN (L + 1) wr p_b6 68 t.r1 t.r2 t.x1 t.x2 t.y1 t.y2 ∧ BN (L + 1) wr p_b7 68 t.s1 t.s2 t.u1 t.u2 t.v1 t.v2 ∧ Bs wr p_b3 #[.bool false, .slice none 0 0, .bool false, .slice none 0 0] 29 ∧ Bs wr p_b4 #[.bool false, .slice none 0 0, .bool false, .slice none 0 0] 29 ∧ Bs wr p_b5 #[.bool false, .slice none 0 0, .bool false, .slice none 0 0] 29 ∧ Below w.heap.size w wr)
  case atStart =>
    exact ⟨GS.start x y u v, hide ⟨HST.out, HF.out, by rw [← HN.out]; exact Nat.le_refl _⟩,
      ⟨_, _, _, _, _, _, _, _, _, _, _, _, _, _, _, _, _, _, _, _, _, _, _, _, x_b6, ha1.mono (Nat.le_succ _), ha2.mono (Nat.le_succ _), c1.zn L1.out, c2.zn L0.out, (zc_zero w_13).zn L0.out, (zc_zero w_13).zn L0.out⟩,
      ⟨_, _, _, _, _, _, _, _, _, _, _, _, _, _, _, _, _, _, _, _, _, _, _, _, x_b7, hq1.mono (Nat.le_succ _), hq2.mono (Nat.le_succ _), (zc_zero w_13).zn L0.out, (zc_zero w_13).zn L0.out, d1.zn L1.out, d2.zn L0.out⟩, x_b3, x_b4, x_b5, hb⟩
  case round =>
  clear ha1 ha2 hq1 hq2 c1 c2 d1 d2 x_b6 x_b7 x_b3 x_b4 x_b5 hb hs
  obtain ⟨t, HT, ⟨an1, ao1, ak1, ac1, an2, ao2, ak2, ac2, an3, ao3, ak3, ac3, an4, ao4, ak4, ac4, an5, ao5, ak5, ac5, an6, ao6, ak6, ac6, x_b6, a1, a2, a3, a4, a5, a6⟩, ⟨bn1, bo1, bk1, bc1, bn2, bo2, bk2, bc2, bn3, bo3, bk3, bc3, bn4, bo4, bk4, bc4, bn5, bo5, bk5, bc5, bn6, bo6, bk6, bc6, x_b7, b1, b2, b3, b4, b5, b6⟩, x_b3, x_b4, x_b5, hb⟩ := hrel
  by_cases h0 : gN t.s1 t.s2 = 0
  · have hs := gN_zero.1 h0
    have hft : t = F := by rw [← HT.out.2.1]; exact (fin_done h0).symm
    have HK := hide (show kq t.r1 t.r2 = kq F.r1 F.r2 by rw [hft])
    have HFT := hide hft
    rw [hs.1] at b1
    rw [hs.2] at b2
    clear h0 hs hft
    have hs := St.re (.c x_b6 (.c x_b7 (.c x_b5 (.c x_b4 (.c x_b3 .n))))) hd14 (.cons_cons _ (.cons_cons _ (.cons_cons _ (.cons_cons _ (.cons_cons _ (.cons _ (.cons _ .slnil))))))) hb
    refine wp_seq_k ?_
    intro K4 hK4
    refine wp_seq_k ?_
    intro K5 hK5
    refine rg [0, 1, 2, 3] ?_
    refine sq ?_
    refine .r0 ?_
    refine sq ?_
    refine .r4 ⟨hs.g1.cell 0 rfl, hs.g1.cell 1 rfl, hs.g1.cell 2 rfl, hs.g1.cell 3 rfl⟩ ?_
    refine sq ?_
    intro K hK
    go_big_op
    go_fit (isZero_yes (PN.mk' b1 b2) (by omega) (by omega))
    rintro e w_15 ⟨rfl, hb_15⟩
    clear hb x_b6 x_b7 x_b3 x_b4 x_b5
    replace hs := hs.bl hb_15
    refine hK _ _ rfl trivial ?_
    clear hK K
    refine sq ?_
    refine .r0 ?_
    apply wpSq_end
    refine hK5 _ _ ?_
    refine cf ?_
    refine wp_exit ?_
    refine hK3 _ _ ?_
    refine wp_seq_k ?_
    intro K6 hK6
    refine rg [0, 1, 2, 3, 4, 5, 6, 7] ?_
    refine sq ?_
    refine .r0 ?_
    refine sq ?_
    refine .r4 ⟨hs.g0.cell 0 rfl, hs.g0.cell 1 rfl, hs.g0.cell 2 rfl, hs.g0.cell 3 rfl⟩ ?_
    refine sq ?_
    intro K hK
    have k0_1 := kb hb_15
    replace a1 := a1.k k0_1
    replace a2 := a2.k k0_1
    go_big_op
    go_fit (gCanon_any (PN.mk' a1 a2) (by omega) (by omega))
    rintro e w_16 ⟨_, rfl, ⟨n_ea, o_ea, k_ea, c_ea, n_eb, o_eb, k_eb, c_eb, rfl, e1, e2⟩, hb_16⟩
    replace hs := hs.bl hb_16
    refine hK _ _ rfl trivial ?_
    clear hK K
    refine sq ?_
    refine .mv ?_
    refine sq ?_
    refine .r0 ?_
    refine sq ?_
    refine .r0 ?_
    refine sq ?_
    refine .s4 hs.g4 (fun _ => hs.u4 kb_b3) ?_; clear hs; intro w_17 hs hd17 ho17
    refine sq ?_
    refine .mv ?_
    apply wpSq_end
    refine hK6 _ _ ?_
    refine wp_seq_k ?_
    intro K7 hK7
    refine wp_region_f4 [(0, false), (1, false), (2, false), (3, false), (5, false), (6, false), (7, false), (4, true), (8, true)] [9, 10, 11] [] (fun _ => default) [0, 99, 1, 99, 99, 99, 1, 99, 99, 99, 99, 99] [(9, 0), (10, 0), (11, 0)] (.c hs.g4 (.c hs.g0 .n)) fn fun w_18 n18 => ?_
    replace hs := hs.bl n18
    refine f4 ?_
    refine f0 ?_
    apply wpFl_ld rfl rfl; (case h1 => intro w' hC K hK; have c4 := Bs.cell hC 4 rfl; have c5 := Bs.cell hC 5 rfl; have c6 := Bs.cell hC 6 rfl; have c7 := Bs.cell hC 7 rfl; go_big_op; exact hK); iterate 4 kernel_rfl
    refine fmv ?_
    refine f0 ?_
    apply wpFl_ld rfl rfl; (case h1 => intro w' hC K hK; have c8 := Bs.cell hC 8 rfl; have c9 := Bs.cell hC 9 rfl; have c10 := Bs.cell hC 10 rfl; have c11 := Bs.cell hC 11 rfl; go_big_op; exact hK); iterate 4 kernel_rfl
    refine fmv ?_
    refine fl fun w_19 n19 => ?_
    replace hs := hs.bl n19
    intro K hK
    have k0_5 := (((k0_1.b hb_16).o hd17 ho17).b n18).b n19
    replace a3 := a3.k k0_5
    replace a4 := a4.k k0_5
    go_big_op
    go_fit (gTurn_any ((kq t.r1 t.r2 : Nat) : Int) (PN.mk' a3 a4) (by omega) (by omega))
    rintro e w_20 ⟨_, rfl, ⟨n_fa, o_fa, k_fa, c_fa, n_fb, o_fb, k_fb, c_fb, rfl, f1, f2⟩, hb_20⟩
    replace hs := hs.bl hb_20
    rw [HK.out, HM.out] at f1 f2
    refine hK _ _ rfl ⟨hb_20, (And.intro hs.g4 (And.intro hs.g0 trivial))⟩ ?_
    clear hK K
    refine fl fun w_21 n21 => ?_
    replace hs := hs.bl n21
    intro K hK
    have k0_7 := (k0_5.b hb_20).b n21
    replace a5 := a5.k k0_7
    replace a6 := a6.k k0_7
    go_big_op
    go_fit (gTurn_any ((kq t.r1 t.r2 : Nat) : Int) (PN.mk' a5 a6) (by omega) (by omega))
    rintro e w_22 ⟨_, rfl, ⟨n_ga, o_ga, k_ga, c_ga, n_gb, o_gb, k_gb, c_gb, rfl, g1, g2⟩, hb_22⟩
    replace hs := hs.bl hb_22
    rw [HK.out, HM.out] at g1 g2
    refine hK _ _ rfl ⟨hb_22, (And.intro hs.g4 (And.intro hs.g0 trivial))⟩ ?_
    clear hK K
    refine e0 hs ?_; clear hs; intro w_23 hs n23
    refine tl ?_
    refine .s4 hs.g4 (fun _ => hs.u4 kb_b3) ?_ (e := fun _ hs => (And.intro True.intro (And.intro hs.g0 True.intro))); clear hs; intro w_24 hs hd24 ho24
    refine tl ?_
    refine .s4 hs.g3 (fun _ => hs.u3 kb_b4) ?_ (e := fun _ hs => (And.intro True.intro (And.intro hs.g0 True.intro))); clear hs; intro w_25 hs hd25 ho25
    refine tl ?_
    refine .s4 hs.g2 (fun _ => hs.u2 kb_b5) ?_ (e := fun _ hs => (And.intro True.intro (And.intro hs.g0 True.intro))); clear hs; intro w_26 hs hd26 ho26
    apply wpTail_end
    refine hK7 _ _ ?_
    refine wp_ret ?_
    have k2_12 := (((((((((ko hd17 ho17).b n18).b n19).b hb_20).b n21).b hb_22).b n23).o hd24 ho24).o hd25 ho25).o hd26 ho26
    replace e1 := e1.k k2_12
    replace e2 := e2.k k2_12
    rw [HK.out] at e1 e2
    have k6_12 := (((((kb n21).b hb_22).b n23).o hd24 ho24).o hd25 ho25).o hd26 ho26
    replace f1 := f1.k k6_12
    replace f2 := f2.k k6_12
    have k8_12 := (((kb n23).o hd24 ho24).o hd25 ho25).o hd26 ho26
    replace g1 := g1.k k8_12
    replace g2 := g2.k k8_12
    rw [HFT.out] at e1 e2 f1 f2 g1 g2
    try dsimp only [Exit.then, Exit.inBlock]
    obtain ⟨r0_0, r0_1, r0_2, r0_3⟩ := hs.g4.f4
    obtain ⟨r4_0, r4_1, r4_2, r4_3⟩ := hs.g3.f4
    obtain ⟨r8_0, r8_1, r8_2, r8_3⟩ := hs.g2.f4
    refine bodyPost_ret (v := (.tuple #[(.agg #[.bool n_ea, .slice o_ea k_ea c_ea, .bool n_eb, .slice o_eb k_eb c_eb]), (.agg #[.bool n_fa, .slice o_fa k_fa c_fa, .bool n_fb, .slice o_fb k_fb c_fb]), (.agg #[.bool n_ga, .slice o_ga k_ga c_ga, .bool n_gb, .slice o_gb k_gb c_gb])])) (by simp [results, Tryz.results16, go_sem, r0_0, r0_1, r0_2, r0_3, r4_0, r4_1, r4_2, r4_3, r8_0, r8_1, r8_2, r8_3]) rfl ?_
    exact ⟨_, _, _, rfl, .mk' e1 e2, .mk' f1 f2, .mk' g1 g2, hs.b⟩
  · have H0 := hide h0
    have HI := hide (HT.out.1.step h0)
    have HL := hide (step_less h0)
    have HP := hide (gN_pos h0)
    clear h0
    have hs := St.re (.c x_b6 (.c x_b7 (.c x_b5 (.c x_b4 (.c x_b3 .n))))) hd14 (.cons_cons _ (.cons_cons _ (.cons_cons _ (.cons_cons _ (.cons_cons _ (.cons _ (.cons _ .slnil))))))) hb
    refine wp_seq_k ?_
    intro K4 hK4
    refine wp_seq_k ?_
    intro K5 hK5
    refine rg [0, 1, 2, 3] ?_
    refine sq ?_
    refine .r0 ?_
    refine sq ?_
    refine .r4 ⟨hs.g1.cell 0 rfl, hs.g1.cell 1 rfl, hs.g1.cell 2 rfl, hs.g1.cell 3 rfl⟩ ?_
    refine sq ?_
    intro K hK
    go_big_op
    go_fit (isZero_no (PN.mk' b1 b2) (by omega) (by omega) H0.out)
    rintro e w_15 ⟨rfl, hb_15⟩
    clear hb x_b6 x_b7 x_b3 x_b4 x_b5
    replace hs := hs.bl hb_15
    refine hK _ _ rfl trivial ?_
    clear hK K
    refine sq ?_
    refine .r0 ?_
    apply wpSq_end
    refine hK5 _ _ ?_
    refine ct ?_
    refine wp_skip ?_
    refine hK4 _ _ ?_
    refine wp_block ?_
    refine wp_seq_k ?_
    intro K6 hK6
    refine rg [0, 1, 2, 3, 4, 5, 6] ?_
    refine sq ?_
    refine .r0 ?_
    refine sq ?_
    refine .r4 ⟨hs.g0.cell 0 rfl, hs.g0.cell 1 rfl, hs.g0.cell 2 rfl, hs.g0.cell 3 rfl⟩ ?_
    refine sq ?_
    refine .r0 ?_
    refine sq ?_
    refine .r4 ⟨hs.g1.cell 0 rfl, hs.g1.cell 1 rfl, hs.g1.cell 2 rfl, hs.g1.cell 3 rfl⟩ ?_
    refine sq ?_
    intro K hK
    have k0_1 := kb hb_15
    replace a1 := a1.k k0_1
    replace a2 := a2.k k0_1
    replace b1 := b1.k k0_1
    replace b2 := b2.k k0_1
    go_big_op
    go_fit (quot_any (PN.mk' a1 a2) (PN.mk' b1 b2) (by omega) (by omega) (by omega) (by omega) H0.out)
    rintro e w_16 ⟨_, rfl, ⟨n_qa, o_qa, k_qa, c_qa, n_qb, o_qb, k_qb, c_qb, rfl, q1, q2⟩, hb_16⟩
    replace hs := hs.bl hb_16
    have Lq1 := hide (q1.lenOf (rnd_len H0.out (zlen_gT1 a1.len a2.len b1.len b2.len)))
    have Lq2 := hide (q2.lenOf (rnd_len H0.out (zlen_gT2 a1.len a2.len b1.len b2.len)))
    refine hK _ _ rfl trivial ?_
    clear hK K
    refine sq ?_
    refine .al hs ?_; clear hs; intro p_b8 w_17 hs n17 kb_b8
    refine sq ?_
    refine .s4 hs.g0 (fun _ => hs.u0 kb_b8) ?_; clear hs; intro w_18 hs hd18 ho18
    apply wpSq_end
    refine hK6 _ _ ?_
    refine wp_region_f4 [(0, false), (1, false), (2, false), (3, false), (4, true)] [5, 6] [] (fun _ => default) [0, 1, 2, 0, 99, 99, 99] [(5, 1), (6, 1), (6, 0)] (.c hs.g2 (.c hs.g1 (.c hs.g0 .n))) fn fun w_19 n19 => ?_
    replace hs := hs.bl n19
    apply wpFl_ld rfl rfl; (case h1 => intro w' hC K hK; have c0 := Bs.cell hC 0 rfl; have c1 := Bs.cell hC 1 rfl; have c2 := Bs.cell hC 2 rfl; have c3 := Bs.cell hC 3 rfl; have c4 := Bs.cell hC 4 rfl; have c5 := Bs.cell hC 5 rfl; have c6 := Bs.cell hC 6 rfl; have c7 := Bs.cell hC 7 rfl; have c8 := Bs.cell hC 8 rfl; have c9 := Bs.cell hC 9 rfl; have c10 := Bs.cell hC 10 rfl; have c11 := Bs.cell hC 11 rfl; go_big_op; exact hK); iterate 4 kernel_rfl
    apply wpFl_ld rfl rfl; (case h1 => intro w' hC K hK; have c0 := Bs.cell hC 0 rfl; have c1 := Bs.cell hC 1 rfl; have c2 := Bs.cell hC 2 rfl; have c3 := Bs.cell hC 3 rfl; have c4 := Bs.cell hC 4 rfl; have c5 := Bs.cell hC 5 rfl; have c6 := Bs.cell hC 6 rfl; have c7 := Bs.cell hC 7 rfl; have c8 := Bs.cell hC 8 rfl; have c9 := Bs.cell hC 9 rfl; have c10 := Bs.cell hC 10 rfl; have c11 := Bs.cell hC 11 rfl; go_big_op; exact hK); iterate 4 kernel_rfl
    refine f4 ?_
    apply wpFl_ld rfl rfl; (case h1 => intro w' hC K hK; have c0 := Bs.cell hC 0 rfl; have c1 := Bs.cell hC 1 rfl; have c2 := Bs.cell hC 2 rfl; have c3 := Bs.cell hC 3 rfl; have c4 := Bs.cell hC 4 rfl; have c5 := Bs.cell hC 5 rfl; have c6 := Bs.cell hC 6 rfl; have c7 := Bs.cell hC 7 rfl; have c8 := Bs.cell hC 8 rfl; have c9 := Bs.cell hC 9 rfl; have c10 := Bs.cell hC 10 rfl; have c11 := Bs.cell hC 11 rfl; go_big_op; exact hK); iterate 4 kernel_rfl
    refine fl fun w_20 n20 => ?_
    replace hs := hs.bl n20
    intro K hK
    have k1_6 := ((((kb hb_16).b n17).o hd18 ho18).b n19).b n20
    replace a1 := a1.k k1_6
    replace a2 := a2.k k1_6
    have k0_6 := ((((k0_1.b hb_16).b n17).o hd18 ho18).b n19).b n20
    replace a3 := a3.k k0_6
    replace a4 := a4.k k0_6
    replace a5 := a5.k k0_6
    replace a6 := a6.k k0_6
    replace b1 := b1.k k1_6
    replace b2 := b2.k k1_6
    replace b3 := b3.k k0_6
    replace b4 := b4.k k0_6
    replace b5 := b5.k k0_6
    replace b6 := b6.k k0_6
    have k2_6 := (((kb n17).o hd18 ho18).b n19).b n20
    replace q1 := q1.k k2_6
    replace q2 := q2.k k2_6
    go_big_op
    go_fit (less_any (L := L + 1) (by omega) a1 a2 a3 a4 a5 a6 b1 b2 b3 b4 b5 b6 (.mk' (q1.zn Lq1.out) (q2.zn Lq2.out)) (by omega) (by omega))
    rintro e w_21 ⟨_, rfl, ⟨n_g1, o_g1, k_g1, c_g1, n_g2, o_g2, k_g2, c_g2, n_g3, o_g3, k_g3, c_g3, n_g4, o_g4, k_g4, c_g4, n_g5, o_g5, k_g5, c_g5, n_g6, o_g6, k_g6, c_g6, rfl, g1, g2, g3, g4, g5, g6⟩, hb_21⟩
    replace hs := hs.bl hb_21
    refine hK _ _ rfl ⟨hb_21, (And.intro hs.g2 (And.intro hs.g1 (And.intro hs.g0 trivial)))⟩ ?_
    clear hK K
    refine e0 hs ?_; clear hs; intro w_22 hs n22
    refine tl ?_
    intro K hK
    have xs := hs.g1
    have d0 : w_22.cell? ⟨p_b6, 0, none⟩ = some (.bool an1) := hs.g1.cell 0 rfl
    have d1 : w_22.cell? ⟨p_b6, 1, none⟩ = some (.slice ao1 ak1 ac1) := hs.g1.cell 1 rfl
    have d2 : w_22.cell? ⟨p_b6, 2, none⟩ = some (.bool an2) := hs.g1.cell 2 rfl
    have d3 : w_22.cell? ⟨p_b6, 3, none⟩ = some (.slice ao2 ak2 ac2) := hs.g1.cell 3 rfl
    have d4 : w_22.cell? ⟨p_b6, 4, none⟩ = some (.bool an3) := hs.g1.cell 4 rfl
    have d5 : w_22.cell? ⟨p_b6, 5, none⟩ = some (.slice ao3 ak3 ac3) := hs.g1.cell 5 rfl
    have d6 : w_22.cell? ⟨p_b6, 6, none⟩ = some (.bool an4) := hs.g1.cell 6 rfl
    have d7 : w_22.cell? ⟨p_b6, 7, none⟩ = some (.slice ao4 ak4 ac4) := hs.g1.cell 7 rfl
    have d8 : w_22.cell? ⟨p_b6, 8, none⟩ = some (.bool an5) := hs.g1.cell 8 rfl
    have d9 : w_22.cell? ⟨p_b6, 9, none⟩ = some (.slice ao5 ak5 ac5) := hs.g1.cell 9 rfl
    have d10 : w_22.cell? ⟨p_b6, 10, none⟩ = some (.bool an6) := hs.g1.cell 10 rfl
    have d11 : w_22.cell? ⟨p_b6, 11, none⟩ = some (.slice ao6 ak6 ac6) := hs.g1.cell 11 rfl
    have f0 := xs.free 0; have f1 := xs.free 1; have f2 := xs.free 2; have f3 := xs.free 3; have f4 := xs.free 4; have f5 := xs.free 5; have f6 := xs.free 6; have f7 := xs.free 7; have f8 := xs.free 8; have f9 := xs.free 9; have f10 := xs.free 10; have f11 := xs.free 11
    go_big_op
    have hd23 := xs.nod rfl rfl
    obtain ⟨w_23_0, eW, xs_0, ho_0⟩ : ∃ w', ((((w_22.setCell ⟨p_b6, 0, none⟩ (.bool bn1)).setCell ⟨p_b6, 1, none⟩ (.slice bo1 bk1 bc1)).setCell ⟨p_b6, 2, none⟩ (.bool bn2)).setCell ⟨p_b6, 3, none⟩ (.slice bo2 bk2 bc2)) = w' ∧ Bs w' p_b6 #[.bool bn1, .slice bo1 bk1 bc1, .bool bn2, .slice bo2 bk2 bc2, .bool an3, .slice ao3 ak3 ac3, .bool an4, .slice ao4 ak4 ac4, .bool an5, .slice ao5 ak5 ac5, .bool an6, .slice ao6 ak6 ac6] 68 ∧ Only p_b6 w_22 w' := xs.setN [(0, .bool bn1), (1, .slice bo1 bk1 bc1), (2, .bool bn2), (3, .slice bo2 bk2 bc2)]
    rw [eW]; clear eW
    obtain ⟨w_23_4, eW, xs_4, ho_4⟩ : ∃ w', ((((w_23_0.setCell ⟨p_b6, 4, none⟩ (.bool bn3)).setCell ⟨p_b6, 5, none⟩ (.slice bo3 bk3 bc3)).setCell ⟨p_b6, 6, none⟩ (.bool bn4)).setCell ⟨p_b6, 7, none⟩ (.slice bo4 bk4 bc4)) = w' ∧ Bs w' p_b6 #[.bool bn1, .slice bo1 bk1 bc1, .bool bn2, .slice bo2 bk2 bc2, .bool bn3, .slice bo3 bk3 bc3, .bool bn4, .slice bo4 bk4 bc4, .bool an5, .slice ao5 ak5 ac5, .bool an6, .slice ao6 ak6 ac6] 68 ∧ Only p_b6 w_23_0 w' := xs_0.setN [(4, .bool bn3), (5, .slice bo3 bk3 bc3), (6, .bool bn4), (7, .slice bo4 bk4 bc4)]
    rw [eW]; clear eW xs_0
    obtain ⟨w_23, eW, xs', ho_8⟩ : ∃ w', ((((w_23_4.setCell ⟨p_b6, 8, none⟩ (.bool bn5)).setCell ⟨p_b6, 9, none⟩ (.slice bo5 bk5 bc5)).setCell ⟨p_b6, 10, none⟩ (.bool bn6)).setCell ⟨p_b6, 11, none⟩ (.slice bo6 bk6 bc6)) = w' ∧ Bs w' p_b6 #[.bool bn1, .slice bo1 bk1 bc1, .bool bn2, .slice bo2 bk2 bc2, .bool bn3, .slice bo3 bk3 bc3, .bool bn4, .slice bo4 bk4 bc4, .bool bn5, .slice bo5 bk5 bc5, .bool bn6, .slice bo6 bk6 bc6] 68 ∧ Only p_b6 w_23_4 w' := xs_4.setN [(8, .bool bn5), (9, .slice bo5 bk5 bc5), (10, .bool bn6), (11, .slice bo6 bk6 bc6)]
    rw [eW]; clear eW xs_4
    have ho23 := ((ho_0.trans ho_4).trans ho_8)
    clear ho_0 ho_4 ho_8 d0 d1 d2 d3 d4 d5 d6 d7 d8 d9 d10 d11 f0 f1 f2 f3 f4 f5 f6 f7 f8 f9 f10 f11 xs
    replace hs := hs.u1 kb_b6 xs' ho23; clear xs'
    clear a1 a2 a3 a4 a5 a6
    refine hK _ _ rfl (And.intro hs.g2 (And.intro True.intro (And.intro hs.g0 True.intro))) ?_; clear hK K
    refine tl ?_
    intro K hK
    have xs := hs.g2
    have d0 : w_23.cell? ⟨p_b7, 0, none⟩ = some (.bool bn1) := hs.g2.cell 0 rfl
    have d1 : w_23.cell? ⟨p_b7, 1, none⟩ = some (.slice bo1 bk1 bc1) := hs.g2.cell 1 rfl
    have d2 : w_23.cell? ⟨p_b7, 2, none⟩ = some (.bool bn2) := hs.g2.cell 2 rfl
    have d3 : w_23.cell? ⟨p_b7, 3, none⟩ = some (.slice bo2 bk2 bc2) := hs.g2.cell 3 rfl
    have d4 : w_23.cell? ⟨p_b7, 4, none⟩ = some (.bool bn3) := hs.g2.cell 4 rfl
    have d5 : w_23.cell? ⟨p_b7, 5, none⟩ = some (.slice bo3 bk3 bc3) := hs.g2.cell 5 rfl
    have d6 : w_23.cell? ⟨p_b7, 6, none⟩ = some (.bool bn4) := hs.g2.cell 6 rfl
    have d7 : w_23.cell? ⟨p_b7, 7, none⟩ = some (.slice bo4 bk4 bc4) := hs.g2.cell 7 rfl
    have d8 : w_23.cell? ⟨p_b7, 8, none⟩ = some (.bool bn5) := hs.g2.cell 8 rfl
    have d9 : w_23.cell? ⟨p_b7, 9, none⟩ = some (.slice bo5 bk5 bc5) := hs.g2.cell 9 rfl
    have d10 : w_23.cell? ⟨p_b7, 10, none⟩ = some (.bool bn6) := hs.g2.cell 10 rfl
    have d11 : w_23.cell? ⟨p_b7, 11, none⟩ = some (.slice bo6 bk6 bc6) := hs.g2.cell 11 rfl
    have f0 := xs.free 0; have f1 := xs.free 1; have f2 := xs.free 2; have f3 := xs.free 3; have f4 := xs.free 4; have f5 := xs.free 5; have f6 := xs.free 6; have f7 := xs.free 7; have f8 := xs.free 8; have f9 := xs.free 9; have f10 := xs.free 10; have f11 := xs.free 11
    go_big_op
    have hd24 := xs.nod rfl rfl
    obtain ⟨w_24_0, eW, xs_0, ho_0⟩ : ∃ w', ((((w_23.setCell ⟨p_b7, 0, none⟩ (.bool n_g1)).setCell ⟨p_b7, 1, none⟩ (.slice o_g1 k_g1 c_g1)).setCell ⟨p_b7, 2, none⟩ (.bool n_g2)).setCell ⟨p_b7, 3, none⟩ (.slice o_g2 k_g2 c_g2)) = w' ∧ Bs w' p_b7 #[.bool n_g1, .slice o_g1 k_g1 c_g1, .bool n_g2, .slice o_g2 k_g2 c_g2, .bool bn3, .slice bo3 bk3 bc3, .bool bn4, .slice bo4 bk4 bc4, .bool bn5, .slice bo5 bk5 bc5, .bool bn6, .slice bo6 bk6 bc6] 68 ∧ Only p_b7 w_23 w' := xs.setN [(0, .bool n_g1), (1, .slice o_g1 k_g1 c_g1), (2, .bool n_g2), (3, .slice o_g2 k_g2 c_g2)]
    rw [eW]; clear eW
    obtain ⟨w_24_4, eW, xs_4, ho_4⟩ : ∃ w', ((((w_24_0.setCell ⟨p_b7, 4, none⟩ (.bool n_g3)).setCell ⟨p_b7, 5, none⟩ (.slice o_g3 k_g3 c_g3)).setCell ⟨p_b7, 6, none⟩ (.bool n_g4)).setCell ⟨p_b7, 7, none⟩ (.slice o_g4 k_g4 c_g4)) = w' ∧ Bs w' p_b7 #[.bool n_g1, .slice o_g1 k_g1 c_g1, .bool n_g2, .slice o_g2 k_g2 c_g2, .bool n_g3, .slice o_g3 k_g3 c_g3, .bool n_g4, .slice o_g4 k_g4 c_g4, .bool bn5, .slice bo5 bk5 bc5, .bool bn6, .slice bo6 bk6 bc6] 68 ∧ Only p_b7 w_24_0 w' := xs_0.setN [(4, .bool n_g3), (5, .slice o_g3 k_g3 c_g3), (6, .bool n_g4), (7, .slice o_g4 k_g4 c_g4)]
    rw [eW]; clear eW xs_0
    obtain ⟨w_24, eW, xs', ho_8⟩ : ∃ w', ((((w_24_4.setCell ⟨p_b7, 8, none⟩ (.bool n_g5)).setCell ⟨p_b7, 9, none⟩ (.slice o_g5 k_g5 c_g5)).setCell ⟨p_b7, 10, none⟩ (.bool n_g6)).setCell ⟨p_b7, 11, none⟩ (.slice o_g6 k_g6 c_g6)) = w' ∧ Bs w' p_b7 #[.bool n_g1, .slice o_g1 k_g1 c_g1, .bool n_g2, .slice o_g2 k_g2 c_g2, .bool n_g3, .slice o_g3 k_g3 c_g3, .bool n_g4, .slice o_g4 k_g4 c_g4, .bool n_g5, .slice o_g5 k_g5 c_g5, .bool n_g6, .slice o_g6 k_g6 c_g6] 68 ∧ Only p_b7 w_24_4 w' := xs_4.setN [(8, .bool n_g5), (9, .slice o_g5 k_g5 c_g5), (10, .bool n_g6), (11, .slice o_g6 k_g6 c_g6)]
    rw [eW]; clear eW xs_4
    have ho24 := ((ho_0.trans ho_4).trans ho_8)
    clear ho_0 ho_4 ho_8 d0 d1 d2 d3 d4 d5 d6 d7 d8 d9 d10 d11 f0 f1 f2 f3 f4 f5 f6 f7 f8 f9 f10 f11 xs
    replace hs := hs.u2 kb_b7 xs' ho24; clear xs'
    refine hK _ _ rfl (And.intro True.intro (And.intro True.intro (And.intro hs.g0 True.intro))) ?_; clear hK K
    apply wpTail_end
    have k7_10 := ((kb n22).o hd23 ho23).o hd24 ho24
    replace g1 := g1.k k7_10
    replace g2 := g2.k k7_10
    replace g3 := g3.k k7_10
    replace g4 := g4.k k7_10
    replace g5 := g5.k k7_10
    replace g6 := g6.k k7_10
    have x_b6 := hs.g1
    have k6_10 := (((kb hb_21).b n22).o hd23 ho23).o hd24 ho24
    replace b1 := b1.k k6_10
    replace b2 := b2.k k6_10
    replace b3 := b3.k k6_10
    replace b4 := b4.k k6_10
    replace b5 := b5.k k6_10
    replace b6 := b6.k k6_10
    have x_b7 := hs.g2
    have x_b3 := hs.g5
    have x_b4 := hs.g4
    have x_b5 := hs.g3
    have hb := hs.b
    refine ‹∀ (a' : Act) (w' : World), Handed _ _ a' w' → _› _ _ ?_
    go_roundg (gN t.step.s1 t.step.s2).toNat
    case rel =>
      have i1 := len_norm (Int.le_trans HI.out.ns (by have := gN_nonneg x y; have := gN_nonneg u v; omega)) LL.out.1.1 LL.out.1.2 LL.out.2.1 LL.out.2.2
      have i2 := len_norm HI.out.nu LL.out.1.1 LL.out.1.2 LL.out.2.1 LL.out.2.2
      have i3 := len_norm HI.out.nv LL.out.1.1 LL.out.1.2 LL.out.2.1 LL.out.2.2
      rw [GS.step_s1] at g1
      rw [GS.step_s2] at g2
      rw [GS.step_u1] at g3
      rw [GS.step_u2] at g4
      rw [GS.step_v1] at g5
      rw [GS.step_v2] at g6
      refine ⟨t.step, hide ⟨HI.out, (fin_step H0.out).trans HT.out.2.1, Nat.le_refl _⟩, BN.mk' x_b6 b1 b2 b3 b4 b5 b6, BN.mk' x_b7 (g1.zn i1.1) (g2.zn i1.2) (g3.zn i2.1) (g4.zn i2.2) (g5.zn i3.1) (g6.zn i3.2), x_b3, x_b4, x_b5, hb⟩
    case measure =>
      have h1 := HT.out.2.2
      have h2 := HL.out
      have h3 := HP.out
      have h4 := gN_nonneg t.step.s1 t.step.s2
      omega
end
/-- A block that holds one number of two parts. -/
def BM (L : Nat) (w : World) (p : Nat) (ty : TypeId) (z1 z2 : Int) : Prop :=
  ∃ n1 o1 k1 c1 n2 o2 k2 c2, Bs w p #[.bool n1, .slice o1 k1 c1, .bool n2, .slice o2 k2 c2] ty ∧ ZN w (.agg #[.bool n1, .slice o1 k1 c1]) z1 L ∧ ZN w (.agg #[.bool n2, .slice o2 k2 c2]) z2 L
theorem BM.mk' {L : Nat} {w : World} {p : Nat} {ty : TypeId} {n1 n2 : Bool} {o1 o2 : Option Addr} {k1 c1 k2 c2 : Nat} {z1 z2 : Int} (hb : Bs w p #[.bool n1, .slice o1 k1 c1, .bool n2, .slice o2 k2 c2] ty) (h1 : ZN w (.agg #[.bool n1, .slice o1 k1 c1]) z1 L) (h2 : ZN w (.agg #[.bool n2, .slice o2 k2 c2]) z2 L) : BM L w p ty z1 z2 :=
  ⟨_, _, _, _, _, _, _, _, hb, h1, h2⟩
section
variable {w : World} {va vb : Value} {x y u v : Int} {l m k n : Nat}
set_option maxHeartbeats 8000000 in
set_option maxRecDepth 20000 in
theorem ggcd_any {L : Nat} (ha : PN w va x L y L) (hq : PN w vb u L v L) (hL : L + 1 ≤ 2000000) :
    Calls Tryz.prog 15 #[va, vb] w fun e w' => ∃ r, e = .returned r ∧ PC w' r (turn (kq (GS.start x y u v).fin.r1 (GS.start x y u v).fin.r2) ((GS.start x y u v).fin.r1, (GS.start x y u v).fin.r2)).1 (turn (kq (GS.start x y u v).fin.r1 (GS.start x y u v).fin.r2) ((GS.start x y u v).fin.r1, (GS.start x y u v).fin.r2)).2 ∧ Below w.heap.size w w' := by
  have LL := hide (And.intro (And.intro ha.len1 ha.len2) (And.intro hq.len1 hq.len2))
  have hst : GI x y u v (GS.start x y u v) := GI.start x y u v
  have HST := hide hst
  obtain ⟨F, hF⟩ : ∃ F, (GS.start x y u v).fin = F := ⟨_, rfl⟩
  rw [hF]
  have HF := hide hF
  obtain ⟨N, hN⟩ : ∃ N, (gN u v).toNat = N := ⟨_, rfl⟩
  have HN := hide hN
  clear hst hF hN
  obtain ⟨n_0a, o_0a, k_0a, c_0a, n_0b, o_0b, k_0b, c_0b, rfl, ha1, ha2⟩ := ha
  obtain ⟨n_1a, o_1a, k_1a, c_1a, n_1b, o_1b, k_1b, c_1b, rfl, hq1, hq2⟩ := hq
  go_enter Tryz.func15, Tryz.ntmps15
  have hs := St.nil w
  refine wp_seq_k ?_
  intro K1 hK1
  refine rg [0, 1, 2] ?_
  refine sq ?_
  refine .al hs ?_; clear hs; intro p_b1 w_1 hs n1 kb_b1
  refine sq ?_
  refine .al hs ?_; clear hs; intro p_b2 w_2 hs n2 kb_b2
  refine sq ?_
  refine .al hs ?_; clear hs; intro p_b3 w_3 hs n3 kb_b3
  apply wpSq_end
  refine hK1 _ _ ?_
  refine wp_seq_k ?_
  intro K2 hK2
  refine wp_block ?_
  have x_b1 := hs.g2
  have k0_3 := ((kb n1).b n2).b n3
  replace ha1 := ha1.k k0_3
  replace ha2 := ha2.k k0_3
  have x_b2 := hs.g1
  replace hq1 := hq1.k k0_3
  replace hq2 := hq2.k k0_3
  have x_b3 := hs.g0
  have hb := hs.b
  have hd4 := hs.2.1
  go_loopg [] N (fun k wr => ∃ t : GS, Hid (GI x y u v t ∧ t.fin = F ∧ (gN t.s1 t.s2).toNat ≤ k) ∧ BM (L + 1) wr p_b1 29 t.r1 t.r2 ∧ BM (L + 1) wr p_b2 29 t.s1 t.s2 ∧ Bs wr p_b3 #[.bool false, .slice none 0 0, .bool false, .slice none 0 0] 29 ∧ Below w.heap.size w wr)
  case atStart =>
    exact ⟨GS.start x y u v, hide ⟨HST.out, HF.out, by rw [← HN.out]; exact Nat.le_refl _⟩, BM.mk' x_b1 (ha1.mono (Nat.le_succ _)) (ha2.mono (Nat.le_succ _)), BM.mk' x_b2 (hq1.mono (Nat.le_succ _)) (hq2.mono (Nat.le_succ _)), x_b3, hb⟩
  case round =>
  clear ha1 ha2 hq1 hq2 x_b1 x_b2 x_b3 hb hs
  obtain ⟨t, HT, ⟨an1, ao1, ak1, ac1, an2, ao2, ak2, ac2, x_b1, a1, a2⟩, ⟨cn1, co1, ck1, cc1, cn2, co2, ck2, cc2, x_b2, c1, c2⟩, x_b3, hb⟩ := hrel
  by_cases h0 : gN t.s1 t.s2 = 0
  · have hs := gN_zero.1 h0
    have hft : t = F := by rw [← HT.out.2.1]; exact (fin_done h0).symm
    have HFT := hide hft
    rw [hs.1] at c1
    rw [hs.2] at c2
    clear h0 hs hft
    have hs := St.re (.c x_b3 (.c x_b2 (.c x_b1 .n))) hd4 (List.Sublist.refl _) hb
    refine wp_seq_k ?_
    intro K3 hK3
    refine wp_seq_k ?_
    intro K4 hK4
    refine rg [0, 1, 2] ?_
    refine sq ?_
    refine .r4 hs.g1.f4 ?_
    refine sq ?_
    intro K hK
    go_big_op
    go_fit (isZero_yes (PN.mk' c1 c2) (by omega) (by omega))
    rintro e w_5 ⟨rfl, hb_5⟩
    clear hb x_b1 x_b2 x_b3
    replace hs := hs.bl hb_5
    refine hK _ _ rfl trivial ?_
    clear hK K
    refine sq ?_
    refine .r0 ?_
    apply wpSq_end
    refine hK4 _ _ ?_
    refine cf ?_
    refine wp_exit ?_
    refine hK2 _ _ ?_
    refine wp_seq_k ?_
    intro K5 hK5
    refine rg [0, 1, 2, 3, 4, 5, 6, 7] ?_
    refine sq ?_
    refine .r4 hs.g2.f4 ?_
    refine sq ?_
    intro K hK
    have k0_1 := kb hb_5
    replace a1 := a1.k k0_1
    replace a2 := a2.k k0_1
    go_big_op
    go_fit (gCanon_any (PN.mk' a1 a2) (by omega) (by omega))
    rintro e w_6 ⟨_, rfl, ⟨n_ea, o_ea, k_ea, c_ea, n_eb, o_eb, k_eb, c_eb, rfl, e1, e2⟩, hb_6⟩
    replace hs := hs.bl hb_6
    refine hK _ _ rfl trivial ?_
    clear hK K
    refine sq ?_
    refine .mv ?_
    refine sq ?_
    refine .r0 ?_
    refine sq ?_
    refine .r0 ?_
    refine sq ?_
    refine .al hs ?_; clear hs; intro p_b4 w_7 hs n7 kb_b4
    refine sq ?_
    refine .s4 hs.g0 (fun _ => hs.u0 kb_b4) ?_; clear hs; intro w_8 hs hd8 ho8
    refine sq ?_
    refine .mv ?_
    apply wpSq_end
    refine hK5 _ _ ?_
    refine wp_seq_k ?_
    intro K6 hK6
    refine rg [0, 1] ?_
    refine sq ?_
    refine .r4 hs.g0.f4 ?_
    refine sq ?_
    refine .s4 hs.g1 (fun _ => hs.u1 kb_b3) ?_; clear hs; intro w_9 hs hd9 ho9
    apply wpSq_end
    refine hK6 _ _ ?_
    refine wp_ret ?_
    have k2_5 := ((kb n7).o hd8 ho8).o hd9 ho9
    replace e1 := e1.k k2_5
    replace e2 := e2.k k2_5
    rw [HFT.out] at e1 e2
    try dsimp only [Exit.then, Exit.inBlock]
    obtain ⟨r0_0, r0_1, r0_2, r0_3⟩ := hs.g1.f4
    refine bodyPost_ret (v := (.agg #[.bool n_ea, .slice o_ea k_ea c_ea, .bool n_eb, .slice o_eb k_eb c_eb])) (by simp [results, Tryz.results15, go_sem, r0_0, r0_1, r0_2, r0_3]) rfl ?_
    exact ⟨_, rfl, .mk' e1 e2, hs.b⟩
  · have H0 := hide h0
    have HI := hide (HT.out.1.step h0)
    have HL := hide (step_less h0)
    have HP := hide (gN_pos h0)
    clear h0
    have hs := St.re (.c x_b3 (.c x_b2 (.c x_b1 .n))) hd4 (List.Sublist.refl _) hb
    refine wp_seq_k ?_
    intro K3 hK3
    refine wp_seq_k ?_
    intro K4 hK4
    refine rg [0, 1, 2] ?_
    refine sq ?_
    refine .r4 hs.g1.f4 ?_
    refine sq ?_
    intro K hK
    go_big_op
    go_fit (isZero_no (PN.mk' c1 c2) (by omega) (by omega) H0.out)
    rintro e w_5 ⟨rfl, hb_5⟩
    clear hb x_b1 x_b2 x_b3
    replace hs := hs.bl hb_5
    refine hK _ _ rfl trivial ?_
    clear hK K
    refine sq ?_
    refine .r0 ?_
    apply wpSq_end
    refine hK4 _ _ ?_
    refine ct ?_
    refine wp_skip ?_
    refine hK3 _ _ ?_
    refine wp_block ?_
    refine wp_region_f4 [(0, false), (1, false), (2, false), (3, false), (5, false), (4, true), (6, true), (7, true)] [8, 9] [] (fun _ => default) [0, 1, 1, 0, 99, 0, 99, 99, 99, 99] [(8, 1), (9, 1), (9, 0)] (.c hs.g1 (.c hs.g2 .n)) fn fun w_6 n6 => ?_
    replace hs := hs.bl n6
    refine f4 ?_
    refine f4 ?_
    refine f4 ?_
    refine f4 ?_
    refine f4 ?_
    refine fl fun w_7 n7 => ?_
    replace hs := hs.bl n7
    intro K hK
    have k0_3 := ((kb hb_5).b n6).b n7
    replace a1 := a1.k k0_3
    replace a2 := a2.k k0_3
    replace c1 := c1.k k0_3
    replace c2 := c2.k k0_3
    go_big_op
    go_fit (quot_any (PN.mk' a1 a2) (PN.mk' c1 c2) (by omega) (by omega) (by omega) (by omega) H0.out)
    rintro e w_8 ⟨_, rfl, ⟨n_qa, o_qa, k_qa, c_qa, n_qb, o_qb, k_qb, c_qb, rfl, q1, q2⟩, hb_8⟩
    replace hs := hs.bl hb_8
    have Lq1 := hide (q1.lenOf (rnd_len H0.out (zlen_gT1 a1.len a2.len c1.len c2.len)))
    have Lq2 := hide (q2.lenOf (rnd_len H0.out (zlen_gT2 a1.len a2.len c1.len c2.len)))
    refine hK _ _ rfl ⟨hb_8, (And.intro hs.g1 (And.intro hs.g2 trivial))⟩ ?_
    clear hK K
    refine fl fun w_9 n9 => ?_
    replace hs := hs.bl n9
    intro K hK
    have k4_5 := kb n9
    replace q1 := q1.k k4_5
    replace q2 := q2.k k4_5
    have k3_5 := (kb hb_8).b n9
    replace c1 := c1.k k3_5
    replace c2 := c2.k k3_5
    go_big_op
    go_fit (gMul_any (PN.mk' (q1.zn Lq1.out) (q2.zn Lq2.out)) (PN.mk' c1 c2) (by omega) (by omega) (by omega) (by omega) )
    rintro e w_10 ⟨_, rfl, ⟨n_ma, o_ma, k_ma, c_ma, n_mb, o_mb, k_mb, c_mb, rfl, m1, m2⟩, hb_10⟩
    replace hs := hs.bl hb_10
    have Lm1 := hide (m1.lenOf (zlen_sub (zlen_mul (Lq1.out) (c1.len)) (zlen_mul (Lq2.out) (c2.len))))
    have Lm2 := hide (m2.lenOf (zlen_add (zlen_mul (Lq1.out) (c2.len)) (zlen_mul (Lq2.out) (c1.len))))
    refine hK _ _ rfl ⟨hb_10, (And.intro hs.g1 (And.intro hs.g2 trivial))⟩ ?_
    clear hK K
    refine fl fun w_11 n11 => ?_
    replace hs := hs.bl n11
    intro K hK
    have k3_7 := (k3_5.b hb_10).b n11
    replace a1 := a1.k k3_7
    replace a2 := a2.k k3_7
    have k6_7 := kb n11
    replace m1 := m1.k k6_7
    replace m2 := m2.k k6_7
    go_big_op
    go_fit (gSub_any (PN.mk' a1 a2) (PN.mk' (m1.zn Lm1.out) (m2.zn Lm2.out)) (by omega) (by omega) (by omega) (by omega) )
    rintro e w_12 ⟨_, rfl, ⟨n_ga, o_ga, k_ga, c_ga, n_gb, o_gb, k_gb, c_gb, rfl, g1, g2⟩, hb_12⟩
    replace hs := hs.bl hb_12
    have Lg1 := hide (g1.lenOf (zlen_sub (a1.len) (Lm1.out)))
    have Lg2 := hide (g2.lenOf (zlen_sub (a2.len) (Lm2.out)))
    refine hK _ _ rfl ⟨hb_12, (And.intro hs.g1 (And.intro hs.g2 trivial))⟩ ?_
    clear hK K
    refine e0 hs ?_; clear hs; intro w_13 hs n13
    refine tl ?_
    refine .s4 hs.g2 (fun _ => hs.u2 kb_b1) ?_ (e := fun _ hs => (And.intro hs.g1 (And.intro True.intro True.intro))); clear hs; intro w_14 hs hd14 ho14
    clear q1 q2 m1 m2 a1 a2
    refine tl ?_
    refine .s4 hs.g1 (fun _ => hs.u1 kb_b2) ?_ (e := fun _ hs => (And.intro True.intro (And.intro True.intro True.intro))); clear hs; intro w_15 hs hd15 ho15
    apply wpTail_end
    have k8_11 := ((kb n13).o hd14 ho14).o hd15 ho15
    replace g1 := g1.k k8_11
    replace g2 := g2.k k8_11
    have x_b1 := hs.g2
    have k5_11 := (((((kb hb_10).b n11).b hb_12).b n13).o hd14 ho14).o hd15 ho15
    replace c1 := c1.k k5_11
    replace c2 := c2.k k5_11
    have x_b2 := hs.g1
    have x_b3 := hs.g0
    have hb := hs.b
    refine ‹∀ (a' : Act) (w' : World), Handed _ _ a' w' → _› _ _ ?_
    go_roundg (gN t.step.s1 t.step.s2).toNat
    case rel =>
      have i1 := len_norm (Int.le_trans HI.out.ns (by have := gN_nonneg x y; have := gN_nonneg u v; omega)) LL.out.1.1 LL.out.1.2 LL.out.2.1 LL.out.2.2
      rw [GS.step_s1] at g1
      rw [GS.step_s2] at g2
      refine ⟨t.step, hide ⟨HI.out, (fin_step H0.out).trans HT.out.2.1, Nat.le_refl _⟩, BM.mk' x_b1 c1 c2, BM.mk' x_b2 (g1.zn i1.1) (g2.zn i1.2), x_b3, hb⟩
    case measure =>
      have h1 := HT.out.2.2
      have h2 := HL.out
      have h3 := HP.out
      have h4 := gN_nonneg t.step.s1 t.step.s2
      omega
end
set_option linter.unusedSimpArgs false
section
variable {w : World} {va vb vc vd : Value} {x y u v p q r s : Int} {l m k n l2 m2 k2 n2 : Nat}
set_option maxHeartbeats 4000000 in
set_option maxRecDepth 20000 in
theorem divided_yes (ha : PN w va x l y m) (hb : PN w vb u k v n) (hq : PN w vc p l2 q m2) (hr : PN w vd r k2 s n2) (hl : l ≤ 8000000) (hm : m ≤ 8000000) (hk : k ≤ 8000000) (hn : n ≤ 8000000) (hl2 : l2 ≤ 8000000) (hm2 : m2 ≤ 8000000) (hk2 : k2 ≤ 8000000) (hn2 : n2 ≤ 8000000) (h0 : gN u v ≠ 0) (e : gQ1 x y u v = p ∧ gQ2 x y u v = q ∧ gR1 x y u v = r ∧ gR2 x y u v = s) :
    Calls Tryz.prog 13 #[va, vb, vc, vd] w fun e w' => e = .returned (.bool true) ∧ Below w.heap.size w w' := by
  have H0 := hide h0
  have HE := hide e
  clear h0 e
  obtain ⟨n_0a, o_0a, k_0a, c_0a, n_0b, o_0b, k_0b, c_0b, rfl, ha1, ha2⟩ := ha
  obtain ⟨n_1a, o_1a, k_1a, c_1a, n_1b, o_1b, k_1b, c_1b, rfl, hb1, hb2⟩ := hb
  obtain ⟨n_2a, o_2a, k_2a, c_2a, n_2b, o_2b, k_2b, c_2b, rfl, hq1, hq2⟩ := hq
  obtain ⟨n_3a, o_3a, k_3a, c_3a, n_3b, o_3b, k_3b, c_3b, rfl, hr1, hr2⟩ := hr
  go_enter Tryz.func13, Tryz.ntmps13
  have hs := St.nil w
  refine wp_seq_k ?_
  intro K1 hK1
  refine rg [0, 1, 2, 3, 4] ?_
  refine sq ?_
  refine .al hs ?_; clear hs; intro p_b1 w_1 hs n1 kb_b1
  refine sq ?_
  refine .al hs ?_; clear hs; intro p_b2 w_2 hs n2 kb_b2
  refine sq ?_
  refine .al hs ?_; clear hs; intro p_b3 w_3 hs n3 kb_b3
  refine sq ?_
  refine .al hs ?_; clear hs; intro p_b4 w_4 hs n4 kb_b4
  refine sq ?_
  refine .mv ?_
  apply wpSq_end
  refine hK1 _ _ ?_
  refine wp_seq_k ?_
  intro K2 hK2
  refine rg [0, 1, 2, 3, 4, 5, 6, 7, 8, 9, 10, 11] ?_
  refine sq ?_
  refine .r4 hs.g3.f4 ?_
  refine sq ?_
  refine .r4 hs.g2.f4 ?_
  refine sq ?_
  intro K hK
  have k0_4 := (((kb n1).b n2).b n3).b n4
  replace ha1 := ha1.k k0_4
  replace ha2 := ha2.k k0_4
  replace hb1 := hb1.k k0_4
  replace hb2 := hb2.k k0_4
  go_big_op
  go_fit (gRound_any (.mk' ha1 ha2) (.mk' hb1 hb2) hl hm hk hn H0.out)
  rintro e w_5 ⟨_, _, rfl, ⟨n_fa, o_fa, k_fa, c_fa, n_fb, o_fb, k_fb, c_fb, rfl, f1, f2⟩, ⟨n_ga, o_ga, k_ga, c_ga, n_gb, o_gb, k_gb, c_gb, rfl, g1, g2⟩, hb_5⟩
  replace hs := hs.bl hb_5
  rw [HE.out.1] at f1
  rw [HE.out.2.1] at f2
  rw [HE.out.2.2.1] at g1
  rw [HE.out.2.2.2] at g2
  refine hK _ _ rfl trivial ?_
  clear hK K
  refine sq ?_
  refine .mv ?_
  refine sq ?_
  refine .r0 ?_
  refine sq ?_
  refine .r0 ?_
  refine sq ?_
  refine .r0 ?_
  refine sq ?_
  refine .al hs ?_; clear hs; intro p_b5 w_6 hs n6 kb_b5
  refine sq ?_
  refine .al hs ?_; clear hs; intro p_b6 w_7 hs n7 kb_b6
  refine sq ?_
  refine .s4 hs.g1 (fun _ => hs.u1 kb_b5) ?_; clear hs; intro w_8 hs hd8 ho8
  refine sq ?_
  refine .s4 hs.g0 (fun _ => hs.u0 kb_b6) ?_; clear hs; intro w_9 hs hd9 ho9
  refine sq ?_
  refine .mv ?_
  apply wpSq_end
  refine hK2 _ _ ?_
  refine wp_seq_k ?_
  intro K3 hK3
  refine rg [0, 1, 2, 3, 4, 5, 6, 7, 8, 9, 10, 11, 12] ?_
  refine sq ?_
  refine .mv ?_
  refine sq ?_
  refine .r0 ?_
  refine sq ?_
  refine .mv ?_
  refine sq ?_
  refine .r4 hs.g1.f4 ?_
  refine sq ?_
  refine .r4 hs.g3.f4 ?_
  refine sq ?_
  intro K hK
  have k5_9 := (((kb n6).b n7).o hd8 ho8).o hd9 ho9
  replace f1 := f1.k k5_9
  replace f2 := f2.k k5_9
  have k0_9 := ((((k0_4.b hb_5).b n6).b n7).o hd8 ho8).o hd9 ho9
  replace hq1 := hq1.k k0_9
  replace hq2 := hq2.k k0_9
  go_big_op
  go_fit (gis_any (.mk' f1 f2) (.mk' hq1 hq2) (by omega) (by omega))
  rintro e w_10 ⟨rfl, hb_10⟩
  replace hs := hs.bl hb_10
  refine hK _ _ rfl trivial ?_
  clear hK K
  refine sq ?_
  refine .r0 ?_
  refine sq ?_
  refine .mv ?_
  refine sq ?_
  refine .r4 hs.g0.f4 ?_
  refine sq ?_
  refine .r4 hs.g2.f4 ?_
  refine sq ?_
  intro K hK
  have k5_10 := k5_9.b hb_10
  replace g1 := g1.k k5_10
  replace g2 := g2.k k5_10
  have k0_10 := k0_9.b hb_10
  replace hr1 := hr1.k k0_10
  replace hr2 := hr2.k k0_10
  go_big_op
  go_fit (gis_any (.mk' g1 g2) (.mk' hr1 hr2) (by omega) (by omega))
  rintro e w_11 ⟨rfl, hb_11⟩
  clear ha1 ha2 hb1 hb2 hq1 hq2 f1 f2
  replace hs := hs.bl hb_11
  refine hK _ _ rfl trivial ?_
  clear hK K
  refine sq ?_
  refine .r0 ?_
  refine sq ?_
  refine .mv ?_
  apply wpSq_end
  refine hK3 _ _ ?_
  refine wp_ret ?_
  try dsimp only [Exit.then, Exit.inBlock]
  refine bodyPost_ret (v := (.bool true)) (by simp [results, Tryz.results13, go_sem]) rfl ?_
  have hb := hs.b
  exact ⟨rfl, hb⟩
set_option maxHeartbeats 4000000 in
set_option maxRecDepth 20000 in
theorem parsed_yes {S : ByteArray} (hP : ∀ w1 : World, Calls Tryz.prog 20 #[.string S] w1 fun e w' => ∃ r, e = .returned (.tuple #[r, .int .i64 0]) ∧ PC w' r x y ∧ Below w1.heap.size w1 w') (hq : PN w vb x l y m) (hl : l ≤ 8000000) (hm : m ≤ 8000000) :
    Calls Tryz.prog 19 #[.string S, vb, .int .i64 0] w fun e w' => e = .returned (.bool true) ∧ Below w.heap.size w w' := by
  have HP := hide hP
  clear hP
  obtain ⟨n_1a, o_1a, k_1a, c_1a, n_1b, o_1b, k_1b, c_1b, rfl, hq1, hq2⟩ := hq
  go_enter Tryz.func19, Tryz.ntmps19
  have hs := St.nil w
  refine wp_seq_k ?_
  intro K1 hK1
  refine rg [0, 1] ?_
  refine sq ?_
  refine .al hs ?_; clear hs; intro p_b1 w_1 hs n1 kb_b1
  refine sq ?_
  refine .mv ?_
  apply wpSq_end
  refine hK1 _ _ ?_
  refine wp_seq_k ?_
  intro K2 hK2
  refine rg [0, 1, 2, 3, 4, 5, 6, 7] ?_
  refine sq ?_
  refine .mv ?_
  refine sq ?_
  intro K hK
  go_big_op
  go_fit (HP.out _)
  rintro e w_2 ⟨_, rfl, ⟨n_fa, o_fa, k_fa, c_fa, n_fb, o_fb, k_fb, c_fb, rfl, f1, f2⟩, hb_2⟩
  replace hs := hs.bl hb_2
  refine hK _ _ rfl trivial ?_
  clear hK K
  refine sq ?_
  refine .mv ?_
  refine sq ?_
  refine .r0 ?_
  refine sq ?_
  refine .r0 ?_
  refine sq ?_
  refine .al hs ?_; clear hs; intro p_b2 w_3 hs n3 kb_b2
  refine sq ?_
  refine .s4 hs.g0 (fun _ => hs.u0 kb_b2) ?_; clear hs; intro w_4 hs hd4 ho4
  refine sq ?_
  refine .mv ?_
  apply wpSq_end
  refine hK2 _ _ ?_
  refine wp_seq_k ?_
  intro K3 hK3
  refine wp_seq_k ?_
  intro K4 hK4
  refine rg [0, 1] ?_
  refine sq ?_
  refine .mv ?_
  refine sq ?_
  refine .r0 ?_
  apply wpSq_end
  refine hK4 _ _ ?_
  refine cf ?_
  refine wp_skip ?_
  refine hK3 _ _ ?_
  refine wp_seq_k ?_
  intro K5 hK5
  refine rg [0, 1, 2, 3, 4, 5, 6, 7] ?_
  refine sq ?_
  refine .mv ?_
  refine sq ?_
  refine .r0 ?_
  refine sq ?_
  refine .mv ?_
  refine sq ?_
  refine .r4 hs.g0.f4 ?_
  refine sq ?_
  refine .r4 hs.g1.f4 ?_
  refine sq ?_
  intro K hK
  have k2_4 := (kb n3).o hd4 ho4
  replace f1 := f1.k k2_4
  replace f2 := f2.k k2_4
  have k0_4 := (((kb n1).b hb_2).b n3).o hd4 ho4
  replace hq1 := hq1.k k0_4
  replace hq2 := hq2.k k0_4
  go_big_op
  go_fit (gis_any (.mk' f1 f2) (.mk' hq1 hq2) (by omega) (by omega))
  rintro e w_5 ⟨rfl, hb_5⟩
  replace hs := hs.bl hb_5
  refine hK _ _ rfl trivial ?_
  clear hK K
  refine sq ?_
  refine .r0 ?_
  refine sq ?_
  refine .mv ?_
  apply wpSq_end
  refine hK5 _ _ ?_
  refine wp_ret ?_
  try dsimp only [Exit.then, Exit.inBlock]
  refine bodyPost_ret (v := (.bool true)) (by simp [results, Tryz.results19, go_sem]) rfl ?_
  have hb := hs.b
  exact ⟨rfl, hb⟩
set_option maxHeartbeats 4000000 in
set_option maxRecDepth 20000 in
theorem rgZero4_any (w : World) :
    Calls Tryz.prog 23 #[.agg #[.bool false, .slice none 0 0, .bool false, .slice none 0 0]] w fun e w' => e = .returned (.bool true) ∧ Below w.heap.size w w' := by
  go_enter Tryz.func23, Tryz.ntmps23
  have hs := St.nil w
  refine wp_seq_k ?_
  intro K1 hK1
  refine rg [0, 1] ?_
  refine sq ?_
  refine .al hs ?_; clear hs; intro p_b1 w_1 hs n1 kb_b1
  refine sq ?_
  refine .mv ?_
  apply wpSq_end
  refine hK1 _ _ ?_
  refine wp_seq_k ?_
  intro K2 hK2
  refine rg [0, 1, 2, 3, 4, 5, 6, 7, 8] ?_
  refine sq ?_
  refine .r0 ?_
  refine sq ?_
  refine .r4 hs.g0.f4 ?_
  refine sq ?_
  intro K hK
  go_big_op
  go_fit (rzero_any _)
  rintro e w_2 ⟨rfl, hb_2⟩
  replace hs := hs.bl hb_2
  refine hK _ _ rfl trivial ?_
  clear hK K
  refine sq ?_
  refine .mv ?_
  refine sq ?_
  refine .r0 ?_
  refine sq ?_
  refine .r4 hs.g0.f4 ?_
  refine sq ?_
  intro K hK
  go_big_op
  go_fit (rzero_any _)
  rintro e w_3 ⟨rfl, hb_3⟩
  replace hs := hs.bl hb_3
  refine hK _ _ rfl trivial ?_
  clear hK K
  refine sq ?_
  refine .r0 ?_
  refine sq ?_
  refine .mv ?_
  apply wpSq_end
  refine hK2 _ _ ?_
  refine wp_ret ?_
  try dsimp only [Exit.then, Exit.inBlock]
  refine bodyPost_ret (v := (.bool true)) (by simp [results, Tryz.results23, go_sem]) rfl ?_
  have hb := hs.b
  exact ⟨rfl, hb⟩
set_option maxHeartbeats 4000000 in
set_option maxRecDepth 20000 in
theorem parsed_no {S : ByteArray} (hP : ∀ w1 : World, Calls Tryz.prog 20 #[.string S] w1 fun e w' => e = .returned (.tuple #[.agg #[.bool false, .slice none 0 0, .bool false, .slice none 0 0], .int .i64 7]) ∧ Below w1.heap.size w1 w') (hq : PN w vb x l y m) :
    Calls Tryz.prog 19 #[.string S, vb, .int .i64 7] w fun e w' => e = .returned (.bool true) ∧ Below w.heap.size w w' := by
  have HP := hide hP
  clear hP
  obtain ⟨n_1a, o_1a, k_1a, c_1a, n_1b, o_1b, k_1b, c_1b, rfl, hq1, hq2⟩ := hq
  go_enter Tryz.func19, Tryz.ntmps19
  have hs := St.nil w
  refine wp_seq_k ?_
  intro K1 hK1
  refine rg [0, 1] ?_
  refine sq ?_
  refine .al hs ?_; clear hs; intro p_b1 w_1 hs n1 kb_b1
  refine sq ?_
  refine .mv ?_
  apply wpSq_end
  refine hK1 _ _ ?_
  refine wp_seq_k ?_
  intro K2 hK2
  refine rg [0, 1, 2, 3, 4, 5, 6, 7] ?_
  refine sq ?_
  refine .mv ?_
  refine sq ?_
  intro K hK
  go_big_op
  go_fit (HP.out _)
  rintro e w_2 ⟨rfl, hb_2⟩
  replace hs := hs.bl hb_2
  refine hK _ _ rfl trivial ?_
  clear hK K
  refine sq ?_
  refine .mv ?_
  refine sq ?_
  refine .r0 ?_
  refine sq ?_
  refine .r0 ?_
  refine sq ?_
  refine .al hs ?_; clear hs; intro p_b2 w_3 hs n3 kb_b2
  refine sq ?_
  refine .s4 hs.g0 (fun _ => hs.u0 kb_b2) ?_; clear hs; intro w_4 hs hd4 ho4
  refine sq ?_
  refine .mv ?_
  apply wpSq_end
  refine hK2 _ _ ?_
  refine wp_seq_k ?_
  intro K3 hK3
  refine wp_seq_k ?_
  intro K4 hK4
  refine rg [0, 1] ?_
  refine sq ?_
  refine .mv ?_
  refine sq ?_
  refine .r0 ?_
  apply wpSq_end
  refine hK4 _ _ ?_
  refine ct ?_
  refine wp_seq_k ?_
  intro K5 hK5
  refine rg [0, 1, 2, 3, 4, 5, 6, 7] ?_
  refine sq ?_
  refine .mv ?_
  refine sq ?_
  refine .mv ?_
  refine sq ?_
  refine .r0 ?_
  refine sq ?_
  refine .mv ?_
  refine sq ?_
  refine .r4 hs.g0.f4 ?_
  refine sq ?_
  intro K hK
  go_big_op
  go_fit (rgZero4_any _)
  rintro e w_5 ⟨rfl, hb_5⟩
  replace hs := hs.bl hb_5
  refine hK _ _ rfl trivial ?_
  clear hK K
  refine sq ?_
  refine .r0 ?_
  refine sq ?_
  refine .mv ?_
  apply wpSq_end
  refine hK5 _ _ ?_
  refine wp_ret ?_
  try dsimp only [Exit.then, Exit.inBlock]
  refine bodyPost_ret (v := (.bool true)) (by simp [results, Tryz.results19, go_sem]) rfl ?_
  have hb := hs.b
  exact ⟨rfl, hb⟩
end
theorem gText_s {w : World} {va : Value} {x y : Int} {l m : Nat} {S : ByteArray} (e : gts x y = S) (ha : PN w va x l y m) (hl : l ≤ 10000000) (hm : m ≤ 10000000) (htab : Lib.TabIs Tryz.prog w p10 .u64 Lib.pow10Tab) :
    Calls Tryz.prog 18 #[va] w fun e w' => e = .returned (.string S) ∧ Below w.heap.size w w' := by
  rw [← e]; exact gText_any ha hl hm htab
theorem zts1 (n : Nat) (h : n < 10) : zts (n : Int) = ⟨#[UInt8.ofNat (48 + n)]⟩ := by
  unfold zts ztx
  rw [if_neg (by omega), Int.natAbs_natCast, dec1 n h]
theorem gts_m1 : gts 0 (-1) = ⟨#[45, 105]⟩ := by
  unfold gts gRe gSg gAm
  rw [if_neg (by decide), if_pos (by decide), if_pos (by decide), if_neg (by decide)]
  rfl
theorem gts_32 : gts 3 (-2) = ⟨#[51, 45, 50, 105]⟩ := by
  unfold gts gRe gSg gAm
  rw [if_neg (by decide), if_neg (by decide), if_pos (by decide), if_pos (by decide), show ((Int.natAbs (-2) : Nat) : Int) = ((2 : Nat) : Int) from rfl, show (3 : Int) = ((3 : Nat) : Int) from rfl, zts1 2 (by decide), zts1 3 (by decide)]
  rfl
theorem gts_00 : gts 0 0 = ⟨#[48]⟩ := by
  unfold gts
  rw [if_pos rfl]
  exact zts1 0 (by decide)
theorem gts_11 : gts 1 1 = ⟨#[49, 43, 105]⟩ := by
  unfold gts gRe gSg gAm
  rw [if_neg (by decide), if_neg (by decide), if_neg (by decide), if_neg (by decide), if_neg (by decide), show (1 : Int) = ((1 : Nat) : Int) from rfl, zts1 1 (by decide)]
  rfl
theorem gts_05 : gts 0 5 = ⟨#[53, 105]⟩ := by
  unfold gts gRe gSg gAm
  rw [if_neg (by decide), if_pos (by decide), if_neg (by decide), if_pos (by decide), if_pos (by decide), show ((Int.natAbs 5 : Nat) : Int) = ((5 : Nat) : Int) from rfl, zts1 5 (by decide)]
  rfl
theorem zlist1 (n : Nat) (h : n < 10) : zlist (n : Int) = [UInt8.ofNat (48 + n)] := by
  unfold zlist
  rw [if_neg (by omega), Int.natAbs_natCast, dec1 n h]
theorem par_m1 (w : World) : Calls Tryz.prog 20 #[.string ⟨#[45, 105]⟩] w fun e w' => ∃ r, e = .returned (.tuple #[r, .int .i64 0]) ∧ PC w' r 0 (-1) ∧ Below w.heap.size w w' :=
  parse_i (y := -1) (sg := [45]) (am := []) w (.inl ⟨rfl, rfl⟩) rfl (by decide)
theorem par_32 (w : World) : Calls Tryz.prog 20 #[.string ⟨#[51, 45, 50, 105]⟩] w fun e w' => ∃ r, e = .returned (.tuple #[r, .int .i64 0]) ∧ PC w' r 3 (-2) ∧ Below w.heap.size w w' := by
  have h := parse_xy (x := ((3 : Nat) : Int)) (y := -2) (sg := [45]) (am := [50]) w (.inr (by rw [show ([50] : List UInt8) = [UInt8.ofNat (48 + 2)] from rfl]; exact (dec1 2 (by decide)).symm)) rfl (by rw [zlist1 3 (by decide)]; decide)
  rw [zlist1 3 (by decide)] at h
  exact h
theorem par_00 (w : World) : Calls Tryz.prog 20 #[.string ⟨#[48, 43, 48, 105]⟩] w fun e w' => ∃ r, e = .returned (.tuple #[r, .int .i64 0]) ∧ PC w' r 0 0 ∧ Below w.heap.size w w' := by
  have h := parse_xy (x := ((0 : Nat) : Int)) (y := 0) (sg := [43]) (am := [48]) w (.inr (by rw [show ([48] : List UInt8) = [UInt8.ofNat (48 + 0)] from rfl]; exact (dec1 0 (by decide)).symm)) rfl (by rw [zlist1 0 (by decide)]; decide)
  rw [zlist1 0 (by decide)] at h
  exact h
theorem par_pi (w : World) : Calls Tryz.prog 20 #[.string ⟨#[43, 105]⟩] w fun e w' => e = .returned (.tuple #[.agg #[.bool false, .slice none 0 0, .bool false, .slice none 0 0], .int .i64 7]) ∧ Below w.heap.size w w' :=
  parse_plus w (by decide) (cutIs_of (s := ⟨#[43, 105]⟩) (sg := [43]) (d := []) (r := [105]) (by decide) rfl (.inr (.inl rfl)) rfl i_head) (by decide +kernel)
theorem one_head {a : UInt8} {t : List UInt8} (h : isD a = false) : ∀ c, (a :: t).head? = some c → isD c = false := fun c hc => by
  obtain rfl : a = c := by simpa using hc
  exact h
theorem no_head : ∀ c, ([] : List UInt8).head? = some c → isD c = false := fun c h => nomatch h
theorem par_1p (w : World) : Calls Tryz.prog 20 #[.string ⟨#[49, 43]⟩] w fun e w' => e = .returned (.tuple #[.agg #[.bool false, .slice none 0 0, .bool false, .slice none 0 0], .int .i64 7]) ∧ Below w.heap.size w w' :=
  parse_no2 w (by decide) (cutIs_of (s := ⟨#[49, 43]⟩) (sg := []) (d := [49]) (r := [43]) (by decide) rfl (.inl ⟨rfl, fun c h => by
    obtain rfl : 49 = c := by simpa using h
    decide⟩) (by decide) (one_head (by decide))) (by decide +kernel) (by decide +kernel) (by decide +kernel) (by decide +kernel) (by decide +kernel)
    (cutIs_of (s := ofL [43]) (sg := [43]) (d := []) (r := []) (by decide) rfl (.inr (.inl rfl)) rfl no_head) (by decide +kernel)
theorem par_i2 (w : World) : Calls Tryz.prog 20 #[.string ⟨#[105, 50]⟩] w fun e w' => e = .returned (.tuple #[.agg #[.bool false, .slice none 0 0, .bool false, .slice none 0 0], .int .i64 7]) ∧ Below w.heap.size w w' :=
  parse_no1 w (by decide) (cutIs_of (s := ⟨#[105, 50]⟩) (sg := []) (d := []) (r := [105, 50]) (by decide) rfl (.inl ⟨rfl, fun c h => by
    obtain rfl : 105 = c := by simpa using h
    decide⟩) (by decide) (one_head (by decide))) (by decide +kernel) (by decide +kernel) (by decide +kernel) (by decide +kernel)
theorem par_3m (w : World) : Calls Tryz.prog 20 #[.string ⟨#[51, 43, 45, 50, 105]⟩] w fun e w' => e = .returned (.tuple #[.agg #[.bool false, .slice none 0 0, .bool false, .slice none 0 0], .int .i64 7]) ∧ Below w.heap.size w w' :=
  parse_no2 w (by decide) (cutIs_of (s := ⟨#[51, 43, 45, 50, 105]⟩) (sg := []) (d := [51]) (r := [43, 45, 50, 105]) (by decide) rfl (.inl ⟨rfl, fun c h => by
    obtain rfl : 51 = c := by simpa using h
    decide⟩) (by decide) (one_head (by decide))) (by decide +kernel) (by decide +kernel) (by decide +kernel) (by decide +kernel) (by decide +kernel)
    (cutIs_of (s := ofL [43, 45, 50, 105]) (sg := [43]) (d := []) (r := [45, 50, 105]) (by decide) rfl (.inr (.inl rfl)) rfl (one_head (by decide))) (by decide +kernel)
def rdy (md : Region.Mode) (n m : Nat) (o : Oper) (i : Nat) : Bool := !m.testBit i && o.after.all fun e => !Region.binds md e || (Nat.blt e.on n && m.testBit e.on)
def frA (md : Region.Mode) (l : List Oper) (m : Nat) (oi : Oper) (i : Nat) : List Oper → Nat → Bool
  | [], _ => true
  | oj :: t, j => (j == i || m.testBit j || oj.after.any (fun e => Region.binds md e && e.on == i) || oi.apart l.toArray oj) && frA md l m oi i t (j + 1)
def rdA (md : Region.Mode) (n m k : Nat) : List Oper → Nat → Bool
  | [], _ => true
  | o :: t, j => (j == k || !rdy md n m o j) && rdA md n m k t (j + 1)
def fqOK (md : Region.Mode) (l : List Oper) (n : Nat) : Nat → Nat → List (Nat × Bool) → Bool
  | 0, m, plan => plan.isEmpty && rdA md n m n l 0
  | _ + 1, _, [] => false
  | f + 1, m, (i, c) :: rest => (match nthO l i with
      | none => false
      | some o => rdy md n m o i && (if c then rdA md n m i l 0 else frA md l m o i l 0)) && fqOK md l n f (m ||| (1 <<< i)) rest
theorem frA_at {md : Region.Mode} {l : List Oper} {m i : Nat} {oi : Oper} : ∀ (t : List Oper) (j : Nat), frA md l m oi i t j = true → ∀ k oj, t[k]? = some oj →
    (j + k == i || m.testBit (j + k) || oj.after.any (fun e => Region.binds md e && e.on == i) || oi.apart l.toArray oj) = true
  | [], j, _, k, oj, hk => by simp at hk
  | o :: t, j, h, k, oj, hk => by
    rw [frA, Bool.and_eq_true] at h
    cases k with
    | zero => cases hk; exact h.1
    | succ k => have := frA_at t (j + 1) h.2 k oj (by simpa using hk); rwa [show j + 1 + k = j + (k + 1) by omega] at this
theorem rdA_at {md : Region.Mode} {n m k : Nat} : ∀ (t : List Oper) (j : Nat), rdA md n m k t j = true → ∀ q o, t[q]? = some o → (j + q == k || !rdy md n m o (j + q)) = true
  | [], j, _, q, o, hq => by simp at hq
  | o' :: t, j, h, q, o, hq => by
    rw [rdA, Bool.and_eq_true] at h
    cases q with
    | zero => cases hq; exact h.1
    | succ q => have := rdA_at t (j + 1) h.2 q o (by simpa using hq); rwa [show j + 1 + q = j + (q + 1) by omega] at this
/-- The marks are the mask's bits. -/
def MB (n : Nat) (a : Array Bool) (m : Nat) : Prop := a.size = n ∧ ∀ j, j < n → a[j]? = some (m.testBit j)
theorem MB.getT {n m j : Nat} {a : Array Bool} (h : MB n a m) (hj : j < n) : a.getD j true = m.testBit j := by
  simp [Array.getD_eq_getD_getElem?, h.2 j hj]
theorem MB.getF {n m j : Nat} {a : Array Bool} (h : MB n a m) : a.getD j false = (Nat.blt j n && m.testBit j) := by
  rcases Nat.lt_or_ge j n with hj | hj
  · have hb : Nat.blt j n = true := by simp [Nat.blt_eq, hj]
    simp [Array.getD_eq_getD_getElem?, h.2 j hj, hb]
  · have hb : Nat.blt j n = false := by rw [Bool.eq_false_iff]; intro hc; rw [Nat.blt_eq] at hc; omega
    have h0 : a[j]? = none := Array.getElem?_eq_none (by rw [h.1]; exact hj)
    simp [Array.getD_eq_getD_getElem?, h0, hb]
theorem MB.set {n m i : Nat} {a : Array Bool} (h : MB n a m) (hi : i < n) : MB n (a.setIfInBounds i true) (m ||| (1 <<< i)) := by
  refine ⟨by rw [Array.size_setIfInBounds]; exact h.1, fun j hj => ?_⟩
  rw [Array.getElem?_setIfInBounds, h.2 j hj, Nat.testBit_or, Nat.one_shiftLeft, Nat.testBit_two_pow]
  by_cases e : i = j
  · subst e; simp [h.1, hi]
  · simp [e]
theorem MB.zero (n : Nat) : MB n (Array.replicate n false) 0 := ⟨by simp, fun j hj => by simp [hj]⟩
theorem MB.rdy {md : Region.Mode} {l : List Oper} {m i : Nat} {a : Array Bool} (h : MB l.length a m) : i ∈ Region.ready md l.toArray a ↔ ∃ o, l[i]? = some o ∧ rdy md l.length m o i = true := by
  unfold Region.ready
  rw [List.mem_filter, List.mem_range, List.size_toArray]
  constructor
  · rintro ⟨hi, h1⟩
    rw [List.getElem?_toArray, List.getElem?_eq_getElem hi, h.getT hi] at h1
    refine ⟨l[i], List.getElem?_eq_getElem hi, ?_⟩
    simp only [h.getF] at h1
    exact h1
  · rintro ⟨o, ho, h1⟩
    have hi : i < l.length := (List.getElem?_eq_some_iff.1 ho).1
    refine ⟨hi, ?_⟩
    rw [List.getElem?_toArray, ho, h.getT hi]
    simp only [h.getF]
    exact h1
theorem MB.none {md : Region.Mode} {l : List Oper} {m k : Nat} {a : Array Bool} (h : MB l.length a m) (hr : rdA md l.length m k l 0 = true) : ∀ i ∈ Region.ready md l.toArray a, i = k := by
  intro i hi
  obtain ⟨o, ho, h1⟩ := h.rdy.1 hi
  have := rdA_at l 0 hr i o ho
  rw [Nat.zero_add, h1] at this
  simpa using this
theorem fq_fl {md : Region.Mode} {l : List Oper} : ∀ (f m : Nat) (a : Array Bool) (plan : List (Nat × Bool)), MB l.length a m → fqOK md l l.length f m plan = true → flOK md l [] f a plan [] = true
  | 0, m, a, plan, h, hk => by
    rw [fqOK, Bool.and_eq_true] at hk
    have h0 : Region.ready md l.toArray a = [] := by
      cases hc : Region.ready md l.toArray a with
      | nil => rfl
      | cons i t =>
        have hi : i ∈ Region.ready md l.toArray a := by rw [hc]; exact List.mem_cons_self
        obtain ⟨o, ho, _⟩ := h.rdy.1 hi
        have := (List.getElem?_eq_some_iff.1 ho).1
        exact absurd (h.none hk.2 i hi) (by omega)
    rw [flOK, plan2OK, hk.1, h0]; rfl
  | f + 1, m, a, [], h, hk => by rw [fqOK] at hk; cases hk
  | f + 1, m, a, (i, c) :: rest, h, hk => by
    rw [fqOK, Bool.and_eq_true] at hk
    obtain ⟨h1, h2⟩ := hk
    cases ho : nthO l i with
    | none => rw [ho] at h1; cases h1
    | some o =>
      rw [ho] at h1
      have ho' : l[i]? = some o := by rw [nthO_eq]; exact ho
      have hi : i < l.length := (List.getElem?_eq_some_iff.1 ho').1
      have h3 := Bool.and_eq_true _ _ |>.mp h1
      have hr : i ∈ Region.ready md l.toArray a := h.rdy.2 ⟨o, ho', h3.1⟩
      have ih := fq_fl f (m ||| (1 <<< i)) (a.setIfInBounds i true) rest (h.set hi) h2
      cases c with
      | false =>
        have hf : Region.free md l.toArray a i = true := by
          unfold Region.free
          rw [List.getElem?_toArray, ho']
          simp only [List.all_eq_true, List.mem_range, List.size_toArray]
          intro j hj
          have hjo : l[j]? = some l[j] := List.getElem?_eq_getElem hj
          rw [List.getElem?_toArray, hjo, h.getT hj]
          have := frA_at l 0 h3.2 j l[j] hjo
          rw [Nat.zero_add] at this
          simp only [Bool.or_eq_true] at this ⊢
          rcases this with ((h4 | h4) | h4) | h4
          · exact .inl (.inl h4)
          · exact .inl (.inr h4)
          · exact .inr (.inl h4)
          · exact .inr (.inr h4)
        rw [flOK, hf, ih, List.contains_iff_mem.2 hr]; rfl
      | true =>
        have hn := h.none h3.2
        have e1 : (Region.ready md l.toArray a).isEmpty = false := by
          cases hc : Region.ready md l.toArray a with
          | nil => rw [hc] at hr; cases hr
          | cons x t => rfl
        have e2 : (Region.ready md l.toArray a).all (fun q => q == i || ([] : List Nat).contains q) = true := by
          rw [List.all_eq_true]; intro x hx; rw [hn x hx]; simp
        rw [flOK, e1, e2, ih]; rfl
section
variable {P : Program} {l : List Oper} {a : Act} {w : World}
theorem wp_region_f5 {id : Nat} {Q : Exit → Act → World → Prop} (plan1 : List (Nat × Bool)) (ob : Nat → Obj) (CL : List Nat) (bad : List (Nat × Nat)) {bs : List BkT} (hC : AllB bs w) (hl : ∀ j ∈ ([] : List Nat), Lays P l ob j)
    (h : ∀ w', Below w.heap.size w w' → wpFl P l (AllB bs) (bs.map BG) CL ob [] w'.heap.size (wpTail P l (bs.map BG) bad (Q .normal) []) plan1 a w')
    (hok : fqOK .any l l.length plan1.length 0 plan1 = true := by kernel_rfl) (hm : P.follows .mixedOrders = true := by kernel_rfl) (hs : Region.noSelect l.toArray = true := by kernel_rfl)
    (hlen : plan1.length = l.length := by kernel_rfl) (hpa : planApart l [] plan1 = true := by kernel_rfl) (hwt : waits .any l CL bad plan1 = true := by kernel_rfl) (hnb : notBad bad plan1 [] = true := by kernel_rfl) (hsu : sundry l [] = true := by kernel_rfl) : (Code.region id l.toArray true).wp P Q a w :=
  wp_region_f4 plan1 [] [] ob CL bad hC hl h hm hs hlen (fq_fl _ _ _ _ (MB.zero _) hok) hpa hwt hnb hsu List.nodup_nil
end
end Go.Proofs.YtlomgfgedkkhkaaGreatDoor
