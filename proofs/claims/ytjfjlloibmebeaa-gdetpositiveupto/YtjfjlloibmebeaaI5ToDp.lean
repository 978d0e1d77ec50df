/- gmat: combined, Mul, Times, Dot, Gram. -/
import Derived.Test.YtjfjlloibmebeaaG4ToM7
import Derived.Test.YtjfjlloibmebeaaG3ToI2
import Derived.Test.YtjfjlloibmebeaaDig

namespace Go.Proofs.Ytjfjlloibmebeaa
open Go Go.RowKit Dig
set_option linter.unusedVariables false
section
variable {w : World} {la lb lu lv n k na nb ca cb cu cv pv pm pa pb i j : Nat} {oa ob ou ov : Option Addr} {U V : List (Int × Int)} {A B M : List (List (Int × Int))}
/-- They can be multiplied. -/
def ml2 (A B : List (List (Int × Int))) : Prop := gd A ∧ gd B ∧ wd A = B.length
instance (A B : List (List (Int × Int))) : Decidable (ml2 A B) := inferInstanceAs (Decidable (_ ∧ _ ∧ _))
set_option maxHeartbeats 4000000 in
set_option maxRecDepth 20000 in
theorem gram1 (xa : Bs w pa #[.slice oa na ca] 23) (ha : MN la w oa A) (hna : A.length = na) (hi : i < na) (hj : j < na) (hr1 : (rw_ A i).length = k) (hr2 : (rw_ A j).length = k) (hk : k ≤ 2000000) (h1 : la ≤ 10000000) :
    Calls Try.prog 43 (#[.int .i64 (i : Int), .int .i64 (j : Int)] ++ #[.pointer (some ⟨pa, 0, none⟩)]) w fun e w' => ∃ r, e = .returned r ∧ PC w' r (sumP k fun q => mP (at2 A i q) (cP (at2 A j q))).1 (sumP k fun q => mP (at2 A i q) (cP (at2 A j q))).2 ∧ Below w.heap.size w w' := by
  show Calls _ _ #[.int .i64 (i : Int), .int .i64 (j : Int), .pointer (some ⟨pa, 0, none⟩)] w _
  obtain ⟨g, off, cur, ty, fz, oi, ci, rfl, x, e, hrow⟩ := ha.row (i := i) (by omega)
  obtain ⟨g', off', cur', ty', fz', oj, cj, e0, x', e', hrow'⟩ := ha.row (i := j) (by omega)
  simp only [Option.some.injEq, Addr.mk.injEq, and_true] at e0
  obtain ⟨rfl, rfl⟩ := e0
  obtain rfl : cur = cur' := by
    have h7 := x; have h8 := x'
    unfold Bs at h7 h8
    rw [h7] at h8
    simp only [Option.some.injEq, Obj.cells.injEq] at h8
    exact h8.1
  rw [hr1] at e
  rw [hr2] at e'
  have HR := hide hrow
  have HR' := hide hrow'
  clear ha hrow hrow' x'
  go_enter Try.func43, Try.ntmps43
  have hs := St.nil w
  have lt_ba := xa.lt
  have xaz := xa
  have lt_kA := x.lt
  have xz := x
  refine wp_seq_k ?_
  intro K1 hK1
  refine rg [0] ?_
  refine sq ?_
  refine .al hs ?_; clear hs; intro p_b1 w_1 hs n1 kb_b1
  replace xa := xa.bl n1; replace x := x.bl n1
  apply wpSq_end
  refine hK1 _ _ ?_
  refine wp_seq_k ?_
  intro K2 hK2
  refine wp_region_f4 [(0, false), (1, false), (2, false), (3, false), (4, false), (5, false), (6, false), (7, false), (8, true)] [9] [] (fun _ => default) [0, 99, 99, 1, 0, 99, 99, 1, 99, 99] [] (.c xa (.c x .n)) fn fun w_2 n2 => ?_
  replace xa := xa.bl n2; replace x := x.bl n2; replace hs := hs.bl n2
  refine f1 ?_
  refine fmv ?_
  refine f0 ?_
  apply wpFl_ld rfl rfl; (case h1 => intro w' hC K hK; have c0 := Bs.cell hC ((off + i)) e; go_big_op; exact hK); iterate 4 kernel_rfl
  refine f1 ?_
  refine fmv ?_
  refine f0 ?_
  apply wpFl_ld rfl rfl; (case h1 => intro w' hC K hK; have c0 := Bs.cell hC ((off + j)) e'; go_big_op; exact hK); iterate 4 kernel_rfl
  refine fl fun w_3 n3 => ?_
  replace xa := xa.bl n3; replace x := x.bl n3; replace hs := hs.bl n3
  intro K hK
  have hb := hs.b
  go_big_op
  go_fit (product_any (HR.out.bl stab_n hb) (HR'.out.bl stab_n hb) hr1 hr2 hk h1 h1)
  rintro e w_4 ⟨_, rfl, ⟨n_ra, o_ra, k_ra, c_ra, n_rb, o_rb, k_rb, c_rb, rfl, r1, r2⟩, hb_4⟩
  clear hb
  replace xa := xa.bl hb_4; replace x := x.bl hb_4; replace hs := hs.bl hb_4
  refine hK _ _ rfl ⟨hb_4, (And.intro xa (And.intro x trivial))⟩ ?_
  clear hK K
  refine e0 hs ?_; clear hs; intro w_5 hs n5
  replace xa := xa.bl n5; replace x := x.bl n5
  refine tl ?_
  refine .s4o hs.g0 (fun _ => hs.u0 kb_b1) ?_ (e := fun _ hs hO => (And.intro (xaz.bl hs.b) (And.intro (x.frame hO (Nat.ne_of_lt (Nat.lt_of_lt_of_le lt_kA kb_b1))) True.intro))); clear hs; intro w_6 hs hd6 ho6
  replace xa := xa.frame ho6 (Nat.ne_of_lt (Nat.lt_of_lt_of_le lt_ba kb_b1)); replace x := x.frame ho6 (Nat.ne_of_lt (Nat.lt_of_lt_of_le lt_kA kb_b1))
  apply wpTail_end
  refine hK2 _ _ ?_
  refine wp_ret ?_
  try dsimp only [Exit.then, Exit.inBlock]
  obtain ⟨r0_0, r0_1, r0_2, r0_3⟩ := hs.g0.f4
  refine bodyPost_ret (v := (.agg #[.bool n_ra, .slice o_ra k_ra c_ra, .bool n_rb, .slice o_rb k_rb c_rb])) (by simp [results, Try.results43, go_sem, r0_0, r0_1, r0_2, r0_3]) rfl ?_
  have k4_6 := (kb n5).o hd6 ho6
  replace r1 := r1.k k4_6
  replace r2 := r2.k k4_6
  exact ⟨_, rfl, .mk' r1 r2, hs.b⟩
set_option maxHeartbeats 4000000 in
set_option maxRecDepth 20000 in
theorem mGram_ok (ha : MN la w oa A) (hna : A.length = na) (h : gd A) (hk : wd A = k) (h1 : la ≤ 10000000) :
    Calls Try.prog 17 #[.slice oa na ca] w fun e w' => ∃ o c rs, e = .returned (.tuple #[.slice o na c, .int .i64 0]) ∧ rs.length = na ∧ St w (Mx w.heap.size (.slice o na c) rs) w' ∧ RD w' rs (mkM na na fun i j => sumP k fun q => mP (at2 A i q) (cP (at2 A j q))) ∧ Below w.heap.size w w' := by
  have HA := hide ha
  have hn64 : na ≤ 64 := by have := h.1; omega
  have hk64 : k ≤ 64 := by have := h.2.1; omega
  have HR := hide (show ∀ i, i < na → (rw_ A i).length = k from fun i hi => by rw [gd_row h (by omega)]; exact hk)
  clear ha
  go_enter Try.func17, Try.ntmps17
  have hs := St.nil w
  refine wp_seq_k ?_
  intro K1 hK1
  refine rg [0, 1, 2] ?_
  refine sq ?_
  refine .al hs ?_; clear hs; intro p_b1 w_1 hs n1 kb_b1
  refine sq ?_
  refine .mv ?_
  refine sq ?_
  refine .mv ?_
  apply wpSq_end
  refine hK1 _ _ ?_
  refine wp_seq_k ?_
  intro K2 hK2
  refine wp_seq_k ?_
  intro K3 hK3
  refine rg [0, 1, 2] ?_
  refine sq ?_
  refine .r1 hs.g0.f1 ?_
  refine sq ?_
  intro K hK
  have hb := hs.b
  go_big_op
  go_fit (good_yes (HA.out.bl stab_n hb) hna (by omega) h)
  rintro e w_2 ⟨rfl, hb_2⟩
  clear hb
  replace hs := hs.bl hb_2
  refine hK _ _ rfl trivial ?_
  clear hK K
  refine sq ?_
  refine .r0 ?_
  apply wpSq_end
  refine hK3 _ _ ?_
  refine cf ?_
  refine wp_skip ?_
  refine hK2 _ _ ?_
  refine wp_seq_k ?_
  intro K4 hK4
  refine rg [0, 1, 2, 3, 4, 5, 6, 7] ?_
  refine sq ?_
  refine .r1 hs.g0.f1 ?_
  refine sq ?_
  refine .r0 ?_
  refine sq ?_
  refine .r1 hs.g0.f1 ?_
  refine sq ?_
  refine .r0 ?_
  refine sq ?_
  refine .r0 ?_
  refine sq ?_
  intro K hK
  have x_b1 := hs.g0
  have hb := hs.b
  go_big_op
  go_fit (matrix_any (F := fun i j ↦ sumP k fun q ↦ mP (at2 A i q) (cP (at2 A j q))) (fun _ _ _ ↦ by kernel_rfl) (fun i j w1 hi hj h3 ↦ gram1 (x_b1.bl h3) (HA.out.bl stab_n (hb.trans (h3.mono hb.size))) hna hi hj (HR.out i hi) (HR.out j hj) (by omega) h1) (by omega) (by omega))
  rintro e w_3 ⟨o_r, c_r, rs_r, rfl, hl_r, hs_r, d_r, hb_3⟩
  clear x_b1 hb
  replace hs := hs.mx hl_r hs_r; simp only [List.cons_append, List.nil_append] at hs
  refine hK _ _ rfl trivial ?_
  clear hK K
  refine sq ?_
  refine .mv ?_
  refine sq ?_
  refine .mv ?_
  apply wpSq_end
  refine hK4 _ _ ?_
  refine wp_ret ?_
  try dsimp only [Exit.then, Exit.inBlock]
  refine bodyPost_ret (v := (.tuple #[(.slice o_r na c_r), (.int .i64 0)])) (by simp [results, Try.results17, go_sem]) rfl ?_
  exact ⟨_, _, _, rfl, hl_r, (by unfold Mx; rw [hl_r]; exact hs.sub (.cons_cons _ (.cons _ (List.Sublist.refl _)))), d_r, hs.b⟩
set_option maxHeartbeats 4000000 in
set_option maxRecDepth 20000 in
theorem mGram_bad (ha : MN la w oa A) (hna : A.length = na) (h : ¬ gd A) (hla : na ≤ 1000000000) :
    Calls Try.prog 17 #[.slice oa na ca] w fun e w' => e = .returned (.tuple #[.slice none 0 0, .int .i64 4]) ∧ Below w.heap.size w w' := by
  have HA := hide ha
  clear ha
  go_enter Try.func17, Try.ntmps17
  have hs := St.nil w
  refine wp_seq_k ?_
  intro K1 hK1
  refine rg [0, 1, 2] ?_
  refine sq ?_
  refine .al hs ?_; clear hs; intro p_b1 w_1 hs n1 kb_b1
  refine sq ?_
  refine .mv ?_
  refine sq ?_
  refine .mv ?_
  apply wpSq_end
  refine hK1 _ _ ?_
  refine wp_seq_k ?_
  intro K2 hK2
  refine wp_seq_k ?_
  intro K3 hK3
  refine rg [0, 1, 2] ?_
  refine sq ?_
  refine .r1 hs.g0.f1 ?_
  refine sq ?_
  intro K hK
  have hb := hs.b
  go_big_op
  go_fit (good_no (HA.out.bl stab_n hb) hna hla h)
  rintro e w_2 ⟨rfl, hb_2⟩
  clear hb
  replace hs := hs.bl hb_2
  refine hK _ _ rfl trivial ?_
  clear hK K
  refine sq ?_
  refine .r0 ?_
  apply wpSq_end
  refine hK3 _ _ ?_
  refine ct ?_
  refine wp_seq_k ?_
  intro K4 hK4
  refine rg [0, 1] ?_
  refine sq ?_
  refine .mv ?_
  refine sq ?_
  refine .mv ?_
  apply wpSq_end
  refine hK4 _ _ ?_
  refine wp_ret ?_
  try dsimp only [Exit.then, Exit.inBlock]
  refine bodyPost_ret (v := (.tuple #[(.slice none 0 0), (.int .i64 4)])) (by simp [results, Try.results17, go_sem]) rfl ?_
  exact ⟨rfl, hs.b⟩
end
end Go.Proofs.Ytjfjlloibmebeaa


/- The law's g, Simple, told, list, awake (gmat). -/
namespace Go.Proofs.Ytjfjlloibmebeaa
open Go Go.RowKit Dig
set_option linter.unusedVariables false
theorem zlen_small8 {z : Int} (h : z.natAbs < 4294967296) : (dig z.natAbs).length ≤ 1 := dig_length_le (by rw [show pw 1 = 4294967296 from rfl]; exact h)
theorem sc2 {w : World} {p : Nat} {ty : TypeId} {fz : Nat × Nat} {n1 n2 n3 n4 : Bool} {o1 o2 o3 o4 : Option Addr} {k1 c1 k2 c2 k3 c3 k4 c4 : Nat} {x y z u : Int}
    (hx : Bs w p #[.bool n1, .slice o1 k1 c1, .bool n2, .slice o2 k2 c2, .bool n3, .slice o3 k3 c3, .bool n4, .slice o4 k4 c4] ty fz)
    (h1 : ZC w (.agg #[.bool n1, .slice o1 k1 c1]) x) (h2 : ZC w (.agg #[.bool n2, .slice o2 k2 c2]) y) (h3 : ZC w (.agg #[.bool n3, .slice o3 k3 c3]) z) (h4 : ZC w (.agg #[.bool n4, .slice o4 k4 c4]) u) : SC w (some ⟨p, 0, none⟩) [(x, y), (z, u)] :=
  .inr ⟨p, 0, _, ty, fz, rfl, hx, fun i hi => match i, hi with
    | 0, _ => ⟨n1, o1, k1, c1, n2, o2, k2, c2, rfl, rfl, rfl, rfl, h1, h2⟩
    | 1, _ => ⟨n3, o3, k3, c3, n4, o4, k4, c4, rfl, rfl, rfl, rfl, h3, h4⟩⟩
theorem mc2 {w : World} {p : Nat} {ty : TypeId} {fz : Nat × Nat} {o1 o2 : Option Addr} {c1 c2 : Nat} {r1 r2 : List (Int × Int)}
    (hx : Bs w p #[.slice o1 r1.length c1, .slice o2 r2.length c2] ty fz) (h1 : SC w o1 r1) (h2 : SC w o2 r2) : MC w (some ⟨p, 0, none⟩) [r1, r2] :=
  .inr ⟨p, 0, _, ty, fz, rfl, hx, fun i hi => match i, hi with
    | 0, _ => ⟨o1, c1, rfl, h1⟩
    | 1, _ => ⟨o2, c2, rfl, h2⟩⟩
theorem MC.bl {w w' : World} {o : Option Addr} {Ms : List (List (Int × Int))} (h : MC w o Ms) (hb : Below w.heap.size w w') : MC w' o Ms := MV.bl stab_c h hb
theorem SC.bl {w w' : World} {o : Option Addr} {ps : List (Int × Int)} (h : SC w o ps) (hb : Below w.heap.size w w') : SC w' o ps := SV.bl stab_c h hb
theorem gd_simple : gd [[(1, 0), (2, 0)], [(0, 1), (0, 0)]] := ⟨by decide, by decide, by decide⟩
theorem bd_small {Ms : List (List (Int × Int))} (h : ∀ r ∈ Ms, ∀ p ∈ r, p.1.natAbs < 4294967296 ∧ p.2.natAbs < 4294967296) : BdM 1 Ms := fun r hr p hp => ⟨zlen_small8 (h r hr p hp).1, zlen_small8 (h r hr p hp).2⟩
section
variable {w : World} {l n k c1 c2 : Nat} {o1 o2 : Option Addr} {Ms : List (List (Int × Int))} {ps : List (Int × Int)}
end
end Go.Proofs.Ytjfjlloibmebeaa


/- gmat: Length. -/
namespace Go.Proofs.Ytjfjlloibmebeaa
open Go Go.RowKit Dig
set_option linter.unusedVariables false
def nP (p : Int × Int) : Int := p.1 * p.1 + p.2 * p.2
def lenS : Nat → (Nat → Int) → Int
  | 0, _ => 0
  | k + 1, f => lenS k f + f k
theorem zl_nP {p : Int × Int} {l : Nat} (h : zl l p) : (dig (nP p).natAbs).length ≤ l + l + 1 := zlen_addM (zlen_mul h.1 h.1) (zlen_mul h.2 h.2)
theorem zl_len {f : Nat → Int} {l : Nat} : ∀ {k : Nat}, (∀ i, i < k → (dig (f i).natAbs).length ≤ l) → (dig (lenS k f).natAbs).length ≤ l + k
  | 0, _ => by show (dig (Int.natAbs 0)).length ≤ _; rw [show dig (Int.natAbs 0) = [] from dig_eq_nil.2 rfl]; exact Nat.zero_le _
  | k + 1, h => zlen_addM (l := l + k) (zl_len fun i hi => h i (by omega)) (Nat.le_trans (h k (by omega)) (Nat.le_add_right l k))
section
variable {w : World} {l n c : Nat} {ov : Option Addr} {V : List (Int × Int)}
set_option maxHeartbeats 4000000 in
set_option maxRecDepth 20000 in
theorem mLength_any (hv : SN l w ov V) (hn : V.length = n) (hl : n ≤ 2000000) (h1 : l ≤ 10000000) :
    Calls Try.prog 11 #[.slice ov n c] w fun e w' => ∃ r, e = .returned r ∧ ZC w' r (lenS n fun i => nP (at1 V i)) ∧ Below w.heap.size w w' := by
  obtain ⟨f, hf⟩ : ∃ f : Nat → Int, f = fun i => nP (at1 V i) := ⟨_, rfl⟩
  rw [← hf]
  have HF := hide hf
  have HV := hide hv
  have HU := hide hv.bd
  clear hv hf
  go_enter Try.func11, Try.ntmps11
  have hs := St.nil w
  refine wp_seq_k ?_
  intro K1 hK1
  refine rg [0] ?_
  refine sq ?_
  refine .al hs ?_; clear hs; intro p_b1 w_1 hs n1 kb_b1
  apply wpSq_end
  refine hK1 _ _ ?_
  refine wp_seq_k ?_
  intro K2 hK2
  refine rg [0, 1, 2] ?_
  refine sq ?_
  refine .r0 ?_
  refine sq ?_
  refine .al hs ?_; clear hs; intro p_b2 w_2 hs n2 kb_b2
  refine sq ?_
  refine .s2 hs.g0 (fun _ => hs.u0 kb_b2) ?_; clear hs; intro w_3 hs hd3 ho3
  apply wpSq_end
  refine hK2 _ _ ?_
  refine wp_seq_k ?_
  intro K3 hK3
  refine wp_seq_k ?_
  intro K4 hK4
  refine rg [0, 1, 2] ?_
  refine sq ?_
  refine .mv ?_
  refine sq ?_
  refine .r0 ?_
  refine sq ?_
  refine .mv ?_
  apply wpSq_end
  refine hK4 _ _ ?_
  refine wp_block ?_
  have hd4 := hs.2.1
  go_loopg [9] n (fun kk s9 wr => ∃ (i : Nat) (n1 : Bool) (o1 : Option Addr) (k1 q1 : Nat), s9 = .int .i64 (i : Int) ∧ i + kk = n ∧ St w [bx p_b2 #[.bool n1, .slice o1 k1 q1] 34, bx p_b1 #[.bool false, .slice none 0 0] 34] wr ∧ ZC wr (.agg #[.bool n1, .slice o1 k1 q1]) (lenS i f))
  case atStart => exact ⟨0, false, none, 0, 0, rfl, by omega, hs, zc_zero _⟩
  case round =>
  clear hs
  obtain ⟨i, n1, o1, k1, q1, rfl, hik, hs, s1⟩ := hrel
  by_cases hi : i < n
  · obtain ⟨g, off, cur, ty, fz, a1, a2, a3, a4, a5, a6, a7, a8, rfl, x, e1, e2, e3, e4, x1, x2⟩ := HV.out.op (j := i) (by omega)
    replace x1 : ZN wr (.agg #[.bool a1, .slice a2 a3 a4]) (at1 V i).1 l := x1.bl hs.b
    replace x2 : ZN wr (.agg #[.bool a5, .slice a6 a7 a8]) (at1 V i).2 l := x2.bl hs.b
    have lt_kV := x.lt
    replace x := x.bl hs.b
    have Ls1 := hide (zl_len (f := f) (l := l + l + 1) (k := i) fun j hj => by rw [HF.out]; exact zl_nP HU.out.at1)
    have HE := hide (show lenS (i + 1) f = lenS i f + nP (at1 V i) from by rw [show f = fun i => nP (at1 V i) from HF.out]; rfl)
    generalize at1 V i = u at *
    generalize lenS i f = S at *
    refine wp_seq_k ?_
    intro K5 hK5
    refine rg [0] ?_
    refine sq ?_
    refine .r0 ?_
    apply wpSq_end
    refine hK5 _ _ ?_
    refine wp_seq_k ?_
    intro K6 hK6
    refine ct ?_
    refine wp_skip ?_
    refine hK6 _ _ ?_
    refine wp_seq_k ?_
    intro K7 hK7
    refine wp_block ?_
    refine wp_seq_k ?_
    intro K8 hK8
    refine rg [0, 1, 2, 3] ?_
    refine sq ?_
    refine .r0 ?_
    refine sq ?_
    refine .r4 ⟨x.cell _ e1, x.cell _ e2, x.cell _ e3, x.cell _ e4⟩ ?_
    refine sq ?_
    refine .al hs ?_; clear hs; intro p_b3 w_5 hs n5 kb_b3
    replace x := x.bl n5
    refine sq ?_
    refine .s4 hs.g0 (fun _ => hs.u0 kb_b3) ?_; clear hs; intro w_6 hs hd6 ho6
    replace x := x.frame ho6 (Nat.ne_of_lt (Nat.lt_of_lt_of_le lt_kV kb_b3))
    apply wpSq_end
    refine hK8 _ _ ?_
    refine wp_region_f4 [(0, false), (1, false), (2, true), (3, true)] [4] [] (fun _ => default) [0, 1, 99, 99, 99] [(4, 0)] (.c hs.g1 (.c hs.g0 .n)) fn fun w_7 n7 => ?_
    replace x := x.bl n7; replace hs := hs.bl n7
    refine f2 ?_
    refine f4 ?_
    refine fl fun w_8 n8 => ?_
    replace x := x.bl n8; replace hs := hs.bl n8
    intro K hK
    have k0_4 := (((kb n5).o hd6 ho6).b n7).b n8
    replace x1 := x1.k k0_4
    replace x2 := x2.k k0_4
    go_big_op
    go_fit (gNorm_any (PN.mk' x1 x2) (by omega) (by omega) )
    rintro e w_9 ⟨v_a, rfl, a, hb_9⟩
    replace x := x.bl hb_9; replace hs := hs.bl hb_9
    obtain ⟨n_a, o_a, k_a, c_a, rfl⟩ := a.open2
    have La := hide (a.lenOf (zlen_add (zlen_mul (x1.len) (x1.len)) (zlen_mul (x2.len) (x2.len))))
    refine hK _ _ rfl ⟨hb_9, (And.intro hs.g1 (And.intro hs.g0 trivial))⟩ ?_
    clear hK K
    refine fl fun w_10 n10 => ?_
    replace x := x.bl n10; replace hs := hs.bl n10
    intro K hK
    have k0_6 := (k0_4.b hb_9).b n10
    replace s1 := s1.k k0_6
    have k5_6 := kb n10
    replace a := a.k k5_6
    go_big_op
    go_fit (zadd_any (s1.zn Ls1.out) (a.zn La.out) (by omega) (by omega) )
    rintro e w_11 ⟨v_b, rfl, b, hb_11⟩
    replace x := x.bl hb_11; replace hs := hs.bl hb_11
    replace b := b.rd
    obtain ⟨n_b, o_b, k_b, c_b, rfl⟩ := b.open2
    have Lb := hide (b.lenOf (zlen_add (Ls1.out) (La.out)))
    refine hK _ _ rfl ⟨hb_11, (And.intro hs.g1 (And.intro hs.g0 trivial))⟩ ?_
    clear hK K
    refine e0 hs ?_; clear hs; intro w_12 hs n12
    replace x := x.bl n12
    refine tl ?_
    refine .s2 hs.g1 (fun _ => hs.u1 kb_b2) ?_ (e := fun _ hs => (And.intro True.intro (And.intro hs.g0 True.intro))); clear hs; intro w_13 hs hd13 ho13
    replace x := x.frame ho13 (Nat.ne_of_lt (Nat.lt_of_lt_of_le lt_kV kb_b2))
    apply wpTail_end
    refine hK7 _ _ ?_
    refine rg [0, 1] ?_
    refine sq ?_
    refine .r0 ?_
    refine sq ?_
    refine .mv ?_
    apply wpSq_end
    refine ‹∀ (a' : Act) (w' : World), Handed _ _ a' w' → _› _ _ ?_
    have k7_9 := (kb n12).o hd13 ho13
    replace b := b.k k7_9
    go_roundg (gk - 1)
    case rel => exact ⟨i + 1, _, _, _, _, by rfl, by omega, hs.sub (.cons _ (List.Sublist.refl _)), by rw [HE.out]; exact b⟩
    case measure => omega
  · obtain rfl : n = i := by omega
    have HX := hide hi
    refine wp_seq_k ?_
    intro K5 hK5
    refine rg [0] ?_
    refine sq ?_
    refine .r0 ?_
    apply wpSq_end
    refine hK5 _ _ ?_
    refine wp_seq_k ?_
    intro K6 hK6
    refine cf ?_
    refine wp_exit ?_
    refine hK3 _ _ ?_
    refine wp_seq_k ?_
    intro K7 hK7
    refine rg [0, 1] ?_
    refine sq ?_
    refine .r2 hs.g0.f2 ?_
    refine sq ?_
    refine .s2 hs.g1 (fun _ => hs.u1 kb_b1) ?_; clear hs; intro w_5 hs hd5 ho5
    apply wpSq_end
    refine hK7 _ _ ?_
    refine wp_ret ?_
    try dsimp only [Exit.then, Exit.inBlock]
    obtain ⟨r0_0, r0_1⟩ := hs.g1.f2
    refine bodyPost_ret (v := (.agg #[.bool n1, .slice o1 k1 q1])) (by simp [results, Try.results11, go_sem, r0_0, r0_1]) rfl ?_
    have k0_1 := ko hd5 ho5
    replace s1 := s1.k k0_1
    exact ⟨_, rfl, s1, hs.b⟩
end
end Go.Proofs.Ytjfjlloibmebeaa


/- Matrices' mathematics: brackets, Adj of products, Gram, lengths. -/
namespace Go.Proofs.Ytjfjlloibmebeaa
open Go Go.RowKit Dig
set_option linter.unusedVariables false
section
variable {a b c d : Int × Int} {f g : Nat → Int × Int} {k n r i j : Nat} {F G : Nat → Nat → Int × Int} {A B C : List (List (Int × Int))}
theorem mP_assoc : mP (mP a b) c = mP a (mP b c) := Prod.ext (by simp only [mP]; grind) (by simp only [mP]; grind)
theorem mP_comm : mP a b = mP b a := Prod.ext (by simp only [mP]; grind) (by simp only [mP]; grind)
theorem mP_addl : mP (aP a b) c = aP (mP a c) (mP b c) := Prod.ext (by simp only [mP, aP]; grind) (by simp only [mP, aP]; grind)
theorem mP_addr : mP a (aP b c) = aP (mP a b) (mP a c) := Prod.ext (by simp only [mP, aP]; grind) (by simp only [mP, aP]; grind)
theorem aP_four : aP (aP a b) (aP c d) = aP (aP a c) (aP b d) := Prod.ext (by simp only [aP]; grind) (by simp only [aP]; grind)
theorem cP_mP : cP (mP a b) = mP (cP a) (cP b) := Prod.ext (by simp only [mP, cP]; grind) (by simp only [mP, cP]; grind)
theorem cP_aP : cP (aP a b) = aP (cP a) (cP b) := Prod.ext rfl (by simp only [aP, cP]; grind)
theorem cP_cP : cP (cP a) = a := Prod.ext rfl (by simp only [cP]; grind)
theorem mP_0l : mP (0, 0) c = (0, 0) := Prod.ext (by simp only [mP]; grind) (by simp only [mP]; grind)
theorem mP_0r : mP c (0, 0) = (0, 0) := Prod.ext (by simp only [mP]; grind) (by simp only [mP]; grind)
theorem sumP_congr : ∀ {k : Nat}, (∀ i, i < k → f i = g i) → sumP k f = sumP k g
  | 0, _ => rfl
  | k + 1, h => by rw [sumP, sumP, sumP_congr fun i hi => h i (by omega), h k (by omega)]
theorem sumP_l : ∀ {k : Nat}, mP c (sumP k f) = sumP k fun i => mP c (f i)
  | 0 => mP_0r
  | k + 1 => by rw [sumP, sumP, mP_addr, sumP_l]
theorem sumP_r : ∀ {k : Nat}, mP (sumP k f) c = sumP k fun i => mP (f i) c
  | 0 => mP_0l
  | k + 1 => by rw [sumP, sumP, mP_addl, sumP_r]
theorem sumP_add : ∀ {k : Nat}, (sumP k fun i => aP (f i) (g i)) = aP (sumP k f) (sumP k g)
  | 0 => rfl
  | k + 1 => by rw [sumP, sumP, sumP, sumP_add, aP_four]
theorem sumP_0 : ∀ {k : Nat}, (sumP k fun _ => ((0 : Int), (0 : Int))) = (0, 0)
  | 0 => rfl
  | k + 1 => by rw [sumP, sumP_0]; rfl
theorem sumP_comm : ∀ {k n : Nat}, (sumP k fun i => sumP n fun j => F i j) = sumP n fun j => sumP k fun i => F i j
  | 0, n => sumP_0.symm
  | k + 1, n => by rw [sumP, sumP_comm, ← sumP_add]; rfl
theorem cP_sum : ∀ {k : Nat}, cP (sumP k f) = sumP k fun i => cP (f i)
  | 0 => rfl
  | k + 1 => by rw [sumP, sumP, cP_aP, cP_sum]
theorem dot_len : ∀ {k : Nat}, (sumP k fun i => mP (f i) (cP (f i))) = (lenS k fun i => nP (f i), 0)
  | 0 => rfl
  | k + 1 => by rw [sumP, dot_len]; exact Prod.ext (by simp only [aP, mP, cP, nP, lenS]; grind) (by simp only [aP, mP, cP]; grind)
theorem len_mkM : (mkM r k F).length = r := by simp [mkM]
theorem mkM_eq {r' k' : Nat} (hr : r = r') (hk : k = k') (h : ∀ i, i < r → ∀ j, j < k → F i j = G i j) : mkM r k F = mkM r' k' G := by
  subst hr hk
  exact List.map_congr_left fun i hi => List.map_congr_left fun j hj => h i (List.mem_range.1 hi) j (List.mem_range.1 hj)
end
end Go.Proofs.Ytjfjlloibmebeaa


/- Determinants by the last column; what is linear and alternating is a multiple of them; bordered minors, one step of an elimination without fractions; ranks. -/
namespace Go.Proofs.Ytjfjlloibmebeaa
namespace Dt
open Lean.Grind
set_option linter.unusedVariables false
variable {R : Type} [CommRing R]
/-- The sum of the first n. -/
def sm (n : Nat) (f : Nat → R) : R := match n with
  | 0 => 0
  | n + 1 => sm n f + f n
theorem sm_congr {n : Nat} {f g : Nat → R} (h : ∀ i, i < n → f i = g i) : sm n f = sm n g := by
  induction n with
  | zero => rfl
  | succ n ih => rw [sm, sm, ih (fun i hi => h i (by omega)), h n (by omega)]
theorem sm_zero {n : Nat} {f : Nat → R} (h : ∀ i, i < n → f i = 0) : sm n f = 0 := by
  induction n with
  | zero => rfl
  | succ n ih => rw [sm, ih (fun i hi => h i (by omega)), h n (by omega)]; grind
theorem sm_add {n : Nat} {f g : Nat → R} : sm n (fun i => f i + g i) = sm n f + sm n g := by
  induction n with
  | zero => simp only [sm]; grind
  | succ n ih => simp only [sm]; rw [ih]; grind
theorem sm_mul {n : Nat} {a : R} {f : Nat → R} : sm n (fun i => a * f i) = a * sm n f := by
  induction n with
  | zero => simp only [sm]; grind
  | succ n ih => simp only [sm]; rw [ih]; grind
/-- Two of them differ from nought. -/
theorem sm_one {n k : Nat} {f : Nat → R} (hk : k < n) (h : ∀ i, i < n → i ≠ k → f i = 0) : sm n f = f k := by
  induction n with
  | zero => omega
  | succ n ih =>
    rw [sm]
    by_cases e : k = n
    · subst e; rw [sm_zero fun i hi => h i (by omega) (by omega)]; grind
    · rw [ih (by omega) fun i hi => h i (by omega), h n (by omega) (by omega)]; grind
theorem sm_two {n k l : Nat} {f : Nat → R} (hk : k < l) (hl : l < n) (h : ∀ i, i < n → i ≠ k → i ≠ l → f i = 0) : sm n f = f k + f l := by
  induction n with
  | zero => omega
  | succ n ih =>
    rw [sm]
    by_cases e : l = n
    · subst e; rw [sm_one hk fun i hi h1 => h i (by omega) h1 (by omega)]
    · rw [ih (by omega) fun i hi => h i (by omega), h n (by omega) (by omega) (by omega)]; grind
/-- One, or one less than nought. -/
def sg (n : Nat) : R := if n % 2 = 0 then 1 else -1
def skip (i r : Nat) : Nat := if r < i then r else r + 1
/-- The determinant of the first n rows and columns, by the last column. -/
def det : Nat → (Nat → Nat → R) → R
  | 0, _ => 1
  | n + 1, A => sm (n + 1) fun i => sg (i + n) * (A i n * det n fun r => A (skip i r))
theorem det_congr {n : Nat} {A B : Nat → Nat → R} (h : ∀ i, i < n → ∀ c, c < n → A i c = B i c) : det n A = det n B := by
  induction n generalizing A B with
  | zero => rfl
  | succ n ih =>
    rw [det, det]
    refine sm_congr fun i hi => ?_
    rw [h i hi n (by omega), ih fun r hr c hc => h _ (by unfold skip; split <;> omega) c (by omega)]
def upd (A : Nat → Nat → R) (i : Nat) (x : Nat → R) : Nat → Nat → R := fun r => if r = i then x else A r
theorem det_lin {n : Nat} {A B C : Nat → Nat → R} {k : Nat} {a b : R} (hk : k < n) (h0 : ∀ c, c < n → A k c = a * B k c + b * C k c) (h1 : ∀ i, i < n → i ≠ k → ∀ c, c < n → A i c = B i c ∧ A i c = C i c) : det n A = a * det n B + b * det n C := by
  induction n generalizing A B C k with
  | zero => omega
  | succ n ih =>
    rw [det, det, det, ← sm_mul, ← sm_mul, ← sm_add]
    refine sm_congr fun i hi => ?_
    by_cases e : i = k
    · subst e
      rw [h0 n (by omega), det_congr (A := fun r => A (skip i r)) (B := fun r => B (skip i r)) fun r hr c hc => (h1 _ (by unfold skip; split <;> omega) (by unfold skip; split <;> omega) c (by omega)).1,
        det_congr (A := fun r => C (skip i r)) (B := fun r => B (skip i r)) fun r hr c hc => by rw [← (h1 _ (by unfold skip; split <;> omega) (by unfold skip; split <;> omega) c (by omega)).1, ← (h1 _ (by unfold skip; split <;> omega) (by unfold skip; split <;> omega) c (by omega)).2]]
      grind
    · have e2 := h1 i hi e n (by omega)
      have e3 : skip i (if k < i then k else k - 1) = k := by unfold skip; split <;> (try split) <;> omega
      rw [ih (A := fun r => A (skip i r)) (B := fun r => B (skip i r)) (C := fun r => C (skip i r)) (k := if k < i then k else k - 1) (by split <;> omega) (by simp only [e3]; exact fun c hc => h0 c (by omega))
        (fun r hr hne c hc => h1 _ (by unfold skip; split <;> omega) (fun h => hne (by unfold skip at h; split at h <;> split <;> omega)) c (by omega)), e2.2]
      have e4 : B i n = C i n := e2.1.symm.trans e2.2
      rw [e4]; grind
/-- Two rows side by side are one. -/
theorem det_adj {n : Nat} {A : Nat → Nat → R} {k : Nat} (hk : k + 1 < n) (h : ∀ c, c < n → A k c = A (k + 1) c) : det n A = 0 := by
  induction n generalizing A k with
  | zero => omega
  | succ n ih =>
    rw [det, sm_two (k := k) (l := k + 1) (by omega) (by omega)]
    · rw [h n (by omega), det_congr (A := fun r => A (skip k r)) (B := fun r => A (skip (k + 1) r)) fun r hr c hc => by
        unfold skip
        by_cases e : r = k
        · subst e; simp only [Nat.lt_irrefl, if_false, Nat.lt_succ_self, if_true]; exact (h c (by omega)).symm
        · by_cases e2 : r < k
          · rw [if_pos e2, if_pos (by omega)]
          · rw [if_neg e2, if_neg (by omega)]]
      have : (sg (k + 1 + n) : R) = - sg (k + n) := by
        unfold sg
        by_cases e : (k + n) % 2 = 0
        · rw [if_pos e, if_neg (by omega)]
        · rw [if_neg e, if_pos (by omega)]; grind
      rw [this]; grind
    · intro i hi h1 h2
      rw [ih (A := fun r => A (skip i r)) (k := if k < i then k else k - 1) (by split <;> omega)]
      · grind
      · intro c hc
        have e1 : skip i (if k < i then k else k - 1) = k := by unfold skip; split <;> (try split) <;> omega
        have e2 : skip i ((if k < i then k else k - 1) + 1) = k + 1 := by unfold skip; split <;> (try split) <;> omega
        simp only [e1, e2]; exact h c (by omega)
/-- Linear in each row, and nought where two are one. -/
structure Alt (n : Nat) (F : (Nat → Nat → R) → R) : Prop where
  congr : ∀ {A B : Nat → Nat → R}, (∀ i, i < n → ∀ c, c < n → A i c = B i c) → F A = F B
  lin : ∀ {A B C : Nat → Nat → R} {k : Nat} {a b : R}, k < n → (∀ c, c < n → A k c = a * B k c + b * C k c) → (∀ i, i < n → i ≠ k → ∀ c, c < n → A i c = B i c ∧ A i c = C i c) → F A = a * F B + b * F C
  alt : ∀ {A : Nat → Nat → R} {i j : Nat}, i < j → j < n → (∀ c, c < n → A i c = A j c) → F A = 0
/-- Two rows exchanged. -/
def swp (i j r : Nat) : Nat := if r = i then j else if r = j then i else r
theorem swp_swp {i j r : Nat} : swp i j (swp i j r) = r := by unfold swp; split <;> split <;> (try split) <;> omega
section
variable {n : Nat} {F : (Nat → Nat → R) → R}
theorem swap_of (h1 : ∀ {A B C : Nat → Nat → R} {k : Nat} {a b : R}, k < n → (∀ c, c < n → A k c = a * B k c + b * C k c) → (∀ i, i < n → i ≠ k → ∀ c, c < n → A i c = B i c ∧ A i c = C i c) → F A = a * F B + b * F C)
    {i j : Nat} (hij : i ≠ j) (hi : i < n) (hj : j < n) (h2 : ∀ {A : Nat → Nat → R}, (∀ c, c < n → A i c = A j c) → F A = 0) (A : Nat → Nat → R) : F (fun r => A (swp i j r)) = - F A := by
  let X (x y : Nat → R) : Nat → Nat → R := fun r => if r = i then x else if r = j then y else A r
  have e0 : X (A i) (A j) = A := by funext r; simp only [X]; split; · subst_vars; rfl
                                    split; · subst_vars; rfl
                                    rfl
  have e1 : X (A j) (A i) = fun r => A (swp i j r) := by funext r; simp only [X, swp]; split; · subst_vars; rfl
                                                         split; · subst_vars; rfl
                                                         rfl
  have hd : ∀ x, F (X x x) = 0 := fun x => h2 fun c _ => by simp [X, Ne.symm hij]
  have l1 : ∀ x y z, F (X (fun c => x c + y c) z) = F (X x z) + F (X y z) := fun x y z => by
    rw [h1 (A := X (fun c => x c + y c) z) (B := X x z) (C := X y z) (k := i) (a := 1) (b := 1) hi (fun c _ => by simp only [X, if_true]; grind) (fun r _ hr c _ => by simp [X, hr])]
    grind
  have l2 : ∀ x y z, F (X z (fun c => x c + y c)) = F (X z x) + F (X z y) := fun x y z => by
    rw [h1 (A := X z (fun c => x c + y c)) (B := X z x) (C := X z y) (k := j) (a := 1) (b := 1) hj (fun c _ => by simp only [X]; rw [if_neg (Ne.symm hij)]; simp only [if_true]; grind) (fun r _ hr c _ => by simp [X, hr])]
    grind
  have h := hd (fun c => A i c + A j c)
  rw [l1, l2, l2, hd, hd, e1, e0] at h
  grind
theorem Alt.swap (h : Alt n F) {i j : Nat} (hij : i ≠ j) (hi : i < n) (hj : j < n) (A : Nat → Nat → R) : F (fun r => A (swp i j r)) = - F A :=
  swap_of h.lin hij hi hj (fun {A} hA => (Nat.lt_or_gt_of_ne hij).elim (fun hl => h.alt hl hj hA) (fun hl => h.alt hl hi fun c hc => (hA c hc).symm)) A
end
theorem det_eq {n : Nat} {A : Nat → Nat → R} {i j : Nat} (hij : i < j) (hj : j < n) (h : ∀ c, c < n → A i c = A j c) : det n A = 0 := by
  obtain ⟨d, rfl⟩ : ∃ d, j = i + 1 + d := ⟨j - i - 1, by omega⟩
  induction d generalizing A with
  | zero => exact det_adj hj h
  | succ d ih =>
    have h2 := swap_of (n := n) (F := det n) (fun hk h0 h1 => det_lin hk h0 h1) (i := i + 1 + d) (j := i + 1 + d + 1) (by omega) (by omega) (by omega) (fun hA => det_adj (by omega) hA) A
    rw [ih (A := fun r => A (swp (i + 1 + d) (i + 1 + d + 1) r)) (by omega) (by omega) (fun c hc => by
      rw [show swp (i + 1 + d) (i + 1 + d + 1) i = i by unfold swp; rw [if_neg (by omega), if_neg (by omega)], show swp (i + 1 + d) (i + 1 + d + 1) (i + 1 + d) = i + 1 + d + 1 by unfold swp; rw [if_pos rfl]]
      exact h c hc)] at h2
    grind
theorem alt_det {n : Nat} : Alt n (det n (R := R)) := ⟨det_congr, det_lin, det_eq⟩
/-- The matrix of ones. -/
def one (i c : Nat) : R := if i = c then 1 else 0
section
variable {n : Nat} {F : (Nat → Nat → R) → R}
theorem Alt.zero (h : Alt n F) {A : Nat → Nat → R} {k : Nat} (hk : k < n) (h0 : ∀ c, c < n → A k c = 0) : F A = 0 := by
  have := h.lin (A := A) (B := A) (C := A) (k := k) (a := 0) (b := 0) hk (fun c hc => by rw [h0 c hc]; grind) (fun _ _ _ _ _ => ⟨rfl, rfl⟩)
  grind
theorem Alt.sum (h : Alt n F) {A : Nat → Nat → R} {k m : Nat} {a : Nat → R} {x : Nat → Nat → R} (hk : k < n) : F (upd A k fun c => sm m fun j => a j * x j c) = sm m fun j => a j * F (upd A k (x j)) := by
  induction m with
  | zero =>
    simp only [sm]
    exact h.zero hk fun c _ => by simp only [upd, if_true]
  | succ m ih =>
    simp only [sm]
    rw [← ih, h.lin (A := upd A k fun c => (sm m fun j => a j * x j c) + a m * x m c) (B := upd A k fun c => sm m fun j => a j * x j c) (C := upd A k (x m)) (k := k) (a := 1) (b := a m) hk
      (fun c _ => by simp only [upd, if_true]; grind) (fun i _ hi c _ => by simp only [upd, if_neg hi]; exact ⟨trivial, trivial⟩)]
    grind
/-- Rows of ones: sorted by exchanges. -/
theorem Alt.units (h : Alt n F) (h1 : F one = 0) : ∀ m, ∀ s : Nat → Nat, (∀ i, i < n → s i < n) → ((List.range n).filter fun i => s i ≠ i).length ≤ m → F (fun i => one (s i)) = 0 := by
  intro m
  induction m with
  | zero =>
    intro s hs hm
    rw [h.congr (B := one) fun i hi c hc => ?_, h1]
    have : (List.range n).filter (fun i => s i ≠ i) = [] := List.eq_nil_of_length_eq_zero (by omega)
    have h2 := List.filter_eq_nil_iff.1 this i (by simpa using hi)
    have : s i = i := by simpa using h2
    rw [this]
  | succ m ih =>
    intro s hs hm
    by_cases hf : ∀ i, i < n → s i = i
    · rw [h.congr (B := one) fun i hi c hc => by rw [hf i hi], h1]
    · obtain ⟨i, hi, hne⟩ : ∃ i, i < n ∧ s i ≠ i := by
        refine Classical.byContradiction fun hc => hf fun i hi => Classical.byContradiction fun h => hc ⟨i, hi, h⟩
      have hv := hs i hi
      by_cases e : s (s i) = s i
      · exact (Nat.lt_or_gt_of_ne hne).elim (fun hl => h.alt hl hi fun c _ => by rw [e]) (fun hl => h.alt hl hv fun c _ => by rw [e])
      · have hw := h.swap (i := i) (j := s i) (Ne.symm hne) hi hv (fun i => one (s i))
        have h2 := ih (fun r => s (swp i (s i) r)) (fun r hr => hs _ (by unfold swp; split <;> (try split) <;> assumption)) (by
          have hp : ((List.range n).filter fun r => s (swp i (s i) r) ≠ r).length < ((List.range n).filter fun r => s r ≠ r).length := by
            have key : ∀ r, s (swp i (s i) r) ≠ r → s r ≠ r := fun r hr => by
              by_cases e1 : r = i
              · subst e1; exact hne
              · by_cases e2 : r = s i
                · subst e2; exact e
                · simpa only [swp, if_neg e1, if_neg e2] using hr
            have sub : ((List.range n).filter fun r => s (swp i (s i) r) ≠ r) = (((List.range n).filter fun r => s r ≠ r).filter fun r => s (swp i (s i) r) ≠ r) := by
              rw [List.filter_filter]
              refine List.filter_congr fun r _ => ?_
              by_cases hr : s (swp i (s i) r) = r
              · simp [hr]
              · simp [hr, key r hr]
            rw [sub]
            refine List.length_filter_lt_length_iff_exists.2 ⟨s i, by simp [hv, e], ?_⟩
            simp only [swp, if_neg hne, if_true]
            simp
          omega)
        rw [h2] at hw
        grind
/-- A row, as a sum of ones. -/
theorem row_sum {x : Nat → R} {c : Nat} (hc : c < n) : x c = sm n fun j => x j * one j c := by
  rw [sm_one hc fun i _ hi => by unfold one; rw [if_neg hi]; grind]
  unfold one; rw [if_pos rfl]; grind
theorem Alt.nil (h : Alt n F) (h1 : F one = 0) : ∀ A, F A = 0 := by
  have : ∀ m, m ≤ n → ∀ (A : Nat → Nat → R) (s : Nat → Nat), (∀ i, i < n → s i < n) → (∀ i, m ≤ i → i < n → ∀ c, c < n → A i c = one (s i) c) → F A = 0 := by
    intro m
    induction m with
    | zero =>
      intro _ A s hs hA
      rw [h.congr (B := fun i => one (s i)) fun i hi c hc => hA i (Nat.zero_le _) hi c hc]
      exact h.units h1 n s hs (by refine Nat.le_trans (List.length_filter_le _ _) ?_; simp)
    | succ m ih =>
      intro hm A s hs hA
      rw [h.congr (B := upd A m fun c => sm n fun j => A m j * one j c) fun i hi c hc => by
        unfold upd
        by_cases e : i = m
        · rw [if_pos e, e]; exact row_sum hc
        · rw [if_neg e], h.sum (by omega)]
      refine sm_zero fun j hj => ?_
      rw [ih (by omega) (upd A m (one j)) (fun r => if r = m then j else s r) (fun i hi => by split <;> first | exact hj | exact hs i hi) fun i h1 h2 c hc => by
        unfold upd
        by_cases e : i = m
        · simp only [if_pos e]
        · simp only [if_neg e]; exact hA i (by omega) h2 c hc]
      grind
  exact fun A => this n (Nat.le_refl _) A id (fun i hi => hi) fun i h1 h2 => absurd h1 (by omega)
theorem det_one : det n (one (R := R)) = 1 := by
  induction n with
  | zero => rfl
  | succ n ih =>
    rw [det, sm_one (k := n) (by omega) fun i hi hne => by unfold one; rw [if_neg hne]; grind]
    rw [det_congr (A := fun r => one (skip n r)) (B := one) fun i hi c hc => by unfold skip; rw [if_pos hi], ih]
    have : (sg (n + n) : R) = 1 := by unfold sg; rw [if_pos (by omega)]
    rw [this]; unfold one; rw [if_pos rfl]; grind
/-- What is linear and alternating is a multiple of the determinant. -/
theorem Alt.eq (h : Alt n F) (A : Nat → Nat → R) : F A = F one * det n A := by
  have h2 : Alt n (fun A => F A + - (F one) * det n A) := by
    refine ⟨fun hA => by rw [h.congr hA, det_congr hA], fun hk h0 h1 => by rw [h.lin hk h0 h1, det_lin hk h0 h1]; grind, fun hij hj hA => by rw [h.alt hij hj hA, det_eq hij hj hA]; grind⟩
  have := h2.nil (by rw [det_one]; grind) A
  grind
/-- Each row goes through one linear map. -/
def mapr (n : Nat) (L : Nat → Nat → R) (A : Nat → Nat → R) : Nat → Nat → R := fun i c => sm n fun j => A i j * L j c
theorem det_mul (L A : Nat → Nat → R) : det n (mapr n L A) = det n A * det n L := by
  have h : Alt n (fun A : Nat → Nat → R => det n (mapr n L A)) := by
    refine ⟨fun hA => det_congr fun i hi c hc => sm_congr fun j hj => by rw [hA i hi j hj], fun {A B C k a b} hk h0 h1 => det_lin hk (fun c hc => ?_) (fun i hi hne c hc => ?_), fun hij hj hA => det_eq hij hj fun c hc => sm_congr fun j hj => by rw [hA j hj]⟩
    · unfold mapr
      rw [← sm_mul, ← sm_mul, ← sm_add]
      refine sm_congr fun j hj => ?_
      rw [h0 j hj]; grind
    · exact ⟨sm_congr fun j hj => by rw [(h1 i hi hne j hj).1], sm_congr fun j hj => by rw [(h1 i hi hne j hj).2]⟩
  rw [h.eq A, det_congr (A := mapr n L one) (B := L) fun i hi c hc => ?_]
  · grind
  · unfold mapr
    rw [sm_one hi fun j _ hne => by unfold one; rw [if_neg (Ne.symm hne)]; grind]
    unfold one; rw [if_pos rfl]; grind
end
section
variable {n : Nat} {A B C : Nat → Nat → R}
theorem det_L {L : Nat → Nat → R} (h : ∀ i, i < n → ∀ c, c < n → (sm n fun j => A i j * L j c) = B i c) : det n B = det n A * det n L := by
  rw [← det_mul]; exact (det_congr h).symm
theorem det_cols {i j : Nat} (hij : i ≠ j) (hi : i < n) (hj : j < n) : det n (fun r c => A r (swp i j c)) = - det n A := by
  have hs : ∀ c, c < n → swp i j c < n := fun c hc => by unfold swp; split <;> (try split) <;> assumption
  rw [det_L (A := A) (L := fun r c => one r (swp i j c)) (B := fun r c => A r (swp i j c)) fun r hr c hc => by
    rw [sm_one (hs c hc) fun q _ hne => by unfold one; rw [if_neg hne]; grind]
    unfold one; rw [if_pos rfl]; grind]
  have h := (alt_det (R := R) (n := n)).swap hij hi hj one
  rw [det_one] at h
  rw [det_congr (A := fun r c => one r (swp i j c)) (B := fun r => one (swp i j r)) fun r _ c _ => by
    unfold one
    by_cases e : r = swp i j c
    · rw [if_pos e, if_pos (by rw [e, swp_swp])]
    · rw [if_neg e, if_neg fun h => e (by rw [← h, swp_swp])], h]
  grind
theorem det_coleq {c1 c2 : Nat} (hc : c1 < c2) (h2 : c2 < n) (h : ∀ i, i < n → A i c1 = A i c2) : det n A = 0 := by
  have e := det_L (A := A) (B := A) (L := fun r c => if c = c2 then one r c1 else one r c) fun i hi c hc => by
    by_cases e : c = c2
    · subst e; simp only [if_true]; rw [← h i hi]; exact (row_sum (by omega)).symm
    · simp only [if_neg e]; exact (row_sum hc).symm
  rw [(alt_det (R := R) (n := n)).zero (A := fun r c => if c = c2 then one r c1 else one r c) h2 fun c _ => by
    split
    · unfold one; rw [if_neg (by omega)]
    · unfold one; rw [if_neg (by omega)]] at e
  grind
theorem det_lin_col {k : Nat} {a b : R} (hk : k < n) (h0 : ∀ i, i < n → A i k = a * B i k + b * C i k) (h1 : ∀ i, i < n → ∀ c, c < n → c ≠ k → A i c = B i c ∧ A i c = C i c) : det n A = a * det n B + b * det n C := by
  induction n generalizing A B C k with
  | zero => omega
  | succ n ih =>
    rw [det, det, det, ← sm_mul, ← sm_mul, ← sm_add]
    refine sm_congr fun i hi => ?_
    by_cases e : k = n
    · subst e
      rw [h0 i hi, det_congr (A := fun r => A (skip i r)) (B := fun r => B (skip i r)) fun r hr c hc => (h1 _ (by unfold skip; split <;> omega) c (by omega) (by omega)).1,
        det_congr (A := fun r => C (skip i r)) (B := fun r => B (skip i r)) fun r hr c hc => by rw [← (h1 _ (by unfold skip; split <;> omega) c (by omega) (by omega)).1, ← (h1 _ (by unfold skip; split <;> omega) c (by omega) (by omega)).2]]
      grind
    · have e2 := h1 i hi n (by omega) (Ne.symm e)
      rw [ih (A := fun r => A (skip i r)) (B := fun r => B (skip i r)) (C := fun r => C (skip i r)) (k := k) (by omega) (fun r hr => h0 _ (by unfold skip; split <;> omega)) (fun r hr c hc hne => h1 _ (by unfold skip; split <;> omega) c (by omega) hne), e2.2]
      have e4 : B i n = C i n := e2.1.symm.trans e2.2
      rw [e4]; grind
theorem det_tr : det n (fun i c => A c i) = det n A := by
  have h : Alt n (fun A : Nat → Nat → R => det n (fun i c => A c i)) := ⟨fun hA => det_congr fun i hi c hc => hA c hc i hi, fun hk h0 h1 => det_lin_col hk (fun i hi => h0 i hi) fun i hi c hc hne => h1 c hc hne i hi, fun hij hj hA => det_coleq hij hj fun i hi => hA i hi⟩
  rw [h.eq A, det_congr (A := fun i c => one c i) (B := one) fun i _ c _ => by unfold one; simp only [eq_comm], det_one (R := R)]
  grind
/-- By the last row. -/
theorem det_row : det (n + 1) A = sm (n + 1) fun j => sg (j + n) * (A n j * det n fun r c => A r (skip j c)) := by
  rw [← det_tr, det]
  refine sm_congr fun j _ => ?_
  rw [← det_tr (A := fun r c => A r (skip j c))]
def pwr (p : R) : Nat → R
  | 0 => 1
  | m + 1 => pwr p m * p
end
/-- A number's bordered minor: the first k rows and row i, the first k columns and column j. -/
def bord (k i r : Nat) : Nat := if r < k then r else i
def D (k : Nat) (A : Nat → Nat → R) (i j : Nat) : R := det (k + 1) fun r c => A (bord k i r) (bord k j c)
/-- What the bordered minors add to column j of column c. -/
def cofc (k : Nat) (A : Nat → Nat → R) (c j : Nat) : R := sg (c + k) * det k fun r c' => A r (bord k j (skip c c'))
section
variable {n k i j : Nat} {A : Nat → Nat → R}
theorem D_col : D k A i j = (sm k fun c => A i c * cofc k A c j) + A i j * det k A := by
  unfold D
  rw [det_row, sm]
  congr 1
  · refine sm_congr fun c hc => ?_
    rw [show bord k i k = i by unfold bord; rw [if_neg (Nat.lt_irrefl _)], show bord k j c = c by unfold bord; rw [if_pos hc]]
    unfold cofc
    rw [det_congr (A := fun r c' => A (bord k i r) (bord k j (skip c c'))) (B := fun r c' => A r (bord k j (skip c c'))) fun r hr c' _ => by rw [show bord k i r = r by unfold bord; rw [if_pos hr]]]
    grind
  · rw [show bord k i k = i by unfold bord; rw [if_neg (Nat.lt_irrefl _)], show bord k j k = j by unfold bord; rw [if_neg (Nat.lt_irrefl _)]]
    rw [det_congr (A := fun r c' => A (bord k i r) (bord k j (skip k c'))) (B := A) fun r hr c' hc => by
      rw [show bord k i r = r by unfold bord; rw [if_pos hr], show skip k c' = c' by unfold skip; rw [if_pos hc], show bord k j c' = c' by unfold bord; rw [if_pos hc]]]
    rw [show (sg (k + k) : R) = 1 by unfold sg; rw [if_pos (by omega)]]
    grind
theorem D_tr : D k (fun i j => A j i) i j = D k A j i := by unfold D; exact det_tr (A := fun r c => A (bord k j r) (bord k i c))
theorem D_row0 (hi : i < k) : D k A i j = 0 := by
  unfold D
  refine det_eq (i := i) (j := k) hi (by omega) fun c _ => ?_
  rw [show bord k i i = i by unfold bord; rw [if_pos hi], show bord k i k = i by unfold bord; rw [if_neg (Nat.lt_irrefl _)]]
theorem D_col0 (hj : j < k) : D k A i j = 0 := by rw [← D_tr]; exact D_row0 hj
/-- The columns from the k-th on become bordered minors. -/
def Lk (k : Nat) (A : Nat → Nat → R) (j c : Nat) : R := if c < k then one j c else if j < k then cofc k A j c else if j = c then det k A else 0
theorem mapr_Lk {c : Nat} (hc : c < n) (hk : k ≤ n) : (sm n fun j => A i j * Lk k A j c) = if c < k then A i c else D k A i c := by
  by_cases h : c < k
  · rw [if_pos h, row_sum (x := A i) hc]
    exact sm_congr fun j _ => by unfold Lk; rw [if_pos h]
  · rw [if_neg h, D_col]
    have : ∀ m, k ≤ m → m ≤ n → (sm m fun j => A i j * Lk k A j c) = (sm k fun j => A i j * cofc k A j c) + if c < m then A i c * det k A else 0 := by
      intro m h1
      induction m with
      | zero => intro _; obtain rfl : k = 0 := by omega
                simp only [sm, Nat.not_lt_zero, if_false]; grind
      | succ m ih =>
        intro h2
        by_cases e : k = m + 1
        · subst e
          rw [if_neg h, sm_congr (g := fun j => A i j * cofc (m + 1) A j c) fun j hj => by unfold Lk; rw [if_neg h, if_pos hj]]
          grind
        · rw [sm, ih (by omega) (by omega)]
          unfold Lk
          rw [if_neg h, if_neg (show ¬ m < k by omega)]
          by_cases e2 : m = c
          · subst e2; rw [if_pos rfl, if_neg (Nat.lt_irrefl _), if_pos (Nat.lt_succ_self _)]; grind
          · rw [if_neg e2]
            by_cases e3 : c < m
            · rw [if_pos e3, if_pos (by omega)]; grind
            · rw [if_neg e3, if_neg (by omega)]; grind
    rw [this n hk (Nat.le_refl _), if_pos hc]
theorem det_Lk {m : Nat} : det (k + m) (Lk k A) = pwr (det k A) m := by
  induction m with
  | zero =>
    rw [Nat.add_zero, det_congr (B := one) fun i hi c hc => by unfold Lk; rw [if_pos hc]]; exact det_one
  | succ m ih =>
    rw [show k + (m + 1) = (k + m) + 1 from rfl, det_row, sm_one (k := k + m) (by omega) fun c hc hne => by
      unfold Lk
      by_cases e : c < k
      · rw [if_pos e]; unfold one; rw [if_neg (by omega)]; grind
      · rw [if_neg e, if_neg (by omega), if_neg (by omega)]; grind]
    rw [det_congr (A := fun r c => Lk k A r (skip (k + m) c)) (B := Lk k A) fun r _ c hc => by rw [show skip (k + m) c = c by unfold skip; rw [if_pos hc]], ih]
    rw [show (sg (k + m + (k + m)) : R) = 1 by unfold sg; rw [if_pos (by omega)]]
    unfold Lk
    rw [if_neg (by omega), if_neg (by omega), if_pos rfl, pwr]
    grind
/-- One step without fractions: two minors' products, and the minor that both share. -/
theorem step0 (hd : ∀ x y : R, x * y = 0 → x = 0 ∨ y = 0) (hp : det k A ≠ 0) : det k A * det (k + 2) A = D k A k k * D k A (k + 1) (k + 1) - D k A (k + 1) k * D k A k (k + 1) := by
  have e := det_L (n := k + 2) (A := A) (B := fun i c => if c < k then A i c else D k A i c) (L := Lk k A) fun i _ c hc => mapr_Lk hc (by omega)
  rw [det_Lk] at e
  simp only [pwr] at e
  rw [det, sm_two (k := k) (l := k + 1) (by omega) (by omega) (fun i hi h1 h2 => by
    rw [if_neg (by omega), D_row0 (by omega)]; grind)] at e
  rw [det, sm_one (k := k) (by omega) fun i hi h1 => by
    rw [if_neg (by omega), show skip k i = i by unfold skip; rw [if_pos (by omega)], D_row0 (by omega)]; grind] at e
  rw [det, sm_one (k := k) (by omega) fun i hi h1 => by
    rw [if_neg (by omega), show skip (k + 1) i = i by unfold skip; rw [if_pos (by omega)], D_row0 (by omega)]; grind] at e
  simp only [Nat.lt_irrefl, if_false, show ¬ k + 1 < k by omega, show skip k k = k + 1 by unfold skip; rw [if_neg (Nat.lt_irrefl _)], show skip (k + 1) k = k by unfold skip; rw [if_pos (by omega)]] at e
  rw [det_congr (A := fun r c => if c < k then A (skip k (skip k r)) c else D k A (skip k (skip k r)) c) (B := A) fun r hr c hc => by
    rw [if_pos hc, show skip k r = r by unfold skip; rw [if_pos hr], show skip k r = r by unfold skip; rw [if_pos hr]],
    det_congr (A := fun r c => if c < k then A (skip (k + 1) (skip k r)) c else D k A (skip (k + 1) (skip k r)) c) (B := A) fun r hr c hc => by
    rw [if_pos hc, show skip k r = r by unfold skip; rw [if_pos hr], show skip (k + 1) r = r by unfold skip; rw [if_pos (by omega)]]] at e
  rw [show (sg (k + (k + 1)) : R) = -1 by unfold sg; rw [if_neg (by omega)], show (sg (k + k) : R) = 1 by unfold sg; rw [if_pos (by omega)], show (sg (k + 1 + (k + 1)) : R) = 1 by unfold sg; rw [if_pos (by omega)]] at e
  have h : det k A * (det k A * det (k + 2) A - (D k A k k * D k A (k + 1) (k + 1) - D k A (k + 1) k * D k A k (k + 1))) = 0 := by grind
  rcases hd _ _ h with h | h
  · exact absurd h hp
  · grind
theorem D_bord {k m i j u v : Nat} {A : Nat → Nat → R} (hk : k ≤ m) : D k (fun r c => A (bord m i r) (bord m j c)) u v = D k A (bord m i u) (bord m j v) := by
  unfold D
  refine det_congr fun r _ c _ => ?_
  have : ∀ i u r, bord m i (bord k u r) = bord k (bord m i u) r := fun i u r => by unfold bord; split <;> (try split) <;> (try split) <;> (first | rfl | omega)
  show A (bord m i (bord k u r)) (bord m j (bord k v c)) = _
  rw [this, this]
theorem det_bord {k m i j : Nat} {A : Nat → Nat → R} (hk : k ≤ m) : det k (fun r c => A (bord m i r) (bord m j c)) = det k A := det_congr fun r hr c hc => by
  rw [show bord m i r = r by unfold bord; rw [if_pos (by omega)], show bord m j c = c by unfold bord; rw [if_pos (by omega)]]
theorem step (hd : ∀ x y : R, x * y = 0 → x = 0 ∨ y = 0) (hp : det k A ≠ 0) : det k A * D (k + 1) A i j = D k A k k * D k A i j - D k A i k * D k A k j := by
  have h := step0 hd (k := k) (A := fun r c => A (bord (k + 1) i r) (bord (k + 1) j c)) (by rw [det_bord (by omega)]; exact hp)
  rw [det_bord (by omega), D_bord (by omega), D_bord (by omega), D_bord (by omega), D_bord (by omega)] at h
  rw [show bord (k + 1) i k = k by unfold bord; rw [if_pos (by omega)], show bord (k + 1) j k = k by unfold bord; rw [if_pos (by omega)], show bord (k + 1) i (k + 1) = i by unfold bord; rw [if_neg (by omega)], show bord (k + 1) j (k + 1) = j by unfold bord; rw [if_neg (by omega)]] at h
  exact h
theorem D_diag : D k A k k = det (k + 1) A := by
  unfold D
  refine det_congr fun r hr c hc => ?_
  have : ∀ r, r < k + 1 → bord k k r = r := fun r hr => by unfold bord; split <;> omega
  rw [this r hr, this c hc]
theorem D_0 : D 0 A i j = A i j := by rw [D_col]; simp only [sm, det]; grind
end
theorem sm_ext {r m : Nat} {f : Nat → R} (hr : r ≤ m) (h : ∀ i, r ≤ i → i < m → f i = 0) : sm m f = sm r f := by
  induction m with
  | zero => obtain rfl : r = 0 := by omega
            rfl
  | succ m ih =>
    by_cases e : r = m + 1
    · subst e; rfl
    · rw [sm, ih (by omega) fun i h1 h2 => h i h1 (by omega), h m (by omega) (by omega)]; grind
theorem det_scale {n : Nat} {p : R} {A : Nat → Nat → R} : det n (fun i j => p * A i j) = pwr p n * det n A := by
  induction n generalizing A with
  | zero => simp only [det, pwr]; grind
  | succ n ih =>
    rw [det, det, ← sm_mul]
    refine sm_congr fun i _ => ?_
    rw [ih (A := fun r => A (skip i r)), pwr]
    grind
theorem pwr_ne (hd : ∀ x y : R, x * y = 0 → x = 0 ∨ y = 0) (h1 : (1 : R) ≠ 0) {p : R} (hp : p ≠ 0) : ∀ n, pwr p n ≠ 0
  | 0 => h1
  | n + 1 => fun h => (hd _ _ h).elim (pwr_ne hd h1 hp n) hp
/-- The rank of the first h rows' and w columns' part: a minor of r rows that is not 0, and all rows are sums of these (times one number). -/
def Rk (h w : Nat) (A : Nat → Nat → R) (r : Nat) : Prop :=
  ∃ f g : Nat → Nat, (∀ i, i < r → f i < h ∧ g i < w) ∧ det r (fun i j => A (f i) (g j)) ≠ 0 ∧ ∃ (C : Nat → Nat → R) (p : R), p ≠ 0 ∧ ∀ i, i < h → ∀ j, j < w → p * A i j = sm r fun c => C i c * A (f c) j
section
variable {h w r s k : Nat} {A A0 : Nat → Nat → R}
theorem Rk.le (hd : ∀ x y : R, x * y = 0 → x = 0 ∨ y = 0) (h1 : (1 : R) ≠ 0) (hr : Rk h w A r) (hs : Rk h w A s) : s ≤ r := by
  refine Nat.le_of_not_lt fun hlt => ?_
  obtain ⟨f, g, hfg, _, C, p, hp, hC⟩ := hr
  obtain ⟨f', g', hfg', hne, _⟩ := hs
  have e := det_mul (n := s) (fun c j => if c < r then A (f c) (g' j) else 0) (fun i c => if c < r then C (f' i) c else 0)
  rw [(alt_det (R := R) (n := s)).zero (A := fun c j => if c < r then A (f c) (g' j) else 0) (k := r) hlt (fun c _ => if_neg (Nat.lt_irrefl _)),
    det_congr (A := mapr s _ _) (B := fun i j => p * A (f' i) (g' j)) fun i hi j hj => by
      unfold mapr
      rw [hC _ (hfg' i hi).1 _ (hfg' j hj).2, sm_ext (r := r) (by omega) fun c hc _ => by simp only [if_neg (show ¬ c < r by omega)]; grind]
      exact sm_congr fun c hc => by simp only [if_pos hc],
    det_scale] at e
  have : pwr p s * det s (fun i j => A (f' i) (g' j)) = 0 := by rw [e]; grind
  exact (hd _ _ this).elim (pwr_ne hd h1 hp s) hne
theorem Rk.eq (hd : ∀ x y : R, x * y = 0 → x = 0 ∨ y = 0) (h1 : (1 : R) ≠ 0) (hr : Rk h w A r) (hs : Rk h w A s) : r = s := Nat.le_antisymm (Rk.le hd h1 hs hr) (Rk.le hd h1 hr hs)
theorem Rk.perm {u u' v v' : Nat → Nat} (hA : ∀ i, i < h → ∀ j, j < w → A i j = A0 (u i) (v j)) (hu : ∀ i, i < h → u i < h ∧ u' i < h ∧ u (u' i) = i) (hv : ∀ i, i < w → v i < w ∧ v' i < w ∧ v (v' i) = i) (hr : Rk h w A r) : Rk h w A0 r := by
  obtain ⟨f, g, hfg, hne, C, p, hp, hC⟩ := hr
  refine ⟨fun i => u (f i), fun i => v (g i), fun i hi => ⟨(hu _ (hfg i hi).1).1, (hv _ (hfg i hi).2).1⟩, ?_, fun i c => C (u' i) c, p, hp, fun i hi j hj => ?_⟩
  · rw [det_congr (B := fun i j => A (f i) (g j)) fun i hi j hj => (hA _ (hfg i hi).1 _ (hfg j hj).2).symm]; exact hne
  · have h2 := hA (u' i) (hu i hi).2.1 (v' j) (hv j hj).2.1
    rw [(hu i hi).2.2, (hv j hj).2.2] at h2
    rw [← h2, hC _ (hu i hi).2.1 _ (hv j hj).2.1]
    refine sm_congr fun c hc => ?_
    rw [hA _ (hfg c hc).1 _ (hv j hj).2.1, (hv j hj).2.2]
theorem rk_full {n : Nat} (h1 : (1 : R) ≠ 0) (h0 : det n A ≠ 0) : Rk n n A n :=
  ⟨id, id, fun i hi => ⟨hi, hi⟩, h0, one, 1, h1, fun i hi j _ => by
    rw [sm_one hi fun c _ hne => by unfold one; rw [if_neg (Ne.symm hne)]; grind]
    unfold one; rw [if_pos rfl]; rfl⟩
theorem Rk.det0 {n : Nat} (hd : ∀ x y : R, x * y = 0 → x = 0 ∨ y = 0) (h1 : (1 : R) ≠ 0) (hr : Rk n n A r) (hlt : r < n) : det n A = 0 := Classical.byContradiction fun h => by
  have := hr.eq hd h1 (rk_full h1 h)
  omega
/-- All bordered minors are 0: that is the rank. -/
theorem rk_of (hr : k ≤ h) (hw : k ≤ w) (h0 : det k A ≠ 0) (hD : ∀ i, i < h → ∀ j, j < w → D k A i j = 0) : Rk h w A k :=
  ⟨id, id, fun i hi => ⟨by simp only [id]; omega, by simp only [id]; omega⟩, h0, fun i c => - cofc k (fun i j => A j i) c i, det k A, h0, fun i hi j hj => by
    have h2 := hD i hi j hj
    rw [← D_tr, D_col, det_tr] at h2
    have h3 : (sm k fun c => - cofc k (fun i j => A j i) c i * A (id c) j) = (-1 : R) * sm k fun c => A c j * cofc k (fun i j => A j i) c i := by
      rw [← sm_mul]; exact sm_congr fun c _ => by simp only [id]; grind
    rw [h3]; grind⟩
/-- The same, by the columns g. -/
def gx (k : Nat) (g : Nat → Nat) (j c : Nat) : Nat := if c < k then g c else j
def Dg (k : Nat) (A : Nat → Nat → R) (g : Nat → Nat) (i j : Nat) : R := D k (fun r c => A r (gx k g j c)) i k
variable {g : Nat → Nat} {i j : Nat}
theorem D_congr {B : Nat → Nat → R} (h : ∀ r, ∀ c, A (bord k i r) (bord k j c) = B (bord k i r) (bord k j c)) : D k A i j = D k B i j := det_congr fun r _ c _ => h r c
theorem stepG (hd : ∀ x y : R, x * y = 0 → x = 0 ∨ y = 0) (hp : det k (fun r c => A r (g c)) ≠ 0) :
    det k (fun r c => A r (g c)) * Dg (k + 1) A g i j = Dg k A g k (g k) * Dg k A g i j - Dg k A g i (g k) * Dg k A g k j := by
  have e0 : det k (fun r c => A r (gx (k + 1) g j c)) = det k (fun r c => A r (g c)) := det_congr fun r _ c hc => by unfold gx; rw [if_pos (by omega)]
  have h2 := step hd (k := k) (A := fun r c => A r (gx (k + 1) g j c)) (i := i) (j := k + 1) (by rw [e0]; exact hp)
  have e1 : ∀ i, D k (fun r c => A r (gx (k + 1) g j c)) i k = Dg k A g i (g k) := fun i => by
    unfold Dg
    refine D_congr fun r c => ?_
    by_cases hc : c < k
    · simp only [bord, gx, if_pos hc, if_pos (show c < k + 1 by omega)]
    · simp only [bord, gx, if_neg hc, if_pos (Nat.lt_succ_self k), if_neg (Nat.lt_irrefl k)]
  have e2 : ∀ i, D k (fun r c => A r (gx (k + 1) g j c)) i (k + 1) = Dg k A g i j := fun i => by
    unfold Dg D
    refine det_congr fun r _ c _ => ?_
    by_cases hc : c < k
    · simp only [bord, gx, if_pos hc, if_pos (show c < k + 1 by omega)]
    · simp only [bord, gx, if_neg hc, if_neg (Nat.lt_irrefl (k + 1)), if_neg (Nat.lt_irrefl k)]
  rw [e0, e1, e1, e2, e2] at h2
  exact h2
theorem Dg_diag : Dg k A g k (g k) = det (k + 1) fun r c => A r (g c) := by
  unfold Dg
  rw [D_diag]
  refine det_congr fun r _ c hc => ?_
  congr 1
  unfold gx; split
  · rfl
  · obtain rfl : c = k := by omega
    rfl
theorem Dg_row0 (hi : i < k) : Dg k A g i j = 0 := D_row0 hi
theorem Dg_zero (hd : ∀ x y : R, x * y = 0 → x = 0 ∨ y = 0) (hp : det k (fun r c => A r (g c)) ≠ 0) (h0 : ∀ i, i ≤ h → Dg k A g i j = 0) (hk : k ≤ h) (hi : i ≤ h) : Dg (k + 1) A g i j = 0 := by
  have h2 := stepG hd hp (i := i) (j := j)
  rw [h0 i hi, h0 k hk] at h2
  have : det k (fun r c => A r (g c)) * Dg (k + 1) A g i j = 0 := by rw [h2]; grind
  exact (hd _ _ this).resolve_left hp
/-- All bordered minors by the columns g are 0: that is the rank. -/
theorem rk_ofG (hr : k ≤ h) (hg : ∀ c, c < k → g c < w) (h0 : det k (fun r c => A r (g c)) ≠ 0) (hD : ∀ i, i < h → ∀ j, j < w → Dg k A g i j = 0) : Rk h w A k := by
  refine ⟨id, g, fun i hi => ⟨by simp only [id]; omega, hg i hi⟩, h0, fun i c => - cofc k (fun i j => A j (gx k g k i)) c i, det k (fun r c => A r (g c)), h0, fun i hi j hj => ?_⟩
  have h2 := hD i hi j hj
  unfold Dg at h2
  rw [← D_tr, D_col, det_tr] at h2
  rw [det_congr (A := fun r c => A r (gx k g j c)) (B := fun r c => A r (g c)) fun r _ c hc => by unfold gx; rw [if_pos hc]] at h2
  have h3 : (sm k fun c => - cofc k (fun i j => A j (gx k g k i)) c i * A (id c) j) = (-1 : R) * sm k fun c => A c (gx k g j k) * cofc k (fun i j_1 => A j_1 (gx k g j i)) c i := by
    rw [← sm_mul]
    refine sm_congr fun c hc => ?_
    have h4 : cofc k (fun i j => A j (gx k g k i)) c i = cofc k (fun i j_1 => A j_1 (gx k g j i)) c i := by
      unfold cofc
      rw [det_congr fun r hr c' _ => ?_]
      show A (bord k i (skip c c')) (gx k g k r) = A (bord k i (skip c c')) (gx k g j r)
      unfold gx; rw [if_pos hr, if_pos hr]
    rw [h4, show gx k g j k = j by unfold gx; rw [if_neg (Nat.lt_irrefl _)]]
    simp only [id]; grind
  rw [h3]
  have h5 : A i (gx k g j k) = A i j := by simp only [gx, Nat.lt_irrefl, if_false]
  grind
end
end Dt
end Go.Proofs.Ytjfjlloibmebeaa


/- Gaussian integers as pairs are a ring without divisors of nought. -/
namespace Go.Proofs.Ytjfjlloibmebeaa
open Go Go.RowKit Dig
set_option linter.unusedVariables false
def negP (p : Int × Int) : Int × Int := (-p.1, -p.2)
def powP (p : Int × Int) : Nat → Int × Int
  | 0 => (1, 0)
  | n + 1 => mP (powP p n) p
instance gring : Lean.Grind.CommRing (Int × Int) where
  add := aP
  mul := mP
  natCast := ⟨fun n => ((n : Int), 0)⟩
  ofNat n := ⟨((n : Int), 0)⟩
  nsmul := ⟨fun n p => mP ((n : Int), 0) p⟩
  npow := ⟨powP⟩
  neg := negP
  sub := sP
  intCast := ⟨fun n => (n, 0)⟩
  zsmul := ⟨fun n p => mP (n, 0) p⟩
  add_zero a := by show aP a (((0 : Nat) : Int), 0) = a; simp [aP]
  add_comm a b := by show aP a b = aP b a; simp only [aP, Prod.mk.injEq]; grind
  add_assoc a b c := by show aP (aP a b) c = aP a (aP b c); simp only [aP, Prod.mk.injEq]; grind
  mul_assoc a b c := by show mP (mP a b) c = mP a (mP b c); simp only [mP, Prod.mk.injEq]; grind
  mul_one a := by show mP a (((1 : Nat) : Int), 0) = a; simp [mP]
  one_mul a := by show mP (((1 : Nat) : Int), 0) a = a; simp [mP]
  left_distrib a b c := by show mP a (aP b c) = aP (mP a b) (mP a c); simp only [aP, mP, Prod.mk.injEq]; grind
  right_distrib a b c := by show mP (aP a b) c = aP (mP a c) (mP b c); simp only [aP, mP, Prod.mk.injEq]; grind
  zero_mul a := by show mP (((0 : Nat) : Int), 0) a = (((0 : Nat) : Int), 0); simp [mP]
  mul_zero a := by show mP a (((0 : Nat) : Int), 0) = (((0 : Nat) : Int), 0); simp [mP]
  pow_zero a := rfl
  pow_succ a n := rfl
  ofNat_succ n := by show (((n + 1 : Nat) : Int), (0 : Int)) = aP ((n : Int), 0) (((1 : Nat) : Int), 0); simp [aP]
  ofNat_eq_natCast n := rfl
  nsmul_eq_natCast_mul n a := rfl
  neg_add_cancel a := by show aP (negP a) a = (((0 : Nat) : Int), 0); simp only [aP, negP, Prod.mk.injEq]; grind
  sub_eq_add_neg a b := by show sP a b = aP a (negP b); simp only [aP, negP, sP, Prod.mk.injEq]; grind
  neg_zsmul i a := by show mP (-i, 0) a = negP (mP (i, 0) a); simp only [mP, negP, Prod.mk.injEq]; grind
  zsmul_natCast_eq_nsmul n a := rfl
  intCast_ofNat n := rfl
  intCast_neg i := by show ((-i, 0) : Int × Int) = negP (i, 0); simp [negP]
  mul_comm a b := by show mP a b = mP b a; simp only [mP, Prod.mk.injEq]; grind
theorem aP_eq (p q : Int × Int) : aP p q = p + q := rfl
theorem mP_eq (p q : Int × Int) : mP p q = p * q := rfl
theorem noz (x y : Int × Int) (h : x * y = 0) : x = 0 ∨ y = 0 := by
  have h1 : x.1 * y.1 - x.2 * y.2 = 0 := congrArg Prod.fst h
  have h2 : x.1 * y.2 + x.2 * y.1 = 0 := congrArg Prod.snd h
  have h3 : (x.1 * x.1 + x.2 * x.2) * (y.1 * y.1 + y.2 * y.2) = 0 := by grind
  have hs : ∀ a b : Int, a * a + b * b = 0 → a = 0 ∧ b = 0 := fun a b h => by
    have ha : 0 ≤ a * a := by rcases Int.le_total 0 a with h | h; exact Int.mul_nonneg h h; exact Int.mul_nonneg_of_nonpos_of_nonpos h h
    have hb : 0 ≤ b * b := by rcases Int.le_total 0 b with h | h; exact Int.mul_nonneg h h; exact Int.mul_nonneg_of_nonpos_of_nonpos h h
    constructor
    · have : a * a = 0 := by omega
      rcases Int.mul_eq_zero.1 this with h | h <;> exact h
    · have : b * b = 0 := by omega
      rcases Int.mul_eq_zero.1 this with h | h <;> exact h
  rcases Int.mul_eq_zero.1 h3 with h | h
  · exact .inl (Prod.ext (hs _ _ h).1 (hs _ _ h).2)
  · exact .inr (Prod.ext (hs _ _ h).1 (hs _ _ h).2)
end Go.Proofs.Ytjfjlloibmebeaa

