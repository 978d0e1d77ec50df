/- gmat: combined, Mul, Times, Dot, Gram. -/
import Derived.Test.YtnkimagnmnocdaaG4ToM7
import Derived.Test.YtnkimagnmnocdaaG3ToI2
import Derived.Test.YtnkimagnmnocdaaWpToM4

namespace Go.Proofs.Ytnkimagnmnocdaa
open Go Go.RowKit Dig
set_option linter.unusedVariables false
section
variable {w : World} {la lb lu lv n k na nb ca cb cu cv pv pm pa pb i j : Nat} {oa ob ou ov : Option Addr} {U V : List (Int × Int)} {A B M : List (List (Int × Int))}
/-- The sum of a matrix's rows, each times its number. -/
def rowC (V : List (Int × Int)) (M : List (List (Int × Int))) (n k : Nat) : List (Int × Int) := (List.range k).map fun j => sumP n fun i => mP (at1 V i) (at2 M i j)
theorem rowC_len : (rowC V M n k).length = k := by rw [rowC, List.length_map, List.length_range]
set_option maxHeartbeats 4000000 in
set_option maxRecDepth 20000 in
theorem combined_any (hu : SN lu w ou V) (hv : MN lv w ov M) (hn : V.length = n) (hm : M.length = n) (h : gd M) (hk : wd M = k) (h1 : lu ≤ 10000000) (h2 : lv ≤ 10000000) :
    Calls Try.prog 106 #[.slice ou n cu, .slice ov n cv] w fun e w' => ∃ o c xs, e = .returned (.slice o k c) ∧ Lst w' w.heap.size 41 4 (.slice o k c) k xs ∧ GD w' xs (rowC V M n k) ∧ Below w.heap.size w w' := by
  have HU := hide hu
  have HV := hide hv
  have hn64 : n ≤ 64 := by have := h.1; omega
  have hk64 : k ≤ 64 := by have := h.2.1; omega
  have HR := hide (show ∀ i, i < n → (rw_ M i).length = k from fun i hi => by rw [gd_row h (by omega)]; exact hk)
  clear hu hv h
  go_enter Try.func106, Try.ntmps106
  have hs := St.nil w
  refine wp_seq_k ?_
  intro K1 hK1
  refine rg [0, 1, 2] ?_
  refine sq ?_
  refine .al hs ?_; clear hs; intro p_b1 w_1 hs n1 kb_b1
  refine sq ?_
  refine .al hs ?_; clear hs; intro p_b2 w_2 hs n2 kb_b2
  refine sq ?_
  refine .mv ?_
  apply wpSq_end
  refine hK1 _ _ ?_
  refine wp_seq_k ?_
  intro K2 hK2
  refine rg [0, 1, 2, 3, 4] ?_
  refine sq ?_
  refine .r1 hs.g0.f1 ?_
  refine sq ?_
  intro K hK
  have hb := hs.b
  go_big_op
  go_fit (width_any (HV.out.bl stab_n hb) hm hk)
  rintro e w_3 ⟨rfl, hb_3⟩
  clear hb
  replace hs := hs.bl hb_3
  refine hK _ _ rfl trivial ?_
  clear hK K
  refine sq ?_
  refine .r0 ?_
  refine sq ?_
  intro K hK
  have x_b1 := hs.g1
  have x_b2 := hs.g0
  have hb := hs.b
  go_big_op
  go_fit (buildG_any (F := fun j ↦ sumP n fun i ↦ mP (at1 V i) (at2 M i j)) (fun _ _ ↦ by kernel_rfl) (fun j w1 hj h3 ↦ combined1 (x_b1.bl h3) (x_b2.bl h3) (HU.out.bl stab_n (hb.trans (h3.mono hb.size))) (HV.out.bl stab_n (hb.trans (h3.mono hb.size))) hn hm (fun i hi ↦ by rw [HR.out i hi]; exact hj) (by omega) h1 h2 (by omega)) (by omega))
  rintro e w_4 ⟨o_r, c_r, xs_r, rfl, L_r, d_r, hb_4⟩
  clear x_b1 x_b2 hb
  replace hs := hs.la hb_4 L_r
  refine hK _ _ rfl trivial ?_
  clear hK K
  refine sq ?_
  refine .mv ?_
  apply wpSq_end
  refine hK2 _ _ ?_
  refine wp_ret ?_
  try dsimp only [Exit.then, Exit.inBlock]
  refine bodyPost_ret (v := (.slice o_r k c_r)) (by simp [results, Try.results106, go_sem]) rfl ?_
  exact ⟨_, _, _, rfl, hs.1.1.1, d_r, hs.b⟩
set_option maxHeartbeats 4000000 in
set_option maxRecDepth 20000 in
theorem mul1 (xa : Bs w pa #[.slice oa na ca] 23) (xb : Bs w pb #[.slice ob nb cb] 23) (ha : MN la w oa A) (hb' : MN lb w ob B) (hna : A.length = na) (hnb : B.length = nb) (hi : i < na) (hr : (rw_ A i).length = nb) (h : gd B) (hk : wd B = k) (h1 : la ≤ 10000000) (h2 : lb ≤ 10000000) :
    Calls Try.prog 105 (#[.int .i64 (i : Int)] ++ #[.pointer (some ⟨pa, 0, none⟩), .pointer (some ⟨pb, 0, none⟩)]) w fun e w' => ∃ o c xs, e = .returned (.slice o k c) ∧ Lst w' w.heap.size 41 4 (.slice o k c) k xs ∧ GD w' xs (rowC (rw_ A i) B nb k) ∧ Below w.heap.size w w' := by
  show Calls _ _ #[.int .i64 (i : Int), .pointer (some ⟨pa, 0, none⟩), .pointer (some ⟨pb, 0, none⟩)] w _
  obtain ⟨g, off, cur, ty, fz, oi, ci, rfl, x, e, hrow⟩ := ha.row (i := i) (by omega)
  rw [hr] at e
  have HR := hide hrow
  have HB := hide hb'
  clear ha hb' hrow
  go_enter Try.func105, Try.ntmps105
  have hs := St.nil w
  have lt_ba := xa.lt
  have xaz := xa
  have lt_bb := xb.lt
  have xbz := xb
  have lt_kA := x.lt
  have xz := x
  refine wp_seq_k ?_
  intro K1 hK1
  refine rg [0] ?_
  refine sq ?_
  refine .mv ?_
  apply wpSq_end
  refine hK1 _ _ ?_
  refine wp_seq_k ?_
  intro K2 hK2
  refine wp_region_f4 [(0, false), (1, false), (2, false), (3, false), (4, false), (5, true), (6, false)] [] [] (fun _ => default) [0, 99, 99, 1, 2, 99, 99] [] (.c xa (.c x (.c xb .n))) fn fun w_1 n1 => ?_
  replace xa := xa.bl n1; replace xb := xb.bl n1; replace x := x.bl n1; replace hs := hs.bl n1
  refine f1 ?_
  refine fmv ?_
  refine f0 ?_
  apply wpFl_ld rfl rfl; (case h1 => intro w' hC K hK; have c0 := Bs.cell hC ((off + i)) e; go_big_op; exact hK); iterate 4 kernel_rfl
  refine f1 ?_
  refine fl fun w_2 n2 => ?_
  replace xa := xa.bl n2; replace xb := xb.bl n2; replace x := x.bl n2; replace hs := hs.bl n2
  intro K hK
  have hb := hs.b
  go_big_op
  go_fit (combined_any (HR.out.bl stab_n hb) (HB.out.bl stab_n hb) hr hnb h hk h1 h2)
  rintro e w_3 ⟨o_r, c_r, xs_r, rfl, L_r, d_r, hb_3⟩
  clear hb
  replace xa := xa.bl hb_3; replace xb := xb.bl hb_3; replace x := x.bl hb_3
  replace hs := hs.la hb_3 L_r
  refine hK _ _ rfl ⟨hb_3, (And.intro xa (And.intro x (And.intro xb trivial)))⟩ ?_
  clear hK K
  refine fmv ?_
  refine e0 hs ?_; clear hs; intro w_4 hs n4
  replace xa := xa.bl n4; replace xb := xb.bl n4; replace x := x.bl n4
  apply wpTail_end
  refine hK2 _ _ ?_
  refine wp_ret ?_
  try dsimp only [Exit.then, Exit.inBlock]
  refine bodyPost_ret (v := (.slice o_r k c_r)) (by simp [results, Try.results105, go_sem]) rfl ?_
  have k3_4 := kb n4
  replace d_r := d_r.k k3_4
  exact ⟨_, _, _, rfl, hs.1.1.1, d_r, hs.b⟩
/-- The product of two. -/
def mulM (A B : List (List (Int × Int))) : List (List (Int × Int)) := (List.range A.length).map fun i => rowC (rw_ A i) B B.length (wd B)
/-- They can be multiplied. -/
def ml2 (A B : List (List (Int × Int))) : Prop := gd A ∧ gd B ∧ wd A = B.length
instance (A B : List (List (Int × Int))) : Decidable (ml2 A B) := inferInstanceAs (Decidable (_ ∧ _ ∧ _))
set_option maxHeartbeats 4000000 in
set_option maxRecDepth 20000 in
theorem mMul_ok (ha : MN la w oa A) (hb' : MN lb w ob B) (hna : A.length = na) (hnb : B.length = nb) (h : ml2 A B) (h1 : la ≤ 10000000) (h2 : lb ≤ 10000000) :
    Calls Try.prog 61 #[.slice oa na ca, .slice ob nb cb] w fun e w' => ∃ o c rs, e = .returned (.tuple #[.slice o na c, .int .i64 0]) ∧ rs.length = na ∧ St w (Mx w.heap.size (.slice o na c) rs) w' ∧ RD w' rs (mulM A B) ∧ Below w.heap.size w w' := by
  have HA := hide ha
  have HB := hide hb'
  have hn64 : na ≤ 64 := by have := h.1.1; omega
  have hm64 : nb ≤ 64 := by have := h.2.1.1; omega
  have hw : wd A = nb := by rw [h.2.2, hnb]
  have HR := hide (show ∀ i, i < na → (rw_ A i).length = nb from fun i hi => by rw [gd_row h.1 (by omega)]; exact hw)
  obtain ⟨k, hk⟩ : ∃ k, wd B = k := ⟨_, rfl⟩
  have HM := hide (show mulM A B = (List.range na).map fun i => rowC (rw_ A i) B nb k by rw [mulM, hna, hnb, hk])
  rw [HM.out]
  have t1 : ((nb : Int) != (nb : Int)) = false := by simp
  clear ha hb'
  go_enter Try.func61, Try.ntmps61
  have hs := St.nil w
  refine wp_seq_k ?_
  intro K1 hK1
  refine rg [0, 1, 2, 3] ?_
  refine sq ?_
  refine .al hs ?_; clear hs; intro p_b1 w_1 hs n1 kb_b1
  refine sq ?_
  refine .al hs ?_; clear hs; intro p_b2 w_2 hs n2 kb_b2
  refine sq ?_
  refine .mv ?_
  refine sq ?_
  refine .mv ?_
  apply wpSq_end
  refine hK1 _ _ ?_
  refine wp_seq_k ?_
  intro K2 hK2
  refine wp_seq_k ?_
  intro K3 hK3
  refine wp_region_f4 [(0, false), (1, true), (2, false), (3, false), (4, false), (5, true), (6, false), (7, false), (8, false), (9, false), (11, false), (12, false), (10, true), (13, false), (14, false)] [] [] (fun _ => default) [0, 99, 99, 99, 1, 99, 99, 99, 99, 0, 99, 1, 99, 99, 99] [] (.c hs.g1 (.c hs.g0 .n)) fn fun w_3 n3 => ?_
  replace hs := hs.bl n3
  refine f1 ?_
  refine fl fun w_4 n4 => ?_
  replace hs := hs.bl n4
  intro K hK
  have hb := hs.b
  go_big_op
  go_fit (good_yes (HA.out.bl stab_n hb) hna (by omega) h.1)
  rintro e w_5 ⟨rfl, hb_5⟩
  clear hb
  replace hs := hs.bl hb_5
  refine hK _ _ rfl ⟨hb_5, (And.intro hs.g1 (And.intro hs.g0 trivial))⟩ ?_
  clear hK K
  refine f0 ?_
  refine fmv ?_
  refine f1 ?_
  refine fl fun w_6 n6 => ?_
  replace hs := hs.bl n6
  intro K hK
  have hb := hs.b
  go_big_op
  go_fit (good_yes (HB.out.bl stab_n hb) hnb (by omega) h.2.1)
  rintro e w_7 ⟨rfl, hb_7⟩
  clear hb
  replace hs := hs.bl hb_7
  refine hK _ _ rfl ⟨hb_7, (And.intro hs.g1 (And.intro hs.g0 trivial))⟩ ?_
  clear hK K
  refine f0 ?_
  refine f0 ?_
  refine fmv ?_
  refine f1 ?_
  refine f1 ?_
  refine fb ?_
  refine fl fun w_8 n8 => ?_
  replace hs := hs.bl n8
  intro K hK
  have hb := hs.b
  go_big_op
  go_fit (width_any (HA.out.bl stab_n hb) hna hw)
  rintro e w_9 ⟨rfl, hb_9⟩
  clear hb
  replace hs := hs.bl hb_9
  refine hK _ _ rfl ⟨hb_9, (And.intro hs.g1 (And.intro hs.g0 trivial))⟩ ?_
  clear hK K
  refine f0 ?_
  refine f0 ?_
  refine e0 hs ?_; clear hs; intro w_10 hs n10
  apply wpTail_end
  refine hK3 _ _ ?_
  refine cf ?_
  refine wp_skip ?_
  refine hK2 _ _ ?_
  refine wp_seq_k ?_
  intro K4 hK4
  refine rg [0, 1, 2, 3, 4, 5] ?_
  refine sq ?_
  refine .r1 hs.g1.f1 ?_
  refine sq ?_
  refine .r0 ?_
  refine sq ?_
  refine .r0 ?_
  refine sq ?_
  intro K hK
  have x_b1 := hs.g1
  have x_b2 := hs.g0
  have hb := hs.b
  go_big_op
  go_fit (buildL_any (F := fun i ↦ rowC (rw_ A i) B nb k) (fun _ _ ↦ by kernel_rfl) (fun i w1 hi h3 ↦ by have := mul1 (x_b1.bl h3) (x_b2.bl h3) (HA.out.bl stab_n (hb.trans (h3.mono hb.size))) (HB.out.bl stab_n (hb.trans (h3.mono hb.size))) hna hnb hi (HR.out i hi) h.2.1 hk h1 h2; simp only [rowC_len]; exact this) (by omega))
  rintro e w_11 ⟨o_r, c_r, rs_r, rfl, hl_r, hs_r, d_r, hb_11⟩
  clear x_b1 x_b2 hb
  replace hs := hs.mx hl_r hs_r; simp only [List.cons_append, List.nil_append] at hs
  refine hK _ _ rfl trivial ?_
  clear hK K
  refine sq ?_
  refine .mv ?_
  refine sq ?_
  refine .mv ?_
  apply wpSq_end
  refine hK4 _ _ ?_
  refine wp_ret ?_
  try dsimp only [Exit.then, Exit.inBlock]
  refine bodyPost_ret (v := (.tuple #[(.slice o_r na c_r), (.int .i64 0)])) (by simp [results, Try.results61, go_sem]) rfl ?_
  exact ⟨_, _, _, rfl, hl_r, (by unfold Mx; rw [hl_r]; exact hs.sub (.cons_cons _ (.cons _ (.cons _ (List.Sublist.refl _))))), d_r, hs.b⟩
end
end Go.Proofs.Ytnkimagnmnocdaa


/- The law's g, Simple, told, list, awake (gmat). -/
namespace Go.Proofs.Ytnkimagnmnocdaa
open Go Go.RowKit Dig
set_option linter.unusedVariables false
theorem zlen_small8 {z : Int} (h : z.natAbs < 4294967296) : (dig z.natAbs).length ≤ 1 := dig_length_le (by rw [show pw 1 = 4294967296 from rfl]; exact h)
theorem sc2 {w : World} {p : Nat} {ty : TypeId} {fz : Nat × Nat} {n1 n2 n3 n4 : Bool} {o1 o2 o3 o4 : Option Addr} {k1 c1 k2 c2 k3 c3 k4 c4 : Nat} {x y z u : Int}
    (hx : Bs w p #[.bool n1, .slice o1 k1 c1, .bool n2, .slice o2 k2 c2, .bool n3, .slice o3 k3 c3, .bool n4, .slice o4 k4 c4] ty fz)
    (h1 : ZC w (.agg #[.bool n1, .slice o1 k1 c1]) x) (h2 : ZC w (.agg #[.bool n2, .slice o2 k2 c2]) y) (h3 : ZC w (.agg #[.bool n3, .slice o3 k3 c3]) z) (h4 : ZC w (.agg #[.bool n4, .slice o4 k4 c4]) u) : SC w (some ⟨p, 0, none⟩) [(x, y), (z, u)] :=
  .inr ⟨p, 0, _, ty, fz, rfl, hx, fun i hi => match i, hi with
    | 0, _ => ⟨n1, o1, k1, c1, n2, o2, k2, c2, rfl, rfl, rfl, rfl, h1, h2⟩
    | 1, _ => ⟨n3, o3, k3, c3, n4, o4, k4, c4, rfl, rfl, rfl, rfl, h3, h4⟩⟩
theorem mc2 {w : World} {p : Nat} {ty : TypeId} {fz : Nat × Nat} {o1 o2 : Option Addr} {c1 c2 : Nat} {r1 r2 : List (Int × Int)}
    (hx : Bs w p #[.slice o1 r1.length c1, .slice o2 r2.length c2] ty fz) (h1 : SC w o1 r1) (h2 : SC w o2 r2) : MC w (some ⟨p, 0, none⟩) [r1, r2] :=
  .inr ⟨p, 0, _, ty, fz, rfl, hx, fun i hi => match i, hi with
    | 0, _ => ⟨o1, c1, rfl, h1⟩
    | 1, _ => ⟨o2, c2, rfl, h2⟩⟩
theorem MC.bl {w w' : World} {o : Option Addr} {Ms : List (List (Int × Int))} (h : MC w o Ms) (hb : Below w.heap.size w w') : MC w' o Ms := MV.bl stab_c h hb
theorem SC.bl {w w' : World} {o : Option Addr} {ps : List (Int × Int)} (h : SC w o ps) (hb : Below w.heap.size w w') : SC w' o ps := SV.bl stab_c h hb
theorem mxmc {K n : Nat} {a : Array Value} {w : World} {M : List (List (Int × Int))} (h : Calls Try.prog K a w fun e w' => ∃ o c rs, e = .returned (.tuple #[.slice o n c, .int .i64 0]) ∧ rs.length = n ∧ St w (Mx w.heap.size (.slice o n c) rs) w' ∧ RD w' rs M ∧ Below w.heap.size w w') :
    Calls Try.prog K a w fun e w' => ∃ o c, e = .returned (.tuple #[.slice o n c, .int .i64 0]) ∧ MC w' o M ∧ Below w.heap.size w w' :=
  Calls.mono h fun e w' ⟨o, c, rs, h1, h2, h3, h4, h5⟩ => ⟨o, c, h1, Mx.mc0 h3 h2 h4, h5⟩
theorem mul_simple : mulM [[(1, 0), (2, 0)], [(0, 1), (0, 0)]] [[(1, 0), (2, 0)], [(0, 1), (0, 0)]] = [[(1, 2), (2, 0)], [(0, 1), (0, 2)]] := by decide +kernel
theorem gd_simple : gd [[(1, 0), (2, 0)], [(0, 1), (0, 0)]] := ⟨by decide, by decide, by decide⟩
theorem bd_small {Ms : List (List (Int × Int))} (h : ∀ r ∈ Ms, ∀ p ∈ r, p.1.natAbs < 4294967296 ∧ p.2.natAbs < 4294967296) : BdM 1 Ms := fun r hr p hp => ⟨zlen_small8 (h r hr p hp).1, zlen_small8 (h r hr p hp).2⟩
set_option maxHeartbeats 4000000 in
set_option maxRecDepth 20000 in
theorem g8_any (a b : Int) (w : World) (h1 : -9223372036854775808 ≤ a) (h2 : a ≤ 9223372036854775807) (h3 : -9223372036854775808 ≤ b) (h4 : b ≤ 9223372036854775807) :
    Calls Try.prog 26 #[.int .i64 a, .int .i64 b] w fun e w' => ∃ r, e = .returned r ∧ PC w' r a b ∧ Below w.heap.size w w' := by
  go_enter Try.func26, Try.ntmps26
  have hs := St.nil w
  refine wp_seq_k ?_
  intro K1 hK1
  refine rg [0] ?_
  refine sq ?_
  refine .al hs ?_; clear hs; intro p_b1 w_1 hs n1 kb_b1
  apply wpSq_end
  refine hK1 _ _ ?_
  refine wp_seq_k ?_
  intro K2 hK2
  refine rg [0, 1, 2, 3] ?_
  refine sq ?_
  refine .mv ?_
  refine sq ?_
  refine .mv ?_
  refine sq ?_
  intro K hK
  go_big_op
  go_fit (rgI_any a b _ h1 h2 h3 h4)
  rintro e w_2 ⟨_, rfl, ⟨n_ra, o_ra, k_ra, c_ra, n_rb, o_rb, k_rb, c_rb, rfl, r1, r2⟩, hb_2⟩
  replace hs := hs.bl hb_2
  refine hK _ _ rfl trivial ?_
  clear hK K
  refine sq ?_
  refine .s4 hs.g0 (fun _ => hs.u0 kb_b1) ?_; clear hs; intro w_3 hs hd3 ho3
  apply wpSq_end
  refine hK2 _ _ ?_
  refine wp_ret ?_
  try dsimp only [Exit.then, Exit.inBlock]
  obtain ⟨r0_0, r0_1, r0_2, r0_3⟩ := hs.g0.f4
  refine bodyPost_ret (v := (.agg #[.bool n_ra, .slice o_ra k_ra c_ra, .bool n_rb, .slice o_rb k_rb c_rb])) (by simp [results, Try.results26, go_sem, r0_0, r0_1, r0_2, r0_3]) rfl ?_
  have k2_3 := ko hd3 ho3
  replace r1 := r1.k k2_3
  replace r2 := r2.k k2_3
  exact ⟨_, rfl, .mk' r1 r2, hs.b⟩
set_option maxHeartbeats 4000000 in
set_option maxRecDepth 20000 in
theorem simple_any (w : World) :
    Calls Try.prog 62 #[] w fun e w' => ∃ o c, e = .returned (.slice o 2 c) ∧ MC w' o [[(1, 0), (2, 0)], [(0, 1), (0, 0)]] ∧ Below w.heap.size w w' := by
  go_enter Try.func62, Try.ntmps62
  have hs := St.nil w
  refine wp_seq_k ?_
  intro K1 hK1
  refine rg [0] ?_
  refine sq ?_
  refine .mv ?_
  apply wpSq_end
  refine hK1 _ _ ?_
  refine wp_seq_k ?_
  intro K2 hK2
  refine rg [0, 1, 2, 3, 4, 5, 6, 7] ?_
  refine sq ?_
  intro K hK
  go_big_op
  go_fit (g8_any 1 0 _ (by decide) (by decide) (by decide) (by decide))
  rintro e w_1 ⟨_, rfl, ⟨n_aa, o_aa, k_aa, c_aa, n_ab, o_ab, k_ab, c_ab, rfl, a1, a2⟩, hb_1⟩
  replace hs := hs.bl hb_1
  have La1 := hide (a1.lenOf (zlen_small8 (z := 1) (by decide)))
  have La2 := hide (a2.lenOf (zlen_small8 (z := 0) (by decide)))
  refine hK _ _ rfl trivial ?_
  clear hK K
  refine sq ?_
  intro K hK
  go_big_op
  go_fit (g8_any 2 0 _ (by decide) (by decide) (by decide) (by decide))
  rintro e w_2 ⟨_, rfl, ⟨n_ba, o_ba, k_ba, c_ba, n_bb, o_bb, k_bb, c_bb, rfl, b1, b2⟩, hb_2⟩
  replace hs := hs.bl hb_2
  have Lb1 := hide (b1.lenOf (zlen_small8 (z := 2) (by decide)))
  have Lb2 := hide (b2.lenOf (zlen_small8 (z := 0) (by decide)))
  refine hK _ _ rfl trivial ?_
  clear hK K
  refine sq ?_
  refine .al hs ?_; clear hs; intro p_b1 w_3 hs n3 kb_b1
  refine sq ?_
  intro K hK
  go_big_op
  go_fit (g8_any 0 1 _ (by decide) (by decide) (by decide) (by decide))
  rintro e w_4 ⟨_, rfl, ⟨n_ca, o_ca, k_ca, c_ca, n_cb, o_cb, k_cb, c_cb, rfl, c1, c2⟩, hb_4⟩
  replace hs := hs.bl hb_4
  have Lc1 := hide (c1.lenOf (zlen_small8 (z := 0) (by decide)))
  have Lc2 := hide (c2.lenOf (zlen_small8 (z := 1) (by decide)))
  refine hK _ _ rfl trivial ?_
  clear hK K
  refine sq ?_
  intro K hK
  go_big_op
  go_fit (g8_any 0 0 _ (by decide) (by decide) (by decide) (by decide))
  rintro e w_5 ⟨_, rfl, ⟨n_da, o_da, k_da, c_da, n_db, o_db, k_db, c_db, rfl, d1, d2⟩, hb_5⟩
  replace hs := hs.bl hb_5
  have Ld1 := hide (d1.lenOf (zlen_small8 (z := 0) (by decide)))
  have Ld2 := hide (d2.lenOf (zlen_small8 (z := 0) (by decide)))
  refine hK _ _ rfl trivial ?_
  clear hK K
  refine sq ?_
  refine .al hs ?_; clear hs; intro p_b2 w_6 hs n6 kb_b2
  refine sq ?_
  refine .al hs ?_; clear hs; intro p_b3 w_7 hs n7 kb_b3
  refine sq ?_
  refine .mv ?_
  apply wpSq_end
  refine hK2 _ _ ?_
  refine wp_ret ?_
  have k1_7 := (((((kb hb_2).b n3).b hb_4).b hb_5).b n6).b n7
  replace a1 := a1.k k1_7
  replace a2 := a2.k k1_7
  have k2_7 := ((((kb n3).b hb_4).b hb_5).b n6).b n7
  replace b1 := b1.k k2_7
  replace b2 := b2.k k2_7
  have k4_7 := ((kb hb_5).b n6).b n7
  replace c1 := c1.k k4_7
  replace c2 := c2.k k4_7
  have k5_7 := (kb n6).b n7
  replace d1 := d1.k k5_7
  replace d2 := d2.k k5_7
  try dsimp only [Exit.then, Exit.inBlock]
  refine bodyPost_ret (v := (.slice (some ⟨p_b3, 0, none⟩) 2 2)) (by simp [results, Try.results62, go_sem]) rfl ?_
  exact ⟨_, _, rfl, mc2 hs.g0 (sc2 hs.g2 a1 a2 b1 b2) (sc2 hs.g1 c1 c2 d1 d2), hs.b⟩
section
variable {w : World} {l n k c1 c2 : Nat} {o1 o2 : Option Addr} {Ms : List (List (Int × Int))} {ps : List (Int × Int)}
set_option maxHeartbeats 4000000 in
set_option maxRecDepth 20000 in
theorem told_yes (h1 : MC w o1 Ms) (h2 : MN l w o2 Ms) (hn : Ms.length = n) (hl : n ≤ 1000000000) (hr : ∀ r ∈ Ms, r.length ≤ 1000000000) (hl2 : l ≤ 100000000) :
    Calls Try.prog 21 #[.slice o1 n c1, .int .i64 0, .slice o2 n c2, .int .i64 0] w fun e w' => e = .returned (.bool true) ∧ Below w.heap.size w w' := by
  have H1 := hide h1
  have H2 := hide h2
  clear h1 h2
  go_enter Try.func21, Try.ntmps21
  have hs := St.nil w
  refine wp_seq_k ?_
  intro K1 hK1
  refine rg [0] ?_
  refine sq ?_
  refine .mv ?_
  apply wpSq_end
  refine hK1 _ _ ?_
  refine wp_seq_k ?_
  intro K2 hK2
  refine wp_seq_k ?_
  intro K3 hK3
  refine rg [0, 1] ?_
  refine sq ?_
  refine .mv ?_
  refine sq ?_
  refine .r0 ?_
  apply wpSq_end
  refine hK3 _ _ ?_
  refine cf ?_
  refine wp_skip ?_
  refine hK2 _ _ ?_
  refine wp_seq_k ?_
  intro K4 hK4
  refine rg [0, 1, 2, 3, 4, 5, 6, 7] ?_
  refine sq ?_
  refine .mv ?_
  refine sq ?_
  refine .r0 ?_
  refine sq ?_
  refine .mv ?_
  refine sq ?_
  refine .mv ?_
  refine sq ?_
  refine .mv ?_
  refine sq ?_
  intro K hK
  have hb := hs.b
  go_big_op
  go_fit (msame_any (H1.out.bl hb) (H2.out.bl stab_n hb) hn hl hr hl2)
  rintro e w_1 ⟨rfl, hb_1⟩
  clear hb
  replace hs := hs.bl hb_1
  refine hK _ _ rfl trivial ?_
  clear hK K
  refine sq ?_
  refine .r0 ?_
  refine sq ?_
  refine .mv ?_
  apply wpSq_end
  refine hK4 _ _ ?_
  refine wp_ret ?_
  try dsimp only [Exit.then, Exit.inBlock]
  refine bodyPost_ret (v := (.bool true)) (by simp [results, Try.results21, go_sem]) rfl ?_
  exact ⟨rfl, hs.b⟩
set_option maxHeartbeats 4000000 in
set_option maxRecDepth 20000 in
theorem told_no (f : Int) (hf : f ≠ 0) {m : Nat} (hl : n = 0) :
    Calls Try.prog 21 #[.slice o1 n c1, .int .i64 f, .slice o2 m c2, .int .i64 f] w fun e w' => e = .returned (.bool true) ∧ Below w.heap.size w w' := by
  have t1 : ((f : Int) != 0) = true := bne_iff_ne.2 hf
  have t2 : ((f : Int) == f) = true := beq_self_eq_true f
  subst hl
  go_enter Try.func21, Try.ntmps21
  have hs := St.nil w
  refine wp_seq_k ?_
  intro K1 hK1
  refine rg [0] ?_
  refine sq ?_
  refine .mv ?_
  apply wpSq_end
  refine hK1 _ _ ?_
  refine wp_seq_k ?_
  intro K2 hK2
  refine wp_seq_k ?_
  intro K3 hK3
  refine rg [0, 1] ?_
  refine sq ?_
  refine .mv ?_
  refine sq ?_
  refine .r0 ?_
  apply wpSq_end
  refine hK3 _ _ ?_
  refine ct ?_
  refine wp_seq_k ?_
  intro K4 hK4
  refine rg [0, 1, 2, 3, 4, 5, 6, 7, 8] ?_
  refine sq ?_
  refine .mv ?_
  refine sq ?_
  refine .mv ?_
  refine sq ?_
  refine .r0 ?_
  refine sq ?_
  refine .mv ?_
  refine sq ?_
  refine .mv ?_
  refine sq ?_
  refine .r0 ?_
  refine sq ?_
  refine .r0 ?_
  refine sq ?_
  refine .r0 ?_
  refine sq ?_
  refine .mv ?_
  apply wpSq_end
  refine hK4 _ _ ?_
  refine wp_ret ?_
  try dsimp only [Exit.then, Exit.inBlock]
  refine bodyPost_ret (v := (.bool true)) (by simp [results, Try.results21, go_sem]) rfl ?_
  exact ⟨rfl, hs.b⟩
end
set_option maxHeartbeats 4000000 in
set_option maxRecDepth 20000 in
theorem awake8_any (w : World) :
    Calls Try.prog 19 #[] w fun e w' => e = .returned (.bool true) ∧ Below w.heap.size w w' := by
  go_enter Try.func19, Try.ntmps19
  have hs := St.nil w
  refine wp_seq_k ?_
  intro K1 hK1
  refine rg [0] ?_
  refine sq ?_
  refine .mv ?_
  apply wpSq_end
  refine hK1 _ _ ?_
  refine wp_seq_k ?_
  intro K2 hK2
  refine rg [0, 1, 2, 3, 4, 5, 6, 7] ?_
  refine sq ?_
  intro K hK
  go_big_op
  go_fit (simple_any _)
  rintro e w_1 ⟨o_S, c_S, rfl, m_S, hb_1⟩
  replace hs := hs.bl hb_1
  refine hK _ _ rfl trivial ?_
  clear hK K
  refine sq ?_
  intro K hK
  go_big_op
  go_fit (simple_any _)
  rintro e w_2 ⟨o_U, c_U, rfl, m_U, hb_2⟩
  replace m_S := m_S.bl hb_2; replace hs := hs.bl hb_2
  refine hK _ _ rfl trivial ?_
  clear hK K
  refine sq ?_
  intro K hK
  go_big_op
  go_fit (mxmc (mMul_ok (m_S.mn (bd_small (by decide))) (m_U.mn (bd_small (by decide))) rfl rfl ⟨gd_simple, gd_simple, rfl⟩ (by decide) (by decide)))
  rintro e w_3 ⟨o_P, c_P, rfl, m_P, hb_3⟩
  replace m_S := m_S.bl hb_3; replace m_U := m_U.bl hb_3; replace hs := hs.bl hb_3
  rw [mul_simple] at m_P
  refine hK _ _ rfl trivial ?_
  clear hK K
  refine sq ?_
  refine .mv ?_
  refine sq ?_
  refine .r0 ?_
  refine sq ?_
  refine .r0 ?_
  refine sq ?_
  refine .mv ?_
  refine sq ?_
  refine .mv ?_
  apply wpSq_end
  refine hK2 _ _ ?_
  refine wp_seq_k ?_
  intro K3 hK3
  refine rg [0, 1, 2, 3, 4, 5, 6, 7, 8, 9, 10, 11, 12, 13, 14] ?_
  refine sq ?_
  refine .mv ?_
  refine sq ?_
  refine .mv ?_
  refine sq ?_
  intro K hK
  go_big_op
  go_fit (g8_any 1 2 _ (by decide) (by decide) (by decide) (by decide))
  rintro e w_4 ⟨_, rfl, ⟨n_aa, o_aa, k_aa, c_aa, n_ab, o_ab, k_ab, c_ab, rfl, a1, a2⟩, hb_4⟩
  replace m_P := m_P.bl hb_4; replace hs := hs.bl hb_4
  have La1 := hide (a1.lenOf (zlen_small8 (z := 1) (by decide)))
  have La2 := hide (a2.lenOf (zlen_small8 (z := 2) (by decide)))
  refine hK _ _ rfl trivial ?_
  clear hK K
  refine sq ?_
  intro K hK
  go_big_op
  go_fit (g8_any 2 0 _ (by decide) (by decide) (by decide) (by decide))
  rintro e w_5 ⟨_, rfl, ⟨n_ba, o_ba, k_ba, c_ba, n_bb, o_bb, k_bb, c_bb, rfl, b1, b2⟩, hb_5⟩
  replace m_P := m_P.bl hb_5; replace hs := hs.bl hb_5
  have Lb1 := hide (b1.lenOf (zlen_small8 (z := 2) (by decide)))
  have Lb2 := hide (b2.lenOf (zlen_small8 (z := 0) (by decide)))
  refine hK _ _ rfl trivial ?_
  clear hK K
  refine sq ?_
  refine .al hs ?_; clear hs; intro p_b1 w_6 hs n6 kb_b1
  replace m_P := m_P.bl n6
  refine sq ?_
  intro K hK
  go_big_op
  go_fit (g8_any 0 1 _ (by decide) (by decide) (by decide) (by decide))
  rintro e w_7 ⟨_, rfl, ⟨n_ca, o_ca, k_ca, c_ca, n_cb, o_cb, k_cb, c_cb, rfl, c1, c2⟩, hb_7⟩
  replace m_P := m_P.bl hb_7; replace hs := hs.bl hb_7
  have Lc1 := hide (c1.lenOf (zlen_small8 (z := 0) (by decide)))
  have Lc2 := hide (c2.lenOf (zlen_small8 (z := 1) (by decide)))
  refine hK _ _ rfl trivial ?_
  clear hK K
  refine sq ?_
  intro K hK
  go_big_op
  go_fit (g8_any 0 2 _ (by decide) (by decide) (by decide) (by decide))
  rintro e w_8 ⟨_, rfl, ⟨n_da, o_da, k_da, c_da, n_db, o_db, k_db, c_db, rfl, d1, d2⟩, hb_8⟩
  replace m_P := m_P.bl hb_8; replace hs := hs.bl hb_8
  have Ld1 := hide (d1.lenOf (zlen_small8 (z := 0) (by decide)))
  have Ld2 := hide (d2.lenOf (zlen_small8 (z := 2) (by decide)))
  refine hK _ _ rfl trivial ?_
  clear hK K
  refine sq ?_
  refine .al hs ?_; clear hs; intro p_b2 w_9 hs n9 kb_b2
  replace m_P := m_P.bl n9
  refine sq ?_
  refine .al hs ?_; clear hs; intro p_b3 w_10 hs n10 kb_b3
  replace m_P := m_P.bl n10
  refine sq ?_
  intro K hK
  have k4_10 := (((((kb hb_5).b n6).b hb_7).b hb_8).b n9).b n10
  replace a1 := a1.k k4_10
  replace a2 := a2.k k4_10
  have k5_10 := ((((kb n6).b hb_7).b hb_8).b n9).b n10
  replace b1 := b1.k k5_10
  replace b2 := b2.k k5_10
  have k7_10 := ((kb hb_8).b n9).b n10
  replace c1 := c1.k k7_10
  replace c2 := c2.k k7_10
  have k8_10 := (kb n9).b n10
  replace d1 := d1.k k8_10
  replace d2 := d2.k k8_10
  go_big_op
  go_fit (told_yes m_P (MV.mn (mc2 hs.g0 (sc2 hs.g2 a1 a2 b1 b2) (sc2 hs.g1 c1 c2 d1 d2)) (bd_small (by decide))) rfl (by decide) (by decide) (by decide))
  rintro e w_11 ⟨rfl, hb_11⟩
  replace m_P := m_P.bl hb_11; replace hs := hs.bl hb_11
  refine hK _ _ rfl trivial ?_
  clear hK K
  refine sq ?_
  refine .mv ?_
  refine sq ?_
  intro K hK
  go_big_op
  go_fit (simple_any _)
  rintro e w_12 ⟨o_V, c_V, rfl, m_V, hb_12⟩
  clear m_S m_U m_P a1 a2 b1 b2 c1 c2 d1 d2
  replace hs := hs.bl hb_12
  refine hK _ _ rfl trivial ?_
  clear hK K
  refine sq ?_
  intro K hK
  go_big_op
  go_fit (good_yes (m_V.mn (bd_small (by decide))) rfl (by decide) gd_simple)
  rintro e w_13 ⟨rfl, hb_13⟩
  replace m_V := m_V.bl hb_13; replace hs := hs.bl hb_13
  refine hK _ _ rfl trivial ?_
  clear hK K
  refine sq ?_
  refine .r0 ?_
  refine sq ?_
  refine .mv ?_
  apply wpSq_end
  refine hK3 _ _ ?_
  refine wp_ret ?_
  try dsimp only [Exit.then, Exit.inBlock]
  refine bodyPost_ret (v := (.bool true)) (by simp [results, Try.results19, go_sem]) rfl ?_
  exact ⟨rfl, hs.b⟩
end Go.Proofs.Ytnkimagnmnocdaa


/- gmat: Length. -/
namespace Go.Proofs.Ytnkimagnmnocdaa
open Go Go.RowKit Dig
set_option linter.unusedVariables false
section
variable {w : World} {l n c : Nat} {ov : Option Addr} {V : List (Int × Int)}
end
end Go.Proofs.Ytnkimagnmnocdaa


/- Matrices' mathematics: brackets, Adj of products, Gram, lengths. -/
namespace Go.Proofs.Ytnkimagnmnocdaa
open Go Go.RowKit Dig
set_option linter.unusedVariables false
section
variable {a b c d : Int × Int} {f g : Nat → Int × Int} {k n r i j : Nat} {F G : Nat → Nat → Int × Int} {A B C : List (List (Int × Int))}
theorem len_mkM : (mkM r k F).length = r := by simp [mkM]
theorem mkM_eq {r' k' : Nat} (hr : r = r') (hk : k = k') (h : ∀ i, i < r → ∀ j, j < k → F i j = G i j) : mkM r k F = mkM r' k' G := by
  subst hr hk
  exact List.map_congr_left fun i hi => List.map_congr_left fun j hj => h i (List.mem_range.1 hi) j (List.mem_range.1 hj)
theorem bd_mkM {l : Nat} (h : ∀ i, i < r → ∀ j, j < k → zl l (F i j)) : BdM l (mkM r k F) := fun q hq p hp => by
  obtain ⟨i, hi, rfl⟩ := List.mem_map.1 hq
  obtain ⟨j, hj, rfl⟩ := List.mem_map.1 hp
  exact h i (List.mem_range.1 hi) j (List.mem_range.1 hj)
theorem at2_bd {l : Nat} (h : BdM l A) : zl l (at2 A i j) := by
  unfold at2 rw_
  rcases Nat.lt_or_ge i A.length with hi | hi
  · rw [List.getD, List.getElem?_eq_getElem hi]
    exact Bd.at1 (h _ (List.getElem_mem hi))
  · rw [List.getD, List.getElem?_eq_none hi]
    exact zl_0 _
end
end Go.Proofs.Ytnkimagnmnocdaa


/- The reference's Row. -/
namespace Go.Proofs.Ytnkimagnmnocdaa
open Go Go.RowKit Dig
set_option linter.unusedVariables false
/-- A row and another one's multiple, number by number: the first i. -/
def rowR (ps qs : List (Int × Int)) (p : Int × Int) (i : Nat) : List (Int × Int) := (List.range i).map fun j => aP (at1 ps j) (mP (at1 qs j) p)
theorem rowR_snoc {ps qs : List (Int × Int)} {p : Int × Int} {i : Nat} : rowR ps qs p (i + 1) = rowR ps qs p i ++ [aP (at1 ps i) (mP (at1 qs i) p)] := by unfold rowR; rw [List.range_succ, List.map_append]; rfl
section
variable {w : World} {l m r n n2 c1 c2 : Nat} {o1 o2 : Option Addr} {ps qs : List (Int × Int)} {vg : Value} {u v : Int}
set_option maxHeartbeats 4000000 in
set_option maxRecDepth 20000 in
theorem rRow_any (h1 : SN l w o1 ps) (h2 : SN m w o2 qs) (hq : PN w vg u r v r) (hn : ps.length = n) (hm : qs.length = n2) (hle : n ≤ n2) (hl : n2 ≤ 1000000000) (hl1 : l ≤ 20000000) (hl2 : m ≤ 20000000) (hl3 : r ≤ 20000000) :
    Calls Try.prog 23 #[.slice o1 n c1, .slice o2 n2 c2, vg] w fun e w' => ∃ o c xs, e = .returned (.slice o n c) ∧ Lst w' w.heap.size 41 4 (.slice o n c) n xs ∧ GD w' xs (rowR ps qs (u, v) n) ∧ Below w.heap.size w w' := by
  have H1 := hide h1
  have H2 := hide h2
  clear h1 h2
  obtain ⟨n_2a, o_2a, k_2a, c_2a, n_2b, o_2b, k_2b, c_2b, rfl, hq1, hq2⟩ := hq
  go_enter Try.func23, Try.ntmps23
  have hs := St.nil w
  refine wp_seq_k ?_
  intro K1 hK1
  refine rg [0, 1] ?_
  refine sq ?_
  refine .al hs ?_; clear hs; intro p_b1 w_1 hs n1 kb_b1
  refine sq ?_
  refine .mv ?_
  apply wpSq_end
  refine hK1 _ _ ?_
  refine wp_seq_k ?_
  intro K2 hK2
  refine rg [0] ?_
  refine sq ?_
  refine .mv ?_
  apply wpSq_end
  refine hK2 _ _ ?_
  refine wp_seq_k ?_
  intro K3 hK3
  refine wp_seq_k ?_
  intro K4 hK4
  refine rg [0] ?_
  refine sq ?_
  refine .mv ?_
  apply wpSq_end
  refine hK4 _ _ ?_
  refine wp_block ?_
  have k0_1 := kb n1
  replace hq1 := hq1.k k0_1
  replace hq2 := hq2.k k0_1
  have hd2 := hs.2.1
  go_loopg [7, 8] n (fun kk s7 s8 wr => ∃ (i : Nat) (o : Option Addr) (c : Nat) (xs : List Value), s8 = .int .i64 (i : Int) ∧ s7 = .slice o i c ∧ i + kk = n ∧ GD wr xs (rowR ps qs (u, v) i) ∧ ZN wr (.agg #[.bool n_2a, .slice o_2a k_2a c_2a]) u r ∧ ZN wr (.agg #[.bool n_2b, .slice o_2b k_2b c_2b]) v r ∧
    St w [bx p_b1 #[.bool n_2a, .slice o_2a k_2a c_2a, .bool n_2b, .slice o_2b k_2b c_2b] 41, ls w.heap.size 41 4 (.slice o i c) i xs] wr)
  case atStart => exact ⟨0, none, 0, [], rfl, rfl, by omega, GD.nil _, hq1, hq2, (hs.l0 _ _).perm (List.Perm.swap ..)⟩
  case round =>
  clear hq1 hq2 hs
  obtain ⟨i, o, c, xs, rfl, rfl, hik, d, z5, z6, hs⟩ := hrel
  by_cases hi : i < n
  · obtain ⟨g1, off1, cur1, ty1, fz1, a1, a2, a3, a4, a5, a6, a7, a8, rfl, x1, e1, e2, e3, e4, z1, z2⟩ := H1.out.op (j := i) (by omega)
    obtain ⟨g2, off2, cur2, ty2, fz2, d1, d2, d3, d4, d5, d6, d7, d8, rfl, x2, e5, e6, e7, e8, z3, z4⟩ := H2.out.op (j := i) (by omega)
    replace z1 : ZN wr (.agg #[.bool a1, .slice a2 a3 a4]) (at1 ps i).1 l := z1.bl hs.b
    replace z2 : ZN wr (.agg #[.bool a5, .slice a6 a7 a8]) (at1 ps i).2 l := z2.bl hs.b
    replace z3 : ZN wr (.agg #[.bool d1, .slice d2 d3 d4]) (at1 qs i).1 m := z3.bl hs.b
    replace z4 : ZN wr (.agg #[.bool d5, .slice d6 d7 d8]) (at1 qs i).2 m := z4.bl hs.b
    have x1z := x1
    have x2z := x2
    have lt1 := x1.lt
    have lt2 := x2.lt
    replace x1 := x1.bl hs.b
    replace x2 := x2.bl hs.b
    have Lz1 := hide z1.len
    have Lz2 := hide z2.len
    have Lz3 := hide z3.len
    have Lz4 := hide z4.len
    have E1 := hide (rowR_snoc (ps := ps) (qs := qs) (p := (u, v)) (i := i))
    have LF := hide (show zl (m + r + 1) (mP (at1 qs i) (u, v)) from zl_mP ⟨Lz3.out, Lz4.out⟩ ⟨z5.len, z6.len⟩)
    generalize at1 ps i = p at *
    generalize at1 qs i = q at *
    refine wp_seq_k ?_
    intro K5 hK5
    refine wp_seq_k ?_
    intro K6 hK6
    refine rg [0, 1, 2, 3] ?_
    refine sq ?_
    refine .mv ?_
    refine sq ?_
    refine .mv ?_
    refine sq ?_
    refine .r0 ?_
    refine sq ?_
    refine .r0 ?_
    apply wpSq_end
    refine hK6 _ _ ?_
    refine ct ?_
    refine wp_skip ?_
    refine hK5 _ _ ?_
    refine wp_seq_k ?_
    intro K7 hK7
    refine wp_block ?_
    refine wp_region_f4 [(0, false), (1, false), (2, false), (3, false), (4, false), (5, false), (6, false), (7, false), (8, false), (9, false), (10, true), (11, true), (12, true)] [13, 14] [] (fun _ => default) [99, 99, 99, 99, 0, 99, 99, 99, 1, 2, 99, 99, 99, 99, 99] [] (.c x1 (.c x2 (.c hs.g0 .n))) fn fun w_3 n3 => ?_
    replace x1 := x1.bl n3; replace x2 := x2.bl n3; replace hs := hs.bl n3
    refine fmv ?_
    refine fmv ?_
    refine fmv ?_
    refine f0 ?_
    apply wpFl_ld rfl rfl; (case h1 => intro w' hC K hK; have c0 := Bs.cell hC ((off1 + i * 4)) e1; have c1 := Bs.cell hC ((off1 + i * 4) + 1) e2; have c2 := Bs.cell hC ((off1 + i * 4) + 2) e3; have c3 := Bs.cell hC ((off1 + i * 4) + 3) e4; go_big_op; exact hK); iterate 4 kernel_rfl
    refine fmv ?_
    refine fmv ?_
    refine f0 ?_
    apply wpFl_ld rfl rfl; (case h1 => intro w' hC K hK; have c0 := Bs.cell hC ((off2 + i * 4)) e5; have c1 := Bs.cell hC ((off2 + i * 4) + 1) e6; have c2 := Bs.cell hC ((off2 + i * 4) + 2) e7; have c3 := Bs.cell hC ((off2 + i * 4) + 3) e8; go_big_op; exact hK); iterate 4 kernel_rfl
    refine f4 ?_
    refine fl fun w_4 n4 => ?_
    replace x1 := x1.bl n4; replace x2 := x2.bl n4; replace hs := hs.bl n4
    intro K hK
    have k0_2 := (kb n3).b n4
    replace z3 := z3.k k0_2
    replace z4 := z4.k k0_2
    replace z5 := z5.k k0_2
    replace z6 := z6.k k0_2
    go_big_op
    go_fit (rgMul_any (.mk' z3 z4) (.mk' z5 z6) (by omega) (by omega) (by omega) (by omega))
    rintro e w_5 ⟨_, rfl, ⟨n_fa, o_fa, k_fa, c_fa, n_fb, o_fb, k_fb, c_fb, rfl, f1, f2⟩, hb_5⟩
    replace x1 := x1.bl hb_5; replace x2 := x2.bl hb_5; replace hs := hs.bl hb_5
    have Lf1 := hide (f1.lenOf (LF.out.1))
    have Lf2 := hide (f2.lenOf (LF.out.2))
    refine hK _ _ rfl ⟨hb_5, (And.intro x1 (And.intro x2 (And.intro hs.g0 trivial)))⟩ ?_
    clear hK K
    refine fl fun w_6 n6 => ?_
    replace x1 := x1.bl n6; replace x2 := x2.bl n6; replace hs := hs.bl n6
    intro K hK
    have k0_4 := (k0_2.b hb_5).b n6
    replace z1 := z1.k k0_4
    replace z2 := z2.k k0_4
    have k3_4 := kb n6
    replace f1 := f1.k k3_4
    replace f2 := f2.k k3_4
    go_big_op
    go_fit (rgAdd_any (.mk' z1 z2) (.mk' (f1.zn Lf1.out) (f2.zn Lf2.out)) (by omega) (by omega) (by omega) (by omega))
    rintro e w_7 ⟨_, rfl, ⟨n_ta, o_ta, k_ta, c_ta, n_tb, o_tb, k_tb, c_tb, rfl, t1, t2⟩, hb_7⟩
    replace x1 := x1.bl hb_7; replace x2 := x2.bl hb_7; replace hs := hs.bl hb_7
    refine hK _ _ rfl ⟨hb_7, (And.intro x1 (And.intro x2 (And.intro hs.g0 trivial)))⟩ ?_
    clear hK K
    refine fl fun w_8 n8 => ?_
    replace x1 := x1.bl n8; replace x2 := x2.bl n8; replace hs := hs.bl n8
    refine .al hs ?_ (e := fun _ _ hs n => ⟨n, (And.intro (x1z.bl hs.b) (And.intro (x2z.bl hs.b) (And.intro hs.g1 trivial)))⟩); clear hs; intro p_b2 w_9 hs n9 kb_b2
    replace x1 := x1.bl n9; replace x2 := x2.bl n9
    refine e0 hs ?_; clear hs; intro w_10 hs n10
    replace x1 := x1.bl n10; replace x2 := x2.bl n10
    refine tl ?_
    have k5_8 := ((kb n8).b n9).b n10
    replace t1 := t1.k k5_8
    replace t2 := t2.k k5_8
    have k0_8 := (((k0_4.b hb_7).b n8).b n9).b n10
    replace d := d.k k0_8
    replace d := d.snoc (.mk' t1 t2)
    refine .apo 2 hs hs.g0 ?_ (eE := fun _ _ _ hs => (And.intro (x1z.bl hs.b) (And.intro (x2z.bl hs.b) (And.intro hs.g1 True.intro)))); clear hs; intro o_L_11 c_L_11 w_11 hs kp11 hw11; simp only [List.set_cons_succ, List.set_cons_zero] at hs
    replace x1 := x1.lo lt1 hw11
    replace x2 := x2.lo lt2 hw11
    refine tl ?_
    refine .mv ?_ (e := (And.intro (x1z.bl hs.b) (And.intro (x2z.bl hs.b) (And.intro hs.g1 True.intro))))
    apply wpTail_end
    refine hK7 _ _ ?_
    refine rg [0, 1, 2] ?_
    refine sq ?_
    refine .mv ?_
    refine sq ?_
    refine .r0 ?_
    refine sq ?_
    refine .mv ?_
    apply wpSq_end
    have k8_9 := kp11
    replace d := d.k k8_9
    have k2_9 := ((((((kb hb_5).b n6).b hb_7).b n8).b n9).b n10).t kp11
    replace z5 := z5.k k2_9
    replace z6 := z6.k k2_9
    refine ‹∀ (a' : Act) (w' : World), Handed _ _ a' w' → _› _ _ ?_
    go_roundg (gk - 1)
    case rel => exact ⟨i + 1, _, _, _, by rfl, by rfl, by omega, by rw [E1.out]; exact d, z5, z6, hs.sub (.cons _ (List.Sublist.refl _))⟩
    case measure => omega
  · obtain rfl : i = n := by omega
    clear hi
    refine wp_seq_k ?_
    intro K5 hK5
    refine wp_seq_k ?_
    intro K6 hK6
    refine rg [0, 1, 2, 3] ?_
    refine sq ?_
    refine .mv ?_
    refine sq ?_
    refine .mv ?_
    refine sq ?_
    refine .r0 ?_
    refine sq ?_
    refine .r0 ?_
    apply wpSq_end
    refine hK6 _ _ ?_
    refine cf ?_
    refine wp_exit ?_
    refine hK3 _ _ ?_
    refine wp_seq_k ?_
    intro K7 hK7
    refine rg [0, 1] ?_
    refine sq ?_
    refine .mv ?_
    refine sq ?_
    refine .mv ?_
    apply wpSq_end
    refine hK7 _ _ ?_
    refine wp_ret ?_
    try dsimp only [Exit.then, Exit.inBlock]
    refine bodyPost_ret (v := (.slice o i c)) (by simp [results, Try.results23, go_sem]) rfl ?_
    exact ⟨_, _, _, rfl, hs.1.2.1.1, d, hs.b⟩
end
end Go.Proofs.Ytnkimagnmnocdaa


/- The reference's Dot and Length. -/
namespace Go.Proofs.Ytnkimagnmnocdaa
open Go Go.RowKit Dig
set_option linter.unusedVariables false
section
variable {w : World} {l m n c1 c2 : Nat} {o1 o2 : Option Addr} {ps qs : List (Int × Int)}
end
end Go.Proofs.Ytnkimagnmnocdaa

