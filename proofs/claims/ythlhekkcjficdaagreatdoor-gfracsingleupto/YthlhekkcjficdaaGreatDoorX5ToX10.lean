/- gfrac: a number over one denominator; Mul, Quo, Conj, Norm. -/
import Derived.Test.YthlhekkcjficdaaGreatDoorX2ToG2
import Derived.Test.YthlhekkcjficdaaGreatDoorT1ToX1

namespace Go.Proofs.YthlhekkcjficdaaGreatDoor
open Go Go.RowKit Dig
set_option maxHeartbeats 4000000
set_option maxRecDepth 20000
set_option linter.unusedVariables false
def odF (y v : Int) : Int := v.fdiv (Int.gcd y v)
def odG (y v : Int) : Int := y.fdiv (Int.gcd y v)
theorem od_len {y v : Int} {m n : Nat} (hy : (dig y.natAbs).length ≤ m) (hv : (dig v.natAbs).length ≤ n) : (dig (odF y v).natAbs).length ≤ n ∧ (dig (odG y v).natAbs).length ≤ m := by
 unfold odF odG
 by_cases h : (Int.gcd y v : Int) = 0
 · have h1 : Int.gcd y v = 0 := by exact_mod_cast h
   obtain ⟨rfl, rfl⟩ := Int.gcd_eq_zero_iff.1 h1
   rw [Int.zero_fdiv]
   exact ⟨hv, hy⟩
 · exact ⟨fdiv_len h hv, fdiv_len h hy⟩
theorem od_ne {y v : Int} (hy : y ≠ 0) (hv : v ≠ 0) : odF y v ≠ 0 ∧ odG y v ≠ 0 ∧ y * odF y v = v * odG y v := by
 have h1 := Int.fdiv_mul_cancel (Int.gcd_dvd_left y v)
 have h2 := Int.fdiv_mul_cancel (Int.gcd_dvd_right y v)
 unfold odF odG
 generalize (Int.gcd y v : Int) = g at *
 generalize y.fdiv g = a at *
 generalize v.fdiv g = b at *
 refine ⟨fun h => hv (by rw [← h2, h, Int.zero_mul]), fun h => hy (by rw [← h1, h, Int.zero_mul]), ?_⟩
 rw [← h1, ← h2]
 grind
theorem od_zero {y v : Int} (h : y = 0 ∨ v = 0) : y * odF y v = 0 := by
 unfold odF
 rcases h with rfl | rfl
 · exact Int.zero_mul _
 · rw [Int.zero_fdiv, Int.mul_zero]
theorem rv_scale {x y f : Int} (hy : y ≠ 0) (hf : f ≠ 0) : rv (x * f) (y * f) = rv x y :=
 (rv_eq (Int.mul_ne_zero hy hf) hy).2 (by grind)
theorem rv_addD {a b d : Int} (hd : d ≠ 0) : rv (a + b) d = rv a d + rv b d := by
 have h := cast_ne hd
 unfold rv
 rw [Rat.intCast_add]; grind
section
variable {x y u v p q s t : Int}
theorem od_rv (hy : y ≠ 0) (hv : v ≠ 0) : y * odF y v ≠ 0 ∧ rv (x * odF y v) (y * odF y v) = rv x y ∧ rv (u * odG y v) (y * odF y v) = rv u v := by
 obtain ⟨h1, h2, h3⟩ := od_ne hy hv
 exact ⟨Int.mul_ne_zero hy h1, rv_scale hy h1, by rw [h3]; exact rv_scale hv h2⟩
theorem quo_rv {X Y D P S E : Int} (hD : D ≠ 0) (hE : E ≠ 0) (hN : gN P S ≠ 0) :
   rv ((X * E - Y * 0) * P - (X * 0 + Y * E) * -S) (D * gN P S) = (rv X D * rv P E - rv Y D * -rv S E) / (rv P E * rv P E + rv S E * rv S E) ∧
   rv ((X * E - Y * 0) * -S + (X * 0 + Y * E) * P) (D * gN P S) = (rv X D * -rv S E + rv Y D * rv P E) / (rv P E * rv P E + rv S E * rv S E) := by
 have h1 := cast_ne hD
 have h2 := cast_ne hE
 have h3 := cast_ne hN
 unfold gN at h3 ⊢
 rw [Rat.intCast_add, Rat.intCast_mul, Rat.intCast_mul] at h3
 unfold rv
 simp only [Rat.intCast_add, Rat.intCast_sub, Rat.intCast_mul, Rat.intCast_neg]
 generalize (X : Rat) = a at *
 generalize (Y : Rat) = b at *
 generalize (D : Rat) = c at *
 generalize (P : Rat) = d at *
 generalize (S : Rat) = e at *
 generalize (E : Rat) = f at *
 obtain ⟨n, hn⟩ : ∃ n, d * d + e * e = n := ⟨_, rfl⟩
 rw [hn] at h3 ⊢
 have h4 : d / f * (d / f) + e / f * (e / f) = n / (f * f) := by grind
 rw [h4]
 have h5 : ((0 : Int) : Rat) = 0 := rfl
 rw [h5]
 constructor <;> grind
theorem norm_rv {X Y D : Int} (hD : D ≠ 0) : rv (gN X Y) (D * D) = rv X D * rv X D + rv Y D * rv Y D := by
 unfold gN
 rw [rv_addD (Int.mul_ne_zero hD hD), rv_mul, rv_mul]
end
section
variable {w : World} {va vb : Value} {x y u v p q s t : Int} {l m k n l2 m2 k2 n2 : Nat}
theorem od_some (ha : CN w va x l y m u k v n) (hl : l ≤ 9000000) (hm : m ≤ 4500000) (hk : k ≤ 9000000) (hn : n ≤ 4500000) (h : ¬ (y = 0 ∧ v = 0)) :
   Calls Tryz.prog 51 #[va] w fun e w' => ∃ r d, e = .returned (.tuple #[r, d]) ∧ PC w' r (x * odF y v) (u * odG y v) ∧ ZC w' d (y * odF y v) ∧ Below w.heap.size w w' := by
 have HG := hide (show (Int.gcd y v : Int) ≠ 0 from fun h0 => h (Int.gcd_eq_zero_iff.1 (by exact_mod_cast h0)))
 have H1 := hide (fmod_dvd (Int.gcd_dvd_left y v))
 have H2 := hide (fmod_dvd (Int.gcd_dvd_right y v))
 clear h
 unfold odF odG
 obtain ⟨n_0a, o_0a, k_0a, c_0a, n_0b, o_0b, k_0b, c_0b, n_0c, o_0c, k_0c, c_0c, n_0d, o_0d, k_0d, c_0d, rfl, ha1, ha2, ha3, ha4⟩ := ha
 go_enter Tryz.func51, Tryz.ntmps51
 have hs := St.nil w
 refine wp_seq_k fun K1 hK1 => rg [0, 1, 2] ?_
 refine sq ?_
 refine .al hs ?_; clear hs; intro p_b1 w_1 hs n1 kb_b1
 refine sq ?_
 refine .al hs ?_; clear hs; intro p_b2 w_2 hs n2 kb_b2
 refine sq ?_
 refine .al hs ?_; clear hs; intro p_b3 w_3 hs n3 kb_b3
 apply wpSq_end
 refine hK1 _ _ ?_
 refine wp_seq_k fun K2 hK2 => rg [0, 1, 2, 3, 4, 5, 6, 7, 8] ?_
 refine sr ?_
 refine sr ?_
 refine sq ?_
 refine .r2 ⟨hs.g2.cell 2 rfl, hs.g2.cell 3 rfl⟩ ?_
 refine sr ?_
 refine sr ?_
 refine sq ?_
 refine .r2 ⟨hs.g2.cell 6 rfl, hs.g2.cell 7 rfl⟩ ?_
 refine sq ?_
 intro K hK
 have k0_3 := ((kb n1).b n2).b n3
 replace ha2 := ha2.k k0_3
 replace ha4 := ha4.k k0_3
 go_big_op
 go_fit (zgcd_any ha2 ha4 (by omega) (by omega) )
 rintro e w_4 ⟨v_g, rfl, g, hb_4⟩
 replace hs := hs.bl hb_4
 replace g := g.rd
 obtain ⟨n_g, o_g, k_g, c_g, rfl⟩ := g.open2
 have Lg := hide (g.lenOf (zlen_gcd (ha2.len) (ha4.len)))
 refine hK _ _ rfl trivial ?_
 clear hK K
 refine sq ?_
 refine .al hs ?_; clear hs; intro p_b4 w_5 hs n5 kb_b4
 refine sq ?_
 refine .s2 hs.g0 (fun _ => hs.u0 kb_b4) ?_; clear hs; intro w_6 hs hd6 ho6
 apply wpSq_end
 refine hK2 _ _ ?_
 refine wp_seq_k fun K3 hK3 => rg [0, 1, 2, 3, 4, 5, 6, 7, 8, 9, 10] ?_
 refine sr ?_
 refine sr ?_
 refine sq ?_
 refine .r2 ⟨hs.g3.cell 2 rfl, hs.g3.cell 3 rfl⟩ ?_
 refine sq ?_
 refine .r2 hs.g0.f2 ?_
 refine sq ?_
 intro K hK
 have k3_6 := ((kb hb_4).b n5).o hd6 ho6
 replace ha2 := ha2.k k3_6
 have k4_6 := (kb n5).o hd6 ho6
 replace g := g.k k4_6
 go_big_op
 go_fit (exact_any ha2 (g.zn Lg.out) (by omega) (by omega) HG.out H1.out)
 rintro e w_7 ⟨v_gi, rfl, gi, hb_7⟩
 replace hs := hs.bl hb_7
 replace gi := gi.rd
 obtain ⟨n_gi, o_gi, k_gi, c_gi, rfl⟩ := gi.open2
 have Lgi := hide (gi.lenOf (fdiv_len (HG.out) (ha2.len)))
 refine hK _ _ rfl trivial ?_
 clear hK K
 refine sm ?_
 refine sr ?_
 refine sr ?_
 refine sq ?_
 refine .al hs ?_; clear hs; intro p_b5 w_8 hs n8 kb_b5
 refine sq ?_
 refine .s2 hs.g0 (fun _ => hs.u0 kb_b5) ?_; clear hs; intro w_9 hs hd9 ho9
 refine sm ?_
 apply wpSq_end
 refine hK3 _ _ ?_
 refine wp_seq_k fun K4 hK4 => rg [0, 1, 2, 3, 4, 5, 6, 7, 8, 9, 10] ?_
 refine sr ?_
 refine sr ?_
 refine sq ?_
 refine .r2 ⟨hs.g4.cell 6 rfl, hs.g4.cell 7 rfl⟩ ?_
 refine sq ?_
 refine .r2 hs.g1.f2 ?_
 refine sq ?_
 intro K hK
 have k3_9 := ((k3_6.b hb_7).b n8).o hd9 ho9
 replace ha4 := ha4.k k3_9
 have k6_9 := ((kb hb_7).b n8).o hd9 ho9
 replace g := g.k k6_9
 go_big_op
 go_fit (exact_any ha4 (g.zn Lg.out) (by omega) (by omega) HG.out H2.out)
 rintro e w_10 ⟨v_gr, rfl, gr, hb_10⟩
 replace hs := hs.bl hb_10
 replace gr := gr.rd
 obtain ⟨n_gr, o_gr, k_gr, c_gr, rfl⟩ := gr.open2
 have Lgr := hide (gr.lenOf (fdiv_len (HG.out) (ha4.len)))
 refine hK _ _ rfl trivial ?_
 clear hK K
 refine sm ?_
 refine sr ?_
 refine sr ?_
 refine sq ?_
 refine .al hs ?_; clear hs; intro p_b6 w_11 hs n11 kb_b6
 refine sq ?_
 refine .s2 hs.g0 (fun _ => hs.u0 kb_b6) ?_; clear hs; intro w_12 hs hd12 ho12
 refine sm ?_
 apply wpSq_end
 refine hK4 _ _ ?_
 refine wp_seq_k ?_
 intro K5 hK5
 refine wp_region_f4 [(0, false), (1, false), (2, false), (3, false), (5, false), (6, false), (7, false), (8, false), (4, true), (9, true), (10, false)] [11] [] (fun _ => default) [99, 99, 0, 1, 99, 99, 99, 0, 2, 99, 99, 99] [] (.c hs.g5 (.c hs.g0 (.c hs.g1 .n))) fn fun w_13 n13 => ?_
 replace hs := hs.bl n13
 refine f0 ?_
 refine f0 ?_
 apply wpFl_ld rfl rfl; (case h1 => intro w' hC K hK; have c0 := Bs.cell hC 0 rfl; have c1 := Bs.cell hC 1 rfl; go_big_op; exact hK); iterate 4 kernel_rfl
 refine f2 ?_
 refine f0 ?_
 refine f0 ?_
 apply wpFl_ld rfl rfl; (case h1 => intro w' hC K hK; have c4 := Bs.cell hC 4 rfl; have c5 := Bs.cell hC 5 rfl; go_big_op; exact hK); iterate 4 kernel_rfl
 refine f2 ?_
 refine fl fun w_14 n14 => ?_
 replace hs := hs.bl n14
 intro K hK
 have k0_14 := ((((((((((k0_3.b hb_4).b n5).o hd6 ho6).b hb_7).b n8).o hd9 ho9).b hb_10).b n11).o hd12 ho12).b n13).b n14
 replace ha1 := ha1.k k0_14
 have k10_14 := (((kb n11).o hd12 ho12).b n13).b n14
 replace gr := gr.k k10_14
 go_big_op
 go_fit (zmul_any ha1 (gr.zn Lgr.out) (by omega) (by omega) )
 rintro e w_15 ⟨v_tr, rfl, tr, hb_15⟩
 replace hs := hs.bl hb_15
 replace tr := tr.rd
 obtain ⟨n_tr, o_tr, k_tr, c_tr, rfl⟩ := tr.open2
 refine hK _ _ rfl ⟨hb_15, (And.intro hs.g5 (And.intro hs.g0 (And.intro hs.g1 trivial)))⟩ ?_
 clear hK K
 refine fl fun w_16 n16 => ?_
 replace hs := hs.bl n16
 intro K hK
 have k0_16 := (k0_14.b hb_15).b n16
 replace ha3 := ha3.k k0_16
 have k7_16 := ((((((((kb n8).o hd9 ho9).b hb_10).b n11).o hd12 ho12).b n13).b n14).b hb_15).b n16
 replace gi := gi.k k7_16
 go_big_op
 go_fit (zmul_any ha3 (gi.zn Lgi.out) (by omega) (by omega) )
 rintro e w_17 ⟨v_ti, rfl, ti, hb_17⟩
 replace hs := hs.bl hb_17
 replace ti := ti.rd
 obtain ⟨n_ti, o_ti, k_ti, c_ti, rfl⟩ := ti.open2
 refine hK _ _ rfl ⟨hb_17, (And.intro hs.g5 (And.intro hs.g0 (And.intro hs.g1 trivial)))⟩ ?_
 clear hK K
 refine f0 ?_
 refine e0 hs ?_; clear hs; intro w_18 hs n18
 refine tl ?_
 refine .s4 hs.g4 (fun _ => hs.u4 kb_b2) ?_ (e := fun _ hs => (And.intro hs.g5 (And.intro hs.g0 (And.intro hs.g1 True.intro)))); clear hs; intro w_19 hs hd19 ho19
 apply wpTail_end
 refine hK5 _ _ ?_
 refine wp_seq_k ?_
 intro K6 hK6
 refine wp_region_f4 [(0, false), (1, false), (2, false), (3, false), (4, false), (5, true)] [6, 7] [] (fun _ => default) [0, 99, 99, 1, 2, 99, 99, 99] [(6, 0), (7, 0)] (.c hs.g4 (.c hs.g5 (.c hs.g0 .n))) fn fun w_20 n20 => ?_
 replace hs := hs.bl n20
 refine f4 ?_
 refine f0 ?_
 refine f0 ?_
 apply wpFl_ld rfl rfl; (case h1 => intro w' hC K hK; have c2 := Bs.cell hC 2 rfl; have c3 := Bs.cell hC 3 rfl; go_big_op; exact hK); iterate 4 kernel_rfl
 refine f2 ?_
 refine fl fun w_21 n21 => ?_
 replace hs := hs.bl n21
 intro K hK
 have k6_21 := (((((((((((k6_9.b hb_10).b n11).o hd12 ho12).b n13).b n14).b hb_15).b n16).b hb_17).b n18).o hd19 ho19).b n20).b n21
 replace ha2 := ha2.k k6_21
 have k14_21 := ((((((kb hb_15).b n16).b hb_17).b n18).o hd19 ho19).b n20).b n21
 replace gr := gr.k k14_21
 go_big_op
 go_fit (zmul_any ha2 (gr.zn Lgr.out) (by omega) (by omega) )
 rintro e w_22 ⟨v_dd, rfl, dd, hb_22⟩
 replace hs := hs.bl hb_22
 replace dd := dd.rd
 obtain ⟨n_dd, o_dd, k_dd, c_dd, rfl⟩ := dd.open2
 refine hK _ _ rfl ⟨hb_22, (And.intro hs.g4 (And.intro hs.g5 (And.intro hs.g0 trivial)))⟩ ?_
 clear hK K
 refine e0 hs ?_; clear hs; intro w_23 hs n23
 refine tl ?_
 refine .s4 hs.g4 (fun _ => hs.u4 kb_b2) ?_ (e := fun _ hs => (And.intro True.intro (And.intro hs.g5 (And.intro hs.g0 True.intro)))); clear hs; intro w_24 hs hd24 ho24
 refine tl ?_
 refine .s2 hs.g3 (fun _ => hs.u3 kb_b3) ?_ (e := fun _ hs => (And.intro True.intro (And.intro hs.g5 (And.intro hs.g0 True.intro)))); clear hs; intro w_25 hs hd25 ho25
 apply wpTail_end
 refine hK6 _ _ ?_
 refine wp_ret ?_
 try dsimp only [Exit.then, Exit.inBlock]
 obtain ⟨r0_0, r0_1, r0_2, r0_3⟩ := hs.g4.f4
 obtain ⟨r4_0, r4_1⟩ := hs.g3.f2
 refine bodyPost_ret (v := (.tuple #[(.agg #[.bool n_tr, .slice o_tr k_tr c_tr, .bool n_ti, .slice o_ti k_ti c_ti]), (.agg #[.bool n_dd, .slice o_dd k_dd c_dd])])) (by simp [results, Tryz.results51, go_sem, r0_0, r0_1, r0_2, r0_3, r4_0, r4_1]) rfl ?_
 have k15_25 := (((((((((kb n16).b hb_17).b n18).o hd19 ho19).b n20).b n21).b hb_22).b n23).o hd24 ho24).o hd25 ho25
 replace tr := tr.k k15_25
 have k17_25 := (((((((kb n18).o hd19 ho19).b n20).b n21).b hb_22).b n23).o hd24 ho24).o hd25 ho25
 replace ti := ti.k k17_25
 have k22_25 := ((kb n23).o hd24 ho24).o hd25 ho25
 replace dd := dd.k k22_25
 exact ⟨_, _, rfl, .mk' tr ti, dd, hs.b⟩
theorem od_none (ha : CN w va x l 0 m u k 0 n) (hl : l ≤ 9000000) (hm : m ≤ 4500000) (hk : k ≤ 9000000) (hn : n ≤ 4500000) :
   Calls Tryz.prog 51 #[va] w fun e w' => ∃ r d, e = .returned (.tuple #[r, d]) ∧ PC w' r (x * 0) (u * 0) ∧ ZC w' d (0 * 0) ∧ Below w.heap.size w w' := by
 have HG := hide (show (Int.gcd 0 0 : Int) = 0 from rfl)
 obtain ⟨n_0a, o_0a, k_0a, c_0a, n_0b, o_0b, k_0b, c_0b, n_0c, o_0c, k_0c, c_0c, n_0d, o_0d, k_0d, c_0d, rfl, ha1, ha2, ha3, ha4⟩ := ha
 go_enter Tryz.func51, Tryz.ntmps51
 have hs := St.nil w
 refine wp_seq_k fun K1 hK1 => rg [0, 1, 2] ?_
 refine sq ?_
 refine .al hs ?_; clear hs; intro p_b1 w_1 hs n1 kb_b1
 refine sq ?_
 refine .al hs ?_; clear hs; intro p_b2 w_2 hs n2 kb_b2
 refine sq ?_
 refine .al hs ?_; clear hs; intro p_b3 w_3 hs n3 kb_b3
 apply wpSq_end
 refine hK1 _ _ ?_
 refine wp_seq_k fun K2 hK2 => rg [0, 1, 2, 3, 4, 5, 6, 7, 8] ?_
 refine sr ?_
 refine sr ?_
 refine sq ?_
 refine .r2 ⟨hs.g2.cell 2 rfl, hs.g2.cell 3 rfl⟩ ?_
 refine sr ?_
 refine sr ?_
 refine sq ?_
 refine .r2 ⟨hs.g2.cell 6 rfl, hs.g2.cell 7 rfl⟩ ?_
 refine sq ?_
 intro K hK
 have k0_3 := ((kb n1).b n2).b n3
 replace ha2 := ha2.k k0_3
 replace ha4 := ha4.k k0_3
 go_big_op
 go_fit (zgcd_any ha2 ha4 (by omega) (by omega) )
 rintro e w_4 ⟨v_g, rfl, g, hb_4⟩
 replace hs := hs.bl hb_4
 replace g := g.rd
 obtain ⟨n_g, o_g, k_g, c_g, rfl⟩ := g.open2
 have Lg := hide (g.lenOf (zlen_gcd (ha2.len) (ha4.len)))
 rw [HG.out] at g
 refine hK _ _ rfl trivial ?_
 clear hK K
 refine sq ?_
 refine .al hs ?_; clear hs; intro p_b4 w_5 hs n5 kb_b4
 refine sq ?_
 refine .s2 hs.g0 (fun _ => hs.u0 kb_b4) ?_; clear hs; intro w_6 hs hd6 ho6
 apply wpSq_end
 refine hK2 _ _ ?_
 refine wp_seq_k fun K3 hK3 => rg [0, 1, 2, 3, 4, 5, 6, 7, 8, 9, 10] ?_
 refine sr ?_
 refine sr ?_
 refine sq ?_
 refine .r2 ⟨hs.g3.cell 2 rfl, hs.g3.cell 3 rfl⟩ ?_
 refine sq ?_
 refine .r2 hs.g0.f2 ?_
 have Lg := hide (g.lenOf (zlen_0))
 refine sq ?_
 intro K hK
 have k3_6 := ((kb hb_4).b n5).o hd6 ho6
 replace ha2 := ha2.k k3_6
 have k4_6 := (kb n5).o hd6 ho6
 replace g := g.k k4_6
 go_big_op
 go_fit (exact_zero ha2 (g.zn Lg.out) (by omega) (by omega) )
 rintro e w_7 ⟨rfl, hb_7⟩
 replace hs := hs.bl hb_7
 refine hK _ _ rfl trivial ?_
 clear hK K
 refine sm ?_
 refine sr ?_
 refine sr ?_
 refine sq ?_
 refine .al hs ?_; clear hs; intro p_b5 w_8 hs n8 kb_b5
 refine sq ?_
 refine .s2 hs.g0 (fun _ => hs.u0 kb_b5) ?_; clear hs; intro w_9 hs hd9 ho9
 refine sm ?_
 apply wpSq_end
 refine hK3 _ _ ?_
 refine wp_seq_k fun K4 hK4 => rg [0, 1, 2, 3, 4, 5, 6, 7, 8, 9, 10] ?_
 refine sr ?_
 refine sr ?_
 refine sq ?_
 refine .r2 ⟨hs.g4.cell 6 rfl, hs.g4.cell 7 rfl⟩ ?_
 refine sq ?_
 refine .r2 hs.g1.f2 ?_
 refine sq ?_
 intro K hK
 have k3_9 := ((k3_6.b hb_7).b n8).o hd9 ho9
 replace ha4 := ha4.k k3_9
 have k6_9 := ((kb hb_7).b n8).o hd9 ho9
 replace g := g.k k6_9
 go_big_op
 go_fit (exact_zero ha4 (g.zn Lg.out) (by omega) (by omega) )
 rintro e w_10 ⟨rfl, hb_10⟩
 replace hs := hs.bl hb_10
 refine hK _ _ rfl trivial ?_
 clear hK K
 refine sm ?_
 refine sr ?_
 refine sr ?_
 refine sq ?_
 refine .al hs ?_; clear hs; intro p_b6 w_11 hs n11 kb_b6
 refine sq ?_
 refine .s2 hs.g0 (fun _ => hs.u0 kb_b6) ?_; clear hs; intro w_12 hs hd12 ho12
 refine sm ?_
 apply wpSq_end
 refine hK4 _ _ ?_
 refine wp_seq_k ?_
 intro K5 hK5
 refine wp_region_f4 [(0, false), (1, false), (2, false), (3, false), (5, false), (6, false), (7, false), (8, false), (4, true), (9, true), (10, false)] [11] [] (fun _ => default) [99, 99, 0, 1, 99, 99, 99, 0, 2, 99, 99, 99] [] (.c hs.g5 (.c hs.g0 (.c hs.g1 .n))) fn fun w_13 n13 => ?_
 replace hs := hs.bl n13
 refine f0 ?_
 refine f0 ?_
 apply wpFl_ld rfl rfl; (case h1 => intro w' hC K hK; have c0 := Bs.cell hC 0 rfl; have c1 := Bs.cell hC 1 rfl; go_big_op; exact hK); iterate 4 kernel_rfl
 refine f2 ?_
 refine f0 ?_
 refine f0 ?_
 apply wpFl_ld rfl rfl; (case h1 => intro w' hC K hK; have c4 := Bs.cell hC 4 rfl; have c5 := Bs.cell hC 5 rfl; go_big_op; exact hK); iterate 4 kernel_rfl
 refine f2 ?_
 refine fl fun w_14 n14 => ?_
 replace hs := hs.bl n14
 intro K hK
 have k0_14 := ((((((((((k0_3.b hb_4).b n5).o hd6 ho6).b hb_7).b n8).o hd9 ho9).b hb_10).b n11).o hd12 ho12).b n13).b n14
 replace ha1 := ha1.k k0_14
 go_big_op
 go_fit (zmul_any ha1 ((zc_zero w_14).zn zlen_0) (by omega) (by omega) )
 rintro e w_15 ⟨v_tr, rfl, tr, hb_15⟩
 replace hs := hs.bl hb_15
 replace tr := tr.rd
 obtain ⟨n_tr, o_tr, k_tr, c_tr, rfl⟩ := tr.open2
 refine hK _ _ rfl ⟨hb_15, (And.intro hs.g5 (And.intro hs.g0 (And.intro hs.g1 trivial)))⟩ ?_
 clear hK K
 refine fl fun w_16 n16 => ?_
 replace hs := hs.bl n16
 intro K hK
 have k0_16 := (k0_14.b hb_15).b n16
 replace ha3 := ha3.k k0_16
 go_big_op
 go_fit (zmul_any ha3 ((zc_zero w_16).zn zlen_0) (by omega) (by omega) )
 rintro e w_17 ⟨v_ti, rfl, ti, hb_17⟩
 replace hs := hs.bl hb_17
 replace ti := ti.rd
 obtain ⟨n_ti, o_ti, k_ti, c_ti, rfl⟩ := ti.open2
 refine hK _ _ rfl ⟨hb_17, (And.intro hs.g5 (And.intro hs.g0 (And.intro hs.g1 trivial)))⟩ ?_
 clear hK K
 refine f0 ?_
 refine e0 hs ?_; clear hs; intro w_18 hs n18
 refine tl ?_
 refine .s4 hs.g4 (fun _ => hs.u4 kb_b2) ?_ (e := fun _ hs => (And.intro hs.g5 (And.intro hs.g0 (And.intro hs.g1 True.intro)))); clear hs; intro w_19 hs hd19 ho19
 apply wpTail_end
 refine hK5 _ _ ?_
 refine wp_seq_k ?_
 intro K6 hK6
 refine wp_region_f4 [(0, false), (1, false), (2, false), (3, false), (4, false), (5, true)] [6, 7] [] (fun _ => default) [0, 99, 99, 1, 2, 99, 99, 99] [(6, 0), (7, 0)] (.c hs.g4 (.c hs.g5 (.c hs.g0 .n))) fn fun w_20 n20 => ?_
 replace hs := hs.bl n20
 refine f4 ?_
 refine f0 ?_
 refine f0 ?_
 apply wpFl_ld rfl rfl; (case h1 => intro w' hC K hK; have c2 := Bs.cell hC 2 rfl; have c3 := Bs.cell hC 3 rfl; go_big_op; exact hK); iterate 4 kernel_rfl
 refine f2 ?_
 refine fl fun w_21 n21 => ?_
 replace hs := hs.bl n21
 intro K hK
 have k6_21 := (((((((((((k6_9.b hb_10).b n11).o hd12 ho12).b n13).b n14).b hb_15).b n16).b hb_17).b n18).o hd19 ho19).b n20).b n21
 replace ha2 := ha2.k k6_21
 go_big_op
 go_fit (zmul_any ha2 ((zc_zero w_21).zn zlen_0) (by omega) (by omega) )
 rintro e w_22 ⟨v_dd, rfl, dd, hb_22⟩
 replace hs := hs.bl hb_22
 replace dd := dd.rd
 obtain ⟨n_dd, o_dd, k_dd, c_dd, rfl⟩ := dd.open2
 refine hK _ _ rfl ⟨hb_22, (And.intro hs.g4 (And.intro hs.g5 (And.intro hs.g0 trivial)))⟩ ?_
 clear hK K
 refine e0 hs ?_; clear hs; intro w_23 hs n23
 refine tl ?_
 refine .s4 hs.g4 (fun _ => hs.u4 kb_b2) ?_ (e := fun _ hs => (And.intro True.intro (And.intro hs.g5 (And.intro hs.g0 True.intro)))); clear hs; intro w_24 hs hd24 ho24
 refine tl ?_
 refine .s2 hs.g3 (fun _ => hs.u3 kb_b3) ?_ (e := fun _ hs => (And.intro True.intro (And.intro hs.g5 (And.intro hs.g0 True.intro)))); clear hs; intro w_25 hs hd25 ho25
 apply wpTail_end
 refine hK6 _ _ ?_
 refine wp_ret ?_
 try dsimp only [Exit.then, Exit.inBlock]
 obtain ⟨r0_0, r0_1, r0_2, r0_3⟩ := hs.g4.f4
 obtain ⟨r4_0, r4_1⟩ := hs.g3.f2
 refine bodyPost_ret (v := (.tuple #[(.agg #[.bool n_tr, .slice o_tr k_tr c_tr, .bool n_ti, .slice o_ti k_ti c_ti]), (.agg #[.bool n_dd, .slice o_dd k_dd c_dd])])) (by simp [results, Tryz.results51, go_sem, r0_0, r0_1, r0_2, r0_3, r4_0, r4_1]) rfl ?_
 have k15_25 := (((((((((kb n16).b hb_17).b n18).o hd19 ho19).b n20).b n21).b hb_22).b n23).o hd24 ho24).o hd25 ho25
 replace tr := tr.k k15_25
 have k17_25 := (((((((kb n18).o hd19 ho19).b n20).b n21).b hb_22).b n23).o hd24 ho24).o hd25 ho25
 replace ti := ti.k k17_25
 have k22_25 := ((kb n23).o hd24 ho24).o hd25 ho25
 replace dd := dd.k k22_25
 exact ⟨_, _, rfl, .mk' tr ti, dd, hs.b⟩
theorem od_any (ha : CN w va x l y m u k v n) (hl : l ≤ 9000000) (hm : m ≤ 4500000) (hk : k ≤ 9000000) (hn : n ≤ 4500000) :
   Calls Tryz.prog 51 #[va] w fun e w' => ∃ r d, e = .returned (.tuple #[r, d]) ∧ PC w' r (x * odF y v) (u * odG y v) ∧ ZC w' d (y * odF y v) ∧ Below w.heap.size w w' := by
 by_cases h : y = 0 ∧ v = 0
 · obtain ⟨rfl, rfl⟩ := h
   exact od_none ha hl hm hk hn
 · exact od_some ha hl hm hk hn h
theorem gfQuo_ok (ha : CN w va x l y m u k v n) (hq : CN w vb p l2 q m2 s k2 t n2) (hl : l ≤ 9000000) (hm : m ≤ 4500000) (hk : k ≤ 9000000) (hn : n ≤ 4500000) (hl2 : l2 ≤ 1100000) (hm2 : m2 ≤ 1100000) (hk2 : k2 ≤ 1100000) (hn2 : n2 ≤ 1100000) (hy : y ≠ 0) (hv : v ≠ 0) (hq0 : q ≠ 0) (ht : t ≠ 0) (h0 : ¬ (p = 0 ∧ s = 0)) :
   Calls Tryz.prog 9 #[va, vb] w fun e w' => ∃ r, e = .returned (.tuple #[r, .int .i64 0]) ∧ CC w' r ((rv x y * rv p q - rv u v * -rv s t) / (rv p q * rv p q + rv s t * rv s t)).num ((rv x y * rv p q - rv u v * -rv s t) / (rv p q * rv p q + rv s t * rv s t)).den ((rv x y * -rv s t + rv u v * rv p q) / (rv p q * rv p q + rv s t * rv s t)).num ((rv x y * -rv s t + rv u v * rv p q) / (rv p q * rv p q + rv s t * rv s t)).den ∧ Below w.heap.size w w' := by
 obtain ⟨h1, h2, h3⟩ := od_rv (x := x) (u := u) hy hv
 obtain ⟨h4, h5, h6⟩ := od_rv (x := p) (u := s) hq0 ht
 have h7 : gN (p * odF q t) (s * odG q t) ≠ 0 := fun e => h0 (by
   have e2 := gN_zero.1 e
   have e3 := od_ne hq0 ht
   exact ⟨(Int.mul_eq_zero.1 e2.1).resolve_right e3.1, (Int.mul_eq_zero.1 e2.2).resolve_right e3.2.1⟩)
 have HD := hide (Int.mul_ne_zero h1 h7)
 have HS : ((q * odF q t).sign = 0) = False := by simpa using h4
 have HM := quo_rv (X := x * odF y v) (Y := u * odG y v) (P := p * odF q t) (S := s * odG q t) h1 h4 h7
 rw [h2, h3, h5, h6] at HM
 replace HM := hide HM
 obtain ⟨Sg, hSg⟩ : ∃ Sg, (q * odF q t).sign = Sg := ⟨_, rfl⟩
 have HSg := hide hSg
 rw [hSg] at HS
 clear hy hv hq0 ht h1 h2 h3 h4 h5 h6 h7 h0 hSg
 obtain ⟨n_0a, o_0a, k_0a, c_0a, n_0b, o_0b, k_0b, c_0b, n_0c, o_0c, k_0c, c_0c, n_0d, o_0d, k_0d, c_0d, rfl, ha1, ha2, ha3, ha4⟩ := ha
 obtain ⟨n_1a, o_1a, k_1a, c_1a, n_1b, o_1b, k_1b, c_1b, n_1c, o_1c, k_1c, c_1c, n_1d, o_1d, k_1d, c_1d, rfl, hq1, hq2, hq3, hq4⟩ := hq
 go_enter Tryz.func9, Tryz.ntmps9
 have hs := St.nil w
 refine wp_seq_k fun K1 hK1 => rg [0, 1, 2, 3] ?_
 refine sq ?_
 refine .al hs ?_; clear hs; intro p_b1 w_1 hs n1 kb_b1
 refine sq ?_
 refine .al hs ?_; clear hs; intro p_b2 w_2 hs n2 kb_b2
 refine sq ?_
 refine .al hs ?_; clear hs; intro p_b3 w_3 hs n3 kb_b3
 refine sm ?_
 apply wpSq_end
 refine hK1 _ _ ?_
 refine wp_seq_k fun K2 hK2 => rg [0, 1, 2, 3, 4, 5, 6, 7, 8] ?_
 refine sq ?_
 intro K hK
 have d0 : w_3.cell? ⟨p_b1, 0, none⟩ = some (.bool n_0a) := hs.g2.cell 0 rfl
 have d1 : w_3.cell? ⟨p_b1, 1, none⟩ = some (.slice o_0a k_0a c_0a) := hs.g2.cell 1 rfl
 have d2 : w_3.cell? ⟨p_b1, 2, none⟩ = some (.bool n_0b) := hs.g2.cell 2 rfl
 have d3 : w_3.cell? ⟨p_b1, 3, none⟩ = some (.slice o_0b k_0b c_0b) := hs.g2.cell 3 rfl
 have d4 : w_3.cell? ⟨p_b1, 4, none⟩ = some (.bool n_0c) := hs.g2.cell 4 rfl
 have d5 : w_3.cell? ⟨p_b1, 5, none⟩ = some (.slice o_0c k_0c c_0c) := hs.g2.cell 5 rfl
 have d6 : w_3.cell? ⟨p_b1, 6, none⟩ = some (.bool n_0d) := hs.g2.cell 6 rfl
 have d7 : w_3.cell? ⟨p_b1, 7, none⟩ = some (.slice o_0d k_0d c_0d) := hs.g2.cell 7 rfl
 go_big_op; refine hK _ _ rfl trivial ?_; clear hK K d0 d1 d2 d3 d4 d5 d6 d7
 refine sq ?_
 intro K hK
 have k0_3 := ((kb n1).b n2).b n3
 replace ha1 := ha1.k k0_3
 replace ha2 := ha2.k k0_3
 replace ha3 := ha3.k k0_3
 replace ha4 := ha4.k k0_3
 go_big_op
 go_fit (od_any (CN.mk' ha1 ha2 ha3 ha4) (by omega) (by omega) (by omega) (by omega) )
 rintro e w_4 ⟨_, v_da, rfl, ⟨n_gaa, o_gaa, k_gaa, c_gaa, n_gab, o_gab, k_gab, c_gab, rfl, ga1, ga2⟩, da, hb_4⟩
 replace hs := hs.bl hb_4
 obtain ⟨n_da, o_da, k_da, c_da, rfl⟩ := da.open2
 have Lga1 := hide (ga1.lenOf ((zlen_mul (ha1.len) (od_len (ha2.len) (ha4.len)).1)))
 have Lga2 := hide (ga2.lenOf ((zlen_mul (ha3.len) (od_len (ha2.len) (ha4.len)).2)))
 have Lda := hide (da.lenOf ((zlen_mul (ha2.len) (od_len (ha2.len) (ha4.len)).1)))
 refine hK _ _ rfl trivial ?_
 clear hK K
 refine sm ?_
 refine sr ?_
 refine sr ?_
 refine sq ?_
 refine .al hs ?_; clear hs; intro p_b4 w_5 hs n5 kb_b4
 refine sq ?_
 refine .al hs ?_; clear hs; intro p_b5 w_6 hs n6 kb_b5
 refine sq ?_
 refine .s4 hs.g1 (fun _ => hs.u1 kb_b4) ?_; clear hs; intro w_7 hs hd7 ho7
 refine sq ?_
 refine .s2 hs.g0 (fun _ => hs.u0 kb_b5) ?_; clear hs; intro w_8 hs hd8 ho8
 apply wpSq_end
 refine hK2 _ _ ?_
 refine wp_seq_k fun K3 hK3 => rg [0, 1, 2, 3, 4, 5, 6, 7, 8] ?_
 refine sq ?_
 intro K hK
 have d0 : w_8.cell? ⟨p_b2, 0, none⟩ = some (.bool n_1a) := hs.g3.cell 0 rfl
 have d1 : w_8.cell? ⟨p_b2, 1, none⟩ = some (.slice o_1a k_1a c_1a) := hs.g3.cell 1 rfl
 have d2 : w_8.cell? ⟨p_b2, 2, none⟩ = some (.bool n_1b) := hs.g3.cell 2 rfl
 have d3 : w_8.cell? ⟨p_b2, 3, none⟩ = some (.slice o_1b k_1b c_1b) := hs.g3.cell 3 rfl
 have d4 : w_8.cell? ⟨p_b2, 4, none⟩ = some (.bool n_1c) := hs.g3.cell 4 rfl
 have d5 : w_8.cell? ⟨p_b2, 5, none⟩ = some (.slice o_1c k_1c c_1c) := hs.g3.cell 5 rfl
 have d6 : w_8.cell? ⟨p_b2, 6, none⟩ = some (.bool n_1d) := hs.g3.cell 6 rfl
 have d7 : w_8.cell? ⟨p_b2, 7, none⟩ = some (.slice o_1d k_1d c_1d) := hs.g3.cell 7 rfl
 go_big_op; refine hK _ _ rfl trivial ?_; clear hK K d0 d1 d2 d3 d4 d5 d6 d7
 refine sq ?_
 intro K hK
 have k0_8 := ((((k0_3.b hb_4).b n5).b n6).o hd7 ho7).o hd8 ho8
 replace hq1 := hq1.k k0_8
 replace hq2 := hq2.k k0_8
 replace hq3 := hq3.k k0_8
 replace hq4 := hq4.k k0_8
 go_big_op
 go_fit (od_any (CN.mk' hq1 hq2 hq3 hq4) (by omega) (by omega) (by omega) (by omega) )
 rintro e w_9 ⟨_, v_db, rfl, ⟨n_gba, o_gba, k_gba, c_gba, n_gbb, o_gbb, k_gbb, c_gbb, rfl, gb1, gb2⟩, db, hb_9⟩
 replace hs := hs.bl hb_9
 obtain ⟨n_db, o_db, k_db, c_db, rfl⟩ := db.open2
 have Lgb1 := hide (gb1.lenOf ((zlen_mul (hq1.len) (od_len (hq2.len) (hq4.len)).1)))
 have Lgb2 := hide (gb2.lenOf ((zlen_mul (hq3.len) (od_len (hq2.len) (hq4.len)).2)))
 have Ldb := hide (db.lenOf ((zlen_mul (hq2.len) (od_len (hq2.len) (hq4.len)).1)))
 refine hK _ _ rfl trivial ?_
 clear hK K
 refine sm ?_
 refine sr ?_
 refine sr ?_
 refine sq ?_
 refine .al hs ?_; clear hs; intro p_b6 w_10 hs n10 kb_b6
 clear ha1 ha2 ha3 ha4 hq1 hq2 hq3 hq4
 refine sq ?_
 refine .al hs ?_; clear hs; intro p_b7 w_11 hs n11 kb_b7
 refine sq ?_
 refine .s4 hs.g1 (fun _ => hs.u1 kb_b6) ?_; clear hs; intro w_12 hs hd12 ho12
 refine sq ?_
 refine .s2 hs.g0 (fun _ => hs.u0 kb_b7) ?_; clear hs; intro w_13 hs hd13 ho13
 apply wpSq_end
 refine hK3 _ _ ?_
 refine wp_seq_k ?_
 intro K4 hK4
 refine wp_seq_k fun K5 hK5 => rg [0, 1, 2] ?_
 refine sq ?_
 refine .r2 hs.g0.f2 ?_
 refine sq ?_
 intro K hK
 have k9_13 := (((kb n10).b n11).o hd12 ho12).o hd13 ho13
 replace db := db.k k9_13
 go_big_op
 go_fit (zsign_any (db.zn Ldb.out) (by omega) )
 rintro e w_14 ⟨rfl, hb_14⟩
 replace hs := hs.bl hb_14
 rw [HSg.out]
 refine hK _ _ rfl trivial ?_
 clear hK K
 refine sr ?_
 apply wpSq_end
 refine hK5 _ _ ?_
 refine wp_cond_false (congrArg Value.bool (show _ = false from (by simpa using HS))) ?_
 refine wp_skip ?_
 refine hK4 _ _ ?_
 refine wp_seq_k ?_
 intro K6 hK6
 refine wp_region_f4 [(0, false), (1, false), (2, false), (4, false), (3, true), (5, true), (6, true)] [7] [] (fun _ => default) [0, 1, 99, 99, 2, 99, 99, 99] [(7, 0)] (.c hs.g3 (.c hs.g0 (.c hs.g1 .n))) fn fun w_15 n15 => ?_
 replace hs := hs.bl n15
 refine f4 ?_
 refine f2 ?_
 refine f0 ?_
 refine f4 ?_
 refine fl fun w_16 n16 => ?_
 replace hs := hs.bl n16
 intro K hK
 have k4_16 := (((((((((((kb n5).b n6).o hd7 ho7).o hd8 ho8).b hb_9).b n10).b n11).o hd12 ho12).o hd13 ho13).b hb_14).b n15).b n16
 replace ga1 := ga1.k k4_16
 replace ga2 := ga2.k k4_16
 have k13_16 := ((kb hb_14).b n15).b n16
 replace db := db.k k13_16
 go_big_op
 go_fit (gMul_any (PN.mk' (ga1.zn Lga1.out) (ga2.zn Lga2.out)) (PN.mk' (db.zn Ldb.out) ((zc_zero w_16).zn zlen_0)) (by omega) (by omega) (by omega) (by omega) )
 rintro e w_17 ⟨_, rfl, ⟨n_gma, o_gma, k_gma, c_gma, n_gmb, o_gmb, k_gmb, c_gmb, rfl, gm1, gm2⟩, hb_17⟩
 replace hs := hs.bl hb_17
 have Lgm1 := hide (gm1.lenOf (zlen_sub (zlen_mul (Lga1.out) (Ldb.out)) (zlen_mul (Lga2.out) (zlen_0))))
 have Lgm2 := hide (gm2.lenOf (zlen_add (zlen_mul (Lga1.out) (zlen_0)) (zlen_mul (Lga2.out) (Ldb.out))))
 refine hK _ _ rfl ⟨hb_17, (And.intro hs.g3 (And.intro hs.g0 (And.intro hs.g1 trivial)))⟩ ?_
 clear hK K
 refine fl fun w_18 n18 => ?_
 replace hs := hs.bl n18
 intro K hK
 have k9_18 := ((((k9_13.b hb_14).b n15).b n16).b hb_17).b n18
 replace gb1 := gb1.k k9_18
 replace gb2 := gb2.k k9_18
 go_big_op
 go_fit (gConj_any (PN.mk' (gb1.zn Lgb1.out) (gb2.zn Lgb2.out)) (by omega) (by omega) )
 rintro e w_19 ⟨_, rfl, ⟨n_gca, o_gca, k_gca, c_gca, n_gcb, o_gcb, k_gcb, c_gcb, rfl, gc1, gc2⟩, hb_19⟩
 replace hs := hs.bl hb_19
 have Lgc1 := hide (gc1.lenOf ((Lgb1.out)))
 have Lgc2 := hide (gc2.lenOf (zlen_neg (Lgb2.out)))
 refine hK _ _ rfl ⟨hb_19, (And.intro hs.g3 (And.intro hs.g0 (And.intro hs.g1 trivial)))⟩ ?_
 clear hK K
 refine fl fun w_20 n20 => ?_
 replace hs := hs.bl n20
 intro K hK
 have k17_20 := ((kb n18).b hb_19).b n20
 replace gm1 := gm1.k k17_20
 replace gm2 := gm2.k k17_20
 have k19_20 := kb n20
 replace gc1 := gc1.k k19_20
 replace gc2 := gc2.k k19_20
 go_big_op
 go_fit (gMul_any (PN.mk' (gm1.zn Lgm1.out) (gm2.zn Lgm2.out)) (PN.mk' (gc1.zn Lgc1.out) (gc2.zn Lgc2.out)) (by omega) (by omega) (by omega) (by omega) )
 rintro e w_21 ⟨_, rfl, ⟨n_gta, o_gta, k_gta, c_gta, n_gtb, o_gtb, k_gtb, c_gtb, rfl, gt1, gt2⟩, hb_21⟩
 replace hs := hs.bl hb_21
 have Lgt1 := hide (gt1.lenOf (zlen_sub (zlen_mul (Lgm1.out) (Lgc1.out)) (zlen_mul (Lgm2.out) (Lgc2.out))))
 have Lgt2 := hide (gt2.lenOf (zlen_add (zlen_mul (Lgm1.out) (Lgc2.out)) (zlen_mul (Lgm2.out) (Lgc1.out))))
 refine hK _ _ rfl ⟨hb_21, (And.intro hs.g3 (And.intro hs.g0 (And.intro hs.g1 trivial)))⟩ ?_
 clear hK K
 refine e0 hs ?_; clear hs; intro w_22 hs n22
 refine tl ?_
 refine .s4 hs.g3 (fun _ => hs.u3 kb_b4) ?_ (e := fun _ hs => (And.intro True.intro (And.intro hs.g0 (And.intro hs.g1 True.intro)))); clear hs; intro w_23 hs hd23 ho23
 clear gm1 gm2 gc1 gc2 ga1 ga2
 apply wpTail_end
 refine hK6 _ _ ?_
 refine wp_seq_k ?_
 intro K7 hK7
 refine wp_region_f4 [(0, false), (1, false), (2, false), (3, true), (4, true), (5, true), (6, true), (7, false), (8, false)] [9, 10] [] (fun _ => default) [0, 1, 2, 99, 99, 99, 99, 99, 99, 99, 99] [] (.c hs.g3 (.c hs.g2 (.c hs.g1 .n))) fn fun w_24 n24 => ?_
 replace hs := hs.bl n24
 refine f4 ?_
 refine f2 ?_
 refine f4 ?_
 refine fl fun w_25 n25 => ?_
 replace hs := hs.bl n25
 intro K hK
 have k18_25 := ((((((kb hb_19).b n20).b hb_21).b n22).o hd23 ho23).b n24).b n25
 replace gb1 := gb1.k k18_25
 replace gb2 := gb2.k k18_25
 go_big_op
 go_fit (gNorm_any (PN.mk' (gb1.zn Lgb1.out) (gb2.zn Lgb2.out)) (by omega) (by omega) )
 rintro e w_26 ⟨v_nn, rfl, nn, hb_26⟩
 replace hs := hs.bl hb_26
 obtain ⟨n_nn, o_nn, k_nn, c_nn, rfl⟩ := nn.open2
 have Lnn := hide (nn.lenOf (zlen_add (zlen_mul (Lgb1.out) (Lgb1.out)) (zlen_mul (Lgb2.out) (Lgb2.out))))
 refine hK _ _ rfl ⟨hb_26, (And.intro hs.g3 (And.intro hs.g2 (And.intro hs.g1 trivial)))⟩ ?_
 clear hK K
 refine fl fun w_27 n27 => ?_
 replace hs := hs.bl n27
 intro K hK
 have k4_27 := ((((((((((k4_16.b hb_17).b n18).b hb_19).b n20).b hb_21).b n22).o hd23 ho23).b n24).b n25).b hb_26).b n27
 replace da := da.k k4_27
 have k26_27 := kb n27
 replace nn := nn.k k26_27
 go_big_op
 go_fit (zmul_any (da.zn Lda.out) (nn.zn Lnn.out) (by omega) (by omega) )
 rintro e w_28 ⟨v_dm, rfl, dm, hb_28⟩
 replace hs := hs.bl hb_28
 replace dm := dm.rd
 obtain ⟨n_dm, o_dm, k_dm, c_dm, rfl⟩ := dm.open2
 have Ldm := hide (dm.lenOf (zlen_mul (Lda.out) (Lnn.out)))
 refine hK _ _ rfl ⟨hb_28, (And.intro hs.g3 (And.intro hs.g2 (And.intro hs.g1 trivial)))⟩ ?_
 clear hK K
 refine fl fun w_29 n29 => ?_
 replace hs := hs.bl n29
 intro K hK
 have k21_29 := (((((((kb n22).o hd23 ho23).b n24).b n25).b hb_26).b n27).b hb_28).b n29
 replace gt1 := gt1.k k21_29
 replace gt2 := gt2.k k21_29
 have k28_29 := kb n29
 replace dm := dm.k k28_29
 go_big_op
 go_fit (over_c (PN.mk' (gt1.zn Lgt1.out) (gt2.zn Lgt2.out)) (dm.zn Ldm.out)  )
 rintro e w_30 ⟨_, rfl, ⟨n_ov1, o_ov1, k_ov1, c_ov1, n_ov2, o_ov2, k_ov2, c_ov2, n_ov3, o_ov3, k_ov3, c_ov3, n_ov4, o_ov4, k_ov4, c_ov4, rfl, ov1, ov2, ov3, ov4⟩, hb_30⟩
 replace hs := hs.bl hb_30
 refine hK _ _ rfl ⟨hb_30, (And.intro hs.g3 (And.intro hs.g2 (And.intro hs.g1 trivial)))⟩ ?_
 clear hK K
 refine fl fun w_31 n31 => ?_
 replace hs := hs.bl n31
 intro K hK
 have k30_31 := kb n31
 replace ov1 := ov1.k k30_31
 replace ov2 := ov2.k k30_31
 replace ov3 := ov3.k k30_31
 replace ov4 := ov4.k k30_31
 go_big_op
 go_fit (low_ok (CN.mk' ov1 ov2 ov3 ov4) (by omega) (by omega) (by omega) (by omega) HD.out HD.out)
 rintro e w_32 ⟨_, rfl, ⟨n_r1, o_r1, k_r1, c_r1, n_r2, o_r2, k_r2, c_r2, n_r3, o_r3, k_r3, c_r3, n_r4, o_r4, k_r4, c_r4, rfl, r1, r2, r3, r4⟩, hb_32⟩
 replace hs := hs.bl hb_32
 rw [HM.out.1] at r1 r2
 rw [HM.out.2] at r3 r4
 refine hK _ _ rfl ⟨hb_32, (And.intro hs.g3 (And.intro hs.g2 (And.intro hs.g1 trivial)))⟩ ?_
 clear hK K
 refine f0 ?_
 refine f0 ?_
 refine e0 hs ?_; clear hs; intro w_33 hs n33
 clear db nn dm ov1 ov2 ov3 ov4
 refine tl ?_
 intro K hK
 have xs := hs.g4
 have d0 : w_33.cell? ⟨p_b3, 0, none⟩ = some (.bool false) := hs.g4.cell 0 rfl
 have d1 : w_33.cell? ⟨p_b3, 1, none⟩ = some (.slice none 0 0) := hs.g4.cell 1 rfl
 have d2 : w_33.cell? ⟨p_b3, 2, none⟩ = some (.bool false) := hs.g4.cell 2 rfl
 have d3 : w_33.cell? ⟨p_b3, 3, none⟩ = some (.slice none 0 0) := hs.g4.cell 3 rfl
 have d4 : w_33.cell? ⟨p_b3, 4, none⟩ = some (.bool false) := hs.g4.cell 4 rfl
 have d5 : w_33.cell? ⟨p_b3, 5, none⟩ = some (.slice none 0 0) := hs.g4.cell 5 rfl
 have d6 : w_33.cell? ⟨p_b3, 6, none⟩ = some (.bool false) := hs.g4.cell 6 rfl
 have d7 : w_33.cell? ⟨p_b3, 7, none⟩ = some (.slice none 0 0) := hs.g4.cell 7 rfl
 have f0 := xs.free 0; have f1 := xs.free 1; have f2 := xs.free 2; have f3 := xs.free 3; have f4 := xs.free 4; have f5 := xs.free 5; have f6 := xs.free 6; have f7 := xs.free 7
 go_big_op
 have hd34 := xs.nod rfl rfl
 obtain ⟨w_34_0, eW, xs_0, ho_0⟩ : ∃ w', ((((w_33.setCell ⟨p_b3, 0, none⟩ (.bool n_r1)).setCell ⟨p_b3, 1, none⟩ (.slice o_r1 k_r1 c_r1)).setCell ⟨p_b3, 2, none⟩ (.bool n_r2)).setCell ⟨p_b3, 3, none⟩ (.slice o_r2 k_r2 c_r2)) = w' ∧ Bs w' p_b3 #[.bool n_r1, .slice o_r1 k_r1 c_r1, .bool n_r2, .slice o_r2 k_r2 c_r2, .bool false, .slice none 0 0, .bool false, .slice none 0 0] 28 ∧ Only p_b3 w_33 w' := xs.setN [(0, .bool n_r1), (1, .slice o_r1 k_r1 c_r1), (2, .bool n_r2), (3, .slice o_r2 k_r2 c_r2)]
 rw [eW]; clear eW
 obtain ⟨w_34, eW, xs', ho_4⟩ : ∃ w', ((((w_34_0.setCell ⟨p_b3, 4, none⟩ (.bool n_r3)).setCell ⟨p_b3, 5, none⟩ (.slice o_r3 k_r3 c_r3)).setCell ⟨p_b3, 6, none⟩ (.bool n_r4)).setCell ⟨p_b3, 7, none⟩ (.slice o_r4 k_r4 c_r4)) = w' ∧ Bs w' p_b3 #[.bool n_r1, .slice o_r1 k_r1 c_r1, .bool n_r2, .slice o_r2 k_r2 c_r2, .bool n_r3, .slice o_r3 k_r3 c_r3, .bool n_r4, .slice o_r4 k_r4 c_r4] 28 ∧ Only p_b3 w_34_0 w' := xs_0.setN [(4, .bool n_r3), (5, .slice o_r3 k_r3 c_r3), (6, .bool n_r4), (7, .slice o_r4 k_r4 c_r4)]
 rw [eW]; clear eW xs_0
 have ho34 := (ho_0.trans ho_4)
 clear ho_0 ho_4 d0 d1 d2 d3 d4 d5 d6 d7 f0 f1 f2 f3 f4 f5 f6 f7 xs
 replace hs := hs.u4 kb_b3 xs' ho34; clear xs'
 refine hK _ _ rfl (And.intro hs.g3 (And.intro hs.g2 (And.intro hs.g1 True.intro))) ?_; clear hK K
 refine tl ?_
 refine .mv ?_ (e := (And.intro hs.g3 (And.intro hs.g2 (And.intro hs.g1 True.intro))))
 apply wpTail_end
 refine hK7 _ _ ?_
 refine wp_ret ?_
 try dsimp only [Exit.then, Exit.inBlock]
 have r0_0 : w_34.cell? ⟨p_b3, 0, none⟩ = some (.bool n_r1) := hs.g4.cell 0 rfl
 have r0_1 : w_34.cell? ⟨p_b3, 1, none⟩ = some (.slice o_r1 k_r1 c_r1) := hs.g4.cell 1 rfl
 have r0_2 : w_34.cell? ⟨p_b3, 2, none⟩ = some (.bool n_r2) := hs.g4.cell 2 rfl
 have r0_3 : w_34.cell? ⟨p_b3, 3, none⟩ = some (.slice o_r2 k_r2 c_r2) := hs.g4.cell 3 rfl
 have r0_4 : w_34.cell? ⟨p_b3, 4, none⟩ = some (.bool n_r3) := hs.g4.cell 4 rfl
 have r0_5 : w_34.cell? ⟨p_b3, 5, none⟩ = some (.slice o_r3 k_r3 c_r3) := hs.g4.cell 5 rfl
 have r0_6 : w_34.cell? ⟨p_b3, 6, none⟩ = some (.bool n_r4) := hs.g4.cell 6 rfl
 have r0_7 : w_34.cell? ⟨p_b3, 7, none⟩ = some (.slice o_r4 k_r4 c_r4) := hs.g4.cell 7 rfl
 refine bodyPost_ret (v := (.tuple #[(.agg #[.bool n_r1, .slice o_r1 k_r1 c_r1, .bool n_r2, .slice o_r2 k_r2 c_r2, .bool n_r3, .slice o_r3 k_r3 c_r3, .bool n_r4, .slice o_r4 k_r4 c_r4]), (.int .i64 0)])) (by simp [results, Tryz.results9, go_sem, r0_0, r0_1, r0_2, r0_3, r0_4, r0_5, r0_6, r0_7]) rfl ?_
 have k32_34 := (kb n33).o hd34 ho34
 replace r1 := r1.k k32_34
 replace r2 := r2.k k32_34
 replace r3 := r3.k k32_34
 replace r4 := r4.k k32_34
 exact ⟨_, rfl, .mk' r1 r2 r3 r4, hs.b⟩
theorem gfNorm_ok (ha : CN w va x l y m u k v n) (hl : l ≤ 9000000) (hm : m ≤ 4500000) (hk : k ≤ 9000000) (hn : n ≤ 4500000) (hy : y ≠ 0) (hv : v ≠ 0) :
   Calls Tryz.prog 11 #[va] w fun e w' => ∃ r, e = .returned (.tuple #[r, .int .i64 0]) ∧ PC w' r (rv x y * rv x y + rv u v * rv u v).num (rv x y * rv x y + rv u v * rv u v).den ∧ Below w.heap.size w w' := by
 obtain ⟨h1, h2, h3⟩ := od_rv (x := x) (u := u) hy hv
 have HD := hide (Int.mul_ne_zero h1 h1)
 have HM := norm_rv (X := x * odF y v) (Y := u * odG y v) h1
 rw [h2, h3] at HM
 replace HM := hide HM
 clear hy hv h1 h2 h3
 obtain ⟨n_0a, o_0a, k_0a, c_0a, n_0b, o_0b, k_0b, c_0b, n_0c, o_0c, k_0c, c_0c, n_0d, o_0d, k_0d, c_0d, rfl, ha1, ha2, ha3, ha4⟩ := ha
 go_enter Tryz.func11, Tryz.ntmps11
 have hs := St.nil w
 refine wp_seq_k fun K1 hK1 => rg [0, 1, 2] ?_
 refine sq ?_
 refine .al hs ?_; clear hs; intro p_b1 w_1 hs n1 kb_b1
 refine sq ?_
 refine .al hs ?_; clear hs; intro p_b2 w_2 hs n2 kb_b2
 refine sm ?_
 apply wpSq_end
 refine hK1 _ _ ?_
 refine wp_seq_k fun K2 hK2 => rg [0, 1, 2, 3, 4, 5, 6, 7, 8] ?_
 refine sq ?_
 intro K hK
 have d0 : w_2.cell? ⟨p_b1, 0, none⟩ = some (.bool n_0a) := hs.g1.cell 0 rfl
 have d1 : w_2.cell? ⟨p_b1, 1, none⟩ = some (.slice o_0a k_0a c_0a) := hs.g1.cell 1 rfl
 have d2 : w_2.cell? ⟨p_b1, 2, none⟩ = some (.bool n_0b) := hs.g1.cell 2 rfl
 have d3 : w_2.cell? ⟨p_b1, 3, none⟩ = some (.slice o_0b k_0b c_0b) := hs.g1.cell 3 rfl
 have d4 : w_2.cell? ⟨p_b1, 4, none⟩ = some (.bool n_0c) := hs.g1.cell 4 rfl
 have d5 : w_2.cell? ⟨p_b1, 5, none⟩ = some (.slice o_0c k_0c c_0c) := hs.g1.cell 5 rfl
 have d6 : w_2.cell? ⟨p_b1, 6, none⟩ = some (.bool n_0d) := hs.g1.cell 6 rfl
 have d7 : w_2.cell? ⟨p_b1, 7, none⟩ = some (.slice o_0d k_0d c_0d) := hs.g1.cell 7 rfl
 go_big_op; refine hK _ _ rfl trivial ?_; clear hK K d0 d1 d2 d3 d4 d5 d6 d7
 refine sq ?_
 intro K hK
 have k0_2 := (kb n1).b n2
 replace ha1 := ha1.k k0_2
 replace ha2 := ha2.k k0_2
 replace ha3 := ha3.k k0_2
 replace ha4 := ha4.k k0_2
 go_big_op
 go_fit (od_any (CN.mk' ha1 ha2 ha3 ha4) (by omega) (by omega) (by omega) (by omega) )
 rintro e w_3 ⟨_, v_da, rfl, ⟨n_gaa, o_gaa, k_gaa, c_gaa, n_gab, o_gab, k_gab, c_gab, rfl, ga1, ga2⟩, da, hb_3⟩
 replace hs := hs.bl hb_3
 obtain ⟨n_da, o_da, k_da, c_da, rfl⟩ := da.open2
 have Lga1 := hide (ga1.lenOf ((zlen_mul (ha1.len) (od_len (ha2.len) (ha4.len)).1)))
 have Lga2 := hide (ga2.lenOf ((zlen_mul (ha3.len) (od_len (ha2.len) (ha4.len)).2)))
 have Lda := hide (da.lenOf ((zlen_mul (ha2.len) (od_len (ha2.len) (ha4.len)).1)))
 refine hK _ _ rfl trivial ?_
 clear hK K
 refine sm ?_
 refine sr ?_
 refine sr ?_
 refine sq ?_
 refine .al hs ?_; clear hs; intro p_b3 w_4 hs n4 kb_b3
 refine sq ?_
 refine .al hs ?_; clear hs; intro p_b4 w_5 hs n5 kb_b4
 refine sq ?_
 refine .s4 hs.g1 (fun _ => hs.u1 kb_b3) ?_; clear hs; intro w_6 hs hd6 ho6
 refine sq ?_
 refine .s2 hs.g0 (fun _ => hs.u0 kb_b4) ?_; clear hs; intro w_7 hs hd7 ho7
 apply wpSq_end
 refine hK2 _ _ ?_
 refine wp_seq_k ?_
 intro K3 hK3
 refine wp_region_f4 [(0, false), (2, false), (3, false), (1, true), (4, true), (5, true), (6, false), (7, false)] [8, 9] [] (fun _ => default) [0, 99, 1, 1, 99, 99, 99, 99, 99, 99] [] (.c hs.g1 (.c hs.g0 .n)) fn fun w_8 n8 => ?_
 replace hs := hs.bl n8
 refine f4 ?_
 refine f2 ?_
 refine f2 ?_
 refine fl fun w_9 n9 => ?_
 replace hs := hs.bl n9
 intro K hK
 have k3_9 := (((((kb n4).b n5).o hd6 ho6).o hd7 ho7).b n8).b n9
 replace ga1 := ga1.k k3_9
 replace ga2 := ga2.k k3_9
 go_big_op
 go_fit (gNorm_any (PN.mk' (ga1.zn Lga1.out) (ga2.zn Lga2.out)) (by omega) (by omega) )
 rintro e w_10 ⟨v_nn, rfl, nn, hb_10⟩
 replace hs := hs.bl hb_10
 obtain ⟨n_nn, o_nn, k_nn, c_nn, rfl⟩ := nn.open2
 have Lnn := hide (nn.lenOf (zlen_add (zlen_mul (Lga1.out) (Lga1.out)) (zlen_mul (Lga2.out) (Lga2.out))))
 refine hK _ _ rfl ⟨hb_10, (And.intro hs.g1 (And.intro hs.g0 trivial))⟩ ?_
 clear hK K
 refine fl fun w_11 n11 => ?_
 replace hs := hs.bl n11
 intro K hK
 have k3_11 := (k3_9.b hb_10).b n11
 replace da := da.k k3_11
 go_big_op
 go_fit (zmul_any (da.zn Lda.out) (da.zn Lda.out) (by omega) (by omega) )
 rintro e w_12 ⟨v_dm, rfl, dm, hb_12⟩
 replace hs := hs.bl hb_12
 replace dm := dm.rd
 obtain ⟨n_dm, o_dm, k_dm, c_dm, rfl⟩ := dm.open2
 have Ldm := hide (dm.lenOf (zlen_mul (Lda.out) (Lda.out)))
 refine hK _ _ rfl ⟨hb_12, (And.intro hs.g1 (And.intro hs.g0 trivial))⟩ ?_
 clear hK K
 refine fl fun w_13 n13 => ?_
 replace hs := hs.bl n13
 intro K hK
 have k10_13 := ((kb n11).b hb_12).b n13
 replace nn := nn.k k10_13
 have k12_13 := kb n13
 replace dm := dm.k k12_13
 go_big_op
 go_fit (fmake_r (nn.zn Lnn.out) (dm.zn Ldm.out) (by omega) (by omega) HD.out)
 rintro e w_14 ⟨_, rfl, ⟨n_ra, o_ra, k_ra, c_ra, n_rb, o_rb, k_rb, c_rb, rfl, r1, r2⟩, hb_14⟩
 replace hs := hs.bl hb_14
 rw [HM.out] at r1 r2
 refine hK _ _ rfl ⟨hb_14, (And.intro hs.g1 (And.intro hs.g0 trivial))⟩ ?_
 clear hK K
 refine f0 ?_
 refine f0 ?_
 refine e0 hs ?_; clear hs; intro w_15 hs n15
 clear ha1 ha2 ha3 ha4 nn dm
 refine tl ?_
 refine .s4 hs.g2 (fun _ => hs.u2 kb_b2) ?_ (e := fun _ hs => (And.intro hs.g1 (And.intro hs.g0 True.intro))); clear hs; intro w_16 hs hd16 ho16
 refine tl ?_
 refine .mv ?_ (e := (And.intro hs.g1 (And.intro hs.g0 True.intro)))
 apply wpTail_end
 refine hK3 _ _ ?_
 refine wp_ret ?_
 try dsimp only [Exit.then, Exit.inBlock]
 obtain ⟨r0_0, r0_1, r0_2, r0_3⟩ := hs.g2.f4
 refine bodyPost_ret (v := (.tuple #[(.agg #[.bool n_ra, .slice o_ra k_ra c_ra, .bool n_rb, .slice o_rb k_rb c_rb]), (.int .i64 0)])) (by simp [results, Tryz.results11, go_sem, r0_0, r0_1, r0_2, r0_3]) rfl ?_
 have k14_16 := (kb n15).o hd16 ho16
 replace r1 := r1.k k14_16
 replace r2 := r2.k k14_16
 exact ⟨_, rfl, .mk' r1 r2, hs.b⟩
theorem gfConj_ok (ha : CN w va x l y m u k v n) (hl : l ≤ 9000000) (hm : m ≤ 4500000) (hk : k ≤ 9000000) (hn : n ≤ 4500000) (hy : y ≠ 0) (hv : v ≠ 0) :
   Calls Tryz.prog 12 #[va] w fun e w' => ∃ r, e = .returned (.tuple #[r, .int .i64 0]) ∧ CC w' r (rv x y).num (rv x y).den (-rv u v).num (-rv u v).den ∧ Below w.heap.size w w' := by
 have HY := hide hy
 have HV := hide hv
 have HM := hide (show rv (-u) v = -rv u v from by unfold rv; rw [Rat.intCast_neg]; grind)
 clear hy hv
 obtain ⟨n_0a, o_0a, k_0a, c_0a, n_0b, o_0b, k_0b, c_0b, n_0c, o_0c, k_0c, c_0c, n_0d, o_0d, k_0d, c_0d, rfl, ha1, ha2, ha3, ha4⟩ := ha
 go_enter Tryz.func12, Tryz.ntmps12
 have hs := St.nil w
 refine wp_seq_k fun K1 hK1 => rg [0, 1, 2] ?_
 refine sq ?_
 refine .al hs ?_; clear hs; intro p_b1 w_1 hs n1 kb_b1
 refine sq ?_
 refine .al hs ?_; clear hs; intro p_b2 w_2 hs n2 kb_b2
 refine sm ?_
 apply wpSq_end
 refine hK1 _ _ ?_
 refine wp_seq_k ?_
 intro K2 hK2
 refine wp_region_f4 [(0, false), (1, false), (2, false), (3, false), (4, false), (6, false), (7, false), (8, false), (5, true), (9, false), (10, false), (11, true), (12, false), (13, false)] [14, 15] [] (fun _ => default) [99, 0, 99, 99, 0, 99, 99, 99, 0, 99, 99, 99, 99, 99, 99, 99] [] (.c hs.g1 .n) fn fun w_3 n3 => ?_
 replace hs := hs.bl n3
 refine f0 ?_
 apply wpFl_ld rfl rfl; (case h1 => intro w' hC K hK; have c0 := Bs.cell hC 0 rfl; have c1 := Bs.cell hC 1 rfl; have c2 := Bs.cell hC 2 rfl; have c3 := Bs.cell hC 3 rfl; go_big_op; exact hK); iterate 4 kernel_rfl
 refine f0 ?_
 refine f0 ?_
 apply wpFl_ld rfl rfl; (case h1 => intro w' hC K hK; have c4 := Bs.cell hC 4 rfl; have c5 := Bs.cell hC 5 rfl; go_big_op; exact hK); iterate 4 kernel_rfl
 refine f0 ?_
 refine f0 ?_
 apply wpFl_ld rfl rfl; (case h1 => intro w' hC K hK; have c6 := Bs.cell hC 6 rfl; have c7 := Bs.cell hC 7 rfl; go_big_op; exact hK); iterate 4 kernel_rfl
 refine fl fun w_4 n4 => ?_
 replace hs := hs.bl n4
 intro K hK
 have k0_4 := (((kb n1).b n2).b n3).b n4
 replace ha3 := ha3.k k0_4
 go_big_op
 go_fit (zneg_any ha3 (by omega) )
 rintro e w_5 ⟨v_g, rfl, g, hb_5⟩
 replace hs := hs.bl hb_5
 replace g := g.rd
 obtain ⟨n_g, o_g, k_g, c_g, rfl⟩ := g.open2
 have Lg := hide (g.lenOf (zlen_neg (ha3.len)))
 refine hK _ _ rfl ⟨hb_5, (And.intro hs.g1 trivial)⟩ ?_
 clear hK K
 refine f0 ?_
 refine f0 ?_
 refine fl fun w_6 n6 => ?_
 replace hs := hs.bl n6
 intro K hK
 have k0_6 := (k0_4.b hb_5).b n6
 replace ha1 := ha1.k k0_6
 replace ha2 := ha2.k k0_6
 have k5_6 := kb n6
 replace g := g.k k5_6
 replace ha4 := ha4.k k0_6
 go_big_op
 go_fit (low_ok (CN.mk' ha1 ha2 (g.zn Lg.out) ha4) (by omega) (by omega) (by omega) (by omega) HY.out HV.out)
 rintro e w_7 ⟨_, rfl, ⟨n_r1, o_r1, k_r1, c_r1, n_r2, o_r2, k_r2, c_r2, n_r3, o_r3, k_r3, c_r3, n_r4, o_r4, k_r4, c_r4, rfl, r1, r2, r3, r4⟩, hb_7⟩
 replace hs := hs.bl hb_7
 rw [HM.out] at r3 r4
 refine hK _ _ rfl ⟨hb_7, (And.intro hs.g1 trivial)⟩ ?_
 clear hK K
 refine f0 ?_
 refine f0 ?_
 refine e0 hs ?_; clear hs; intro w_8 hs n8
 refine tl ?_
 intro K hK
 have xs := hs.g0
 have d0 : w_8.cell? ⟨p_b2, 0, none⟩ = some (.bool false) := hs.g0.cell 0 rfl
 have d1 : w_8.cell? ⟨p_b2, 1, none⟩ = some (.slice none 0 0) := hs.g0.cell 1 rfl
 have d2 : w_8.cell? ⟨p_b2, 2, none⟩ = some (.bool false) := hs.g0.cell 2 rfl
 have d3 : w_8.cell? ⟨p_b2, 3, none⟩ = some (.slice none 0 0) := hs.g0.cell 3 rfl
 have d4 : w_8.cell? ⟨p_b2, 4, none⟩ = some (.bool false) := hs.g0.cell 4 rfl
 have d5 : w_8.cell? ⟨p_b2, 5, none⟩ = some (.slice none 0 0) := hs.g0.cell 5 rfl
 have d6 : w_8.cell? ⟨p_b2, 6, none⟩ = some (.bool false) := hs.g0.cell 6 rfl
 have d7 : w_8.cell? ⟨p_b2, 7, none⟩ = some (.slice none 0 0) := hs.g0.cell 7 rfl
 have f0 := xs.free 0; have f1 := xs.free 1; have f2 := xs.free 2; have f3 := xs.free 3; have f4 := xs.free 4; have f5 := xs.free 5; have f6 := xs.free 6; have f7 := xs.free 7
 go_big_op
 have hd9 := xs.nod rfl rfl
 obtain ⟨w_9_0, eW, xs_0, ho_0⟩ : ∃ w', ((((w_8.setCell ⟨p_b2, 0, none⟩ (.bool n_r1)).setCell ⟨p_b2, 1, none⟩ (.slice o_r1 k_r1 c_r1)).setCell ⟨p_b2, 2, none⟩ (.bool n_r2)).setCell ⟨p_b2, 3, none⟩ (.slice o_r2 k_r2 c_r2)) = w' ∧ Bs w' p_b2 #[.bool n_r1, .slice o_r1 k_r1 c_r1, .bool n_r2, .slice o_r2 k_r2 c_r2, .bool false, .slice none 0 0, .bool false, .slice none 0 0] 28 ∧ Only p_b2 w_8 w' := xs.setN [(0, .bool n_r1), (1, .slice o_r1 k_r1 c_r1), (2, .bool n_r2), (3, .slice o_r2 k_r2 c_r2)]
 rw [eW]; clear eW
 obtain ⟨w_9, eW, xs', ho_4⟩ : ∃ w', ((((w_9_0.setCell ⟨p_b2, 4, none⟩ (.bool n_r3)).setCell ⟨p_b2, 5, none⟩ (.slice o_r3 k_r3 c_r3)).setCell ⟨p_b2, 6, none⟩ (.bool n_r4)).setCell ⟨p_b2, 7, none⟩ (.slice o_r4 k_r4 c_r4)) = w' ∧ Bs w' p_b2 #[.bool n_r1, .slice o_r1 k_r1 c_r1, .bool n_r2, .slice o_r2 k_r2 c_r2, .bool n_r3, .slice o_r3 k_r3 c_r3, .bool n_r4, .slice o_r4 k_r4 c_r4] 28 ∧ Only p_b2 w_9_0 w' := xs_0.setN [(4, .bool n_r3), (5, .slice o_r3 k_r3 c_r3), (6, .bool n_r4), (7, .slice o_r4 k_r4 c_r4)]
 rw [eW]; clear eW xs_0
 have ho9 := (ho_0.trans ho_4)
 clear ho_0 ho_4 d0 d1 d2 d3 d4 d5 d6 d7 f0 f1 f2 f3 f4 f5 f6 f7 xs
 replace hs := hs.u0 kb_b2 xs' ho9; clear xs'
 refine hK _ _ rfl (And.intro hs.g1 True.intro) ?_; clear hK K
 refine tl ?_
 refine .mv ?_ (e := (And.intro hs.g1 True.intro))
 apply wpTail_end
 refine hK2 _ _ ?_
 refine wp_ret ?_
 try dsimp only [Exit.then, Exit.inBlock]
 have r0_0 : w_9.cell? ⟨p_b2, 0, none⟩ = some (.bool n_r1) := hs.g0.cell 0 rfl
 have r0_1 : w_9.cell? ⟨p_b2, 1, none⟩ = some (.slice o_r1 k_r1 c_r1) := hs.g0.cell 1 rfl
 have r0_2 : w_9.cell? ⟨p_b2, 2, none⟩ = some (.bool n_r2) := hs.g0.cell 2 rfl
 have r0_3 : w_9.cell? ⟨p_b2, 3, none⟩ = some (.slice o_r2 k_r2 c_r2) := hs.g0.cell 3 rfl
 have r0_4 : w_9.cell? ⟨p_b2, 4, none⟩ = some (.bool n_r3) := hs.g0.cell 4 rfl
 have r0_5 : w_9.cell? ⟨p_b2, 5, none⟩ = some (.slice o_r3 k_r3 c_r3) := hs.g0.cell 5 rfl
 have r0_6 : w_9.cell? ⟨p_b2, 6, none⟩ = some (.bool n_r4) := hs.g0.cell 6 rfl
 have r0_7 : w_9.cell? ⟨p_b2, 7, none⟩ = some (.slice o_r4 k_r4 c_r4) := hs.g0.cell 7 rfl
 refine bodyPost_ret (v := (.tuple #[(.agg #[.bool n_r1, .slice o_r1 k_r1 c_r1, .bool n_r2, .slice o_r2 k_r2 c_r2, .bool n_r3, .slice o_r3 k_r3 c_r3, .bool n_r4, .slice o_r4 k_r4 c_r4]), (.int .i64 0)])) (by simp [results, Tryz.results12, go_sem, r0_0, r0_1, r0_2, r0_3, r0_4, r0_5, r0_6, r0_7]) rfl ?_
 have k7_9 := (kb n8).o hd9 ho9
 replace r1 := r1.k k7_9
 replace r2 := r2.k k7_9
 replace r3 := r3.k k7_9
 replace r4 := r4.k k7_9
 exact ⟨_, rfl, .mk' r1 r2 r3 r4, hs.b⟩
end
end Go.Proofs.YthlhekkcjficdaaGreatDoor

/- gfrac: Equal; what both makes of numbers and texts; Text below an axis. -/
namespace Go.Proofs.YthlhekkcjficdaaGreatDoor
open Go Go.RowKit Dig
set_option maxHeartbeats 4000000
set_option maxRecDepth 20000
set_option linter.unusedVariables false
def TellsV (w : World) (f : Nat) (caps : Array Value) (s : Nat) (v : Value) : Prop :=
 ∀ w1, Below w.heap.size w w1 → Calls Tryz.prog f (#[.func (.func s) #[] #[]] ++ caps) w1 fun e w2 => e = .returned (.tuple #[v, .int .i64 0]) ∧ Below w1.heap.size w1 w2
def RefusesV (w : World) (f : Nat) (caps : Array Value) (s : Nat) (z : Value) : Prop :=
 ∀ w1, Below w.heap.size w w1 → Calls Tryz.prog f (#[.func (.func s) #[] #[]] ++ caps) w1 fun e w2 => e = .returned (.tuple #[z, .int .i64 5]) ∧ Below w1.heap.size w1 w2
section
variable {w : World} {va vb : Value} {x y u v p q s t : Int} {l m k n l2 m2 k2 n2 : Nat}
theorem selstring1 (ha : CN w va x l y m u k v n) :
   Calls Tryz.prog 129 #[va] w fun e w' => ∃ r, e = .returned r ∧ PN w' r x l y m ∧ Below w.heap.size w w' := by
 obtain ⟨n_0a, o_0a, k_0a, c_0a, n_0b, o_0b, k_0b, c_0b, n_0c, o_0c, k_0c, c_0c, n_0d, o_0d, k_0d, c_0d, rfl, ha1, ha2, ha3, ha4⟩ := ha
 go_enter Tryz.func129, Tryz.ntmps129
 have hs := St.nil w
 refine wp_seq_k fun K1 hK1 => rg [0, 1] ?_
 refine sq ?_
 refine .al hs ?_; clear hs; intro p_b1 w_1 hs n1 kb_b1
 refine sq ?_
 refine .al hs ?_; clear hs; intro p_b2 w_2 hs n2 kb_b2
 apply wpSq_end
 refine hK1 _ _ ?_
 refine wp_seq_k fun K2 hK2 => rg [0, 1, 2] ?_
 refine sr ?_
 refine sq ?_
 refine .r4 ⟨hs.g1.cell 0 rfl, hs.g1.cell 1 rfl, hs.g1.cell 2 rfl, hs.g1.cell 3 rfl⟩ ?_
 refine sq ?_
 refine .s4 hs.g0 (fun _ => hs.u0 kb_b2) ?_; clear hs; intro w_3 hs hd3 ho3
 apply wpSq_end
 refine hK2 _ _ ?_
 refine wp_ret ?_
 try dsimp only [Exit.then, Exit.inBlock]
 obtain ⟨r0_0, r0_1, r0_2, r0_3⟩ := hs.g0.f4
 refine bodyPost_ret (v := (.agg #[.bool n_0a, .slice o_0a k_0a c_0a, .bool n_0b, .slice o_0b k_0b c_0b])) (by simp [results, Tryz.results129, go_sem, r0_0, r0_1, r0_2, r0_3]) rfl ?_
 have k0_3 := ((kb n1).b n2).o hd3 ho3
 replace ha1 := ha1.k k0_3
 replace ha2 := ha2.k k0_3
 exact ⟨_, rfl, .mk' ha1 ha2, hs.b⟩
theorem selstring2 (ha : CN w va x l y m u k v n) :
   Calls Tryz.prog 130 #[va] w fun e w' => ∃ r, e = .returned r ∧ PN w' r u k v n ∧ Below w.heap.size w w' := by
 obtain ⟨n_0a, o_0a, k_0a, c_0a, n_0b, o_0b, k_0b, c_0b, n_0c, o_0c, k_0c, c_0c, n_0d, o_0d, k_0d, c_0d, rfl, ha1, ha2, ha3, ha4⟩ := ha
 go_enter Tryz.func130, Tryz.ntmps130
 have hs := St.nil w
 refine wp_seq_k fun K1 hK1 => rg [0, 1] ?_
 refine sq ?_
 refine .al hs ?_; clear hs; intro p_b1 w_1 hs n1 kb_b1
 refine sq ?_
 refine .al hs ?_; clear hs; intro p_b2 w_2 hs n2 kb_b2
 apply wpSq_end
 refine hK1 _ _ ?_
 refine wp_seq_k fun K2 hK2 => rg [0, 1, 2] ?_
 refine sr ?_
 refine sq ?_
 refine .r4 ⟨hs.g1.cell 4 rfl, hs.g1.cell 5 rfl, hs.g1.cell 6 rfl, hs.g1.cell 7 rfl⟩ ?_
 refine sq ?_
 refine .s4 hs.g0 (fun _ => hs.u0 kb_b2) ?_; clear hs; intro w_3 hs hd3 ho3
 apply wpSq_end
 refine hK2 _ _ ?_
 refine wp_ret ?_
 try dsimp only [Exit.then, Exit.inBlock]
 obtain ⟨r0_0, r0_1, r0_2, r0_3⟩ := hs.g0.f4
 refine bodyPost_ret (v := (.agg #[.bool n_0c, .slice o_0c k_0c c_0c, .bool n_0d, .slice o_0d k_0d c_0d])) (by simp [results, Tryz.results130, go_sem, r0_0, r0_1, r0_2, r0_3]) rfl ?_
 have k0_3 := ((kb n1).b n2).o hd3 ho3
 replace ha3 := ha3.k k0_3
 replace ha4 := ha4.k k0_3
 exact ⟨_, rfl, .mk' ha3 ha4, hs.b⟩
end
section
variable {w : World} {f : Nat} {caps : Array Value}
theorem bothstring_ok {a b : ByteArray} (hf : Enters f caps) (hc1 : TellsV w f caps 129 (.string a)) (hc2 : TellsV w f caps 130 (.string b)) :
   Calls Tryz.prog 71 #[.func (.func f) #[] caps] w fun e w' => e = .returned (.tuple #[.string a, .string b, .int .i64 0]) ∧ Below w.heap.size w w' := by
 unfold Enters at hf
 go_enter Tryz.func71, Tryz.ntmps71
 have hs := St.nil w
 refine wp_seq_k fun K1 hK1 => rg [0, 1, 2] ?_
 refine sm ?_
 refine sm ?_
 refine sm ?_
 apply wpSq_end
 refine hK1 _ _ ?_
 refine wp_seq_k fun K2 hK2 => rg [0] ?_
 refine sm ?_
 apply wpSq_end
 refine hK2 _ _ ?_
 refine wp_seq_k fun K3 hK3 => rg [0, 1, 2, 3, 4, 5, 6] ?_
 refine sm ?_
 refine sq ?_
 intro K hK
 have hb := hs.b
 go_big_op
 go_fit (hc1 _ hb)
 rintro e w_1 ⟨rfl, hb_1⟩
 clear hb
 replace hs := hs.bl hb_1
 refine hK _ _ rfl trivial ?_
 clear hK K
 refine sm ?_
 refine sr ?_
 refine sr ?_
 refine sm ?_
 refine sm ?_
 apply wpSq_end
 refine hK3 _ _ ?_
 refine wp_seq_k ?_
 intro K4 hK4
 refine wp_seq_k fun K5 hK5 => rg [0, 1] ?_
 refine sm ?_
 refine sr ?_
 apply wpSq_end
 refine hK5 _ _ ?_
 refine cf ?_
 refine wp_skip ?_
 refine hK4 _ _ ?_
 refine wp_seq_k fun K6 hK6 => rg [0, 1, 2, 3, 4, 5, 6] ?_
 refine sm ?_
 refine sq ?_
 intro K hK
 have hb := hs.b
 go_big_op
 go_fit (hc2 _ hb)
 rintro e w_2 ⟨rfl, hb_2⟩
 clear hb
 replace hs := hs.bl hb_2
 refine hK _ _ rfl trivial ?_
 clear hK K
 refine sm ?_
 refine sr ?_
 refine sr ?_
 refine sm ?_
 refine sm ?_
 apply wpSq_end
 refine hK6 _ _ ?_
 refine wp_seq_k ?_
 intro K7 hK7
 refine wp_seq_k fun K8 hK8 => rg [0, 1] ?_
 refine sm ?_
 refine sr ?_
 apply wpSq_end
 refine hK8 _ _ ?_
 refine cf ?_
 refine wp_skip ?_
 refine hK7 _ _ ?_
 refine wp_seq_k fun K9 hK9 => rg [0, 1, 2, 3, 4] ?_
 refine sm ?_
 refine sm ?_
 refine sm ?_
 refine sm ?_
 refine sm ?_
 apply wpSq_end
 refine hK9 _ _ ?_
 refine wp_ret ?_
 try dsimp only [Exit.then, Exit.inBlock]
 refine bodyPost_ret (v := (.tuple #[(.string a), (.string b), (.int .i64 0)])) (by simp [results, Tryz.results71, go_sem]) rfl ?_
 have hb := hs.b
 exact ⟨rfl, hb⟩
end
section
variable {w : World} {va vb : Value} {x y u v p q s t : Int} {l m k n l2 m2 k2 n2 : Nat}
theorem ctext1_ok {pa : Nat} (hp : BC w pa x l y m u k v n) (hl : l ≤ 10000000) (hm : m ≤ 10000000) (hk : k ≤ 10000000) (hn : n ≤ 10000000) (h0 : y ≠ 0) (htab : Lib.TabIs Tryz.prog w p10 .u64 Lib.pow10Tab) :
   Calls Tryz.prog 72 (#[.func (.func 129) #[] #[]] ++ #[.pointer (some ⟨pa, 0, none⟩)]) w fun e w' => e = .returned (.tuple #[.string (qts x y), .int .i64 0]) ∧ Below w.heap.size w w' := by
 have htabs := Lib.tabBelow_of_tabIs htab
 have H0 := hide h0
 obtain ⟨S, hS⟩ : ∃ S, qts x y = S := ⟨_, rfl⟩
 have HS := hide hS
 rw [hS]
 clear h0 hS
 obtain ⟨n1, o1, k1, c1, n2', o2, k2', c2, n3, o3, k3, c3, n4, o4, k4, c4, xa, h1, h2, h3, h4⟩ := hp
 show Calls Tryz.prog 72 #[.func (.func 129) #[] #[], .pointer (some ⟨pa, 0, none⟩)] w _
 go_enter Tryz.func72, Tryz.ntmps72
 have hs := St.nil w
 have lt_xa := xa.lt
 have xaz := xa
 refine wp_seq_k fun K1 hK1 => rg [0, 1] ?_
 refine sm ?_
 refine sm ?_
 apply wpSq_end
 refine hK1 _ _ ?_
 refine wp_seq_k fun K2 hK2 => rg [0, 1, 2, 3, 4, 5, 6, 7] ?_
 refine sm ?_
 refine sq ?_
 intro K hK
 have d0 : w.cell? ⟨pa, 0, none⟩ = some (.bool n1) := xa.cell 0 rfl
 have d1 : w.cell? ⟨pa, 1, none⟩ = some (.slice o1 k1 c1) := xa.cell 1 rfl
 have d2 : w.cell? ⟨pa, 2, none⟩ = some (.bool n2') := xa.cell 2 rfl
 have d3 : w.cell? ⟨pa, 3, none⟩ = some (.slice o2 k2' c2) := xa.cell 3 rfl
 have d4 : w.cell? ⟨pa, 4, none⟩ = some (.bool n3) := xa.cell 4 rfl
 have d5 : w.cell? ⟨pa, 5, none⟩ = some (.slice o3 k3 c3) := xa.cell 5 rfl
 have d6 : w.cell? ⟨pa, 6, none⟩ = some (.bool n4) := xa.cell 6 rfl
 have d7 : w.cell? ⟨pa, 7, none⟩ = some (.slice o4 k4 c4) := xa.cell 7 rfl
 go_big_op; refine hK _ _ rfl trivial ?_; clear hK K d0 d1 d2 d3 d4 d5 d6 d7
 refine sq ?_
 intro K hK
 go_big_op
 go_fit (selstring1 (.mk' h1 h2 h3 h4))
 rintro e w_1 ⟨_, rfl, ⟨n_gaa, o_gaa, k_gaa, c_gaa, n_gab, o_gab, k_gab, c_gab, rfl, ga1, ga2⟩, hb_1⟩
 replace hs := hs.bl hb_1
 refine hK _ _ rfl trivial ?_
 clear hK K
 refine sq ?_
 intro K hK
 have hb := hs.b
 go_big_op
 go_fit (fText_any (.mk' ga1 ga2) (by omega) (by omega) H0.out (htabs _ hb))
 rintro e w_2 ⟨rfl, hb_2⟩
 clear hb
 replace hs := hs.bl hb_2
 rw [HS.out]
 refine hK _ _ rfl trivial ?_
 clear hK K
 refine sr ?_
 refine sr ?_
 refine sm ?_
 refine sm ?_
 apply wpSq_end
 refine hK2 _ _ ?_
 refine wp_ret ?_
 try dsimp only [Exit.then, Exit.inBlock]
 refine bodyPost_ret (v := (.tuple #[(.string S), (.int .i64 0)])) (by simp [results, Tryz.results72, go_sem]) rfl ?_
 have hb := hs.b
 exact ⟨rfl, hb⟩
theorem ctext2_ok {pa : Nat} (hp : BC w pa x l y m u k v n) (hl : l ≤ 10000000) (hm : m ≤ 10000000) (hk : k ≤ 10000000) (hn : n ≤ 10000000) (h0 : v ≠ 0) (htab : Lib.TabIs Tryz.prog w p10 .u64 Lib.pow10Tab) :
   Calls Tryz.prog 72 (#[.func (.func 130) #[] #[]] ++ #[.pointer (some ⟨pa, 0, none⟩)]) w fun e w' => e = .returned (.tuple #[.string (qts u v), .int .i64 0]) ∧ Below w.heap.size w w' := by
 have htabs := Lib.tabBelow_of_tabIs htab
 have H0 := hide h0
 obtain ⟨S, hS⟩ : ∃ S, qts u v = S := ⟨_, rfl⟩
 have HS := hide hS
 rw [hS]
 clear h0 hS
 obtain ⟨n1, o1, k1, c1, n2', o2, k2', c2, n3, o3, k3, c3, n4, o4, k4, c4, xa, h1, h2, h3, h4⟩ := hp
 show Calls Tryz.prog 72 #[.func (.func 130) #[] #[], .pointer (some ⟨pa, 0, none⟩)] w _
 go_enter Tryz.func72, Tryz.ntmps72
 have hs := St.nil w
 have lt_xa := xa.lt
 have xaz := xa
 refine wp_seq_k fun K1 hK1 => rg [0, 1] ?_
 refine sm ?_
 refine sm ?_
 apply wpSq_end
 refine hK1 _ _ ?_
 refine wp_seq_k fun K2 hK2 => rg [0, 1, 2, 3, 4, 5, 6, 7] ?_
 refine sm ?_
 refine sq ?_
 intro K hK
 have d0 : w.cell? ⟨pa, 0, none⟩ = some (.bool n1) := xa.cell 0 rfl
 have d1 : w.cell? ⟨pa, 1, none⟩ = some (.slice o1 k1 c1) := xa.cell 1 rfl
 have d2 : w.cell? ⟨pa, 2, none⟩ = some (.bool n2') := xa.cell 2 rfl
 have d3 : w.cell? ⟨pa, 3, none⟩ = some (.slice o2 k2' c2) := xa.cell 3 rfl
 have d4 : w.cell? ⟨pa, 4, none⟩ = some (.bool n3) := xa.cell 4 rfl
 have d5 : w.cell? ⟨pa, 5, none⟩ = some (.slice o3 k3 c3) := xa.cell 5 rfl
 have d6 : w.cell? ⟨pa, 6, none⟩ = some (.bool n4) := xa.cell 6 rfl
 have d7 : w.cell? ⟨pa, 7, none⟩ = some (.slice o4 k4 c4) := xa.cell 7 rfl
 go_big_op; refine hK _ _ rfl trivial ?_; clear hK K d0 d1 d2 d3 d4 d5 d6 d7
 refine sq ?_
 intro K hK
 go_big_op
 go_fit (selstring2 (.mk' h1 h2 h3 h4))
 rintro e w_1 ⟨_, rfl, ⟨n_gaa, o_gaa, k_gaa, c_gaa, n_gab, o_gab, k_gab, c_gab, rfl, ga1, ga2⟩, hb_1⟩
 replace hs := hs.bl hb_1
 refine hK _ _ rfl trivial ?_
 clear hK K
 refine sq ?_
 intro K hK
 have hb := hs.b
 go_big_op
 go_fit (fText_any (.mk' ga1 ga2) (by omega) (by omega) H0.out (htabs _ hb))
 rintro e w_2 ⟨rfl, hb_2⟩
 clear hb
 replace hs := hs.bl hb_2
 rw [HS.out]
 refine hK _ _ rfl trivial ?_
 clear hK K
 refine sr ?_
 refine sr ?_
 refine sm ?_
 refine sm ?_
 apply wpSq_end
 refine hK2 _ _ ?_
 refine wp_ret ?_
 try dsimp only [Exit.then, Exit.inBlock]
 refine bodyPost_ret (v := (.tuple #[(.string S), (.int .i64 0)])) (by simp [results, Tryz.results72, go_sem]) rfl ?_
 have hb := hs.b
 exact ⟨rfl, hb⟩
end
end Go.Proofs.YthlhekkcjficdaaGreatDoor

/- gfrac's reference; the law's told, is, awake. -/
namespace Go.Proofs.YthlhekkcjficdaaGreatDoor
open Go Go.RowKit Dig
set_option maxHeartbeats 4000000
set_option maxRecDepth 20000
set_option linter.unusedVariables false
section
variable {w : World} {va vb : Value} {x y u v p q s t : Int} {l m k n l2 m2 k2 n2 : Nat}
theorem rfAdd_r (ha : PN w va x l y m) (hq : PN w vb u k v n) (hl : l ≤ 10000000) (hm : m ≤ 10000000) (hk : k ≤ 10000000) (hn : n ≤ 10000000) (hy : y ≠ 0) (hv : v ≠ 0) :
   Calls Tryz.prog 83 #[va, vb] w fun e w' => ∃ r, e = .returned r ∧ PC w' r (rv x y + rv u v).num (rv x y + rv u v).den ∧ Below w.heap.size w w' := by
 have h0 := Int.mul_ne_zero hy hv
 have := rfAdd_any ha hq hl hm hk hn h0
 rw [(q_eq h0 (rv_opAdd hy hv)).1, (q_eq h0 (rv_opAdd hy hv)).2] at this
 exact this
theorem rfMul_r (ha : PN w va x l y m) (hq : PN w vb u k v n) (hl : l ≤ 10000000) (hm : m ≤ 10000000) (hk : k ≤ 10000000) (hn : n ≤ 10000000) (hy : y ≠ 0) (hv : v ≠ 0) :
   Calls Tryz.prog 85 #[va, vb] w fun e w' => ∃ r, e = .returned r ∧ PC w' r (rv x y * rv u v).num (rv x y * rv u v).den ∧ Below w.heap.size w w' := by
 have h0 := Int.mul_ne_zero hy hv
 have := rfMul_any ha hq hl hm hk hn h0
 rw [(q_eq h0 (rv_mul x y u v)).1, (q_eq h0 (rv_mul x y u v)).2] at this
 exact this
theorem rv_neg1 (x y : Int) : rv (-x) y = -rv x y := by unfold rv; rw [Rat.intCast_neg]; grind
theorem rfNeg_r (ha : PN w va x l y m) (hl : l ≤ 10000000) (hm : m ≤ 10000000) (h0 : y ≠ 0) :
   Calls Tryz.prog 95 #[va] w fun e w' => ∃ r, e = .returned r ∧ PC w' r (-rv x y).num (-rv x y).den ∧ Below w.heap.size w w' := by
 have := rfNeg_any ha hl hm h0
 rw [(q_eq h0 (rv_neg1 x y)).1, (q_eq h0 (rv_neg1 x y)).2] at this
 exact this
theorem rfnorm_r (ha : PN w va x l y m) (hl : l ≤ 44000000) (hm : m ≤ 44000000) (h0 : y ≠ 0) :
   Calls Tryz.prog 62 #[va] w fun e w' => ∃ r, e = .returned r ∧ PC w' r (rv x y).num (rv x y).den ∧ Below w.heap.size w w' := by
 have := rfnorm_any ha hl hm h0
 rw [(q_num h0).1, (q_num h0).2] at this
 exact this
theorem rfsame_r {r : Rat} (ha : PC w va r.num r.den) (hq : PN w vb r.num l r.den m) (hl : l ≤ 44000000) (hm : m ≤ 44000000) :
   Calls Tryz.prog 14 #[va, vb] w fun e w' => e = .returned (.bool true) ∧ Below w.heap.size w w' :=
 rfsame_any (u := r.num) (v := r.den) (by rw [qN_low (rat_low r), qD_low (rat_low r)]; exact ha) hq hl hm (den_ne r)
theorem rv_nd (r : Rat) : rv r.num r.den = r := rv_self r
theorem r7Same_ok {a b : Rat} (ha : CC w va a.num a.den b.num b.den) (hq : CN w vb a.num l a.den m b.num k b.den n) (hl : l ≤ 44000000) (hm : m ≤ 44000000) (hk : k ≤ 44000000) (hn : n ≤ 44000000) :
   Calls Tryz.prog 88 #[va, vb] w fun e w' => e = .returned (.bool true) ∧ Below w.heap.size w w' := by
 obtain ⟨n_0a, o_0a, k_0a, c_0a, n_0b, o_0b, k_0b, c_0b, n_0c, o_0c, k_0c, c_0c, n_0d, o_0d, k_0d, c_0d, rfl, ha1, ha2, ha3, ha4⟩ := ha
 obtain ⟨n_1a, o_1a, k_1a, c_1a, n_1b, o_1b, k_1b, c_1b, n_1c, o_1c, k_1c, c_1c, n_1d, o_1d, k_1d, c_1d, rfl, hq1, hq2, hq3, hq4⟩ := hq
 go_enter Tryz.func88, Tryz.ntmps88
 have hs := St.nil w
 refine wp_seq_k fun K1 hK1 => rg [0, 1, 2] ?_
 refine sq ?_
 refine .al hs ?_; clear hs; intro p_b1 w_1 hs n1 kb_b1
 refine sq ?_
 refine .al hs ?_; clear hs; intro p_b2 w_2 hs n2 kb_b2
 refine sm ?_
 apply wpSq_end
 refine hK1 _ _ ?_
 refine wp_seq_k fun K2 hK2 => rg [0, 1, 2, 3, 4, 5, 6, 7, 8, 9, 10, 11, 12] ?_
 refine sr ?_
 refine sq ?_
 refine .r4 ⟨hs.g1.cell 0 rfl, hs.g1.cell 1 rfl, hs.g1.cell 2 rfl, hs.g1.cell 3 rfl⟩ ?_
 refine sr ?_
 refine sq ?_
 refine .r4 ⟨hs.g0.cell 0 rfl, hs.g0.cell 1 rfl, hs.g0.cell 2 rfl, hs.g0.cell 3 rfl⟩ ?_
 refine sq ?_
 intro K hK
 have k0_2 := (kb n1).b n2
 replace ha1 := ha1.k k0_2
 replace ha2 := ha2.k k0_2
 replace hq1 := hq1.k k0_2
 replace hq2 := hq2.k k0_2
 go_big_op
 go_fit (rfsame_r (.mk' ha1 ha2) (.mk' hq1 hq2) hl hm)
 rintro e w_3 ⟨rfl, hb_3⟩
 replace hs := hs.bl hb_3
 refine hK _ _ rfl trivial ?_
 clear hK K
 refine sm ?_
 refine sr ?_
 refine sq ?_
 refine .r4 ⟨hs.g1.cell 4 rfl, hs.g1.cell 5 rfl, hs.g1.cell 6 rfl, hs.g1.cell 7 rfl⟩ ?_
 refine sr ?_
 refine sq ?_
 refine .r4 ⟨hs.g0.cell 4 rfl, hs.g0.cell 5 rfl, hs.g0.cell 6 rfl, hs.g0.cell 7 rfl⟩ ?_
 refine sq ?_
 intro K hK
 have k0_3 := k0_2.b hb_3
 replace ha3 := ha3.k k0_3
 replace ha4 := ha4.k k0_3
 replace hq3 := hq3.k k0_3
 replace hq4 := hq4.k k0_3
 go_big_op
 go_fit (rfsame_r (.mk' ha3 ha4) (.mk' hq3 hq4) hk hn)
 rintro e w_4 ⟨rfl, hb_4⟩
 replace hs := hs.bl hb_4
 refine hK _ _ rfl trivial ?_
 clear hK K
 refine sr ?_
 refine sm ?_
 apply wpSq_end
 refine hK2 _ _ ?_
 refine wp_ret ?_
 try dsimp only [Exit.then, Exit.inBlock]
 refine bodyPost_ret (v := (.bool true)) (by simp [results, Tryz.results88, go_sem]) rfl ?_
 have hb := hs.b
 exact ⟨rfl, hb⟩
theorem is7_ok {a b : Rat} (ha : CC w va a.num a.den b.num b.den) (hq : CN w vb a.num l a.den m b.num k b.den n) (hl : l ≤ 44000000) (hm : m ≤ 44000000) (hk : k ≤ 44000000) (hn : n ≤ 44000000) :
   Calls Tryz.prog 35 #[va, vb] w fun e w' => e = .returned (.bool true) ∧ Below w.heap.size w w' := by
 obtain ⟨n_0a, o_0a, k_0a, c_0a, n_0b, o_0b, k_0b, c_0b, n_0c, o_0c, k_0c, c_0c, n_0d, o_0d, k_0d, c_0d, rfl, ha1, ha2, ha3, ha4⟩ := ha
 obtain ⟨n_1a, o_1a, k_1a, c_1a, n_1b, o_1b, k_1b, c_1b, n_1c, o_1c, k_1c, c_1c, n_1d, o_1d, k_1d, c_1d, rfl, hq1, hq2, hq3, hq4⟩ := hq
 go_enter Tryz.func35, Tryz.ntmps35
 have hs := St.nil w
 refine wp_seq_k fun K1 hK1 => rg [0, 1, 2] ?_
 refine sq ?_
 refine .al hs ?_; clear hs; intro p_b1 w_1 hs n1 kb_b1
 refine sq ?_
 refine .al hs ?_; clear hs; intro p_b2 w_2 hs n2 kb_b2
 refine sm ?_
 apply wpSq_end
 refine hK1 _ _ ?_
 refine wp_seq_k fun K2 hK2 => rg [0, 1, 2, 3] ?_
 refine sq ?_
 intro K hK
 have d0 : w_2.cell? ⟨p_b1, 0, none⟩ = some (.bool n_0a) := hs.g1.cell 0 rfl
 have d1 : w_2.cell? ⟨p_b1, 1, none⟩ = some (.slice o_0a k_0a c_0a) := hs.g1.cell 1 rfl
 have d2 : w_2.cell? ⟨p_b1, 2, none⟩ = some (.bool n_0b) := hs.g1.cell 2 rfl
 have d3 : w_2.cell? ⟨p_b1, 3, none⟩ = some (.slice o_0b k_0b c_0b) := hs.g1.cell 3 rfl
 have d4 : w_2.cell? ⟨p_b1, 4, none⟩ = some (.bool n_0c) := hs.g1.cell 4 rfl
 have d5 : w_2.cell? ⟨p_b1, 5, none⟩ = some (.slice o_0c k_0c c_0c) := hs.g1.cell 5 rfl
 have d6 : w_2.cell? ⟨p_b1, 6, none⟩ = some (.bool n_0d) := hs.g1.cell 6 rfl
 have d7 : w_2.cell? ⟨p_b1, 7, none⟩ = some (.slice o_0d k_0d c_0d) := hs.g1.cell 7 rfl
 go_big_op; refine hK _ _ rfl trivial ?_; clear hK K d0 d1 d2 d3 d4 d5 d6 d7
 refine sq ?_
 intro K hK
 have d0 : w_2.cell? ⟨p_b2, 0, none⟩ = some (.bool n_1a) := hs.g0.cell 0 rfl
 have d1 : w_2.cell? ⟨p_b2, 1, none⟩ = some (.slice o_1a k_1a c_1a) := hs.g0.cell 1 rfl
 have d2 : w_2.cell? ⟨p_b2, 2, none⟩ = some (.bool n_1b) := hs.g0.cell 2 rfl
 have d3 : w_2.cell? ⟨p_b2, 3, none⟩ = some (.slice o_1b k_1b c_1b) := hs.g0.cell 3 rfl
 have d4 : w_2.cell? ⟨p_b2, 4, none⟩ = some (.bool n_1c) := hs.g0.cell 4 rfl
 have d5 : w_2.cell? ⟨p_b2, 5, none⟩ = some (.slice o_1c k_1c c_1c) := hs.g0.cell 5 rfl
 have d6 : w_2.cell? ⟨p_b2, 6, none⟩ = some (.bool n_1d) := hs.g0.cell 6 rfl
 have d7 : w_2.cell? ⟨p_b2, 7, none⟩ = some (.slice o_1d k_1d c_1d) := hs.g0.cell 7 rfl
 go_big_op; refine hK _ _ rfl trivial ?_; clear hK K d0 d1 d2 d3 d4 d5 d6 d7
 refine sq ?_
 intro K hK
 have k0_2 := (kb n1).b n2
 replace ha1 := ha1.k k0_2
 replace ha2 := ha2.k k0_2
 replace ha3 := ha3.k k0_2
 replace ha4 := ha4.k k0_2
 replace hq1 := hq1.k k0_2
 replace hq2 := hq2.k k0_2
 replace hq3 := hq3.k k0_2
 replace hq4 := hq4.k k0_2
 go_big_op
 go_fit (r7Same_ok (.mk' ha1 ha2 ha3 ha4) (.mk' hq1 hq2 hq3 hq4) hl hm hk hn)
 rintro e w_3 ⟨rfl, hb_3⟩
 replace hs := hs.bl hb_3
 refine hK _ _ rfl trivial ?_
 clear hK K
 refine sm ?_
 apply wpSq_end
 refine hK2 _ _ ?_
 refine wp_ret ?_
 try dsimp only [Exit.then, Exit.inBlock]
 refine bodyPost_ret (v := (.bool true)) (by simp [results, Tryz.results35, go_sem]) rfl ?_
 have hb := hs.b
 exact ⟨rfl, hb⟩
theorem told7_ok {a b : Rat} (ha : CC w va a.num a.den b.num b.den) (hq : CN w vb a.num l a.den m b.num k b.den n) (hl : l ≤ 44000000) (hm : m ≤ 44000000) (hk : k ≤ 44000000) (hn : n ≤ 44000000) :
   Calls Tryz.prog 16 #[va, .int .i64 0, vb, .int .i64 0] w fun e w' => e = .returned (.bool true) ∧ Below w.heap.size w w' := by
 obtain ⟨n_0a, o_0a, k_0a, c_0a, n_0b, o_0b, k_0b, c_0b, n_0c, o_0c, k_0c, c_0c, n_0d, o_0d, k_0d, c_0d, rfl, ha1, ha2, ha3, ha4⟩ := ha
 obtain ⟨n_2a, o_2a, k_2a, c_2a, n_2b, o_2b, k_2b, c_2b, n_2c, o_2c, k_2c, c_2c, n_2d, o_2d, k_2d, c_2d, rfl, hq1, hq2, hq3, hq4⟩ := hq
 go_enter Tryz.func16, Tryz.ntmps16
 have hs := St.nil w
 refine wp_seq_k fun K1 hK1 => rg [0, 1, 2] ?_
 refine sq ?_
 refine .al hs ?_; clear hs; intro p_b1 w_1 hs n1 kb_b1
 refine sq ?_
 refine .al hs ?_; clear hs; intro p_b2 w_2 hs n2 kb_b2
 refine sm ?_
 apply wpSq_end
 refine hK1 _ _ ?_
 refine wp_seq_k ?_
 intro K2 hK2
 refine wp_seq_k fun K3 hK3 => rg [0, 1] ?_
 refine sm ?_
 refine sr ?_
 apply wpSq_end
 refine hK3 _ _ ?_
 refine cf ?_
 refine wp_skip ?_
 refine hK2 _ _ ?_
 refine wp_seq_k fun K4 hK4 => rg [0, 1, 2, 3, 4, 5, 6, 7] ?_
 refine sm ?_
 refine sr ?_
 refine sm ?_
 refine sq ?_
 intro K hK
 have d0 : w_2.cell? ⟨p_b1, 0, none⟩ = some (.bool n_0a) := hs.g1.cell 0 rfl
 have d1 : w_2.cell? ⟨p_b1, 1, none⟩ = some (.slice o_0a k_0a c_0a) := hs.g1.cell 1 rfl
 have d2 : w_2.cell? ⟨p_b1, 2, none⟩ = some (.bool n_0b) := hs.g1.cell 2 rfl
 have d3 : w_2.cell? ⟨p_b1, 3, none⟩ = some (.slice o_0b k_0b c_0b) := hs.g1.cell 3 rfl
 have d4 : w_2.cell? ⟨p_b1, 4, none⟩ = some (.bool n_0c) := hs.g1.cell 4 rfl
 have d5 : w_2.cell? ⟨p_b1, 5, none⟩ = some (.slice o_0c k_0c c_0c) := hs.g1.cell 5 rfl
 have d6 : w_2.cell? ⟨p_b1, 6, none⟩ = some (.bool n_0d) := hs.g1.cell 6 rfl
 have d7 : w_2.cell? ⟨p_b1, 7, none⟩ = some (.slice o_0d k_0d c_0d) := hs.g1.cell 7 rfl
 go_big_op; refine hK _ _ rfl trivial ?_; clear hK K d0 d1 d2 d3 d4 d5 d6 d7
 refine sq ?_
 intro K hK
 have d0 : w_2.cell? ⟨p_b2, 0, none⟩ = some (.bool n_2a) := hs.g0.cell 0 rfl
 have d1 : w_2.cell? ⟨p_b2, 1, none⟩ = some (.slice o_2a k_2a c_2a) := hs.g0.cell 1 rfl
 have d2 : w_2.cell? ⟨p_b2, 2, none⟩ = some (.bool n_2b) := hs.g0.cell 2 rfl
 have d3 : w_2.cell? ⟨p_b2, 3, none⟩ = some (.slice o_2b k_2b c_2b) := hs.g0.cell 3 rfl
 have d4 : w_2.cell? ⟨p_b2, 4, none⟩ = some (.bool n_2c) := hs.g0.cell 4 rfl
 have d5 : w_2.cell? ⟨p_b2, 5, none⟩ = some (.slice o_2c k_2c c_2c) := hs.g0.cell 5 rfl
 have d6 : w_2.cell? ⟨p_b2, 6, none⟩ = some (.bool n_2d) := hs.g0.cell 6 rfl
 have d7 : w_2.cell? ⟨p_b2, 7, none⟩ = some (.slice o_2d k_2d c_2d) := hs.g0.cell 7 rfl
 go_big_op; refine hK _ _ rfl trivial ?_; clear hK K d0 d1 d2 d3 d4 d5 d6 d7
 refine sq ?_
 intro K hK
 have k0_2 := (kb n1).b n2
 replace ha1 := ha1.k k0_2
 replace ha2 := ha2.k k0_2
 replace ha3 := ha3.k k0_2
 replace ha4 := ha4.k k0_2
 replace hq1 := hq1.k k0_2
 replace hq2 := hq2.k k0_2
 replace hq3 := hq3.k k0_2
 replace hq4 := hq4.k k0_2
 go_big_op
 go_fit (is7_ok (.mk' ha1 ha2 ha3 ha4) (.mk' hq1 hq2 hq3 hq4) hl hm hk hn)
 rintro e w_3 ⟨rfl, hb_3⟩
 replace hs := hs.bl hb_3
 refine hK _ _ rfl trivial ?_
 clear hK K
 refine sr ?_
 refine sm ?_
 apply wpSq_end
 refine hK4 _ _ ?_
 refine wp_ret ?_
 try dsimp only [Exit.then, Exit.inBlock]
 refine bodyPost_ret (v := (.bool true)) (by simp [results, Tryz.results16, go_sem]) rfl ?_
 have hb := hs.b
 exact ⟨rfl, hb⟩
theorem r7Zero_ok (w : World) :
   Calls Tryz.prog 65 #[.agg #[.bool false, .slice none 0 0, .bool false, .slice none 0 0, .bool false, .slice none 0 0, .bool false, .slice none 0 0]] w fun e w' => e = .returned (.bool true) ∧ Below w.heap.size w w' := by
 go_enter Tryz.func65, Tryz.ntmps65
 have hs := St.nil w
 refine wp_seq_k fun K1 hK1 => rg [0, 1] ?_
 refine sq ?_
 refine .al hs ?_; clear hs; intro p_b1 w_1 hs n1 kb_b1
 refine sm ?_
 apply wpSq_end
 refine hK1 _ _ ?_
 refine wp_seq_k fun K2 hK2 => rg [0, 1, 2, 3, 4, 5, 6, 7, 8] ?_
 refine sr ?_
 refine sq ?_
 refine .r4 ⟨hs.g0.cell 0 rfl, hs.g0.cell 1 rfl, hs.g0.cell 2 rfl, hs.g0.cell 3 rfl⟩ ?_
 refine sq ?_
 intro K hK
 go_big_op
 go_fit (rfzero_any _)
 rintro e w_2 ⟨rfl, hb_2⟩
 replace hs := hs.bl hb_2
 refine hK _ _ rfl trivial ?_
 clear hK K
 refine sm ?_
 refine sr ?_
 refine sq ?_
 refine .r4 ⟨hs.g0.cell 4 rfl, hs.g0.cell 5 rfl, hs.g0.cell 6 rfl, hs.g0.cell 7 rfl⟩ ?_
 refine sq ?_
 intro K hK
 go_big_op
 go_fit (rfzero_any _)
 rintro e w_3 ⟨rfl, hb_3⟩
 replace hs := hs.bl hb_3
 refine hK _ _ rfl trivial ?_
 clear hK K
 refine sr ?_
 refine sm ?_
 apply wpSq_end
 refine hK2 _ _ ?_
 refine wp_ret ?_
 try dsimp only [Exit.then, Exit.inBlock]
 refine bodyPost_ret (v := (.bool true)) (by simp [results, Tryz.results65, go_sem]) rfl ?_
 have hb := hs.b
 exact ⟨rfl, hb⟩
theorem told7_err (w : World) (f : Int) (hf : f ≠ 0) :
   Calls Tryz.prog 16 #[.agg #[.bool false, .slice none 0 0, .bool false, .slice none 0 0, .bool false, .slice none 0 0, .bool false, .slice none 0 0], .int .i64 f, .agg #[.bool false, .slice none 0 0, .bool false, .slice none 0 0, .bool false, .slice none 0 0, .bool false, .slice none 0 0], .int .i64 f] w fun e w' => e = .returned (.bool true) ∧ Below w.heap.size w w' := by
 have h0 : (f == 0) = false := by simpa using hf
 go_enter Tryz.func16, Tryz.ntmps16
 have hs := St.nil w
 refine wp_seq_k fun K1 hK1 => rg [0, 1, 2] ?_
 refine sq ?_
 refine .al hs ?_; clear hs; intro p_b1 w_1 hs n1 kb_b1
 refine sq ?_
 refine .al hs ?_; clear hs; intro p_b2 w_2 hs n2 kb_b2
 refine sm ?_
 apply wpSq_end
 refine hK1 _ _ ?_
 refine wp_seq_k ?_
 intro K2 hK2
 refine wp_seq_k fun K3 hK3 => rg [0, 1] ?_
 refine sm ?_
 refine sr ?_
 apply wpSq_end
 refine hK3 _ _ ?_
 refine wp_cond_true (congrArg Value.bool (show _ = true from (by simpa using hf))) ?_
 refine wp_seq_k fun K4 hK4 => rg [0, 1, 2, 3, 4, 5, 6, 7] ?_
 refine sm ?_
 refine sm ?_
 refine sr ?_
 refine sm ?_
 refine sq ?_
 intro K hK
 have d0 : w_2.cell? ⟨p_b1, 0, none⟩ = some (.bool false) := hs.g1.cell 0 rfl
 have d1 : w_2.cell? ⟨p_b1, 1, none⟩ = some (.slice none 0 0) := hs.g1.cell 1 rfl
 have d2 : w_2.cell? ⟨p_b1, 2, none⟩ = some (.bool false) := hs.g1.cell 2 rfl
 have d3 : w_2.cell? ⟨p_b1, 3, none⟩ = some (.slice none 0 0) := hs.g1.cell 3 rfl
 have d4 : w_2.cell? ⟨p_b1, 4, none⟩ = some (.bool false) := hs.g1.cell 4 rfl
 have d5 : w_2.cell? ⟨p_b1, 5, none⟩ = some (.slice none 0 0) := hs.g1.cell 5 rfl
 have d6 : w_2.cell? ⟨p_b1, 6, none⟩ = some (.bool false) := hs.g1.cell 6 rfl
 have d7 : w_2.cell? ⟨p_b1, 7, none⟩ = some (.slice none 0 0) := hs.g1.cell 7 rfl
 go_big_op; refine hK _ _ rfl trivial ?_; clear hK K d0 d1 d2 d3 d4 d5 d6 d7
 refine sq ?_
 intro K hK
 go_big_op
 go_fit (r7Zero_ok _)
 rintro e w_3 ⟨rfl, hb_3⟩
 replace hs := hs.bl hb_3
 refine hK _ _ rfl trivial ?_
 clear hK K
 refine sr ?_
 refine sm ?_
 apply wpSq_end
 refine hK4 _ _ ?_
 refine wp_ret ?_
 try dsimp only [Exit.then, Exit.inBlock]
 refine bodyPost_ret (v := (.bool true)) (by simp [results, Tryz.results16, go_sem]) rfl ?_
 have hb := hs.b
 exact ⟨rfl, hb⟩
theorem r7Bad_no (ha : CN w va x l y m u k v n) (hl : l ≤ 40000000) (hm : m ≤ 40000000) (hk : k ≤ 40000000) (hn : n ≤ 40000000) (hy : y ≠ 0) (hv : v ≠ 0) :
   Calls Tryz.prog 28 #[va] w fun e w' => e = .returned (.bool false) ∧ Below w.heap.size w w' := by
 have HY := hide hy
 have HV := hide hv
 clear hy hv
 obtain ⟨n_0a, o_0a, k_0a, c_0a, n_0b, o_0b, k_0b, c_0b, n_0c, o_0c, k_0c, c_0c, n_0d, o_0d, k_0d, c_0d, rfl, ha1, ha2, ha3, ha4⟩ := ha
 go_enter Tryz.func28, Tryz.ntmps28
 have hs := St.nil w
 refine wp_seq_k fun K1 hK1 => rg [0, 1] ?_
 refine sq ?_
 refine .al hs ?_; clear hs; intro p_b1 w_1 hs n1 kb_b1
 refine sm ?_
 apply wpSq_end
 refine hK1 _ _ ?_
 refine wp_seq_k fun K2 hK2 => rg [0, 1, 2, 3, 4, 5, 6, 7, 8] ?_
 refine sr ?_
 refine sq ?_
 refine .r4 ⟨hs.g0.cell 0 rfl, hs.g0.cell 1 rfl, hs.g0.cell 2 rfl, hs.g0.cell 3 rfl⟩ ?_
 refine sq ?_
 intro K hK
 have k0_1 := kb n1
 replace ha1 := ha1.k k0_1
 replace ha2 := ha2.k k0_1
 go_big_op
 go_fit (rbad_no (PN.mk' ha1 ha2) (by omega) (by omega) HY.out)
 rintro e w_2 ⟨rfl, hb_2⟩
 replace hs := hs.bl hb_2
 refine hK _ _ rfl trivial ?_
 clear hK K
 refine sm ?_
 refine sr ?_
 refine sq ?_
 refine .r4 ⟨hs.g0.cell 4 rfl, hs.g0.cell 5 rfl, hs.g0.cell 6 rfl, hs.g0.cell 7 rfl⟩ ?_
 refine sq ?_
 intro K hK
 have k0_2 := k0_1.b hb_2
 replace ha3 := ha3.k k0_2
 replace ha4 := ha4.k k0_2
 go_big_op
 go_fit (rbad_no (PN.mk' ha3 ha4) (by omega) (by omega) HV.out)
 rintro e w_3 ⟨rfl, hb_3⟩
 replace hs := hs.bl hb_3
 refine hK _ _ rfl trivial ?_
 clear hK K
 refine sr ?_
 refine sm ?_
 apply wpSq_end
 refine hK2 _ _ ?_
 refine wp_ret ?_
 try dsimp only [Exit.then, Exit.inBlock]
 refine bodyPost_ret (v := (.bool false)) (by simp [results, Tryz.results28, go_sem]) rfl ?_
 have hb := hs.b
 exact ⟨rfl, hb⟩
theorem r7Bad_yes1 (ha : CN w va x l 0 m u k v n) (hl : l ≤ 40000000) (hm : m ≤ 40000000) (hk : k ≤ 40000000) (hn : n ≤ 40000000) :
   Calls Tryz.prog 28 #[va] w fun e w' => e = .returned (.bool true) ∧ Below w.heap.size w w' := by
 obtain ⟨n_0a, o_0a, k_0a, c_0a, n_0b, o_0b, k_0b, c_0b, n_0c, o_0c, k_0c, c_0c, n_0d, o_0d, k_0d, c_0d, rfl, ha1, ha2, ha3, ha4⟩ := ha
 go_enter Tryz.func28, Tryz.ntmps28
 have hs := St.nil w
 refine wp_seq_k fun K1 hK1 => rg [0, 1] ?_
 refine sq ?_
 refine .al hs ?_; clear hs; intro p_b1 w_1 hs n1 kb_b1
 refine sm ?_
 apply wpSq_end
 refine hK1 _ _ ?_
 refine wp_seq_k fun K2 hK2 => rg [0, 1, 2, 3, 4, 5, 6, 7, 8] ?_
 refine sr ?_
 refine sq ?_
 refine .r4 ⟨hs.g0.cell 0 rfl, hs.g0.cell 1 rfl, hs.g0.cell 2 rfl, hs.g0.cell 3 rfl⟩ ?_
 refine sq ?_
 intro K hK
 have k0_1 := kb n1
 replace ha1 := ha1.k k0_1
 replace ha2 := ha2.k k0_1
 go_big_op
 go_fit (rbad_yes (PN.mk' ha1 ha2) (by omega) (by omega) )
 rintro e w_2 ⟨rfl, hb_2⟩
 replace hs := hs.bl hb_2
 refine hK _ _ rfl trivial ?_
 clear hK K
 refine sm ?_
 refine sk ?_
 refine sk ?_
 refine sk ?_
 refine sr ?_
 refine sm ?_
 apply wpSq_end
 refine hK2 _ _ ?_
 refine wp_ret ?_
 try dsimp only [Exit.then, Exit.inBlock]
 refine bodyPost_ret (v := (.bool true)) (by simp [results, Tryz.results28, go_sem]) rfl ?_
 have hb := hs.b
 exact ⟨rfl, hb⟩
theorem r7Bad_yes2 (ha : CN w va x l y m u k 0 n) (hl : l ≤ 40000000) (hm : m ≤ 40000000) (hk : k ≤ 40000000) (hn : n ≤ 40000000) (hy : y ≠ 0) :
   Calls Tryz.prog 28 #[va] w fun e w' => e = .returned (.bool true) ∧ Below w.heap.size w w' := by
 have HY := hide hy
 clear hy
 obtain ⟨n_0a, o_0a, k_0a, c_0a, n_0b, o_0b, k_0b, c_0b, n_0c, o_0c, k_0c, c_0c, n_0d, o_0d, k_0d, c_0d, rfl, ha1, ha2, ha3, ha4⟩ := ha
 go_enter Tryz.func28, Tryz.ntmps28
 have hs := St.nil w
 refine wp_seq_k fun K1 hK1 => rg [0, 1] ?_
 refine sq ?_
 refine .al hs ?_; clear hs; intro p_b1 w_1 hs n1 kb_b1
 refine sm ?_
 apply wpSq_end
 refine hK1 _ _ ?_
 refine wp_seq_k fun K2 hK2 => rg [0, 1, 2, 3, 4, 5, 6, 7, 8] ?_
 refine sr ?_
 refine sq ?_
 refine .r4 ⟨hs.g0.cell 0 rfl, hs.g0.cell 1 rfl, hs.g0.cell 2 rfl, hs.g0.cell 3 rfl⟩ ?_
 refine sq ?_
 intro K hK
 have k0_1 := kb n1
 replace ha1 := ha1.k k0_1
 replace ha2 := ha2.k k0_1
 go_big_op
 go_fit (rbad_no (PN.mk' ha1 ha2) (by omega) (by omega) HY.out)
 rintro e w_2 ⟨rfl, hb_2⟩
 replace hs := hs.bl hb_2
 refine hK _ _ rfl trivial ?_
 clear hK K
 refine sm ?_
 refine sr ?_
 refine sq ?_
 refine .r4 ⟨hs.g0.cell 4 rfl, hs.g0.cell 5 rfl, hs.g0.cell 6 rfl, hs.g0.cell 7 rfl⟩ ?_
 refine sq ?_
 intro K hK
 have k0_2 := k0_1.b hb_2
 replace ha3 := ha3.k k0_2
 replace ha4 := ha4.k k0_2
 go_big_op
 go_fit (rbad_yes (PN.mk' ha3 ha4) (by omega) (by omega) )
 rintro e w_3 ⟨rfl, hb_3⟩
 replace hs := hs.bl hb_3
 refine hK _ _ rfl trivial ?_
 clear hK K
 refine sr ?_
 refine sm ?_
 apply wpSq_end
 refine hK2 _ _ ?_
 refine wp_ret ?_
 try dsimp only [Exit.then, Exit.inBlock]
 refine bodyPost_ret (v := (.bool true)) (by simp [results, Tryz.results28, go_sem]) rfl ?_
 have hb := hs.b
 exact ⟨rfl, hb⟩
theorem r7Bad_yes (ha : CN w va x l y m u k v n) (hl : l ≤ 40000000) (hm : m ≤ 40000000) (hk : k ≤ 40000000) (hn : n ≤ 40000000) (h : y = 0 ∨ v = 0) :
   Calls Tryz.prog 28 #[va] w fun e w' => e = .returned (.bool true) ∧ Below w.heap.size w w' := by
 by_cases hy : y = 0
 · subst hy; exact r7Bad_yes1 ha hl hm hk hn
 · obtain rfl := h.resolve_left hy
   exact r7Bad_yes2 ha hl hm hk hn hy
theorem c7_any (a b d e : Int) (w : World) (h1 : -9223372036854775808 ≤ a) (h2 : a ≤ 9223372036854775807) (h3 : -9223372036854775808 ≤ b) (h4 : b ≤ 9223372036854775807) (h5 : -9223372036854775808 ≤ d) (h6 : d ≤ 9223372036854775807) (h7 : -9223372036854775808 ≤ e) (h8 : e ≤ 9223372036854775807) :
   Calls Tryz.prog 10 #[.int .i64 a, .int .i64 b, .int .i64 d, .int .i64 e] w fun e' w' => ∃ r, e' = .returned r ∧ CC w' r a b d e ∧ Below w.heap.size w w' := by
 go_enter Tryz.func10, Tryz.ntmps10
 have hs := St.nil w
 refine wp_seq_k fun K1 hK1 => rg [0] ?_
 refine sq ?_
 refine .al hs ?_; clear hs; intro p_b1 w_1 hs n1 kb_b1
 apply wpSq_end
 refine hK1 _ _ ?_
 refine wp_seq_k fun K2 hK2 => rg [0, 1, 2, 3, 4, 5, 6, 7, 8, 9, 10, 11] ?_
 refine sm ?_
 refine sq ?_
 intro K hK
 go_big_op
 go_fit (ri_any a _ h1 h2)
 rintro e w_2 ⟨v_ra, rfl, ra, hb_2⟩
 replace hs := hs.bl hb_2
 replace ra := ra.rd
 obtain ⟨n_ra, o_ra, k_ra, c_ra, rfl⟩ := ra.open2
 refine hK _ _ rfl trivial ?_
 clear hK K
 refine sm ?_
 refine sq ?_
 intro K hK
 go_big_op
 go_fit (ri_any b _ h3 h4)
 rintro e w_3 ⟨v_rb, rfl, rb, hb_3⟩
 replace hs := hs.bl hb_3
 replace rb := rb.rd
 obtain ⟨n_rb, o_rb, k_rb, c_rb, rfl⟩ := rb.open2
 refine hK _ _ rfl trivial ?_
 clear hK K
 refine sr ?_
 refine sm ?_
 refine sq ?_
 intro K hK
 go_big_op
 go_fit (ri_any d _ h5 h6)
 rintro e w_4 ⟨v_rd, rfl, rd, hb_4⟩
 replace hs := hs.bl hb_4
 replace rd := rd.rd
 obtain ⟨n_rd, o_rd, k_rd, c_rd, rfl⟩ := rd.open2
 refine hK _ _ rfl trivial ?_
 clear hK K
 refine sm ?_
 refine sq ?_
 intro K hK
 go_big_op
 go_fit (ri_any e _ h7 h8)
 rintro e w_5 ⟨v_re, rfl, re, hb_5⟩
 replace hs := hs.bl hb_5
 replace re := re.rd
 obtain ⟨n_re, o_re, k_re, c_re, rfl⟩ := re.open2
 refine hK _ _ rfl trivial ?_
 clear hK K
 refine sr ?_
 refine sr ?_
 refine sq ?_
 intro K hK
 have xs := hs.g0
 have d0 : w_5.cell? ⟨p_b1, 0, none⟩ = some (.bool false) := hs.g0.cell 0 rfl
 have d1 : w_5.cell? ⟨p_b1, 1, none⟩ = some (.slice none 0 0) := hs.g0.cell 1 rfl
 have d2 : w_5.cell? ⟨p_b1, 2, none⟩ = some (.bool false) := hs.g0.cell 2 rfl
 have d3 : w_5.cell? ⟨p_b1, 3, none⟩ = some (.slice none 0 0) := hs.g0.cell 3 rfl
 have d4 : w_5.cell? ⟨p_b1, 4, none⟩ = some (.bool false) := hs.g0.cell 4 rfl
 have d5 : w_5.cell? ⟨p_b1, 5, none⟩ = some (.slice none 0 0) := hs.g0.cell 5 rfl
 have d6 : w_5.cell? ⟨p_b1, 6, none⟩ = some (.bool false) := hs.g0.cell 6 rfl
 have d7 : w_5.cell? ⟨p_b1, 7, none⟩ = some (.slice none 0 0) := hs.g0.cell 7 rfl
 have f0 := xs.free 0; have f1 := xs.free 1; have f2 := xs.free 2; have f3 := xs.free 3; have f4 := xs.free 4; have f5 := xs.free 5; have f6 := xs.free 6; have f7 := xs.free 7
 go_big_op
 have hd6 := xs.nod rfl rfl
 obtain ⟨w_6_0, eW, xs_0, ho_0⟩ : ∃ w', ((((w_5.setCell ⟨p_b1, 0, none⟩ (.bool n_ra)).setCell ⟨p_b1, 1, none⟩ (.slice o_ra k_ra c_ra)).setCell ⟨p_b1, 2, none⟩ (.bool n_rb)).setCell ⟨p_b1, 3, none⟩ (.slice o_rb k_rb c_rb)) = w' ∧ Bs w' p_b1 #[.bool n_ra, .slice o_ra k_ra c_ra, .bool n_rb, .slice o_rb k_rb c_rb, .bool false, .slice none 0 0, .bool false, .slice none 0 0] 28 ∧ Only p_b1 w_5 w' := xs.setN [(0, .bool n_ra), (1, .slice o_ra k_ra c_ra), (2, .bool n_rb), (3, .slice o_rb k_rb c_rb)]
 rw [eW]; clear eW
 obtain ⟨w_6, eW, xs', ho_4⟩ : ∃ w', ((((w_6_0.setCell ⟨p_b1, 4, none⟩ (.bool n_rd)).setCell ⟨p_b1, 5, none⟩ (.slice o_rd k_rd c_rd)).setCell ⟨p_b1, 6, none⟩ (.bool n_re)).setCell ⟨p_b1, 7, none⟩ (.slice o_re k_re c_re)) = w' ∧ Bs w' p_b1 #[.bool n_ra, .slice o_ra k_ra c_ra, .bool n_rb, .slice o_rb k_rb c_rb, .bool n_rd, .slice o_rd k_rd c_rd, .bool n_re, .slice o_re k_re c_re] 28 ∧ Only p_b1 w_6_0 w' := xs_0.setN [(4, .bool n_rd), (5, .slice o_rd k_rd c_rd), (6, .bool n_re), (7, .slice o_re k_re c_re)]
 rw [eW]; clear eW xs_0
 have ho6 := (ho_0.trans ho_4)
 clear ho_0 ho_4 d0 d1 d2 d3 d4 d5 d6 d7 f0 f1 f2 f3 f4 f5 f6 f7 xs
 replace hs := hs.u0 kb_b1 xs' ho6; clear xs'
 refine hK _ _ rfl trivial ?_; clear hK K
 apply wpSq_end
 refine hK2 _ _ ?_
 refine wp_ret ?_
 try dsimp only [Exit.then, Exit.inBlock]
 have r0_0 : w_6.cell? ⟨p_b1, 0, none⟩ = some (.bool n_ra) := hs.g0.cell 0 rfl
 have r0_1 : w_6.cell? ⟨p_b1, 1, none⟩ = some (.slice o_ra k_ra c_ra) := hs.g0.cell 1 rfl
 have r0_2 : w_6.cell? ⟨p_b1, 2, none⟩ = some (.bool n_rb) := hs.g0.cell 2 rfl
 have r0_3 : w_6.cell? ⟨p_b1, 3, none⟩ = some (.slice o_rb k_rb c_rb) := hs.g0.cell 3 rfl
 have r0_4 : w_6.cell? ⟨p_b1, 4, none⟩ = some (.bool n_rd) := hs.g0.cell 4 rfl
 have r0_5 : w_6.cell? ⟨p_b1, 5, none⟩ = some (.slice o_rd k_rd c_rd) := hs.g0.cell 5 rfl
 have r0_6 : w_6.cell? ⟨p_b1, 6, none⟩ = some (.bool n_re) := hs.g0.cell 6 rfl
 have r0_7 : w_6.cell? ⟨p_b1, 7, none⟩ = some (.slice o_re k_re c_re) := hs.g0.cell 7 rfl
 refine bodyPost_ret (v := (.agg #[.bool n_ra, .slice o_ra k_ra c_ra, .bool n_rb, .slice o_rb k_rb c_rb, .bool n_rd, .slice o_rd k_rd c_rd, .bool n_re, .slice o_re k_re c_re])) (by simp [results, Tryz.results10, go_sem, r0_0, r0_1, r0_2, r0_3, r0_4, r0_5, r0_6, r0_7]) rfl ?_
 have k2_6 := (((kb hb_3).b hb_4).b hb_5).o hd6 ho6
 replace ra := ra.k k2_6
 have k3_6 := ((kb hb_4).b hb_5).o hd6 ho6
 replace rb := rb.k k3_6
 have k4_6 := (kb hb_5).o hd6 ho6
 replace rd := rd.k k4_6
 have k5_6 := ko hd6 ho6
 replace re := re.k k5_6
 exact ⟨_, rfl, .mk' ra rb rd re, hs.b⟩
end
end Go.Proofs.YthlhekkcjficdaaGreatDoor

/- gfrac's reference: Mul, Conj, Norm, Quo, Null. -/
namespace Go.Proofs.YthlhekkcjficdaaGreatDoor
open Go Go.RowKit Dig
set_option maxHeartbeats 4000000
set_option maxRecDepth 20000
set_option linter.unusedVariables false
section
variable {x y u v p q s t : Int} {l m k n l2 m2 k2 n2 : Nat}
theorem r7n_len (hy : y ≠ 0) (hv : v ≠ 0) (h1 : (dig x.natAbs).length ≤ l) (h2 : (dig y.natAbs).length ≤ m) (h3 : (dig u.natAbs).length ≤ k) (h4 : (dig v.natAbs).length ≤ n) :
   (dig (rv x y * rv x y + rv u v * rv u v).num.natAbs).length ≤ ((l + l) + (n + n)) + ((k + k) + (m + m)) + 1 ∧ (dig ((rv x y * rv x y + rv u v * rv u v).den : Int).natAbs).length ≤ (m + m) + (n + n) := by
 have y1 := Int.mul_ne_zero hy hy
 have y2 := Int.mul_ne_zero hv hv
 have a1 := r_len (Int.mul_ne_zero y1 y2) (rv_opAdd (x := x * x) (u := u * u) y1 y2) (zlen_opAdd (zlen_mul (zlen_mul h1 h1) (zlen_mul h4 h4)) (zlen_mul (zlen_mul h3 h3) (zlen_mul h2 h2))) (zlen_mul (zlen_mul h2 h2) (zlen_mul h4 h4))
 simp only [rv_mul] at a1
 exact a1
end
section
variable {w : World} {va vb : Value} {x y u v p q s t : Int} {l m k n l2 m2 k2 n2 : Nat}
theorem r7Conj_ok (ha : CN w va x l y m u k v n) (hl : l ≤ 2200000) (hm : m ≤ 2200000) (hk : k ≤ 2200000) (hn : n ≤ 2200000) (hy : y ≠ 0) (hv : v ≠ 0) :
   Calls Tryz.prog 42 #[va] w fun e w' => ∃ r, e = .returned r ∧ CC w' r (rv x y).num (rv x y).den (-rv u v).num (-rv u v).den ∧ Below w.heap.size w w' := by
 have HY := hide (And.intro hy hv)
 clear hy hv
 obtain ⟨n_0a, o_0a, k_0a, c_0a, n_0b, o_0b, k_0b, c_0b, n_0c, o_0c, k_0c, c_0c, n_0d, o_0d, k_0d, c_0d, rfl, ha1, ha2, ha3, ha4⟩ := ha
 go_enter Tryz.func42, Tryz.ntmps42
 have hs := St.nil w
 refine wp_seq_k fun K1 hK1 => rg [0, 1] ?_
 refine sq ?_
 refine .al hs ?_; clear hs; intro p_b1 w_1 hs n1 kb_b1
 refine sq ?_
 refine .al hs ?_; clear hs; intro p_b2 w_2 hs n2 kb_b2
 apply wpSq_end
 refine hK1 _ _ ?_
 refine wp_seq_k ?_
 intro K2 hK2
 refine wp_region_f4 [(0, false), (1, false), (3, false), (4, false), (2, true), (5, true), (6, false)] [7] [] (fun _ => default) [99, 0, 99, 99, 0, 99, 99, 99] [] (.c hs.g1 .n) fn fun w_3 n3 => ?_
 replace hs := hs.bl n3
 refine f0 ?_
 apply wpFl_ld rfl rfl; (case h1 => intro w' hC K hK; have c0 := Bs.cell hC 0 rfl; have c1 := Bs.cell hC 1 rfl; have c2 := Bs.cell hC 2 rfl; have c3 := Bs.cell hC 3 rfl; go_big_op; exact hK); iterate 4 kernel_rfl
 refine f0 ?_
 apply wpFl_ld rfl rfl; (case h1 => intro w' hC K hK; have c4 := Bs.cell hC 4 rfl; have c5 := Bs.cell hC 5 rfl; have c6 := Bs.cell hC 6 rfl; have c7 := Bs.cell hC 7 rfl; go_big_op; exact hK); iterate 4 kernel_rfl
 refine fl fun w_4 n4 => ?_
 replace hs := hs.bl n4
 intro K hK
 have k0_4 := (((kb n1).b n2).b n3).b n4
 replace ha1 := ha1.k k0_4
 replace ha2 := ha2.k k0_4
 go_big_op
 go_fit (rfnorm_r (PN.mk' ha1 ha2) (by omega) (by omega) HY.out.1)
 rintro e w_5 ⟨_, rfl, ⟨n_gaa, o_gaa, k_gaa, c_gaa, n_gab, o_gab, k_gab, c_gab, rfl, ga1, ga2⟩, hb_5⟩
 replace hs := hs.bl hb_5
 refine hK _ _ rfl ⟨hb_5, (And.intro hs.g1 trivial)⟩ ?_
 clear hK K
 refine fl fun w_6 n6 => ?_
 replace hs := hs.bl n6
 intro K hK
 have k0_6 := (k0_4.b hb_5).b n6
 replace ha3 := ha3.k k0_6
 replace ha4 := ha4.k k0_6
 go_big_op
 go_fit (rfNeg_r (PN.mk' ha3 ha4) (by omega) (by omega) HY.out.2)
 rintro e w_7 ⟨_, rfl, ⟨n_gba, o_gba, k_gba, c_gba, n_gbb, o_gbb, k_gbb, c_gbb, rfl, gb1, gb2⟩, hb_7⟩
 replace hs := hs.bl hb_7
 refine hK _ _ rfl ⟨hb_7, (And.intro hs.g1 trivial)⟩ ?_
 clear hK K
 refine f0 ?_
 refine e0 hs ?_; clear hs; intro w_8 hs n8
 refine tl ?_
 intro K hK
 have xs := hs.g0
 have d0 : w_8.cell? ⟨p_b2, 0, none⟩ = some (.bool false) := hs.g0.cell 0 rfl
 have d1 : w_8.cell? ⟨p_b2, 1, none⟩ = some (.slice none 0 0) := hs.g0.cell 1 rfl
 have d2 : w_8.cell? ⟨p_b2, 2, none⟩ = some (.bool false) := hs.g0.cell 2 rfl
 have d3 : w_8.cell? ⟨p_b2, 3, none⟩ = some (.slice none 0 0) := hs.g0.cell 3 rfl
 have d4 : w_8.cell? ⟨p_b2, 4, none⟩ = some (.bool false) := hs.g0.cell 4 rfl
 have d5 : w_8.cell? ⟨p_b2, 5, none⟩ = some (.slice none 0 0) := hs.g0.cell 5 rfl
 have d6 : w_8.cell? ⟨p_b2, 6, none⟩ = some (.bool false) := hs.g0.cell 6 rfl
 have d7 : w_8.cell? ⟨p_b2, 7, none⟩ = some (.slice none 0 0) := hs.g0.cell 7 rfl
 have f0 := xs.free 0; have f1 := xs.free 1; have f2 := xs.free 2; have f3 := xs.free 3; have f4 := xs.free 4; have f5 := xs.free 5; have f6 := xs.free 6; have f7 := xs.free 7
 go_big_op
 have hd9 := xs.nod rfl rfl
 obtain ⟨w_9_0, eW, xs_0, ho_0⟩ : ∃ w', ((((w_8.setCell ⟨p_b2, 0, none⟩ (.bool n_gaa)).setCell ⟨p_b2, 1, none⟩ (.slice o_gaa k_gaa c_gaa)).setCell ⟨p_b2, 2, none⟩ (.bool n_gab)).setCell ⟨p_b2, 3, none⟩ (.slice o_gab k_gab c_gab)) = w' ∧ Bs w' p_b2 #[.bool n_gaa, .slice o_gaa k_gaa c_gaa, .bool n_gab, .slice o_gab k_gab c_gab, .bool false, .slice none 0 0, .bool false, .slice none 0 0] 28 ∧ Only p_b2 w_8 w' := xs.setN [(0, .bool n_gaa), (1, .slice o_gaa k_gaa c_gaa), (2, .bool n_gab), (3, .slice o_gab k_gab c_gab)]
 rw [eW]; clear eW
 obtain ⟨w_9, eW, xs', ho_4⟩ : ∃ w', ((((w_9_0.setCell ⟨p_b2, 4, none⟩ (.bool n_gba)).setCell ⟨p_b2, 5, none⟩ (.slice o_gba k_gba c_gba)).setCell ⟨p_b2, 6, none⟩ (.bool n_gbb)).setCell ⟨p_b2, 7, none⟩ (.slice o_gbb k_gbb c_gbb)) = w' ∧ Bs w' p_b2 #[.bool n_gaa, .slice o_gaa k_gaa c_gaa, .bool n_gab, .slice o_gab k_gab c_gab, .bool n_gba, .slice o_gba k_gba c_gba, .bool n_gbb, .slice o_gbb k_gbb c_gbb] 28 ∧ Only p_b2 w_9_0 w' := xs_0.setN [(4, .bool n_gba), (5, .slice o_gba k_gba c_gba), (6, .bool n_gbb), (7, .slice o_gbb k_gbb c_gbb)]
 rw [eW]; clear eW xs_0
 have ho9 := (ho_0.trans ho_4)
 clear ho_0 ho_4 d0 d1 d2 d3 d4 d5 d6 d7 f0 f1 f2 f3 f4 f5 f6 f7 xs
 replace hs := hs.u0 kb_b2 xs' ho9; clear xs'
 refine hK _ _ rfl (And.intro hs.g1 True.intro) ?_; clear hK K
 apply wpTail_end
 refine hK2 _ _ ?_
 refine wp_ret ?_
 try dsimp only [Exit.then, Exit.inBlock]
 have r0_0 : w_9.cell? ⟨p_b2, 0, none⟩ = some (.bool n_gaa) := hs.g0.cell 0 rfl
 have r0_1 : w_9.cell? ⟨p_b2, 1, none⟩ = some (.slice o_gaa k_gaa c_gaa) := hs.g0.cell 1 rfl
 have r0_2 : w_9.cell? ⟨p_b2, 2, none⟩ = some (.bool n_gab) := hs.g0.cell 2 rfl
 have r0_3 : w_9.cell? ⟨p_b2, 3, none⟩ = some (.slice o_gab k_gab c_gab) := hs.g0.cell 3 rfl
 have r0_4 : w_9.cell? ⟨p_b2, 4, none⟩ = some (.bool n_gba) := hs.g0.cell 4 rfl
 have r0_5 : w_9.cell? ⟨p_b2, 5, none⟩ = some (.slice o_gba k_gba c_gba) := hs.g0.cell 5 rfl
 have r0_6 : w_9.cell? ⟨p_b2, 6, none⟩ = some (.bool n_gbb) := hs.g0.cell 6 rfl
 have r0_7 : w_9.cell? ⟨p_b2, 7, none⟩ = some (.slice o_gbb k_gbb c_gbb) := hs.g0.cell 7 rfl
 refine bodyPost_ret (v := (.agg #[.bool n_gaa, .slice o_gaa k_gaa c_gaa, .bool n_gab, .slice o_gab k_gab c_gab, .bool n_gba, .slice o_gba k_gba c_gba, .bool n_gbb, .slice o_gbb k_gbb c_gbb])) (by simp [results, Tryz.results42, go_sem, r0_0, r0_1, r0_2, r0_3, r0_4, r0_5, r0_6, r0_7]) rfl ?_
 have k5_9 := (((kb n6).b hb_7).b n8).o hd9 ho9
 replace ga1 := ga1.k k5_9
 replace ga2 := ga2.k k5_9
 have k7_9 := (kb n8).o hd9 ho9
 replace gb1 := gb1.k k7_9
 replace gb2 := gb2.k k7_9
 exact ⟨_, rfl, .mk' ga1 ga2 gb1 gb2, hs.b⟩
theorem r7Norm_ok (ha : CN w va x l y m u k v n) (hl : l ≤ 2200000) (hm : m ≤ 2200000) (hk : k ≤ 2200000) (hn : n ≤ 2200000) (hy : y ≠ 0) (hv : v ≠ 0) :
   Calls Tryz.prog 43 #[va] w fun e w' => ∃ r, e = .returned r ∧ PC w' r (rv x y * rv x y + rv u v * rv u v).num (rv x y * rv x y + rv u v * rv u v).den ∧ Below w.heap.size w w' := by
 have HY := hide (And.intro hy hv)
 have HD := hide den_ne
 clear hy hv
 obtain ⟨n_0a, o_0a, k_0a, c_0a, n_0b, o_0b, k_0b, c_0b, n_0c, o_0c, k_0c, c_0c, n_0d, o_0d, k_0d, c_0d, rfl, ha1, ha2, ha3, ha4⟩ := ha
 go_enter Tryz.func43, Tryz.ntmps43
 have hs := St.nil w
 refine wp_seq_k fun K1 hK1 => rg [0, 1] ?_
 refine sq ?_
 refine .al hs ?_; clear hs; intro p_b1 w_1 hs n1 kb_b1
 refine sq ?_
 refine .al hs ?_; clear hs; intro p_b2 w_2 hs n2 kb_b2
 apply wpSq_end
 refine hK1 _ _ ?_
 refine wp_seq_k ?_
 intro K2 hK2
 refine wp_region_f4 [(0, false), (1, false), (2, false), (3, false), (5, false), (6, false), (7, false), (8, false), (4, true), (9, true), (10, true)] [11] [] (fun _ => default) [99, 0, 99, 0, 99, 99, 0, 99, 0, 99, 99, 99] [] (.c hs.g1 .n) fn fun w_3 n3 => ?_
 replace hs := hs.bl n3
 refine f0 ?_
 apply wpFl_ld rfl rfl; (case h1 => intro w' hC K hK; have c0 := Bs.cell hC 0 rfl; have c1 := Bs.cell hC 1 rfl; have c2 := Bs.cell hC 2 rfl; have c3 := Bs.cell hC 3 rfl; go_big_op; exact hK); iterate 4 kernel_rfl
 refine f0 ?_
 apply wpFl_ld rfl rfl; (case h1 => intro w' hC K hK; have c0 := Bs.cell hC 0 rfl; have c1 := Bs.cell hC 1 rfl; have c2 := Bs.cell hC 2 rfl; have c3 := Bs.cell hC 3 rfl; go_big_op; exact hK); iterate 4 kernel_rfl
 refine f0 ?_
 apply wpFl_ld rfl rfl; (case h1 => intro w' hC K hK; have c4 := Bs.cell hC 4 rfl; have c5 := Bs.cell hC 5 rfl; have c6 := Bs.cell hC 6 rfl; have c7 := Bs.cell hC 7 rfl; go_big_op; exact hK); iterate 4 kernel_rfl
 refine f0 ?_
 apply wpFl_ld rfl rfl; (case h1 => intro w' hC K hK; have c4 := Bs.cell hC 4 rfl; have c5 := Bs.cell hC 5 rfl; have c6 := Bs.cell hC 6 rfl; have c7 := Bs.cell hC 7 rfl; go_big_op; exact hK); iterate 4 kernel_rfl
 refine fl fun w_4 n4 => ?_
 replace hs := hs.bl n4
 intro K hK
 have k0_4 := (((kb n1).b n2).b n3).b n4
 replace ha1 := ha1.k k0_4
 replace ha2 := ha2.k k0_4
 go_big_op
 go_fit (rfMul_r (PN.mk' ha1 ha2) (PN.mk' ha1 ha2) (by omega) (by omega) (by omega) (by omega) HY.out.1 HY.out.1)
 rintro e w_5 ⟨_, rfl, ⟨n_gaa, o_gaa, k_gaa, c_gaa, n_gab, o_gab, k_gab, c_gab, rfl, ga1, ga2⟩, hb_5⟩
 replace hs := hs.bl hb_5
 have Lga1 := hide (ga1.lenOf ((r_len (Int.mul_ne_zero (HY.out.1) (HY.out.1)) (rv_mul _ _ _ _) (zlen_mul (ha1.len) (ha1.len)) (zlen_mul (ha2.len) (ha2.len))).1))
 have Lga2 := hide (ga2.lenOf ((r_len (Int.mul_ne_zero (HY.out.1) (HY.out.1)) (rv_mul _ _ _ _) (zlen_mul (ha1.len) (ha1.len)) (zlen_mul (ha2.len) (ha2.len))).2))
 refine hK _ _ rfl ⟨hb_5, (And.intro hs.g1 trivial)⟩ ?_
 clear hK K
 refine fl fun w_6 n6 => ?_
 replace hs := hs.bl n6
 intro K hK
 have k0_6 := (k0_4.b hb_5).b n6
 replace ha3 := ha3.k k0_6
 replace ha4 := ha4.k k0_6
 go_big_op
 go_fit (rfMul_r (PN.mk' ha3 ha4) (PN.mk' ha3 ha4) (by omega) (by omega) (by omega) (by omega) HY.out.2 HY.out.2)
 rintro e w_7 ⟨_, rfl, ⟨n_gba, o_gba, k_gba, c_gba, n_gbb, o_gbb, k_gbb, c_gbb, rfl, gb1, gb2⟩, hb_7⟩
 replace hs := hs.bl hb_7
 have Lgb1 := hide (gb1.lenOf ((r_len (Int.mul_ne_zero (HY.out.2) (HY.out.2)) (rv_mul _ _ _ _) (zlen_mul (ha3.len) (ha3.len)) (zlen_mul (ha4.len) (ha4.len))).1))
 have Lgb2 := hide (gb2.lenOf ((r_len (Int.mul_ne_zero (HY.out.2) (HY.out.2)) (rv_mul _ _ _ _) (zlen_mul (ha3.len) (ha3.len)) (zlen_mul (ha4.len) (ha4.len))).2))
 refine hK _ _ rfl ⟨hb_7, (And.intro hs.g1 trivial)⟩ ?_
 clear hK K
 refine fl fun w_8 n8 => ?_
 replace hs := hs.bl n8
 intro K hK
 have k5_8 := ((kb n6).b hb_7).b n8
 replace ga1 := ga1.k k5_8
 replace ga2 := ga2.k k5_8
 have k7_8 := kb n8
 replace gb1 := gb1.k k7_8
 replace gb2 := gb2.k k7_8
 go_big_op
 go_fit (rfAdd_r (PN.mk' (ga1.zn Lga1.out) (ga2.zn Lga2.out)) (PN.mk' (gb1.zn Lgb1.out) (gb2.zn Lgb2.out)) (by omega) (by omega) (by omega) (by omega) (HD.out _) (HD.out _))
 rintro e w_9 ⟨_, rfl, ⟨n_gca, o_gca, k_gca, c_gca, n_gcb, o_gcb, k_gcb, c_gcb, rfl, gc1, gc2⟩, hb_9⟩
 replace hs := hs.bl hb_9
 simp only [rv_nd] at gc1 gc2
 refine hK _ _ rfl ⟨hb_9, (And.intro hs.g1 trivial)⟩ ?_
 clear hK K
 refine e0 hs ?_; clear hs; intro w_10 hs n10
 refine tl ?_
 refine .s4 hs.g0 (fun _ => hs.u0 kb_b2) ?_ (e := fun _ hs => (And.intro hs.g1 True.intro)); clear hs; intro w_11 hs hd11 ho11
 apply wpTail_end
 refine hK2 _ _ ?_
 refine wp_ret ?_
 try dsimp only [Exit.then, Exit.inBlock]
 obtain ⟨r0_0, r0_1, r0_2, r0_3⟩ := hs.g0.f4
 refine bodyPost_ret (v := (.agg #[.bool n_gca, .slice o_gca k_gca c_gca, .bool n_gcb, .slice o_gcb k_gcb c_gcb])) (by simp [results, Tryz.results43, go_sem, r0_0, r0_1, r0_2, r0_3]) rfl ?_
 have k9_11 := (kb n10).o hd11 ho11
 replace gc1 := gc1.k k9_11
 replace gc2 := gc2.k k9_11
 exact ⟨_, rfl, .mk' gc1 gc2, hs.b⟩
end
end Go.Proofs.YthlhekkcjficdaaGreatDoor

/- gfrac: the law's first look. -/
namespace Go.Proofs.YthlhekkcjficdaaGreatDoor
open Go Go.RowKit Dig
set_option linter.unusedVariables false
theorem qts_12 : qts 1 2 = ⟨#[49, 47, 50]⟩ := by
 have h1 : qN 1 2 = 1 := by decide
 have h2 : qD 1 2 = 2 := by decide
 unfold qts
 rw [h1, h2, if_neg (by decide)]
 unfold zts ztx
 rw [if_neg (by decide), if_neg (by decide), show Int.natAbs 1 = 1 from rfl, show Int.natAbs 2 = 2 from rfl, dec1 1 (by decide), dec1 2 (by decide)]
 rfl
theorem qts_34 : qts (-3) 4 = ⟨#[45, 51, 47, 52]⟩ := by
 have h1 : qN (-3) 4 = -3 := by decide
 have h2 : qD (-3) 4 = 4 := by decide
 unfold qts
 rw [h1, h2, if_neg (by decide)]
 unfold zts ztx
 rw [if_pos (by decide), if_neg (by decide), show Int.natAbs (-3) = 3 from rfl, show Int.natAbs 4 = 4 from rfl, dec1 3 (by decide), dec1 4 (by decide)]
 rfl
section
variable {w : World} {va vb : Value} {l m k n : Nat}
set_option maxHeartbeats 4000000 in
set_option maxRecDepth 20000 in
theorem gfText_a (ha : CN w va 1 l 2 m (-3) k 4 n) (hl : l ≤ 10000000) (hm : m ≤ 10000000) (hk : k ≤ 10000000) (hn : n ≤ 10000000) (htab : Lib.TabIs Tryz.prog w p10 .u64 Lib.pow10Tab) :
   Calls Tryz.prog 22 #[va] w fun e w' => e = .returned (.tuple #[.string ⟨#[49, 47, 50, 45, 51, 47, 52, 105]⟩, .int .i64 0]) ∧ Below w.heap.size w w' := by
 have htabs := Lib.tabBelow_of_tabIs htab
 have HR := hide qts_12
 have HI := hide qts_34
 have HM := hide (show minusB ⟨#[45, 51, 47, 52]⟩ = true from by decide +kernel)
 obtain ⟨n_0a, o_0a, k_0a, c_0a, n_0b, o_0b, k_0b, c_0b, n_0c, o_0c, k_0c, c_0c, n_0d, o_0d, k_0d, c_0d, rfl, ha1, ha2, ha3, ha4⟩ := ha
 go_enter Tryz.func22, Tryz.ntmps22
 have hs := St.nil w
 refine wp_seq_k fun K1 hK1 => rg [0, 1, 2] ?_
 refine sq ?_
 refine .al hs ?_; clear hs; intro p_b1 w_1 hs n1 kb_b1
 refine sm ?_
 refine sm ?_
 apply wpSq_end
 refine hK1 _ _ ?_
 refine wp_seq_k fun K2 hK2 => rg [0, 1, 2, 3, 4, 5, 6, 7, 8] ?_
 refine sr ?_
 refine sq ?_
 intro K hK
 have x_b1 := hs.g0
 have k0_1 := kb n1
 replace ha1 := ha1.k k0_1
 replace ha2 := ha2.k k0_1
 replace ha3 := ha3.k k0_1
 replace ha4 := ha4.k k0_1
 have hb := hs.b
 go_big_op
 go_fit (bothstring_ok (fun _ _ ↦ by kernel_rfl) (fun w1 h ↦ HR.out ▸ ctext1_ok (.mk' (x_b1.bl h) (ha1.bl h) (ha2.bl h) (ha3.bl h) (ha4.bl h)) hl hm hk hn (by decide) (htabs _ (tmm hb h))) (fun w1 h ↦ HI.out ▸ ctext2_ok (.mk' (x_b1.bl h) (ha1.bl h) (ha2.bl h) (ha3.bl h) (ha4.bl h)) hl hm hk hn (by decide) (htabs _ (tmm hb h))))
 rintro e w_2 ⟨rfl, hb_2⟩
 clear x_b1 hb
 replace hs := hs.bl hb_2
 refine hK _ _ rfl trivial ?_
 clear hK K
 refine sm ?_
 refine sr ?_
 refine sr ?_
 refine sr ?_
 refine sm ?_
 refine sm ?_
 refine sm ?_
 apply wpSq_end
 refine hK2 _ _ ?_
 refine wp_seq_k ?_
 intro K3 hK3
 refine wp_seq_k fun K4 hK4 => rg [0, 1, 2, 3, 4, 5] ?_
 refine sm ?_
 refine sr ?_
 refine sm ?_
 refine sm ?_
 refine sr ?_
 refine sr ?_
 apply wpSq_end
 refine hK4 _ _ ?_
 refine cf ?_
 refine wp_skip ?_
 refine hK3 _ _ ?_
 refine wp_seq_k fun K5 hK5 => rg [0, 1] ?_
 refine sm ?_
 refine sm ?_
 apply wpSq_end
 refine hK5 _ _ ?_
 refine wp_seq_k ?_
 intro K6 hK6
 refine wp_seq_k fun K7 hK7 => rg [0, 1] ?_
 refine sm ?_
 refine sr ?_
 apply wpSq_end
 refine hK7 _ _ ?_
 refine ct ?_
 refine rg [0, 1, 2] ?_
 refine sm ?_
 refine sm ?_
 refine sm ?_
 apply wpSq_end
 refine hK6 _ _ ?_
 refine wp_seq_k fun K8 hK8 => rg [0, 1, 2, 3, 4, 5, 6] ?_
 refine sm ?_
 refine sq ?_
 intro K hK
 go_big_op
 go_fit (scut1 _ _ (by decide) HM.out)
 rintro e w_3 ⟨rfl, e_3⟩
 (first | rw [e_3] | rw [← e_3]); clear e_3 w_3
 refine hK _ _ rfl trivial ?_
 clear hK K
 refine sm ?_
 refine sr ?_
 refine sr ?_
 refine sm ?_
 refine sm ?_
 apply wpSq_end
 refine hK8 _ _ ?_
 refine wp_seq_k ?_
 intro K9 hK9
 refine wp_seq_k fun K10 hK10 => rg [0] ?_
 refine sm ?_
 apply wpSq_end
 refine hK10 _ _ ?_
 refine ct ?_
 refine rg [0] ?_
 refine sm ?_
 apply wpSq_end
 refine hK9 _ _ ?_
 refine wp_seq_k ?_
 intro K11 hK11
 refine wp_seq_k fun K12 hK12 => rg [0, 1] ?_
 refine sm ?_
 refine sr ?_
 apply wpSq_end
 refine hK12 _ _ ?_
 refine wp_cond_false (congrArg Value.bool (show _ = false from (by decide +kernel))) ?_
 refine wp_skip ?_
 refine hK11 _ _ ?_
 refine wp_seq_k fun K13 hK13 => rg [0, 1, 2, 3, 4, 5, 6, 7] ?_
 refine sm ?_
 refine sm ?_
 refine sr ?_
 refine sm ?_
 refine sr ?_
 refine sr ?_
 refine sm ?_
 refine sm ?_
 apply wpSq_end
 refine hK13 _ _ ?_
 refine wp_ret ?_
 try dsimp only [Exit.then, Exit.inBlock]
 refine bodyPost_ret (v := (.tuple #[.string (⟨#[49, 47, 50]⟩ ++ ⟨#[45]⟩ ++ ByteArray.extract ⟨#[45, 51, 47, 52]⟩ 1 4 ++ ⟨#[105]⟩), .int .i64 0])) (by simp [results, Tryz.results22, go_sem]) rfl ?_
 have hb := hs.b
 exact ⟨by kernel_rfl, hb⟩
end
end Go.Proofs.YthlhekkcjficdaaGreatDoor

/- gfrac: the law's first look. -/
namespace Go.Proofs.YthlhekkcjficdaaGreatDoor
open Go Go.RowKit Dig
set_option linter.unusedVariables false
theorem aw_1 : ((rv 1 1 * rv 1 1 - rv 0 1 * -rv 1 1) / (rv 1 1 * rv 1 1 + rv 1 1 * rv 1 1)) = rv 1 2 := by decide +kernel
theorem aw_2 : ((rv 1 1 * -rv 1 1 + rv 0 1 * rv 1 1) / (rv 1 1 * rv 1 1 + rv 1 1 * rv 1 1)) = rv (-1) 2 := by decide +kernel
theorem aw_3 : (rv 1 2).num = 1 ∧ ((rv 1 2).den : Int) = 2 ∧ (rv (-1) 2).num = -1 ∧ ((rv (-1) 2).den : Int) = 2 := by decide +kernel
set_option maxHeartbeats 4000000 in
set_option maxRecDepth 20000 in
theorem awake7_any (w : World) (htab : Lib.TabIs Tryz.prog w p10 .u64 Lib.pow10Tab) :
   Calls Tryz.prog 13 #[] w fun e w' => e = .returned (.bool true) ∧ Below w.heap.size w w' := by
 have htabs := Lib.tabBelow_of_tabIs htab
 have L := fun (n : Int) (h : n.natAbs ≤ 100) => zlen_i n (by omega) (by omega)
 have L0 := hide (L 0 (by decide))
 have L1 := hide (L 1 (by decide))
 have L2 := hide (L 2 (by decide))
 have L3 := hide (L (-3) (by decide))
 have L4 := hide (L 4 (by decide))
 have L5 := hide (L (-1) (by decide))
 obtain ⟨A, hA⟩ : ∃ A, rv 1 2 = A := ⟨_, rfl⟩
 obtain ⟨B, hB⟩ : ∃ B, rv (-1) 2 = B := ⟨_, rfl⟩
 have HE := hide (show _ ∧ _ from ⟨aw_1.trans hA, aw_2.trans hB⟩)
 have HN := hide (show A.num = 1 ∧ (A.den : Int) = 2 ∧ B.num = -1 ∧ (B.den : Int) = 2 from hA ▸ hB ▸ aw_3)
 have HL := hide (show ((dig A.num.natAbs).length ≤ 2 ∧ (dig (A.den : Int).natAbs).length ≤ 2) ∧ ((dig B.num.natAbs).length ≤ 2 ∧ (dig (B.den : Int).natAbs).length ≤ 2) from by rw [HN.out.1, HN.out.2.1, HN.out.2.2.1, HN.out.2.2.2]; exact ⟨⟨L1.out, L2.out⟩, L5.out, L2.out⟩)
 clear L hA hB
 go_enter Tryz.func13, Tryz.ntmps13
 have hs := St.nil w
 refine wp_seq_k fun K1 hK1 => rg [0] ?_
 refine sm ?_
 apply wpSq_end
 refine hK1 _ _ ?_
 refine wp_seq_k fun K2 hK2 => rg [0, 1, 2, 3, 4, 5, 6, 7, 8] ?_
 refine sq ?_
 intro K hK
 go_big_op
 go_fit (c7_any 1 1 0 1 _ (by decide) (by decide) (by decide) (by decide) (by decide) (by decide) (by decide) (by decide))
 rintro e w_1 ⟨_, rfl, ⟨n_a1, o_a1, k_a1, c_a1, n_a2, o_a2, k_a2, c_a2, n_a3, o_a3, k_a3, c_a3, n_a4, o_a4, k_a4, c_a4, rfl, a1, a2, a3, a4⟩, hb_1⟩
 replace hs := hs.bl hb_1
 have La1 := hide (a1.lenOf (L1.out))
 have La2 := hide (a2.lenOf (L1.out))
 have La3 := hide (a3.lenOf (L0.out))
 have La4 := hide (a4.lenOf (L1.out))
 refine hK _ _ rfl trivial ?_
 clear hK K
 refine sq ?_
 intro K hK
 go_big_op
 go_fit (c7_any 1 1 1 1 _ (by decide) (by decide) (by decide) (by decide) (by decide) (by decide) (by decide) (by decide))
 rintro e w_2 ⟨_, rfl, ⟨n_b1, o_b1, k_b1, c_b1, n_b2, o_b2, k_b2, c_b2, n_b3, o_b3, k_b3, c_b3, n_b4, o_b4, k_b4, c_b4, rfl, b1, b2, b3, b4⟩, hb_2⟩
 replace hs := hs.bl hb_2
 have Lb1 := hide (b1.lenOf (L1.out))
 have Lb2 := hide (b2.lenOf (L1.out))
 have Lb3 := hide (b3.lenOf (L1.out))
 have Lb4 := hide (b4.lenOf (L1.out))
 refine hK _ _ rfl trivial ?_
 clear hK K
 refine sq ?_
 intro K hK
 have k1_2 := kb hb_2
 replace a1 := a1.k k1_2
 replace a2 := a2.k k1_2
 replace a3 := a3.k k1_2
 replace a4 := a4.k k1_2
 go_big_op
 go_fit (gfQuo_ok (CN.mk' (a1.zn La1.out) (a2.zn La2.out) (a3.zn La3.out) (a4.zn La4.out)) (CN.mk' (b1.zn Lb1.out) (b2.zn Lb2.out) (b3.zn Lb3.out) (b4.zn Lb4.out)) (by omega) (by omega) (by omega) (by omega) (by omega) (by omega) (by omega) (by omega) (by decide) (by decide) (by decide) (by decide) (by decide))
 rintro e w_3 ⟨_, rfl, ⟨n_c1, o_c1, k_c1, c_c1, n_c2, o_c2, k_c2, c_c2, n_c3, o_c3, k_c3, c_c3, n_c4, o_c4, k_c4, c_c4, rfl, c1, c2, c3, c4⟩, hb_3⟩
 replace hs := hs.bl hb_3
 rw [HE.out.1] at c1 c2
 rw [HE.out.2] at c3 c4
 refine hK _ _ rfl trivial ?_
 clear hK K
 refine sm ?_
 refine sr ?_
 refine sr ?_
 refine sq ?_
 refine .al hs ?_; clear hs; intro p_b1 w_4 hs n4 kb_b1
 clear a1 a2 a3 a4 b1 b2 b3 b4
 refine sq ?_
 intro K hK
 have xs := hs.g0
 have d0 : w_4.cell? ⟨p_b1, 0, none⟩ = some (.bool false) := hs.g0.cell 0 rfl
 have d1 : w_4.cell? ⟨p_b1, 1, none⟩ = some (.slice none 0 0) := hs.g0.cell 1 rfl
 have d2 : w_4.cell? ⟨p_b1, 2, none⟩ = some (.bool false) := hs.g0.cell 2 rfl
 have d3 : w_4.cell? ⟨p_b1, 3, none⟩ = some (.slice none 0 0) := hs.g0.cell 3 rfl
 have d4 : w_4.cell? ⟨p_b1, 4, none⟩ = some (.bool false) := hs.g0.cell 4 rfl
 have d5 : w_4.cell? ⟨p_b1, 5, none⟩ = some (.slice none 0 0) := hs.g0.cell 5 rfl
 have d6 : w_4.cell? ⟨p_b1, 6, none⟩ = some (.bool false) := hs.g0.cell 6 rfl
 have d7 : w_4.cell? ⟨p_b1, 7, none⟩ = some (.slice none 0 0) := hs.g0.cell 7 rfl
 have f0 := xs.free 0; have f1 := xs.free 1; have f2 := xs.free 2; have f3 := xs.free 3; have f4 := xs.free 4; have f5 := xs.free 5; have f6 := xs.free 6; have f7 := xs.free 7
 go_big_op
 have hd5 := xs.nod rfl rfl
 obtain ⟨w_5_0, eW, xs_0, ho_0⟩ : ∃ w', ((((w_4.setCell ⟨p_b1, 0, none⟩ (.bool n_c1)).setCell ⟨p_b1, 1, none⟩ (.slice o_c1 k_c1 c_c1)).setCell ⟨p_b1, 2, none⟩ (.bool n_c2)).setCell ⟨p_b1, 3, none⟩ (.slice o_c2 k_c2 c_c2)) = w' ∧ Bs w' p_b1 #[.bool n_c1, .slice o_c1 k_c1 c_c1, .bool n_c2, .slice o_c2 k_c2 c_c2, .bool false, .slice none 0 0, .bool false, .slice none 0 0] 28 ∧ Only p_b1 w_4 w' := xs.setN [(0, .bool n_c1), (1, .slice o_c1 k_c1 c_c1), (2, .bool n_c2), (3, .slice o_c2 k_c2 c_c2)]
 rw [eW]; clear eW
 obtain ⟨w_5, eW, xs', ho_4⟩ : ∃ w', ((((w_5_0.setCell ⟨p_b1, 4, none⟩ (.bool n_c3)).setCell ⟨p_b1, 5, none⟩ (.slice o_c3 k_c3 c_c3)).setCell ⟨p_b1, 6, none⟩ (.bool n_c4)).setCell ⟨p_b1, 7, none⟩ (.slice o_c4 k_c4 c_c4)) = w' ∧ Bs w' p_b1 #[.bool n_c1, .slice o_c1 k_c1 c_c1, .bool n_c2, .slice o_c2 k_c2 c_c2, .bool n_c3, .slice o_c3 k_c3 c_c3, .bool n_c4, .slice o_c4 k_c4 c_c4] 28 ∧ Only p_b1 w_5_0 w' := xs_0.setN [(4, .bool n_c3), (5, .slice o_c3 k_c3 c_c3), (6, .bool n_c4), (7, .slice o_c4 k_c4 c_c4)]
 rw [eW]; clear eW xs_0
 have ho5 := (ho_0.trans ho_4)
 clear ho_0 ho_4 d0 d1 d2 d3 d4 d5 d6 d7 f0 f1 f2 f3 f4 f5 f6 f7 xs
 replace hs := hs.u0 kb_b1 xs' ho5; clear xs'
 refine hK _ _ rfl trivial ?_; clear hK K
 refine sm ?_
 apply wpSq_end
 refine hK2 _ _ ?_
 refine wp_seq_k fun K3 hK3 => rg [0, 1, 2, 3, 4, 5, 6] ?_
 refine sq ?_
 intro K hK
 go_big_op
 go_fit (c7_any 1 2 (-3) 4 _ (by decide) (by decide) (by decide) (by decide) (by decide) (by decide) (by decide) (by decide))
 rintro e w_6 ⟨_, rfl, ⟨n_d1, o_d1, k_d1, c_d1, n_d2, o_d2, k_d2, c_d2, n_d3, o_d3, k_d3, c_d3, n_d4, o_d4, k_d4, c_d4, rfl, d1, d2, d3, d4⟩, hb_6⟩
 replace hs := hs.bl hb_6
 refine hK _ _ rfl trivial ?_
 clear hK K
 refine sq ?_
 intro K hK
 have hb := hs.b
 go_big_op
 go_fit (gfText_a (.mk' (d1.zn L1.out) (d2.zn L2.out) (d3.zn L3.out) (d4.zn L4.out)) (by decide) (by decide) (by decide) (by decide) (htabs _ hb))
 rintro e w_7 ⟨rfl, hb_7⟩
 clear hb
 replace hs := hs.bl hb_7
 refine hK _ _ rfl trivial ?_
 clear hK K
 refine sm ?_
 refine sr ?_
 refine sr ?_
 refine sm ?_
 refine sm ?_
 apply wpSq_end
 refine hK3 _ _ ?_
 refine wp_seq_k ?_
 intro K4 hK4
 refine wp_region_f4 [(0, false), (1, false), (2, true), (3, true), (4, false), (5, false), (6, false), (7, false), (8, false), (9, false), (10, false), (11, false), (12, false)] [] [] (fun _ => default) [0, 99, 99, 99, 99, 99, 99, 99, 99, 99, 99, 99, 99] [] (.c hs.g0 .n) fn fun w_8 n8 => ?_
 replace hs := hs.bl n8
 apply wpFl_ld rfl rfl; (case h1 => intro w' hC K hK; have c0 := Bs.cell hC 0 rfl; have c1 := Bs.cell hC 1 rfl; have c2 := Bs.cell hC 2 rfl; have c3 := Bs.cell hC 3 rfl; have c4 := Bs.cell hC 4 rfl; have c5 := Bs.cell hC 5 rfl; have c6 := Bs.cell hC 6 rfl; have c7 := Bs.cell hC 7 rfl; go_big_op; exact hK); iterate 4 kernel_rfl
 refine fmv ?_
 refine fl fun w_9 n9 => ?_
 replace hs := hs.bl n9
 intro K hK
 go_big_op
 go_fit (c7_any 1 2 (-1) 2 _ (by decide) (by decide) (by decide) (by decide) (by decide) (by decide) (by decide) (by decide))
 rintro e w_10 ⟨_, rfl, ⟨n_q1, o_q1, k_q1, c_q1, n_q2, o_q2, k_q2, c_q2, n_q3, o_q3, k_q3, c_q3, n_q4, o_q4, k_q4, c_q4, rfl, q1, q2, q3, q4⟩, hb_10⟩
 replace hs := hs.bl hb_10
 rw [← HN.out.1] at q1
 rw [← HN.out.2.1] at q2
 rw [← HN.out.2.2.1] at q3
 rw [← HN.out.2.2.2] at q4
 refine hK _ _ rfl ⟨hb_10, (And.intro hs.g0 trivial)⟩ ?_
 clear hK K
 refine fl fun w_11 n11 => ?_
 replace hs := hs.bl n11
 intro K hK
 have k3_11 := (((((((kb n4).o hd5 ho5).b hb_6).b hb_7).b n8).b n9).b hb_10).b n11
 replace c1 := c1.k k3_11
 replace c2 := c2.k k3_11
 replace c3 := c3.k k3_11
 replace c4 := c4.k k3_11
 have k10_11 := kb n11
 replace q1 := q1.k k10_11
 replace q2 := q2.k k10_11
 replace q3 := q3.k k10_11
 replace q4 := q4.k k10_11
 go_big_op
 go_fit (told7_ok (.mk' c1 c2 c3 c4) (.mk' (q1.zn HL.out.1.1) (q2.zn HL.out.1.2) (q3.zn HL.out.2.1) (q4.zn HL.out.2.2)) (by decide) (by decide) (by decide) (by decide))
 rintro e w_12 ⟨rfl, hb_12⟩
 replace hs := hs.bl hb_12
 refine hK _ _ rfl ⟨hb_12, (And.intro hs.g0 trivial)⟩ ?_
 clear hK K
 refine fmv ?_
 refine fmv ?_
 refine f0 ?_
 refine f0 ?_
 refine fmv ?_
 refine fmv ?_
 refine f0 ?_
 refine f0 ?_
 refine fmv ?_
 refine e0 hs ?_; clear hs; intro w_13 hs n13
 clear d1 d2 d3 d4 q1 q2 q3 q4
 apply wpTail_end
 refine hK4 _ _ ?_
 refine wp_ret ?_
 try dsimp only [Exit.then, Exit.inBlock]
 refine bodyPost_ret (v := (.bool true)) (by simp [results, Tryz.results13, go_sem]) rfl ?_
 have hb := hs.b
 exact ⟨rfl, hb⟩
end Go.Proofs.YthlhekkcjficdaaGreatDoor
