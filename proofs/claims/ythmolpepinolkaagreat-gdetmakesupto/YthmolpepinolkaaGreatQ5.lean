/- The reference's rationals: Make, Norm, Same, sums and products. -/
import Derived.Test.YthmolpepinolkaaGreatQ4
import Derived.Test.YthmolpepinolkaaGreatY9
namespace Go.Proofs.YthmolpepinolkaaGreat
open Go Go.RowKit Dig
set_option maxHeartbeats 4000000
set_option maxRecDepth 20000
set_option linter.unusedVariables false
section
variable {w:World} {va vb:Value} {x y u v:Int} {l m k n:Nat}
theorem rfmake_pos (ha:ZN w va x l) (hq:ZN w vb y m) (hl:l≤44000000) (hm:m≤44000000) (h0:0<y) :
  Calls Tryz.prog 139 #[va,vb] w fun e w'=>∃r,e = .returned r∧PC w' r (qN x y) (qD x y)∧Below w.heap.size w w':=by
 have hg:qg x y=(Int.gcd x y:Int):=by unfold qg;rw[if_neg (by omega)]
 have HG:=hide (qg_ne (x:=x) (y:=y) (by omega))
 have HS:=hide (show y.sign=1 from Int.sign_eq_one_of_pos h0)
 have EG:=hide hg
 clear hg
 obtain⟨n_0,o_0,k_0,c_0,rfl⟩:=ha.open2
 obtain⟨n_1,o_1,k_1,c_1,rfl⟩:=hq.open2
 go_enter Tryz.func139,Tryz.ntmps139
 have hs:=St.nil w
 refine zk fun K1 hK1=>rg [0,1,2] ?_
 refine sq ?_
 refine .al hs ?_;clear hs;intro p_b1 w_1 hs n1 kb_b1
 refine sq ?_
 refine .al hs ?_;clear hs;intro p_b2 w_2 hs n2 kb_b2
 refine sq ?_
 refine .al hs ?_;clear hs;intro p_b3 w_3 hs n3 kb_b3
 refine ze (hK1 _ _ ?_)
 refine zk fun K2 hK2=>rg [0,1,2,3,4] ?_
 refine sq ?_
 refine .r2 hs.g2.f2 ?_
 refine sq ?_
 refine .r2 hs.g1.f2 ?_
 refine sq ?_
 intro K hK
 have k0_3:=((kb n1).b n2).b n3
 replace ha:=ha.k k0_3
 replace hq:=hq.k k0_3
 go_big_op
 go_fit (rzgcd_any ha hq (by omega) (by omega) )
 rintro e w_4 ⟨v_g1,rfl,g1,hb_4⟩
 replace hs:=hs.bl hb_4
 obtain⟨n_g1,o_g1,k_g1,c_g1,rfl⟩:=g1.open2
 have Lg1:=hide (g1.lenOf (zlen_gcd (ha.len) (hq.len)))
 rw[←EG.out] at g1
 refine hK _ _ rfl trivial ?_
 clear hK K
 refine sq ?_
 refine .al hs ?_;clear hs;intro p_b4 w_5 hs n5 kb_b4
 refine sq ?_
 refine .s2 hs.g0 (fun _=>hs.u0 kb_b4) ?_;clear hs;intro w_6 hs hd6 ho6
 refine ze (hK2 _ _ ?_)
 refine zk fun K3 hK3 => ?_
 refine zk fun K4 hK4=>rg [0,1,2] ?_
 refine sq ?_
 refine .r2 hs.g2.f2 ?_
 have Lg1:=hide (g1.lenOf (zlen_qg ha.len hq.len))
 refine sq ?_
 intro K hK
 have k3_6:=((kb hb_4).b n5).o hd6 ho6
 replace hq:=hq.k k3_6
 go_big_op
 go_fit (rzsign_any hq (by omega) )
 rintro e w_7 ⟨rfl,hb_7⟩
 replace hs:=hs.bl hb_7
 rw[HS.out]
 refine hK _ _ rfl trivial ?_
 clear hK K
 refine sr (ze (hK4 _ _ ?_))
 refine cf ?_
 refine wp_skip ?_
 refine hK3 _ _ ?_
 refine zk fun K5 hK5=>rg [0,1,2,3,4,5,6,7,8,9] ?_
 refine sq ?_
 refine .r2 hs.g3.f2 ?_
 refine sq ?_
 refine .r2 hs.g0.f2 ?_
 refine sq ?_
 intro K hK
 have k3_7:=k3_6.b hb_7
 replace ha:=ha.k k3_7
 have k4_7:=((kb n5).o hd6 ho6).b hb_7
 replace g1:=g1.k k4_7
 go_big_op
 go_fit (rfloor_any ha (g1.zn Lg1.out) (by omega) (by omega) HG.out)
 rintro e w_8 ⟨v_g2,v_g4,rfl,g2,g4,hb_8⟩
 replace hs:=hs.bl hb_8
 obtain⟨n_g2,o_g2,k_g2,c_g2,rfl⟩:=g2.open2
 obtain⟨n_g4,o_g4,k_g4,c_g4,rfl⟩:=g4.open2
 refine hK _ _ rfl trivial ?_
 clear hK K
 refine xmr ?_
 refine sr ?_
 refine sq ?_
 refine .al hs ?_;clear hs;intro p_b5 w_9 hs n9 kb_b5
 refine sq ?_
 refine .al hs ?_;clear hs;intro p_b6 w_10 hs n10 kb_b6
 refine sq ?_
 refine .s2 hs.g1 (fun _=>hs.u1 kb_b5) ?_;clear hs;intro w_11 hs hd11 ho11
 refine sq ?_
 refine .s2 hs.g0 (fun _=>hs.u0 kb_b6) ?_;clear hs;intro w_12 hs hd12 ho12
 refine ze (hK5 _ _ ?_)
 refine zk fun K6 hK6=>rg [0,1,2,3,4,5,6,7,8,9] ?_
 refine sq ?_
 refine .r2 hs.g4.f2 ?_
 refine sq ?_
 refine .r2 hs.g2.f2 ?_
 refine sq ?_
 intro K hK
 have k6_12:=(((((kb hb_7).b hb_8).b n9).b n10).o hd11 ho11).o hd12 ho12
 replace hq:=hq.k k6_12
 have k7_12:=((((kb hb_8).b n9).b n10).o hd11 ho11).o hd12 ho12
 replace g1:=g1.k k7_12
 go_big_op
 go_fit (rfloor_any hq (g1.zn Lg1.out) (by omega) (by omega) HG.out)
 rintro e w_13 ⟨v_g3,v_g5,rfl,g3,g5,hb_13⟩
 replace hs:=hs.bl hb_13
 obtain⟨n_g3,o_g3,k_g3,c_g3,rfl⟩:=g3.open2
 obtain⟨n_g5,o_g5,k_g5,c_g5,rfl⟩:=g5.open2
 refine hK _ _ rfl trivial ?_
 clear hK K
 refine xmr ?_
 refine sr ?_
 refine sq ?_
 refine .al hs ?_;clear hs;intro p_b7 w_14 hs n14 kb_b7
 refine sq ?_
 refine .al hs ?_;clear hs;intro p_b8 w_15 hs n15 kb_b8
 refine sq ?_
 refine .s2 hs.g1 (fun _=>hs.u1 kb_b7) ?_;clear hs;intro w_16 hs hd16 ho16
 refine sq ?_
 refine .s2 hs.g0 (fun _=>hs.u0 kb_b8) ?_;clear hs;intro w_17 hs hd17 ho17
 refine ze (hK6 _ _ ?_)
 refine zk fun K7 hK7=>rg [0,1,2,3] ?_
 refine sq ?_
 refine .r2 hs.g3.f2 ?_
 refine sq ?_
 refine .r2 hs.g1.f2 ?_
 refine sr ?_
 refine sq ?_
 refine .s4 hs.g5 (fun _=>hs.u5 kb_b3) ?_;clear hs;intro w_18 hs hd18 ho18
 refine ze (hK7 _ _ ?_)
 refine wp_ret ?_
 try dsimp only [Exit.then,Exit.inBlock]
 obtain⟨r0_0,r0_1,r0_2,r0_3⟩:=hs.g5.f4
 refine bodyPost_ret (v:=(.agg #[.bool n_g2,.slice o_g2 k_g2 c_g2,.bool n_g3,.slice o_g3 k_g3 c_g3])) (by simp[results,Tryz.results139,go_sem,r0_0,r0_1,r0_2,r0_3]) rfl ?_
 have k8_18:=(((((((((kb n9).b n10).o hd11 ho11).o hd12 ho12).b hb_13).b n14).b n15).o hd16 ho16).o hd17 ho17).o hd18 ho18
 replace g2:=g2.k k8_18
 have k13_18:=((((kb n14).b n15).o hd16 ho16).o hd17 ho17).o hd18 ho18
 replace g3:=g3.k k13_18
 exact⟨_,rfl,.mk' g2 g3,hs.b⟩
theorem rfmake_neg (ha:ZN w va x l) (hq:ZN w vb y m) (hl:l≤44000000) (hm:m≤44000000) (h0:y<0) :
  Calls Tryz.prog 139 #[va,vb] w fun e w'=>∃r,e = .returned r∧PC w' r (qN x y) (qD x y)∧Below w.heap.size w w':=by
 have hg:qg x y = -(Int.gcd x y:Int):=by unfold qg;rw[if_pos h0]
 have HG:=hide (qg_ne (x:=x) (y:=y) (by omega))
 have HS:=hide (show y.sign = -1 from Int.sign_eq_neg_one_of_neg h0)
 have EG:=hide hg
 clear hg
 obtain⟨n_0,o_0,k_0,c_0,rfl⟩:=ha.open2
 obtain⟨n_1,o_1,k_1,c_1,rfl⟩:=hq.open2
 go_enter Tryz.func139,Tryz.ntmps139
 have hs:=St.nil w
 refine zk fun K1 hK1=>rg [0,1,2] ?_
 refine sq ?_
 refine .al hs ?_;clear hs;intro p_b1 w_1 hs n1 kb_b1
 refine sq ?_
 refine .al hs ?_;clear hs;intro p_b2 w_2 hs n2 kb_b2
 refine sq ?_
 refine .al hs ?_;clear hs;intro p_b3 w_3 hs n3 kb_b3
 refine ze (hK1 _ _ ?_)
 refine zk fun K2 hK2=>rg [0,1,2,3,4] ?_
 refine sq ?_
 refine .r2 hs.g2.f2 ?_
 refine sq ?_
 refine .r2 hs.g1.f2 ?_
 refine sq ?_
 intro K hK
 have k0_3:=((kb n1).b n2).b n3
 replace ha:=ha.k k0_3
 replace hq:=hq.k k0_3
 go_big_op
 go_fit (rzgcd_any ha hq (by omega) (by omega) )
 rintro e w_4 ⟨v_g1,rfl,g1,hb_4⟩
 replace hs:=hs.bl hb_4
 obtain⟨n_g1,o_g1,k_g1,c_g1,rfl⟩:=g1.open2
 have Lg1:=hide (g1.lenOf (zlen_gcd (ha.len) (hq.len)))
 refine hK _ _ rfl trivial ?_
 clear hK K
 refine sq ?_
 refine .al hs ?_;clear hs;intro p_b4 w_5 hs n5 kb_b4
 refine sq ?_
 refine .s2 hs.g0 (fun _=>hs.u0 kb_b4) ?_;clear hs;intro w_6 hs hd6 ho6
 refine ze (hK2 _ _ ?_)
 refine zk fun K3 hK3 => ?_
 refine zk fun K4 hK4=>rg [0,1,2] ?_
 refine sq ?_
 refine .r2 hs.g2.f2 ?_
 refine sq ?_
 intro K hK
 have k3_6:=((kb hb_4).b n5).o hd6 ho6
 replace hq:=hq.k k3_6
 go_big_op
 go_fit (rzsign_any hq (by omega) )
 rintro e w_7 ⟨rfl,hb_7⟩
 replace hs:=hs.bl hb_7
 rw[HS.out]
 refine hK _ _ rfl trivial ?_
 clear hK K
 refine sr (ze (hK4 _ _ ?_))
 refine ct ?_
 refine rg [0,1,2] ?_
 refine sq ?_
 refine .r2 hs.g0.f2 ?_
 refine sq ?_
 intro K hK
 have k4_7:=((kb n5).o hd6 ho6).b hb_7
 replace g1:=g1.k k4_7
 go_big_op
 go_fit (rneg_any (g1.zn Lg1.out) (by omega) )
 rintro e w_8 ⟨v_g6,rfl,g6,hb_8⟩
 replace hs:=hs.bl hb_8
 replace g6:=g6.rd
 obtain⟨n_g6,o_g6,k_g6,c_g6,rfl⟩:=g6.open2
 have Lg6:=hide (g6.lenOf (zlen_neg (Lg1.out)))
 rw[←EG.out] at g6
 refine hK _ _ rfl trivial ?_
 clear hK K
 refine sq ?_
 refine .s2 hs.g0 (fun _=>hs.u0 kb_b4) ?_;clear hs;intro w_9 hs hd9 ho9
 refine ze (hK3 _ _ ?_)
 refine zk fun K5 hK5=>rg [0,1,2,3,4,5,6,7,8,9] ?_
 refine sq ?_
 refine .r2 hs.g3.f2 ?_
 refine sq ?_
 refine .r2 hs.g0.f2 ?_
 have Lg6:=hide (g6.lenOf (zlen_qg ha.len hq.len))
 refine sq ?_
 intro K hK
 have k3_9:=((k3_6.b hb_7).b hb_8).o hd9 ho9
 replace ha:=ha.k k3_9
 have k8_9:=ko hd9 ho9
 replace g6:=g6.k k8_9
 go_big_op
 go_fit (rfloor_any ha (g6.zn Lg6.out) (by omega) (by omega) HG.out)
 rintro e w_10 ⟨v_g2,v_g4,rfl,g2,g4,hb_10⟩
 replace hs:=hs.bl hb_10
 obtain⟨n_g2,o_g2,k_g2,c_g2,rfl⟩:=g2.open2
 obtain⟨n_g4,o_g4,k_g4,c_g4,rfl⟩:=g4.open2
 refine hK _ _ rfl trivial ?_
 clear hK K
 refine xmr ?_
 refine sr ?_
 refine sq ?_
 refine .al hs ?_;clear hs;intro p_b5 w_11 hs n11 kb_b5
 refine sq ?_
 refine .al hs ?_;clear hs;intro p_b6 w_12 hs n12 kb_b6
 refine sq ?_
 refine .s2 hs.g1 (fun _=>hs.u1 kb_b5) ?_;clear hs;intro w_13 hs hd13 ho13
 refine sq ?_
 refine .s2 hs.g0 (fun _=>hs.u0 kb_b6) ?_;clear hs;intro w_14 hs hd14 ho14
 refine ze (hK5 _ _ ?_)
 refine zk fun K6 hK6=>rg [0,1,2,3,4,5,6,7,8,9] ?_
 refine sq ?_
 refine .r2 hs.g4.f2 ?_
 refine sq ?_
 refine .r2 hs.g2.f2 ?_
 refine sq ?_
 intro K hK
 have k6_14:=(((((((kb hb_7).b hb_8).o hd9 ho9).b hb_10).b n11).b n12).o hd13 ho13).o hd14 ho14
 replace hq:=hq.k k6_14
 have k9_14:=((((kb hb_10).b n11).b n12).o hd13 ho13).o hd14 ho14
 replace g6:=g6.k k9_14
 go_big_op
 go_fit (rfloor_any hq (g6.zn Lg6.out) (by omega) (by omega) HG.out)
 rintro e w_15 ⟨v_g3,v_g5,rfl,g3,g5,hb_15⟩
 replace hs:=hs.bl hb_15
 obtain⟨n_g3,o_g3,k_g3,c_g3,rfl⟩:=g3.open2
 obtain⟨n_g5,o_g5,k_g5,c_g5,rfl⟩:=g5.open2
 refine hK _ _ rfl trivial ?_
 clear hK K
 refine xmr ?_
 refine sr ?_
 refine sq ?_
 refine .al hs ?_;clear hs;intro p_b7 w_16 hs n16 kb_b7
 refine sq ?_
 refine .al hs ?_;clear hs;intro p_b8 w_17 hs n17 kb_b8
 refine sq ?_
 refine .s2 hs.g1 (fun _=>hs.u1 kb_b7) ?_;clear hs;intro w_18 hs hd18 ho18
 refine sq ?_
 refine .s2 hs.g0 (fun _=>hs.u0 kb_b8) ?_;clear hs;intro w_19 hs hd19 ho19
 refine ze (hK6 _ _ ?_)
 refine zk fun K7 hK7=>rg [0,1,2,3] ?_
 refine sq ?_
 refine .r2 hs.g3.f2 ?_
 refine sq ?_
 refine .r2 hs.g1.f2 ?_
 refine sr ?_
 refine sq ?_
 refine .s4 hs.g5 (fun _=>hs.u5 kb_b3) ?_;clear hs;intro w_20 hs hd20 ho20
 clear g1 ha g4 hq g6 g5
 refine ze (hK7 _ _ ?_)
 refine wp_ret ?_
 try dsimp only [Exit.then,Exit.inBlock]
 obtain⟨r0_0,r0_1,r0_2,r0_3⟩:=hs.g5.f4
 refine bodyPost_ret (v:=(.agg #[.bool n_g2,.slice o_g2 k_g2 c_g2,.bool n_g3,.slice o_g3 k_g3 c_g3])) (by simp[results,Tryz.results139,go_sem,r0_0,r0_1,r0_2,r0_3]) rfl ?_
 have k10_20:=(((((((((kb n11).b n12).o hd13 ho13).o hd14 ho14).b hb_15).b n16).b n17).o hd18 ho18).o hd19 ho19).o hd20 ho20
 replace g2:=g2.k k10_20
 have k15_20:=((((kb n16).b n17).o hd18 ho18).o hd19 ho19).o hd20 ho20
 replace g3:=g3.k k15_20
 exact⟨_,rfl,.mk' g2 g3,hs.b⟩
theorem rfmake_any (ha:ZN w va x l) (hq:ZN w vb y m) (hl:l≤44000000) (hm:m≤44000000) (h0:y≠0) :
  Calls Tryz.prog 139 #[va,vb] w fun e w'=>∃r,e = .returned r∧PC w' r (qN x y) (qD x y)∧Below w.heap.size w w':=by
 by_cases h:0<y
 ·exact rfmake_pos ha hq hl hm h
 ·exact rfmake_neg ha hq hl hm (by omega)
theorem rfnorm_any (ha:PN w va x l y m) (hl:l≤44000000) (hm:m≤44000000) (h0:y≠0) :
  Calls Tryz.prog 90 #[va] w fun e w'=>∃r,e = .returned r∧PC w' r (qN x y) (qD x y)∧Below w.heap.size w w':=by
 have H0:=hide h0
 clear h0
 obtain⟨n_0a,o_0a,k_0a,c_0a,n_0b,o_0b,k_0b,c_0b,rfl,ha1,ha2⟩:=ha
 go_enter Tryz.func90,Tryz.ntmps90
 have hs:=St.nil w
 refine zk fun K1 hK1=>rg [0,1] ?_
 refine sq ?_
 refine .al hs ?_;clear hs;intro p_b1 w_1 hs n1 kb_b1
 refine sq ?_
 refine .al hs ?_;clear hs;intro p_b2 w_2 hs n2 kb_b2
 refine ze (hK1 _ _ ?_)
 refine zk fun K2 hK2=>rg [0,1,2,3,4,5] ?_
 refine sr ?_
 refine sq ?_
 refine .r4 hs.g1.f4 ?_
 refine sr ?_
 refine sq ?_
 refine .r4 hs.g1.f4 ?_
 refine sq ?_
 intro K hK
 have k0_2:=(kb n1).b n2
 replace ha1:=ha1.k k0_2
 replace ha2:=ha2.k k0_2
 go_big_op
 go_fit (rfmake_any ha1 ha2 (by omega) (by omega) H0.out)
 rintro e w_3 ⟨_,rfl,⟨n_ga,o_ga,k_ga,c_ga,n_gb,o_gb,k_gb,c_gb,rfl,g1,g2⟩,hb_3⟩
 replace hs:=hs.bl hb_3
 refine hK _ _ rfl trivial ?_
 clear hK K
 refine sq ?_
 refine .s4 hs.g0 (fun _=>hs.u0 kb_b2) ?_;clear hs;intro w_4 hs hd4 ho4
 refine ze (hK2 _ _ ?_)
 refine wp_ret ?_
 try dsimp only [Exit.then,Exit.inBlock]
 obtain⟨r0_0,r0_1,r0_2,r0_3⟩:=hs.g0.f4
 refine bodyPost_ret (v:=(.agg #[.bool n_ga,.slice o_ga k_ga c_ga,.bool n_gb,.slice o_gb k_gb c_gb])) (by simp[results,Tryz.results90,go_sem,r0_0,r0_1,r0_2,r0_3]) rfl ?_
 have k3_4:=ko hd4 ho4
 replace g1:=g1.k k3_4
 replace g2:=g2.k k3_4
 exact⟨_,rfl,.mk' g1 g2,hs.b⟩
def low (x y:Int):Prop:=0<y∧Int.gcd x y=1
theorem qN_low {x y:Int} (h:low x y):qN x y=x:=by
 unfold qN qg;rw[if_neg (by have:=h.1;omega),h.2];exact Int.fdiv_one x
theorem qD_low {x y:Int} (h:low x y):qD x y=y:=by
 unfold qD qg;rw[if_neg (by have:=h.1;omega),h.2];exact Int.fdiv_one y
theorem low_q {x y:Int} (h0:y≠0):low (qN x y) (qD x y):=by
 refine⟨qD_pos h0,?_⟩
 have h1:=qN_eq (x:=x) (y:=y)
 have h2:=qD_eq (x:=x) (y:=y)
 have hg:(qg x y).natAbs=Int.gcd x y:=by
  unfold qg;split
  ·rw[Int.natAbs_neg];exact Int.natAbs_natCast _
  ·exact Int.natAbs_natCast _
 have h3:=Int.gcd_mul_right (qN x y) (qg x y) (qD x y)
 rw[←h1,←h2] at h3
 rw[hg] at h3
 have h4:0<Int.gcd x y:=by have:=gcd_ne (x:=x) h0;omega
 exact Nat.eq_of_mul_eq_mul_right h4 (by rw[Nat.one_mul];exact h3.symm)
theorem rfsame_any (ha:PC w va (qN u v) (qD u v)) (hq:PN w vb u l v m) (hl:l≤44000000) (hm:m≤44000000) (h0:v≠0) :
  Calls Tryz.prog 38 #[va,vb] w fun e w'=>e = .returned (.bool true)∧Below w.heap.size w w':=by
 have H0:=hide h0
 clear h0
 obtain⟨n_0a,o_0a,k_0a,c_0a,n_0b,o_0b,k_0b,c_0b,rfl,ha1,ha2⟩:=ha
 obtain⟨n_1a,o_1a,k_1a,c_1a,n_1b,o_1b,k_1b,c_1b,rfl,hq1,hq2⟩:=hq
 go_enter Tryz.func38,Tryz.ntmps38
 have hs:=St.nil w
 refine zk fun K1 hK1=>rg [0,1,2] ?_
 refine sq ?_
 refine .al hs ?_;clear hs;intro p_b1 w_1 hs n1 kb_b1
 refine sq ?_
 refine .al hs ?_;clear hs;intro p_b2 w_2 hs n2 kb_b2
 refine sm (ze (hK1 _ _ ?_))
 refine zk fun K2 hK2=>rg [0,1,2,3] ?_
 refine sq ?_
 refine .r4 hs.g0.f4 ?_
 refine sq ?_
 intro K hK
 have k0_2:=(kb n1).b n2
 replace hq1:=hq1.k k0_2
 replace hq2:=hq2.k k0_2
 go_big_op
 go_fit (rfnorm_any (PN.mk' hq1 hq2) (by omega) (by omega) H0.out)
 rintro e w_3 ⟨_,rfl,⟨n_ga,o_ga,k_ga,c_ga,n_gb,o_gb,k_gb,c_gb,rfl,g1,g2⟩,hb_3⟩
 replace hs:=hs.bl hb_3
 have Lg1:=hide (g1.lenOf (qN_len (H0.out) (hq1.len)))
 have Lg2:=hide (g2.lenOf (qD_len (H0.out) (hq2.len)))
 refine hK _ _ rfl trivial ?_
 clear hK K
 refine sq ?_
 refine .al hs ?_;clear hs;intro p_b3 w_4 hs n4 kb_b3
 refine sq ?_
 refine .s4 hs.g0 (fun _=>hs.u0 kb_b3) ?_;clear hs;intro w_5 hs hd5 ho5
 refine ze (hK2 _ _ ?_)
 refine zk fun K3 hK3=>rg [0,1,2,3,4,5,6,7,8,9,10,11,12] ?_
 refine sr ?_
 refine sq ?_
 refine .r4 hs.g2.f4 ?_
 refine sr ?_
 refine sq ?_
 refine .r4 hs.g0.f4 ?_
 refine sq ?_
 intro K hK
 have k0_5:=((k0_2.b hb_3).b n4).o hd5 ho5
 replace ha1:=ha1.k k0_5
 have k3_5:=(kb n4).o hd5 ho5
 replace g1:=g1.k k3_5
 go_big_op
 go_fit (rsame_zz ha1 (g1.zn Lg1.out) (by omega) )
 rintro e w_6 ⟨rfl,hb_6⟩
 replace hs:=hs.bl hb_6
 refine hK _ _ rfl trivial ?_
 clear hK K
 refine xmr ?_
 refine sq ?_
 refine .r4 hs.g2.f4 ?_
 refine sr ?_
 refine sq ?_
 refine .r4 hs.g0.f4 ?_
 refine sq ?_
 intro K hK
 have k0_6:=k0_5.b hb_6
 replace ha2:=ha2.k k0_6
 have k3_6:=k3_5.b hb_6
 replace g2:=g2.k k3_6
 go_big_op
 go_fit (rsame_zz ha2 (g2.zn Lg2.out) (by omega) )
 rintro e w_7 ⟨rfl,hb_7⟩
 replace hs:=hs.bl hb_7
 refine hK _ _ rfl trivial ?_
 clear hK K
 refine sr ?_
 refine sm (ze (hK3 _ _ ?_))
 refine wp_ret ?_
 try dsimp only [Exit.then,Exit.inBlock]
 refine bodyPost_ret (v:=(.bool true)) (by simp[results,Tryz.results38,go_sem]) rfl ?_
 have hb:=hs.b
 exact⟨rfl,hb⟩
end
end Go.Proofs.YthmolpepinolkaaGreat
