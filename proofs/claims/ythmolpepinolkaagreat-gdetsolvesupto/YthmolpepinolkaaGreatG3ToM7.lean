/- The reference's Gaussian integers; the law's is and g. -/
import Derived.Test.YthmolpepinolkaaGreatWkToG2
import Derived.Test.YthmolpepinolkaaGreatY8
import Derived.OrdersIn
import Derived.RangeFuncFrom
import Derived.RangeFuncNested
import Derived.RangeFuncBound
namespace Go.Proofs.YthmolpepinolkaaGreat
open Go Go.RowKit Dig
set_option maxHeartbeats 4000000
set_option maxRecDepth 20000
set_option linter.unusedVariables false
section
variable {w:World} {va vb:Value} {x y u v:Int} {l m k n:Nat}
theorem rgAdd_any (ha:PN w va x l y m) (hq:PN w vb u k v n) (hl:l≤100000000) (hm:m≤100000000) (hk:k≤100000000) (hn:n≤100000000) :
  Calls Tryz.prog 78 #[va,vb] w fun e w'=>∃r,e = .returned r∧PC w' r (x+u) (y+v)∧Below w.heap.size w w':=by
 obtain⟨n_0a,o_0a,k_0a,c_0a,n_0b,o_0b,k_0b,c_0b,rfl,ha1,ha2⟩:=ha
 obtain⟨n_1a,o_1a,k_1a,c_1a,n_1b,o_1b,k_1b,c_1b,rfl,hq1,hq2⟩:=hq
 go_enter Tryz.func78,Tryz.ntmps78
 have hs:=St.nil w
 refine zk fun K1 hK1=>rg [0,1,2] ?_
 refine sq ?_
 refine .al hs ?_;clear hs;intro p_b1 w_1 hs n1 kb_b1
 refine sq ?_
 refine .al hs ?_;clear hs;intro p_b2 w_2 hs n2 kb_b2
 refine sq ?_
 refine .al hs ?_;clear hs;intro p_b3 w_3 hs n3 kb_b3
 refine ze (hK1 _ _ ?_)
 refine zk fun K2 hK2 => ?_
 refine wp_region_f4 [(0,false),(1,false),(2,false),(3,false),(5,false),(6,false),(7,false),(8,false),(4,true),(9,true),(10,false)] [11] [] (fun _=>default) [99,0,99,1,99,99,0,99,1,99,99,99] [] (.c hs.g2 (.c hs.g1 .n)) fn fun w_4 n4 => ?_
 replace hs:=hs.bl n4
 refine f0 ?_
 refine f4 ?_
 refine f0 ?_
 refine f4 ?_
 refine f0 ?_
 refine f4 ?_
 refine f0 ?_
 refine f4 ?_
 refine fl fun w_5 n5 => ?_
 replace hs:=hs.bl n5
 intro K hK
 have k0_5:=((((kb n1).b n2).b n3).b n4).b n5
 replace ha1:=ha1.k k0_5
 replace hq1:=hq1.k k0_5
 go_big_op
 go_fit (rzadd_any ha1 hq1 (by omega) (by omega) )
 rintro e w_6 ⟨v_g1,rfl,g1,hb_6⟩
 replace hs:=hs.bl hb_6
 replace g1:=g1.rd
 obtain⟨n_g1,o_g1,k_g1,c_g1,rfl⟩:=g1.open2
 refine hK _ _ rfl ⟨hb_6,(ai hs.g2 (ai hs.g1 trivial))⟩ ?_
 clear hK K
 refine fl fun w_7 n7 => ?_
 replace hs:=hs.bl n7
 intro K hK
 have k0_7:=(k0_5.b hb_6).b n7
 replace ha2:=ha2.k k0_7
 replace hq2:=hq2.k k0_7
 go_big_op
 go_fit (rzadd_any ha2 hq2 (by omega) (by omega) )
 rintro e w_8 ⟨v_g2,rfl,g2,hb_8⟩
 replace hs:=hs.bl hb_8
 replace g2:=g2.rd
 obtain⟨n_g2,o_g2,k_g2,c_g2,rfl⟩:=g2.open2
 refine hK _ _ rfl ⟨hb_8,(ai hs.g2 (ai hs.g1 trivial))⟩ ?_
 clear hK K
 refine f0 ?_
 refine e0 hs ?_;clear hs;intro w_9 hs n9
 refine tl ?_
 refine .s4 hs.g0 (fun _=>hs.u0 kb_b3) ?_ (e:=fun _ hs=>(ai hs.g2 (ai hs.g1 trivial)));clear hs;intro w_10 hs hd10 ho10
 apply wpTail_end
 refine hK2 _ _ ?_
 refine wp_ret ?_
 try dsimp only [Exit.then,Exit.inBlock]
 obtain⟨r0_0,r0_1,r0_2,r0_3⟩:=hs.g0.f4
 refine bodyPost_ret (v:=(.agg #[.bool n_g1,.slice o_g1 k_g1 c_g1,.bool n_g2,.slice o_g2 k_g2 c_g2])) (by simp[results,Tryz.results78,go_sem,r0_0,r0_1,r0_2,r0_3]) rfl ?_
 have k6_10:=(((kb n7).b hb_8).b n9).o hd10 ho10
 replace g1:=g1.k k6_10
 have k8_10:=(kb n9).o hd10 ho10
 replace g2:=g2.k k8_10
 exact⟨_,rfl,.mk' g1 g2,hs.b⟩
theorem rgSub_any (ha:PN w va x l y m) (hq:PN w vb u k v n) (hl:l≤100000000) (hm:m≤100000000) (hk:k≤100000000) (hn:n≤100000000) :
  Calls Tryz.prog 82 #[va,vb] w fun e w'=>∃r,e = .returned r∧PC w' r (x - u) (y - v)∧Below w.heap.size w w':=by
 obtain⟨n_0a,o_0a,k_0a,c_0a,n_0b,o_0b,k_0b,c_0b,rfl,ha1,ha2⟩:=ha
 obtain⟨n_1a,o_1a,k_1a,c_1a,n_1b,o_1b,k_1b,c_1b,rfl,hq1,hq2⟩:=hq
 go_enter Tryz.func82,Tryz.ntmps82
 have hs:=St.nil w
 refine zk fun K1 hK1=>rg [0,1,2] ?_
 refine sq ?_
 refine .al hs ?_;clear hs;intro p_b1 w_1 hs n1 kb_b1
 refine sq ?_
 refine .al hs ?_;clear hs;intro p_b2 w_2 hs n2 kb_b2
 refine sq ?_
 refine .al hs ?_;clear hs;intro p_b3 w_3 hs n3 kb_b3
 refine ze (hK1 _ _ ?_)
 refine zk fun K2 hK2 => ?_
 refine wp_region_f4 [(0,false),(1,false),(2,false),(3,false),(5,false),(6,false),(7,false),(8,false),(4,true),(9,true),(10,false)] [11] [] (fun _=>default) [99,0,99,1,99,99,0,99,1,99,99,99] [] (.c hs.g2 (.c hs.g1 .n)) fn fun w_4 n4 => ?_
 replace hs:=hs.bl n4
 refine f0 ?_
 refine f4 ?_
 refine f0 ?_
 refine f4 ?_
 refine f0 ?_
 refine f4 ?_
 refine f0 ?_
 refine f4 ?_
 refine fl fun w_5 n5 => ?_
 replace hs:=hs.bl n5
 intro K hK
 have k0_5:=((((kb n1).b n2).b n3).b n4).b n5
 replace ha1:=ha1.k k0_5
 replace hq1:=hq1.k k0_5
 go_big_op
 go_fit (rzsub_any ha1 hq1 (by omega) (by omega) )
 rintro e w_6 ⟨v_g1,rfl,g1,hb_6⟩
 replace hs:=hs.bl hb_6
 replace g1:=g1.rd
 obtain⟨n_g1,o_g1,k_g1,c_g1,rfl⟩:=g1.open2
 refine hK _ _ rfl ⟨hb_6,(ai hs.g2 (ai hs.g1 trivial))⟩ ?_
 clear hK K
 refine fl fun w_7 n7 => ?_
 replace hs:=hs.bl n7
 intro K hK
 have k0_7:=(k0_5.b hb_6).b n7
 replace ha2:=ha2.k k0_7
 replace hq2:=hq2.k k0_7
 go_big_op
 go_fit (rzsub_any ha2 hq2 (by omega) (by omega) )
 rintro e w_8 ⟨v_g2,rfl,g2,hb_8⟩
 replace hs:=hs.bl hb_8
 replace g2:=g2.rd
 obtain⟨n_g2,o_g2,k_g2,c_g2,rfl⟩:=g2.open2
 refine hK _ _ rfl ⟨hb_8,(ai hs.g2 (ai hs.g1 trivial))⟩ ?_
 clear hK K
 refine f0 ?_
 refine e0 hs ?_;clear hs;intro w_9 hs n9
 refine tl ?_
 refine .s4 hs.g0 (fun _=>hs.u0 kb_b3) ?_ (e:=fun _ hs=>(ai hs.g2 (ai hs.g1 trivial)));clear hs;intro w_10 hs hd10 ho10
 apply wpTail_end
 refine hK2 _ _ ?_
 refine wp_ret ?_
 try dsimp only [Exit.then,Exit.inBlock]
 obtain⟨r0_0,r0_1,r0_2,r0_3⟩:=hs.g0.f4
 refine bodyPost_ret (v:=(.agg #[.bool n_g1,.slice o_g1 k_g1 c_g1,.bool n_g2,.slice o_g2 k_g2 c_g2])) (by simp[results,Tryz.results82,go_sem,r0_0,r0_1,r0_2,r0_3]) rfl ?_
 have k6_10:=(((kb n7).b hb_8).b n9).o hd10 ho10
 replace g1:=g1.k k6_10
 have k8_10:=(kb n9).o hd10 ho10
 replace g2:=g2.k k8_10
 exact⟨_,rfl,.mk' g1 g2,hs.b⟩
theorem rgMul_any (ha:PN w va x l y m) (hq:PN w vb u k v n) (hl:l≤40000000) (hm:m≤40000000) (hk:k≤40000000) (hn:n≤40000000) :
  Calls Tryz.prog 36 #[va,vb] w fun e w'=>∃r,e = .returned r∧PC w' r (x*u - y*v) (x*v+y*u)∧Below w.heap.size w w':=by
 obtain⟨n_0a,o_0a,k_0a,c_0a,n_0b,o_0b,k_0b,c_0b,rfl,ha1,ha2⟩:=ha
 obtain⟨n_1a,o_1a,k_1a,c_1a,n_1b,o_1b,k_1b,c_1b,rfl,hq1,hq2⟩:=hq
 go_enter Tryz.func36,Tryz.ntmps36
 have hs:=St.nil w
 refine zk fun K1 hK1=>rg [0,1,2] ?_
 refine sq ?_
 refine .al hs ?_;clear hs;intro p_b1 w_1 hs n1 kb_b1
 refine sq ?_
 refine .al hs ?_;clear hs;intro p_b2 w_2 hs n2 kb_b2
 refine sq ?_
 refine .al hs ?_;clear hs;intro p_b3 w_3 hs n3 kb_b3
 refine ze (hK1 _ _ ?_)
 refine zk fun K2 hK2 => ?_
 refine wp_region_f4 [(0,false),(1,false),(2,false),(3,false),(5,false),(6,false),(7,false),(8,false),(4,true),(9,true),(10,true)] [12] [11] (fun j=>(.cells #[.bool false,.slice none 0 0] 37)) [99,0,99,1,99,99,0,99,1,99,99,99,99] [] (.c hs.g2 (.c hs.g1 .n)) (fm fn) fun w_4 n4 => ?_
 replace hs:=hs.bl n4
 have hlB:=hs.lt;have hkB:=hs.k
 refine f0 ?_
 refine f4 ?_
 refine f0 ?_
 refine f4 ?_
 refine f0 ?_
 refine f4 ?_
 refine f0 ?_
 refine f4 ?_
 refine fl fun w_5 n5 => ?_
 replace hs:=hs.bl n5
 intro K hK
 have k0_5:=((((kb n1).b n2).b n3).b n4).b n5
 replace ha1:=ha1.k k0_5
 replace hq1:=hq1.k k0_5
 go_big_op
 go_fit (rzmul_any ha1 hq1 (by omega) (by omega) )
 rintro e w_6 ⟨v_g1,rfl,g1,hb_6⟩
 replace hs:=hs.bl hb_6
 replace g1:=g1.rd
 obtain⟨n_g1,o_g1,k_g1,c_g1,rfl⟩:=g1.open2
 have Lg1:=hide (g1.lenOf (zlen_mul (ha1.len) (hq1.len)))
 refine hK _ _ rfl ⟨hb_6,(ai hs.g2 (ai hs.g1 trivial))⟩ ?_
 clear hK K
 refine fl fun w_7 n7 => ?_
 replace hs:=hs.bl n7
 intro K hK
 have k0_7:=(k0_5.b hb_6).b n7
 replace ha2:=ha2.k k0_7
 replace hq2:=hq2.k k0_7
 go_big_op
 go_fit (rzmul_any ha2 hq2 (by omega) (by omega) )
 rintro e w_8 ⟨v_g2,rfl,g2,hb_8⟩
 replace hs:=hs.bl hb_8
 replace g2:=g2.rd
 obtain⟨n_g2,o_g2,k_g2,c_g2,rfl⟩:=g2.open2
 have Lg2:=hide (g2.lenOf (zlen_mul (ha2.len) (hq2.len)))
 refine hK _ _ rfl ⟨hb_8,(ai hs.g2 (ai hs.g1 trivial))⟩ ?_
 clear hK K
 refine fl fun w_9 n9 => ?_
 replace hs:=hs.bl n9
 intro K hK
 have k6_9:=((kb n7).b hb_8).b n9
 replace g1:=g1.k k6_9
 have k8_9:=kb n9
 replace g2:=g2.k k8_9
 go_big_op
 go_fit (rzsub_any (g1.zn Lg1.out) (g2.zn Lg2.out) (by omega) (by omega) )
 rintro e w_10 ⟨v_g3,rfl,g3,hb_10⟩
 replace hs:=hs.bl hb_10
 replace g3:=g3.rd
 obtain⟨n_g3,o_g3,k_g3,c_g3,rfl⟩:=g3.open2
 refine hK _ _ rfl ⟨hb_10,(ai hs.g2 (ai hs.g1 trivial))⟩ ?_
 clear hK K
 refine e1 hs hlB hkB ?_;clear hs hlB hkB;intro w_11 p_b4 hs n11 kb_b4
 refine tl ?_
 refine .s2 hs.g0 (fun _=>hs.u0 kb_b4) ?_ (e:=fun _ hs=>(ai hs.g3 (ai hs.g2 trivial)));clear hs;intro w_12 hs hd12 ho12
 apply wpTail_end
 refine hK2 _ _ ?_
 refine zk fun K3 hK3 => ?_
 refine wp_region_f4 [(0,false),(1,false),(2,false),(3,false),(4,false),(6,false),(7,false),(8,false),(9,false),(5,true),(10,true),(11,true),(12,false)] [13] [] (fun _=>default) [0,99,1,99,2,99,99,1,99,2,99,99,99,99] [] (.c hs.g0 (.c hs.g3 (.c hs.g2 .n))) fn fun w_13 n13 => ?_
 replace hs:=hs.bl n13
 refine f2 ?_
 refine f0 ?_
 refine f4 ?_
 refine f0 ?_
 refine f4 ?_
 refine f0 ?_
 refine f4 ?_
 refine f0 ?_
 refine f4 ?_
 refine fl fun w_14 n14 => ?_
 replace hs:=hs.bl n14
 intro K hK
 have k5_14:=((((((((kb hb_6).b n7).b hb_8).b n9).b hb_10).b n11).o hd12 ho12).b n13).b n14
 replace ha1:=ha1.k k5_14
 have k7_14:=((((((kb hb_8).b n9).b hb_10).b n11).o hd12 ho12).b n13).b n14
 replace hq2:=hq2.k k7_14
 go_big_op
 go_fit (rzmul_any ha1 hq2 (by omega) (by omega) )
 rintro e w_15 ⟨v_g4,rfl,g4,hb_15⟩
 replace hs:=hs.bl hb_15
 replace g4:=g4.rd
 obtain⟨n_g4,o_g4,k_g4,c_g4,rfl⟩:=g4.open2
 have Lg4:=hide (g4.lenOf (zlen_mul (ha1.len) (hq2.len)))
 refine hK _ _ rfl ⟨hb_15,(ai hs.g0 (ai hs.g3 (ai hs.g2 trivial)))⟩ ?_
 clear hK K
 refine fl fun w_16 n16 => ?_
 replace hs:=hs.bl n16
 intro K hK
 have k7_16:=(k7_14.b hb_15).b n16
 replace ha2:=ha2.k k7_16
 have k5_16:=(k5_14.b hb_15).b n16
 replace hq1:=hq1.k k5_16
 go_big_op
 go_fit (rzmul_any ha2 hq1 (by omega) (by omega) )
 rintro e w_17 ⟨v_g5,rfl,g5,hb_17⟩
 replace hs:=hs.bl hb_17
 replace g5:=g5.rd
 obtain⟨n_g5,o_g5,k_g5,c_g5,rfl⟩:=g5.open2
 have Lg5:=hide (g5.lenOf (zlen_mul (ha2.len) (hq1.len)))
 refine hK _ _ rfl ⟨hb_17,(ai hs.g0 (ai hs.g3 (ai hs.g2 trivial)))⟩ ?_
 clear hK K
 refine fl fun w_18 n18 => ?_
 replace hs:=hs.bl n18
 intro K hK
 have k15_18:=((kb n16).b hb_17).b n18
 replace g4:=g4.k k15_18
 have k17_18:=kb n18
 replace g5:=g5.k k17_18
 go_big_op
 go_fit (rzadd_any (g4.zn Lg4.out) (g5.zn Lg5.out) (by omega) (by omega) )
 rintro e w_19 ⟨v_g6,rfl,g6,hb_19⟩
 replace hs:=hs.bl hb_19
 replace g6:=g6.rd
 obtain⟨n_g6,o_g6,k_g6,c_g6,rfl⟩:=g6.open2
 refine hK _ _ rfl ⟨hb_19,(ai hs.g0 (ai hs.g3 (ai hs.g2 trivial)))⟩ ?_
 clear hK K
 refine f0 ?_
 refine e0 hs ?_;clear hs;intro w_20 hs n20
 refine tl ?_
 refine .s4 hs.g1 (fun _=>hs.u1 kb_b3) ?_ (e:=fun _ hs=>(ai hs.g0 (ai hs.g3 (ai hs.g2 trivial))));clear hs;intro w_21 hs hd21 ho21
 apply wpTail_end
 refine hK3 _ _ ?_
 refine wp_ret ?_
 try dsimp only [Exit.then,Exit.inBlock]
 obtain⟨r0_0,r0_1,r0_2,r0_3⟩:=hs.g1.f4
 refine bodyPost_ret (v:=(.agg #[.bool n_g3,.slice o_g3 k_g3 c_g3,.bool n_g6,.slice o_g6 k_g6 c_g6])) (by simp[results,Tryz.results36,go_sem,r0_0,r0_1,r0_2,r0_3]) rfl ?_
 have k10_21:=((((((((((kb n11).o hd12 ho12).b n13).b n14).b hb_15).b n16).b hb_17).b n18).b hb_19).b n20).o hd21 ho21
 replace g3:=g3.k k10_21
 have k19_21:=(kb n20).o hd21 ho21
 replace g6:=g6.k k19_21
 exact⟨_,rfl,.mk' g3 g6,hs.b⟩
theorem rgNeg_any (ha:PN w va x l y m) (hl:l≤100000000) (hm:m≤100000000) :
  Calls Tryz.prog 76 #[va] w fun e w'=>∃r,e = .returned r∧PC w' r (-x) (-y)∧Below w.heap.size w w':=by
 obtain⟨n_0a,o_0a,k_0a,c_0a,n_0b,o_0b,k_0b,c_0b,rfl,ha1,ha2⟩:=ha
 go_enter Tryz.func76,Tryz.ntmps76
 have hs:=St.nil w
 refine zk fun K1 hK1=>rg [0,1] ?_
 refine sq ?_
 refine .al hs ?_;clear hs;intro p_b1 w_1 hs n1 kb_b1
 refine sq ?_
 refine .al hs ?_;clear hs;intro p_b2 w_2 hs n2 kb_b2
 refine ze (hK1 _ _ ?_)
 refine zk fun K2 hK2 => ?_
 refine wp_region_f4 [(0,false),(1,false),(3,false),(4,false),(2,true),(5,true),(6,false)] [7] [] (fun _=>default) [99,0,99,99,0,99,99,99] [] (.c hs.g1 .n) fn fun w_3 n3 => ?_
 replace hs:=hs.bl n3
 refine f0 ?_
 refine f4 ?_
 refine f0 ?_
 refine f4 ?_
 refine fl fun w_4 n4 => ?_
 replace hs:=hs.bl n4
 intro K hK
 have k0_4:=(((kb n1).b n2).b n3).b n4
 replace ha1:=ha1.k k0_4
 go_big_op
 go_fit (rneg_any ha1 (by omega) )
 rintro e w_5 ⟨v_g1,rfl,g1,hb_5⟩
 replace hs:=hs.bl hb_5
 replace g1:=g1.rd
 obtain⟨n_g1,o_g1,k_g1,c_g1,rfl⟩:=g1.open2
 refine hK _ _ rfl ⟨hb_5,(ai hs.g1 trivial)⟩ ?_
 clear hK K
 refine fl fun w_6 n6 => ?_
 replace hs:=hs.bl n6
 intro K hK
 have k0_6:=(k0_4.b hb_5).b n6
 replace ha2:=ha2.k k0_6
 go_big_op
 go_fit (rneg_any ha2 (by omega) )
 rintro e w_7 ⟨v_g2,rfl,g2,hb_7⟩
 replace hs:=hs.bl hb_7
 replace g2:=g2.rd
 obtain⟨n_g2,o_g2,k_g2,c_g2,rfl⟩:=g2.open2
 refine hK _ _ rfl ⟨hb_7,(ai hs.g1 trivial)⟩ ?_
 clear hK K
 refine f0 ?_
 refine e0 hs ?_;clear hs;intro w_8 hs n8
 refine tl ?_
 refine .s4 hs.g0 (fun _=>hs.u0 kb_b2) ?_ (e:=fun _ hs=>(ai hs.g1 trivial));clear hs;intro w_9 hs hd9 ho9
 apply wpTail_end
 refine hK2 _ _ ?_
 refine wp_ret ?_
 try dsimp only [Exit.then,Exit.inBlock]
 obtain⟨r0_0,r0_1,r0_2,r0_3⟩:=hs.g0.f4
 refine bodyPost_ret (v:=(.agg #[.bool n_g1,.slice o_g1 k_g1 c_g1,.bool n_g2,.slice o_g2 k_g2 c_g2])) (by simp[results,Tryz.results76,go_sem,r0_0,r0_1,r0_2,r0_3]) rfl ?_
 have k5_9:=(((kb n6).b hb_7).b n8).o hd9 ho9
 replace g1:=g1.k k5_9
 have k7_9:=(kb n8).o hd9 ho9
 replace g2:=g2.k k7_9
 exact⟨_,rfl,.mk' g1 g2,hs.b⟩
theorem rgConj_any (ha:PN w va x l y m) (hl:l≤100000000) (hm:m≤100000000) :
  Calls Tryz.prog 79 #[va] w fun e w'=>∃r,e = .returned r∧PC w' r x (-y)∧Below w.heap.size w w':=by
 obtain⟨n_0a,o_0a,k_0a,c_0a,n_0b,o_0b,k_0b,c_0b,rfl,ha1,ha2⟩:=ha
 go_enter Tryz.func79,Tryz.ntmps79
 have hs:=St.nil w
 refine zk fun K1 hK1=>rg [0,1] ?_
 refine sq ?_
 refine .al hs ?_;clear hs;intro p_b1 w_1 hs n1 kb_b1
 refine sq ?_
 refine .al hs ?_;clear hs;intro p_b2 w_2 hs n2 kb_b2
 refine ze (hK1 _ _ ?_)
 refine zk fun K2 hK2 => ?_
 refine wp_region_f4 [(0,false),(1,false),(3,false),(4,false),(2,true),(5,true),(6,false)] [7] [] (fun _=>default) [99,0,99,99,0,99,99,99] [] (.c hs.g1 .n) fn fun w_3 n3 => ?_
 replace hs:=hs.bl n3
 refine f0 ?_
 refine f4 ?_
 refine f0 ?_
 refine f4 ?_
 refine fl fun w_4 n4 => ?_
 replace hs:=hs.bl n4
 intro K hK
 have k0_4:=(((kb n1).b n2).b n3).b n4
 replace ha1:=ha1.k k0_4
 go_big_op
 go_fit (rnorm_any ha1 (by omega) )
 rintro e w_5 ⟨v_g1,rfl,g1,hb_5⟩
 replace hs:=hs.bl hb_5
 replace g1:=g1.rd
 obtain⟨n_g1,o_g1,k_g1,c_g1,rfl⟩:=g1.open2
 refine hK _ _ rfl ⟨hb_5,(ai hs.g1 trivial)⟩ ?_
 clear hK K
 refine fl fun w_6 n6 => ?_
 replace hs:=hs.bl n6
 intro K hK
 have k0_6:=(k0_4.b hb_5).b n6
 replace ha2:=ha2.k k0_6
 go_big_op
 go_fit (rneg_any ha2 (by omega) )
 rintro e w_7 ⟨v_g2,rfl,g2,hb_7⟩
 replace hs:=hs.bl hb_7
 replace g2:=g2.rd
 obtain⟨n_g2,o_g2,k_g2,c_g2,rfl⟩:=g2.open2
 refine hK _ _ rfl ⟨hb_7,(ai hs.g1 trivial)⟩ ?_
 clear hK K
 refine f0 ?_
 refine e0 hs ?_;clear hs;intro w_8 hs n8
 refine tl ?_
 refine .s4 hs.g0 (fun _=>hs.u0 kb_b2) ?_ (e:=fun _ hs=>(ai hs.g1 trivial));clear hs;intro w_9 hs hd9 ho9
 apply wpTail_end
 refine hK2 _ _ ?_
 refine wp_ret ?_
 try dsimp only [Exit.then,Exit.inBlock]
 obtain⟨r0_0,r0_1,r0_2,r0_3⟩:=hs.g0.f4
 refine bodyPost_ret (v:=(.agg #[.bool n_g1,.slice o_g1 k_g1 c_g1,.bool n_g2,.slice o_g2 k_g2 c_g2])) (by simp[results,Tryz.results79,go_sem,r0_0,r0_1,r0_2,r0_3]) rfl ?_
 have k5_9:=(((kb n6).b hb_7).b n8).o hd9 ho9
 replace g1:=g1.k k5_9
 have k7_9:=(kb n8).o hd9 ho9
 replace g2:=g2.k k7_9
 exact⟨_,rfl,.mk' g1 g2,hs.b⟩
theorem rgCanonical_any (ha:PN w va x l y m) (hl:l≤100000000) (hm:m≤100000000) :
  Calls Tryz.prog 77 #[va] w fun e w'=>∃r,e = .returned r∧PC w' r x y∧Below w.heap.size w w':=by
 obtain⟨n_0a,o_0a,k_0a,c_0a,n_0b,o_0b,k_0b,c_0b,rfl,ha1,ha2⟩:=ha
 go_enter Tryz.func77,Tryz.ntmps77
 have hs:=St.nil w
 refine zk fun K1 hK1=>rg [0,1] ?_
 refine sq ?_
 refine .al hs ?_;clear hs;intro p_b1 w_1 hs n1 kb_b1
 refine sq ?_
 refine .al hs ?_;clear hs;intro p_b2 w_2 hs n2 kb_b2
 refine ze (hK1 _ _ ?_)
 refine zk fun K2 hK2 => ?_
 refine wp_region_f4 [(0,false),(1,false),(3,false),(4,false),(2,true),(5,true),(6,false)] [7] [] (fun _=>default) [99,0,99,99,0,99,99,99] [] (.c hs.g1 .n) fn fun w_3 n3 => ?_
 replace hs:=hs.bl n3
 refine f0 ?_
 refine f4 ?_
 refine f0 ?_
 refine f4 ?_
 refine fl fun w_4 n4 => ?_
 replace hs:=hs.bl n4
 intro K hK
 have k0_4:=(((kb n1).b n2).b n3).b n4
 replace ha1:=ha1.k k0_4
 go_big_op
 go_fit (rnorm_any ha1 (by omega) )
 rintro e w_5 ⟨v_g1,rfl,g1,hb_5⟩
 replace hs:=hs.bl hb_5
 replace g1:=g1.rd
 obtain⟨n_g1,o_g1,k_g1,c_g1,rfl⟩:=g1.open2
 refine hK _ _ rfl ⟨hb_5,(ai hs.g1 trivial)⟩ ?_
 clear hK K
 refine fl fun w_6 n6 => ?_
 replace hs:=hs.bl n6
 intro K hK
 have k0_6:=(k0_4.b hb_5).b n6
 replace ha2:=ha2.k k0_6
 go_big_op
 go_fit (rnorm_any ha2 (by omega) )
 rintro e w_7 ⟨v_g2,rfl,g2,hb_7⟩
 replace hs:=hs.bl hb_7
 replace g2:=g2.rd
 obtain⟨n_g2,o_g2,k_g2,c_g2,rfl⟩:=g2.open2
 refine hK _ _ rfl ⟨hb_7,(ai hs.g1 trivial)⟩ ?_
 clear hK K
 refine f0 ?_
 refine e0 hs ?_;clear hs;intro w_8 hs n8
 refine tl ?_
 refine .s4 hs.g0 (fun _=>hs.u0 kb_b2) ?_ (e:=fun _ hs=>(ai hs.g1 trivial));clear hs;intro w_9 hs hd9 ho9
 apply wpTail_end
 refine hK2 _ _ ?_
 refine wp_ret ?_
 try dsimp only [Exit.then,Exit.inBlock]
 obtain⟨r0_0,r0_1,r0_2,r0_3⟩:=hs.g0.f4
 refine bodyPost_ret (v:=(.agg #[.bool n_g1,.slice o_g1 k_g1 c_g1,.bool n_g2,.slice o_g2 k_g2 c_g2])) (by simp[results,Tryz.results77,go_sem,r0_0,r0_1,r0_2,r0_3]) rfl ?_
 have k5_9:=(((kb n6).b hb_7).b n8).o hd9 ho9
 replace g1:=g1.k k5_9
 have k7_9:=(kb n8).o hd9 ho9
 replace g2:=g2.k k7_9
 exact⟨_,rfl,.mk' g1 g2,hs.b⟩
theorem rgNorm_any (ha:PN w va x l y m) (hl:l≤40000000) (hm:m≤40000000) :
  Calls Tryz.prog 169 #[va] w fun e w'=>∃r,e = .returned r∧ZC w' r (gN x y)∧Below w.heap.size w w':=by
 unfold gN
 obtain⟨n_0a,o_0a,k_0a,c_0a,n_0b,o_0b,k_0b,c_0b,rfl,ha1,ha2⟩:=ha
 go_enter Tryz.func169,Tryz.ntmps169
 have hs:=St.nil w
 refine zk fun K1 hK1=>rg [0,1] ?_
 refine sq ?_
 refine .al hs ?_;clear hs;intro p_b1 w_1 hs n1 kb_b1
 refine sq ?_
 refine .al hs ?_;clear hs;intro p_b2 w_2 hs n2 kb_b2
 refine ze (hK1 _ _ ?_)
 refine zk fun K2 hK2 => ?_
 refine wp_region_f4 [(0,false),(1,false),(2,false),(3,false),(5,false),(6,false),(7,false),(8,false),(4,true),(9,true),(10,true)] [11] [] (fun _=>default) [99,0,99,0,99,99,0,99,0,99,99,99] [] (.c hs.g1 .n) fn fun w_3 n3 => ?_
 replace hs:=hs.bl n3
 refine f0 ?_
 refine f4 ?_
 refine f0 ?_
 refine f4 ?_
 refine f0 ?_
 refine f4 ?_
 refine f0 ?_
 refine f4 ?_
 refine fl fun w_4 n4 => ?_
 replace hs:=hs.bl n4
 intro K hK
 have k0_4:=(((kb n1).b n2).b n3).b n4
 replace ha1:=ha1.k k0_4
 go_big_op
 go_fit (rzmul_any ha1 ha1 (by omega) (by omega) )
 rintro e w_5 ⟨v_g1,rfl,g1,hb_5⟩
 replace hs:=hs.bl hb_5
 replace g1:=g1.rd
 obtain⟨n_g1,o_g1,k_g1,c_g1,rfl⟩:=g1.open2
 have Lg1:=hide (g1.lenOf (zlen_mul (ha1.len) (ha1.len)))
 refine hK _ _ rfl ⟨hb_5,(ai hs.g1 trivial)⟩ ?_
 clear hK K
 refine fl fun w_6 n6 => ?_
 replace hs:=hs.bl n6
 intro K hK
 have k0_6:=(k0_4.b hb_5).b n6
 replace ha2:=ha2.k k0_6
 go_big_op
 go_fit (rzmul_any ha2 ha2 (by omega) (by omega) )
 rintro e w_7 ⟨v_g2,rfl,g2,hb_7⟩
 replace hs:=hs.bl hb_7
 replace g2:=g2.rd
 obtain⟨n_g2,o_g2,k_g2,c_g2,rfl⟩:=g2.open2
 have Lg2:=hide (g2.lenOf (zlen_mul (ha2.len) (ha2.len)))
 refine hK _ _ rfl ⟨hb_7,(ai hs.g1 trivial)⟩ ?_
 clear hK K
 refine fl fun w_8 n8 => ?_
 replace hs:=hs.bl n8
 intro K hK
 have k5_8:=((kb n6).b hb_7).b n8
 replace g1:=g1.k k5_8
 have k7_8:=kb n8
 replace g2:=g2.k k7_8
 go_big_op
 go_fit (rzadd_any (g1.zn Lg1.out) (g2.zn Lg2.out) (by omega) (by omega) )
 rintro e w_9 ⟨v_g3,rfl,g3,hb_9⟩
 replace hs:=hs.bl hb_9
 replace g3:=g3.rd
 obtain⟨n_g3,o_g3,k_g3,c_g3,rfl⟩:=g3.open2
 refine hK _ _ rfl ⟨hb_9,(ai hs.g1 trivial)⟩ ?_
 clear hK K
 refine e0 hs ?_;clear hs;intro w_10 hs n10
 refine tl ?_
 refine .s2 hs.g0 (fun _=>hs.u0 kb_b2) ?_ (e:=fun _ hs=>(ai hs.g1 trivial));clear hs;intro w_11 hs hd11 ho11
 apply wpTail_end
 refine hK2 _ _ ?_
 refine wp_ret ?_
 try dsimp only [Exit.then,Exit.inBlock]
 obtain⟨r0_0,r0_1⟩:=hs.g0.f2
 refine bodyPost_ret (v:=(.agg #[.bool n_g3,.slice o_g3 k_g3 c_g3])) (by simp[results,Tryz.results169,go_sem,r0_0,r0_1]) rfl ?_
 have k9_11:=(kb n10).o hd11 ho11
 replace g3:=g3.k k9_11
 exact⟨_,rfl,g3,hs.b⟩
theorem rgSame_any (ha:PC w va x y) (hq:PN w vb x l y m) (hl:l≤100000000) (hm:m≤100000000) :
  Calls Tryz.prog 71 #[va,vb] w fun e w'=>e = .returned (.bool true)∧Below w.heap.size w w':=by
 obtain⟨n_0a,o_0a,k_0a,c_0a,n_0b,o_0b,k_0b,c_0b,rfl,ha1,ha2⟩:=ha
 obtain⟨n_1a,o_1a,k_1a,c_1a,n_1b,o_1b,k_1b,c_1b,rfl,hq1,hq2⟩:=hq
 go_enter Tryz.func71,Tryz.ntmps71
 have hs:=St.nil w
 refine zk fun K1 hK1=>rg [0,1,2] ?_
 refine sq ?_
 refine .al hs ?_;clear hs;intro p_b1 w_1 hs n1 kb_b1
 refine sq ?_
 refine .al hs ?_;clear hs;intro p_b2 w_2 hs n2 kb_b2
 refine sm (ze (hK1 _ _ ?_))
 refine zk fun K2 hK2=>rg [0,1,2,3,4,5,6,7,8,9,10,11,12] ?_
 refine sr ?_
 refine sq ?_
 refine .r4 hs.g1.f4 ?_
 refine sr ?_
 refine sq ?_
 refine .r4 hs.g0.f4 ?_
 refine sq ?_
 intro K hK
 have k0_2:=(kb n1).b n2
 replace ha1:=ha1.k k0_2
 replace hq1:=hq1.k k0_2
 go_big_op
 go_fit (rsame_zz ha1 hq1 (by omega) )
 rintro e w_3 ⟨rfl,hb_3⟩
 replace hs:=hs.bl hb_3
 refine hK _ _ rfl trivial ?_
 clear hK K
 refine xmr ?_
 refine sq ?_
 refine .r4 hs.g1.f4 ?_
 refine sr ?_
 refine sq ?_
 refine .r4 hs.g0.f4 ?_
 refine sq ?_
 intro K hK
 have k0_3:=k0_2.b hb_3
 replace ha2:=ha2.k k0_3
 replace hq2:=hq2.k k0_3
 go_big_op
 go_fit (rsame_zz ha2 hq2 (by omega) )
 rintro e w_4 ⟨rfl,hb_4⟩
 replace hs:=hs.bl hb_4
 refine hK _ _ rfl trivial ?_
 clear hK K
 refine sr ?_
 refine sm (ze (hK2 _ _ ?_))
 refine wp_ret ?_
 try dsimp only [Exit.then,Exit.inBlock]
 refine bodyPost_ret (v:=(.bool true)) (by simp[results,Tryz.results71,go_sem]) rfl ?_
 have hb:=hs.b
 exact⟨rfl,hb⟩
theorem rgI_any (a b:Int) (w:World) (h1 : -9223372036854775808≤a) (h2:a≤9223372036854775807) (h3 : -9223372036854775808≤b) (h4:b≤9223372036854775807) :
  Calls Tryz.prog 72 #[.int .i64 a,.int .i64 b] w fun e w'=>∃r,e = .returned r∧PC w' r a b∧Below w.heap.size w w':=by
 go_enter Tryz.func72,Tryz.ntmps72
 have hs:=St.nil w
 refine zk fun K1 hK1=>rg [0] ?_
 refine sq ?_
 refine .al hs ?_;clear hs;intro p_b1 w_1 hs n1 kb_b1
 refine ze (hK1 _ _ ?_)
 refine zk fun K2 hK2=>rg [0,1,2,3,4,5] ?_
 refine sm ?_
 refine sq ?_
 intro K hK
 go_big_op
 go_fit (ri_any a _ h1 h2)
 rintro e w_2 ⟨v_g1,rfl,g1,hb_2⟩
 replace hs:=hs.bl hb_2
 replace g1:=g1.rd
 obtain⟨n_g1,o_g1,k_g1,c_g1,rfl⟩:=g1.open2
 refine hK _ _ rfl trivial ?_
 clear hK K
 refine sm ?_
 refine sq ?_
 intro K hK
 go_big_op
 go_fit (ri_any b _ h3 h4)
 rintro e w_3 ⟨v_g2,rfl,g2,hb_3⟩
 replace hs:=hs.bl hb_3
 replace g2:=g2.rd
 obtain⟨n_g2,o_g2,k_g2,c_g2,rfl⟩:=g2.open2
 refine hK _ _ rfl trivial ?_
 clear hK K
 refine sr ?_
 refine sq ?_
 refine .s4 hs.g0 (fun _=>hs.u0 kb_b1) ?_;clear hs;intro w_4 hs hd4 ho4
 refine ze (hK2 _ _ ?_)
 refine wp_ret ?_
 try dsimp only [Exit.then,Exit.inBlock]
 obtain⟨r0_0,r0_1,r0_2,r0_3⟩:=hs.g0.f4
 refine bodyPost_ret (v:=(.agg #[.bool n_g1,.slice o_g1 k_g1 c_g1,.bool n_g2,.slice o_g2 k_g2 c_g2])) (by simp[results,Tryz.results72,go_sem,r0_0,r0_1,r0_2,r0_3]) rfl ?_
 have k2_4:=(kb hb_3).o hd4 ho4
 replace g1:=g1.k k2_4
 have k3_4:=ko hd4 ho4
 replace g2:=g2.k k3_4
 exact⟨_,rfl,.mk' g1 g2,hs.b⟩
theorem gFrom_any (a b:Int) (w:World) (h1 : -9223372036854775808≤a) (h2:a≤9223372036854775807) (h3 : -9223372036854775808≤b) (h4:b≤9223372036854775807) :
  Calls Tryz.prog 12 #[.int .i64 a,.int .i64 b] w fun e w'=>∃r,e = .returned r∧PC w' r a b∧Below w.heap.size w w':=by
 go_enter Tryz.func12,Tryz.ntmps12
 have hs:=St.nil w
 refine zk fun K1 hK1=>rg [0] ?_
 refine sq ?_
 refine .al hs ?_;clear hs;intro p_b1 w_1 hs n1 kb_b1
 refine ze (hK1 _ _ ?_)
 refine zk fun K2 hK2=>rg [0,1,2,3,4,5] ?_
 refine sm ?_
 refine sq ?_
 intro K hK
 go_big_op
 go_fit (from_any a _ h1 h2)
 rintro e w_2 ⟨v_g1,rfl,g1,hb_2⟩
 replace hs:=hs.bl hb_2
 replace g1:=g1.rd
 obtain⟨n_g1,o_g1,k_g1,c_g1,rfl⟩:=g1.open2
 refine hK _ _ rfl trivial ?_
 clear hK K
 refine sm ?_
 refine sq ?_
 intro K hK
 go_big_op
 go_fit (from_any b _ h3 h4)
 rintro e w_3 ⟨v_g2,rfl,g2,hb_3⟩
 replace hs:=hs.bl hb_3
 replace g2:=g2.rd
 obtain⟨n_g2,o_g2,k_g2,c_g2,rfl⟩:=g2.open2
 refine hK _ _ rfl trivial ?_
 clear hK K
 refine sr ?_
 refine sq ?_
 refine .s4 hs.g0 (fun _=>hs.u0 kb_b1) ?_;clear hs;intro w_4 hs hd4 ho4
 refine ze (hK2 _ _ ?_)
 refine wp_ret ?_
 try dsimp only [Exit.then,Exit.inBlock]
 obtain⟨r0_0,r0_1,r0_2,r0_3⟩:=hs.g0.f4
 refine bodyPost_ret (v:=(.agg #[.bool n_g1,.slice o_g1 k_g1 c_g1,.bool n_g2,.slice o_g2 k_g2 c_g2])) (by simp[results,Tryz.results12,go_sem,r0_0,r0_1,r0_2,r0_3]) rfl ?_
 have k2_4:=(kb hb_3).o hd4 ho4
 replace g1:=g1.k k2_4
 have k3_4:=ko hd4 ho4
 replace g2:=g2.k k3_4
 exact⟨_,rfl,.mk' g1 g2,hs.b⟩
theorem rgNull_yes (ha:PN w va 0 l 0 m) (hl:l≤100000000) (hm:m≤100000000) :
  Calls Tryz.prog 80 #[va] w fun e w'=>e = .returned (.bool true)∧Below w.heap.size w w':=by
 obtain⟨n_0a,o_0a,k_0a,c_0a,n_0b,o_0b,k_0b,c_0b,rfl,ha1,ha2⟩:=ha
 go_enter Tryz.func80,Tryz.ntmps80
 have hs:=St.nil w
 refine zk fun K1 hK1=>rg [0,1] ?_
 refine sq ?_
 refine .al hs ?_;clear hs;intro p_b1 w_1 hs n1 kb_b1
 refine sm (ze (hK1 _ _ ?_))
 refine zk fun K2 hK2=>rg [0,1,2,3,4,5,6,7,8,9,10] ?_
 refine sr ?_
 refine sq ?_
 refine .r4 hs.g0.f4 ?_
 refine sq ?_
 intro K hK
 have k0_1:=kb n1
 replace ha1:=ha1.k k0_1
 go_big_op
 go_fit (rzsign_any ha1 (by omega) )
 rintro e w_2 ⟨rfl,hb_2⟩
 replace hs:=hs.bl hb_2
 refine hK _ _ rfl trivial ?_
 clear hK K
 refine xrm ?_
 refine sr ?_
 refine sq ?_
 refine .r4 hs.g0.f4 ?_
 refine sq ?_
 intro K hK
 have k0_2:=k0_1.b hb_2
 replace ha2:=ha2.k k0_2
 go_big_op
 go_fit (rzsign_any ha2 (by omega) )
 rintro e w_3 ⟨rfl,hb_3⟩
 replace hs:=hs.bl hb_3
 refine hK _ _ rfl trivial ?_
 clear hK K
 refine xrr ?_
 refine sm (ze (hK2 _ _ ?_))
 refine wp_ret ?_
 try dsimp only [Exit.then,Exit.inBlock]
 refine bodyPost_ret (v:=(.bool true)) (by simp[results,Tryz.results80,go_sem]) rfl ?_
 have hb:=hs.b
 exact⟨rfl,hb⟩
theorem rgNull_no1 (ha:PN w va x l y m) (hl:l≤100000000) (hm:m≤100000000) (h:x≠0) :
  Calls Tryz.prog 80 #[va] w fun e w'=>e = .returned (.bool false)∧Below w.heap.size w w':=by
 have H0:(x.sign==0)=false:=by simpa using h
 obtain⟨S,hS⟩:∃S,x.sign=S:=⟨_,rfl⟩
 rw[hS] at H0
 have HS:=hide hS
 clear h hS
 obtain⟨n_0a,o_0a,k_0a,c_0a,n_0b,o_0b,k_0b,c_0b,rfl,ha1,ha2⟩:=ha
 go_enter Tryz.func80,Tryz.ntmps80
 have hs:=St.nil w
 refine zk fun K1 hK1=>rg [0,1] ?_
 refine sq ?_
 refine .al hs ?_;clear hs;intro p_b1 w_1 hs n1 kb_b1
 refine sm (ze (hK1 _ _ ?_))
 refine zk fun K2 hK2=>rg [0,1,2,3,4,5,6,7,8,9,10] ?_
 refine sr ?_
 refine sq ?_
 refine .r4 hs.g0.f4 ?_
 refine sq ?_
 intro K hK
 have k0_1:=kb n1
 replace ha1:=ha1.k k0_1
 go_big_op
 go_fit (rzsign_any ha1 (by omega) )
 rintro e w_2 ⟨rfl,hb_2⟩
 replace hs:=hs.bl hb_2
 rw[HS.out]
 refine hK _ _ rfl trivial ?_
 clear hK K
 refine xrm ?_
 refine sk ?_
 refine sk ?_
 refine sk ?_
 refine sk ?_
 refine sr ?_
 refine sm (ze (hK2 _ _ ?_))
 refine wp_ret ?_
 try dsimp only [Exit.then,Exit.inBlock]
 refine bodyPost_ret (v:=(.bool false)) (by simp[results,Tryz.results80,go_sem]) rfl ?_
 have hb:=hs.b
 exact⟨rfl,hb⟩
theorem rgNull_no2 (ha:PN w va 0 l y m) (hl:l≤100000000) (hm:m≤100000000) (h:y≠0) :
  Calls Tryz.prog 80 #[va] w fun e w'=>e = .returned (.bool false)∧Below w.heap.size w w':=by
 have H0:(y.sign==0)=false:=by simpa using h
 obtain⟨S,hS⟩:∃S,y.sign=S:=⟨_,rfl⟩
 rw[hS] at H0
 have HS:=hide hS
 clear h hS
 obtain⟨n_0a,o_0a,k_0a,c_0a,n_0b,o_0b,k_0b,c_0b,rfl,ha1,ha2⟩:=ha
 go_enter Tryz.func80,Tryz.ntmps80
 have hs:=St.nil w
 refine zk fun K1 hK1=>rg [0,1] ?_
 refine sq ?_
 refine .al hs ?_;clear hs;intro p_b1 w_1 hs n1 kb_b1
 refine sm (ze (hK1 _ _ ?_))
 refine zk fun K2 hK2=>rg [0,1,2,3,4,5,6,7,8,9,10] ?_
 refine sr ?_
 refine sq ?_
 refine .r4 hs.g0.f4 ?_
 refine sq ?_
 intro K hK
 have k0_1:=kb n1
 replace ha1:=ha1.k k0_1
 go_big_op
 go_fit (rzsign_any ha1 (by omega) )
 rintro e w_2 ⟨rfl,hb_2⟩
 replace hs:=hs.bl hb_2
 refine hK _ _ rfl trivial ?_
 clear hK K
 refine xrm ?_
 refine sr ?_
 refine sq ?_
 refine .r4 hs.g0.f4 ?_
 refine sq ?_
 intro K hK
 have k0_2:=k0_1.b hb_2
 replace ha2:=ha2.k k0_2
 go_big_op
 go_fit (rzsign_any ha2 (by omega) )
 rintro e w_3 ⟨rfl,hb_3⟩
 replace hs:=hs.bl hb_3
 rw[HS.out]
 refine hK _ _ rfl trivial ?_
 clear hK K
 refine xrr ?_
 refine sm (ze (hK2 _ _ ?_))
 refine wp_ret ?_
 try dsimp only [Exit.then,Exit.inBlock]
 refine bodyPost_ret (v:=(.bool false)) (by simp[results,Tryz.results80,go_sem]) rfl ?_
 have hb:=hs.b
 exact⟨rfl,hb⟩
theorem rgNull_any (ha:PN w va x l y m) (hl:l≤100000000) (hm:m≤100000000) :
  Calls Tryz.prog 80 #[va] w fun e w'=>e = .returned (.bool (decide (x=0∧y=0)))∧Below w.heap.size w w':=by
 by_cases h:x=0
 ·by_cases h2:y=0
  ·rw[decide_eq_true (ai h h2)]
   subst h h2
   exact rgNull_yes ha hl hm
  ·rw[decide_eq_false (fun c=>h2 c.2)]
   subst h
   exact rgNull_no2 ha hl hm h2
 ·rw[decide_eq_false (fun c=>h c.1)];exact rgNull_no1 ha hl hm h
end
section
variable {w:World} {l n k cm:Nat} {om:Option Addr} {Ms:List (List (Int × Int))}
theorem rCols_any (hm:MN l w om Ms) (hn:Ms.length=n) (hk:wd Ms=k) :
  Calls Tryz.prog 8 #[.slice om n cm] w fun e w'=>e = .returned (.int .i64 (k:Int))∧Below w.heap.size w w':=by
 rcases Nat.eq_zero_or_pos n with h0 | h0
 ·have hk0:0=k:=by rw[←hk,wd_nil (hn.trans h0)]
  subst hk0 h0
  clear hk hn hm
  go_enter Tryz.func8,Tryz.ntmps8
  have hs:=St.nil w
  refine zk fun K1 hK1=>rg [0] ?_
  refine sm (ze (hK1 _ _ ?_))
  refine zk fun K2 hK2 => ?_
  refine zk fun K3 hK3=>rg [0,1,2] ?_
  refine xmr ?_
  refine sr (ze (hK3 _ _ ?_))
  refine ct ?_
  refine zk fun K4 hK4=>rg [0] ?_
  refine sm (ze (hK4 _ _ ?_))
  refine wp_ret ?_
  try dsimp only [Exit.then,Exit.inBlock]
  refine bodyPost_ret (v:=(.int .i64 0)) (by simp[results,Tryz.results8,go_sem]) rfl ?_
  exact⟨rfl,hs.b⟩
 ·obtain⟨g,off,cur,ty,fz,rfl,x,hr⟩:=hm.box (by omega)
  obtain⟨o0,c0,e0,s0⟩:=hr 0 (by omega)
  rw[wd_0 (by omega),hk,Nat.add_zero] at e0
  clear hm hr s0 hk hn
  go_enter Tryz.func8,Tryz.ntmps8
  have hs:=St.nil w
  refine zk fun K1 hK1=>rg [0] ?_
  refine sm (ze (hK1 _ _ ?_))
  refine zk fun K2 hK2 => ?_
  refine zk fun K3 hK3=>rg [0,1,2] ?_
  refine xmr ?_
  refine sr (ze (hK3 _ _ ?_))
  refine cf ?_
  refine wp_skip ?_
  refine hK2 _ _ ?_
  refine zk fun K4 hK4=>rg [0,1,2,3,4] ?_
  refine xmr ?_
  refine sq ?_
  refine .r1 (x.cell _ e0) ?_
  refine sr ?_
  refine sm (ze (hK4 _ _ ?_))
  refine wp_ret ?_
  try dsimp only [Exit.then,Exit.inBlock]
  refine bodyPost_ret (v:=(.int .i64 ((k:Nat):Int))) (by simp[results,Tryz.results8,go_sem]) rfl ?_
  exact⟨rfl,hs.b⟩
theorem rGood_any (hm:MN l w om Ms) (hn:Ms.length=n) (hl:n≤1000000000) :
  Calls Tryz.prog 7 #[.slice om n cm] w fun e w'=>e = .returned (.bool (decide (gd Ms)))∧Below w.heap.size w w':=by
 obtain⟨k,hk⟩:∃k,wd Ms=k:=⟨_,rfl⟩
 have HG:=hide (show (n≤64∧k≤64∧∀r ∈ Ms,r.length=k) ↔ gd Ms by unfold gd;rw[hk,hn])
 have HM:=hide hm
 by_cases hn64:64<n
 ·have hg:decide (gd Ms)=false:=decide_eq_false fun h=>by have:=(HG.out.2 h).1;omega
  have Hg:=hide hg
  clear hg hm
  go_enter Tryz.func7,Tryz.ntmps7
  have hs:=St.nil w
  refine zk fun K1 hK1=>rg [0] ?_
  refine sm (ze (hK1 _ _ ?_))
  refine zk fun K2 hK2 => ?_
  refine zk fun K3 hK3=>rg [0,1,2] ?_
  refine xmr ?_
  refine sr (ze (hK3 _ _ ?_))
  refine ct ?_
  refine zk fun K4 hK4=>rg [0] ?_
  refine sm (ze (hK4 _ _ ?_))
  refine wp_ret ?_
  try dsimp only [Exit.then,Exit.inBlock]
  refine bodyPost_ret (v:=(.bool false)) (by simp[results,Tryz.results7,go_sem]) rfl ?_
  exact⟨by rw[Hg.out],hs.b⟩
 ·have H0:=hide (show 0<n→∃g off cur ty fz o0 c0,om=some ⟨g,off,none⟩∧Bs w g cur ty fz∧Rws (RN l) w cur off Ms∧cur[off]? = some (.slice o0 k c0) from fun h0=>by
   obtain⟨g,off,cur,ty,fz,e,x,hr⟩:=hm.box (by omega)
   obtain⟨o0,c0,ez0,s0⟩:=hr 0 (by omega)
   rw[wd_0 (by omega),hk,Nat.add_zero] at ez0
   exact⟨g,off,cur,ty,fz,o0,c0,e,x,hr,ez0⟩)
  have HK:=hide hk
  clear hm hk
  go_enter Tryz.func7,Tryz.ntmps7
  have hs:=St.nil w
  refine zk fun K1 hK1=>rg [0] ?_
  refine sm (ze (hK1 _ _ ?_))
  refine zk fun K2 hK2 => ?_
  refine zk fun K3 hK3=>rg [0,1,2] ?_
  refine xmr ?_
  refine sr (ze (hK3 _ _ ?_))
  refine cf ?_
  refine wp_skip ?_
  refine hK2 _ _ ?_
  refine zk fun K4 hK4 => ?_
  refine zk fun K5 hK5=>rg [0] ?_
  refine sm (ze (hK5 _ _ ?_))
  refine wp_block ?_
  have hd1:=hs.2.1
  go_loopg [3] n (fun kk s3 wr=>∃i:Nat,s3 = .int .i64 (i:Int)∧i+kk=n∧Hid (∀j (hj:j<Ms.length),j<i→Ms[j].length=k∧k≤64)∧St w [] wr)
  case atStart=>exact⟨0,rfl,by omega,hide fun j _ h=>absurd h (Nat.not_lt_zero j),hs⟩
  case round =>
  clear hs
  obtain⟨i,rfl,hik,HJ,hs⟩:=hrel
  by_cases hi:i<n
  ·obtain⟨g,off,cur,ty,fz,o0,c0,rfl,x,hr,ez0⟩:=H0.out (by omega)
   obtain⟨oi,ci,ei,si⟩:=hr i (by omega)
   have x1:=x.bl hs.b
   have HI:=hide (show ∀k',Ms[i].length=k'→k'=k→k'≤64→∀j (hj:j<Ms.length),j<i+1→Ms[j].length=k∧k≤64 from fun k' e1 e2 e3 j hj h=>by
    rcases Nat.lt_succ_iff_lt_or_eq.1 h with h | h
    ·exact HJ.out j hj h
    ·subst h;omega)
   have HN:=hide (show (Ms[i].length≠k∨64<k)→decide (gd Ms)=false from fun h=>decide_eq_false fun hg=>by
    have:=(HG.out.2 hg).2.2 _ (List.getElem_mem (show i<Ms.length by omega))
    have:=(HG.out.2 hg).2.1
    omega)
   obtain⟨kr,hkr⟩:∃kr,Ms[i].length=kr:=⟨_,rfl⟩
   rw[hkr] at ei HN
   replace HI:=hide (HI.out kr hkr)
   clear hkr si x hr
   by_cases hkk:kr=k
   ·by_cases h64:64<kr
    ·have Hg:=hide (HN.out (Or.inr (by omega)))
     have t3:((kr:Int) != (k:Int))=false:=by rw[hkk];simp
     have t4:((64:Int)<(kr:Int))=True:=eq_true (by omega)
     clear hkk
     refine zk fun K6 hK6 => ?_
     refine zk fun K7 hK7=>rg [0,1,2,3] ?_
     refine xmm ?_
     refine sr ?_
     refine sr (ze (hK7 _ _ ?_))
     refine ct ?_
     refine wp_skip ?_
     refine hK6 _ _ ?_
     refine zk fun K8 hK8 => ?_
     refine wp_block ?_
     refine zk fun K9 hK9 => ?_
     refine wp_region_f4 [(0,false),(1,false),(2,false),(3,false),(4,false),(5,false),(6,false),(7,false),(8,false),(9,false),(10,false),(11,false),(12,false),(13,false),(14,false),(15,false),(16,false),(17,false)] [] [] (fun _=>default) [99,99,99,0,99,99,99,0,99,99,99,99,99,99,0,99,99,99] [] (.c x1 .n) fn fun w_2 n2 => ?_
     replace x1:=x1.bl n2;replace hs:=hs.bl n2
     refine fmv ?_
     refine fmv ?_
     refine f0 ?_
     apply wpFl_ld rfl rfl;(case h1=>intro w' hC K hK;have c0:=Bs.cell hC ((off+i)) ei;go_big_op;exact hK);iterate 4 kernel_rfl
     refine fb ?_
     refine fmv ?_
     refine f0 ?_
     apply wpFl_ld rfl rfl;(case h1=>intro w' hC K hK;have c0:=Bs.cell hC (off) ez0;go_big_op;exact hK);iterate 4 kernel_rfl
     refine fb ?_
     refine f0 ?_
     refine fmv ?_
     refine fmv ?_
     refine fmv ?_
     refine f0 ?_
     apply wpFl_ld rfl rfl;(case h1=>intro w' hC K hK;have c0:=Bs.cell hC ((off+i)) ei;go_big_op;exact hK);iterate 4 kernel_rfl
     refine fb ?_
     refine f0 ?_
     refine f0 ?_
     refine e0 hs ?_;clear hs;intro w_3 hs n3
     replace x1:=x1.bl n3
     apply wpTail_end
     refine hK9 _ _ ?_
     refine ct ?_
     refine zk fun K10 hK10=>rg [0] ?_
     refine sm (ze (hK10 _ _ ?_))
     refine wp_ret ?_
     try dsimp only [Exit.then,Exit.inBlock]
     refine bodyPost_ret (v:=(.bool false)) (by simp[results,Tryz.results7,go_sem]) rfl ?_
     exact⟨by rw[Hg.out],hs.b⟩
    ·have HI2:=hide (HI.out hkk (by omega))
     have t3:((kr:Int) != (k:Int))=false:=by rw[hkk];simp
     have t4:((64:Int)<(kr:Int))=False:=eq_false (by omega)
     clear hkk
     refine zk fun K6 hK6 => ?_
     refine zk fun K7 hK7=>rg [0,1,2,3] ?_
     refine xmm ?_
     refine sr ?_
     refine sr (ze (hK7 _ _ ?_))
     refine ct ?_
     refine wp_skip ?_
     refine hK6 _ _ ?_
     refine zk fun K8 hK8 => ?_
     refine wp_block ?_
     refine zk fun K9 hK9 => ?_
     refine wp_region_f4 [(0,false),(1,false),(2,false),(3,false),(4,false),(5,false),(6,false),(7,false),(8,false),(9,false),(10,false),(11,false),(12,false),(13,false),(14,false),(15,false),(16,false),(17,false)] [] [] (fun _=>default) [99,99,99,0,99,99,99,0,99,99,99,99,99,99,0,99,99,99] [] (.c x1 .n) fn fun w_2 n2 => ?_
     replace x1:=x1.bl n2;replace hs:=hs.bl n2
     refine fmv ?_
     refine fmv ?_
     refine f0 ?_
     apply wpFl_ld rfl rfl;(case h1=>intro w' hC K hK;have c0:=Bs.cell hC ((off+i)) ei;go_big_op;exact hK);iterate 4 kernel_rfl
     refine fb ?_
     refine fmv ?_
     refine f0 ?_
     apply wpFl_ld rfl rfl;(case h1=>intro w' hC K hK;have c0:=Bs.cell hC (off) ez0;go_big_op;exact hK);iterate 4 kernel_rfl
     refine fb ?_
     refine f0 ?_
     refine fmv ?_
     refine fmv ?_
     refine fmv ?_
     refine f0 ?_
     apply wpFl_ld rfl rfl;(case h1=>intro w' hC K hK;have c0:=Bs.cell hC ((off+i)) ei;go_big_op;exact hK);iterate 4 kernel_rfl
     refine fb ?_
     refine f0 ?_
     refine f0 ?_
     refine e0 hs ?_;clear hs;intro w_3 hs n3
     replace x1:=x1.bl n3
     apply wpTail_end
     refine hK9 _ _ ?_
     refine cf ?_
     refine wp_skip ?_
     refine hK8 _ _ ?_
     refine rg [0,1,2] ?_
     refine xmr ?_
     refine sm ?_
     apply wpSq_end
     refine ‹∀(a':Act) (w':World),Handed _ _ a' w'→_› _ _ ?_
     go_roundg (gk - 1)
     case rel=>exact⟨i+1,by rfl,by omega,HI2,hs⟩
     case measure=>omega
   ·have Hg:=hide (HN.out (Or.inl hkk))
    have t3:((kr:Int) != (k:Int))=true:=bne_iff_ne.2 (by omega)
    refine zk fun K6 hK6 => ?_
    refine zk fun K7 hK7=>rg [0,1,2,3] ?_
    refine xmm ?_
    refine sr ?_
    refine sr (ze (hK7 _ _ ?_))
    refine ct ?_
    refine wp_skip ?_
    refine hK6 _ _ ?_
    refine zk fun K8 hK8 => ?_
    refine wp_block ?_
    refine zk fun K9 hK9 => ?_
    refine wp_region_f4 [(0,false),(1,false),(2,false),(3,false),(4,false),(5,false),(6,false),(7,false),(8,false),(9,false),(10,false),(11,false),(12,false),(13,false),(14,false),(15,false),(16,false),(17,false)] [] [] (fun _=>default) [99,99,99,0,99,99,99,0,99,99,99,99,99,99,0,99,99,99] [] (.c x1 .n) fn fun w_2 n2 => ?_
    replace x1:=x1.bl n2;replace hs:=hs.bl n2
    refine fmv ?_
    refine fmv ?_
    refine f0 ?_
    apply wpFl_ld rfl rfl;(case h1=>intro w' hC K hK;have c0:=Bs.cell hC ((off+i)) ei;go_big_op;exact hK);iterate 4 kernel_rfl
    refine fb ?_
    refine fmv ?_
    refine f0 ?_
    apply wpFl_ld rfl rfl;(case h1=>intro w' hC K hK;have c0:=Bs.cell hC (off) ez0;go_big_op;exact hK);iterate 4 kernel_rfl
    refine fb ?_
    refine f0 ?_
    refine fmv ?_
    refine fk ?_
    refine fk ?_
    refine fk ?_
    refine fk ?_
    refine fk ?_
    refine fk ?_
    refine f0 ?_
    refine e0 hs ?_;clear hs;intro w_3 hs n3
    replace x1:=x1.bl n3
    apply wpTail_end
    refine hK9 _ _ ?_
    refine ct ?_
    refine zk fun K10 hK10=>rg [0] ?_
    refine sm (ze (hK10 _ _ ?_))
    refine wp_ret ?_
    try dsimp only [Exit.then,Exit.inBlock]
    refine bodyPost_ret (v:=(.bool false)) (by simp[results,Tryz.results7,go_sem]) rfl ?_
    exact⟨by rw[Hg.out],hs.b⟩
  ·have HX:=hide hi
   have Hg:=hide (show decide (gd Ms)=true from decide_eq_true (HG.out.1 (by
    refine⟨by omega,?_,fun r hr=>by
     obtain⟨j,hj,rfl⟩:=List.getElem_of_mem hr
     exact(HJ.out j hj (by omega)).1⟩
    rcases Nat.eq_zero_or_pos n with h0 | h0
    ·rw[←HK.out,wd_nil (by omega)];omega
    ·exact(HJ.out 0 (by omega) (by omega)).2)))
   refine zk fun K6 hK6 => ?_
   refine zk fun K7 hK7=>rg [0,1,2,3] ?_
   refine xmm ?_
   refine sr ?_
   refine sr (ze (hK7 _ _ ?_))
   refine cf ?_
   refine wp_exit ?_
   refine hK4 _ _ ?_
   refine zk fun K8 hK8=>rg [0] ?_
   refine sm (ze (hK8 _ _ ?_))
   refine wp_ret ?_
   try dsimp only [Exit.then,Exit.inBlock]
   refine bodyPost_ret (v:=(.bool true)) (by simp[results,Tryz.results7,go_sem]) rfl ?_
   exact⟨by rw[Hg.out],hs.b⟩
end
theorem zlen_addM {x y:Int} {l:Nat} (hx:(dig x.natAbs).length≤l) (hy:(dig y.natAbs).length≤l):(dig (x+y).natAbs).length≤l+1:=by
 refine dig_length_le ?_
 have h1:=Nat.lt_of_lt_of_le (lt_pw_dig x.natAbs) (pw_mono hx)
 have h2:=Nat.lt_of_lt_of_le (lt_pw_dig y.natAbs) (pw_mono hy)
 have h3:(x+y).natAbs≤x.natAbs+y.natAbs:=Int.natAbs_add_le x y
 simp only[pw];omega
theorem zlen_subM {x y:Int} {l:Nat} (hx:(dig x.natAbs).length≤l) (hy:(dig y.natAbs).length≤l):(dig (x - y).natAbs).length≤l+1:=by
 rw[Int.sub_eq_add_neg]
 exact zlen_addM hx (by rw[Int.natAbs_neg];exact hy)
def sumP:Nat→(Nat→Int × Int)→Int × Int
 | 0,_=>(0,0)
 | k+1,f=>aP (sumP k f) (f k)
def zl (l:Nat) (p:Int × Int):Prop:=(dig p.1.natAbs).length≤l∧(dig p.2.natAbs).length≤l
theorem zl_mP {p q:Int × Int} {l m:Nat} (hp:zl l p) (hq:zl m q):zl (l+m+1) (mP p q) :=
 ⟨zlen_subM (zlen_mul hp.1 hq.1) (zlen_mul hp.2 hq.2),zlen_addM (zlen_mul hp.1 hq.2) (zlen_mul hp.2 hq.1)⟩
theorem zl_cP {p:Int × Int} {l:Nat} (hp:zl l p):zl l (cP p):=⟨hp.1,by show (dig (-p.2).natAbs).length≤l;rw[Int.natAbs_neg];exact hp.2⟩
theorem zl_up {p:Int × Int} {l m:Nat} (hp:zl l p) (h:l≤m):zl m p:=⟨Nat.le_trans hp.1 h,Nat.le_trans hp.2 h⟩
theorem zl_aP {p q:Int × Int} {l:Nat} (hp:zl l p) (hq:zl l q):zl (l+1) (aP p q):=⟨zlen_addM hp.1 hq.1,zlen_addM hp.2 hq.2⟩
theorem zl_0 (l:Nat):zl l (0,0):=by
 have:(dig (Int.natAbs 0)).length≤l:=by rw[show dig (Int.natAbs 0)=[] from dig_eq_nil.2 rfl];exact Nat.zero_le _
 exact⟨this,this⟩
theorem zl_sum {f:Nat→Int × Int} {l:Nat}:∀ {k:Nat},(∀i,i<k→zl l (f i))→zl (l+k) (sumP k f)
 | 0,_=>zl_0 _
 | k+1,h=>zl_aP (l:=l+k) (zl_sum fun i hi=>h i (by omega)) (zl_up (h k (by omega)) (Nat.le_add_right l k))
theorem Bd.at1 {l i:Nat} {ps:List (Int × Int)} (h:Bd l ps):zl l (at1 ps i):=by
 rcases Nat.lt_or_ge i ps.length with hi | hi
 ·rw[at1_eq hi];exact h _ (List.getElem_mem hi)
 ·rw[Go.Proofs.YthmolpepinolkaaGreat.at1,List.getD,List.getElem?_eq_none hi];exact zl_0 _
theorem gd_row {A:List (List (Int × Int))} {i:Nat} (h:gd A) (hi:i<A.length):(rw_ A i).length=wd A:=by rw[rw_eq hi];exact h.2.2 _ (List.getElem_mem hi)
theorem BdM.at2 {l i j:Nat} {Ms:List (List (Int × Int))} (h:BdM l Ms):zl l (at2 Ms i j):=by
 rcases Nat.lt_or_ge i Ms.length with hi | hi
 ·rw[Go.Proofs.YthmolpepinolkaaGreat.at2,rw_eq hi];exact Bd.at1 (h _ (List.getElem_mem hi))
 ·rw[Go.Proofs.YthmolpepinolkaaGreat.at2,rw_,List.getD,List.getElem?_eq_none hi];exact Bd.at1 (ps:=[]) fun p hp=>by cases hp
def one2 (i j:Nat):Int × Int:=if i=j then (1,0) else (0,0)
section
variable {w:World} {l la lb n na nb cm ca cb i j:Nat} {om oa ob:Option Addr} {Ms A B:List (List (Int × Int))} {vg:Value} {u v:Int}
theorem ident1 (hi:i≤1000) (hj:j≤1000) :
  Calls Tryz.prog 116 (#[.int .i64 (i:Int),.int .i64 (j:Int)] ++ #[]) w fun e w'=>∃v,e = .returned v∧PC w' v (one2 i j).1 (one2 i j).2∧Below w.heap.size w w':=by
 show Calls _ _ #[.int .i64 (i:Int),.int .i64 (j:Int)] w _
 by_cases h:i=j
 ·have e:one2 i j=(1,0):=if_pos h
  have t1:((i:Int)==(j:Int))=true:=by rw[h];simp
  rw[e]
  clear e h
  go_enter Tryz.func116,Tryz.ntmps116
  have hs:=St.nil w
  refine zk fun K1 hK1=>rg [0] ?_
  refine sq ?_
  refine .al hs ?_;clear hs;intro p_b1 w_1 hs n1 kb_b1
  refine ze (hK1 _ _ ?_)
  refine zk fun K2 hK2 => ?_
  refine zk fun K3 hK3=>rg [0,1,2] ?_
  refine xmm ?_
  refine sr (ze (hK3 _ _ ?_))
  refine ct ?_
  refine zk fun K4 hK4=>rg [0,1] ?_
  refine sq ?_
  intro K hK
  go_big_op
  go_fit (gFrom_any 1 0 _ (by omega) (by omega) (by omega) (by omega))
  rintro e w_2 ⟨_,rfl,⟨n_ga,o_ga,k_ga,c_ga,n_gb,o_gb,k_gb,c_gb,rfl,g1,g2⟩,hb_2⟩
  replace hs:=hs.bl hb_2
  refine hK _ _ rfl trivial ?_
  clear hK K
  refine sq ?_
  refine .s4 hs.g0 (fun _=>hs.u0 kb_b1) ?_;clear hs;intro w_3 hs hd3 ho3
  refine ze (hK4 _ _ ?_)
  refine wp_ret ?_
  try dsimp only [Exit.then,Exit.inBlock]
  obtain⟨r0_0,r0_1,r0_2,r0_3⟩:=hs.g0.f4
  refine bodyPost_ret (v:=(.agg #[.bool n_ga,.slice o_ga k_ga c_ga,.bool n_gb,.slice o_gb k_gb c_gb])) (by simp[results,Tryz.results116,go_sem,r0_0,r0_1,r0_2,r0_3]) rfl ?_
  have k2_3:=ko hd3 ho3
  replace g1:=g1.k k2_3
  replace g2:=g2.k k2_3
  exact⟨_,rfl,.mk' g1 g2,hs.b⟩
 ·have e:one2 i j=(0,0):=if_neg h
  have t1:((i:Int)==(j:Int))=false:=beq_eq_false_iff_ne.2 (by omega)
  rw[e]
  clear e
  go_enter Tryz.func116,Tryz.ntmps116
  have hs:=St.nil w
  refine zk fun K1 hK1=>rg [0] ?_
  refine sq ?_
  refine .al hs ?_;clear hs;intro p_b1 w_1 hs n1 kb_b1
  refine ze (hK1 _ _ ?_)
  refine zk fun K2 hK2 => ?_
  refine zk fun K3 hK3=>rg [0,1,2] ?_
  refine xmm ?_
  refine sr (ze (hK3 _ _ ?_))
  refine cf ?_
  refine wp_skip ?_
  refine hK2 _ _ ?_
  refine zk fun K4 hK4=>rg [0,1] ?_
  refine sr ?_
  refine sq ?_
  refine .s4 hs.g0 (fun _=>hs.u0 kb_b1) ?_;clear hs;intro w_2 hs hd2 ho2
  refine ze (hK4 _ _ ?_)
  refine wp_ret ?_
  try dsimp only [Exit.then,Exit.inBlock]
  obtain⟨r0_0,r0_1,r0_2,r0_3⟩:=hs.g0.f4
  refine bodyPost_ret (v:=(.agg #[.bool false,.slice none 0 0,.bool false,.slice none 0 0])) (by simp[results,Tryz.results116,go_sem,r0_0,r0_1,r0_2,r0_3]) rfl ?_
  exact⟨_,rfl,.mk' (zc_zero w_2) (zc_zero w_2),hs.b⟩
theorem mIdent_ok (hn:n≤64) :
  Calls Tryz.prog 57 #[.int .i64 (n:Int)] w fun e w'=>∃o c rs,e = .returned (.tuple #[.slice o n c,.int .i64 0])∧rs.length=n∧St w (Mx w.heap.size (.slice o n c) rs) w'∧RD w' rs (mkM n n one2)∧Below w.heap.size w w':=by
 go_enter Tryz.func57,Tryz.ntmps57
 have hs:=St.nil w
 refine zk fun K1 hK1=>rg [0,1] ?_
 refine sm ?_
 refine sm (ze (hK1 _ _ ?_))
 refine zk fun K2 hK2 => ?_
 refine zk fun K3 hK3=>rg [0,1] ?_
 refine sm ?_
 refine sr (ze (hK3 _ _ ?_))
 refine cf ?_
 refine wp_skip ?_
 refine hK2 _ _ ?_
 refine zk fun K4 hK4 => ?_
 refine zk fun K5 hK5=>rg [0,1] ?_
 refine sm ?_
 refine sr (ze (hK5 _ _ ?_))
 refine cf ?_
 refine wp_skip ?_
 refine hK4 _ _ ?_
 refine zk fun K6 hK6=>rg [0,1,2,3,4] ?_
 refine xmm ?_
 refine sq ?_
 intro K hK
 go_big_op
 go_fit (matrix_any (F:=one2) (fun _ _ _↦by kernel_rfl) (fun i j w1 hi hj h1↦ident1 (by omega) (by omega)) (by omega) (by omega))
 rintro e w_1 ⟨o_r,c_r,rs_r,rfl,hl_r,hs_r,d_r,hb_1⟩
 replace hs:=hs.mx hl_r hs_r;simp only[List.nil_append] at hs
 refine hK _ _ rfl trivial ?_
 clear hK K
 refine sm ?_
 refine sm (ze (hK6 _ _ ?_))
 refine wp_ret ?_
 try dsimp only [Exit.then,Exit.inBlock]
 refine bodyPost_ret (v:=(.tuple #[(.slice o_r n c_r),(.int .i64 0)])) (by simp[results,Tryz.results57,go_sem]) rfl ?_
 exact⟨_,_,_,rfl,hl_r,(by unfold Mx;rw[hl_r];exact hs),d_r,hs.b⟩
theorem mSize_ok (ha:MN la w oa A) (hna:A.length=na) (h:gd A) {k:Nat} (hk:wd A=k) :
  Calls Tryz.prog 19 #[.slice oa na ca] w fun e w'=>e = .returned (.tuple #[.int .i64 (na:Int),.int .i64 (k:Int),.int .i64 0])∧Below w.heap.size w w':=by
 have HA:=hide ha
 have hn64:na≤64:=by have:=h.1;omega
 clear ha
 go_enter Tryz.func19,Tryz.ntmps19
 have hs:=St.nil w
 refine zk fun K1 hK1=>rg [0,1,2] ?_
 refine xmm ?_
 refine sm (ze (hK1 _ _ ?_))
 refine zk fun K2 hK2 => ?_
 refine zk fun K3 hK3=>rg [0,1,2] ?_
 refine sm ?_
 refine sq ?_
 intro K hK
 have hb:=hs.b
 go_big_op
 go_fit (good_yes (HA.out.bl stab_n hb) hna (by omega) h)
 rintro e w_1 ⟨rfl,hb_1⟩
 clear hb
 replace hs:=hs.bl hb_1
 refine hK _ _ rfl trivial ?_
 clear hK K
 refine sr (ze (hK3 _ _ ?_))
 refine cf ?_
 refine wp_skip ?_
 refine hK2 _ _ ?_
 refine zk fun K4 hK4=>rg [0,1,2,3,4,5,6] ?_
 refine xmr ?_
 refine sm ?_
 refine sq ?_
 intro K hK
 have hb:=hs.b
 go_big_op
 go_fit (width_any (HA.out.bl stab_n hb) hna hk)
 rintro e w_2 ⟨rfl,hb_2⟩
 clear hb
 replace hs:=hs.bl hb_2
 refine hK _ _ rfl trivial ?_
 clear hK K
 refine xmm ?_
 refine sm (ze (hK4 _ _ ?_))
 refine wp_ret ?_
 try dsimp only [Exit.then,Exit.inBlock]
 refine bodyPost_ret (v:=(.tuple #[(.int .i64 ((na:Nat):Int)),(.int .i64 (k:Int)),(.int .i64 0)])) (by simp[results,Tryz.results19,go_sem]) rfl ?_
 exact⟨rfl,hs.b⟩
theorem mSize_bad (ha:MN la w oa A) (hna:A.length=na) (h:¬gd A) (hla:na≤1000000000) :
  Calls Tryz.prog 19 #[.slice oa na ca] w fun e w'=>e = .returned (.tuple #[.int .i64 0,.int .i64 0,.int .i64 4])∧Below w.heap.size w w':=by
 have HA:=hide ha
 clear ha
 go_enter Tryz.func19,Tryz.ntmps19
 have hs:=St.nil w
 refine zk fun K1 hK1=>rg [0,1,2] ?_
 refine xmm ?_
 refine sm (ze (hK1 _ _ ?_))
 refine zk fun K2 hK2 => ?_
 refine zk fun K3 hK3=>rg [0,1,2] ?_
 refine sm ?_
 refine sq ?_
 intro K hK
 have hb:=hs.b
 go_big_op
 go_fit (good_no (HA.out.bl stab_n hb) hna hla h)
 rintro e w_1 ⟨rfl,hb_1⟩
 clear hb
 replace hs:=hs.bl hb_1
 refine hK _ _ rfl trivial ?_
 clear hK K
 refine sr (ze (hK3 _ _ ?_))
 refine ct ?_
 refine zk fun K4 hK4=>rg [0,1,2] ?_
 refine xmm ?_
 refine sm (ze (hK4 _ _ ?_))
 refine wp_ret ?_
 try dsimp only [Exit.then,Exit.inBlock]
 refine bodyPost_ret (v:=(.tuple #[(.int .i64 0),(.int .i64 0),(.int .i64 4)])) (by simp[results,Tryz.results19,go_sem]) rfl ?_
 exact⟨rfl,hs.b⟩
end
end Go.Proofs.YthmolpepinolkaaGreat
