/- frac: Add, Sub, Mul, Quo, Cmp, Floor, Round. -/
import Derived.Test.YthmolpepinolkaaGreatQ3
namespace Go.Proofs.YthmolpepinolkaaGreat
open Go Go.RowKit Dig
set_option maxHeartbeats 4000000
set_option maxRecDepth 20000
set_option linter.unusedVariables false
theorem zlen_opAdd {x y:Int} {l m:Nat} (hx:(dig x.natAbs).length≤l) (hy:(dig y.natAbs).length≤m):(dig (opAdd x y).natAbs).length≤l+m+1:=zlen_add hx hy
section
variable {w:World} {va vb:Value} {x y u v:Int} {l m k n:Nat}
theorem fAdd_any0 (ha:PN w va x l y m) (hq:PN w vb u k v n) (hl:l≤10000000) (hm:m≤10000000) (hk:k≤10000000) (hn:n≤10000000) (h0:y*v≠0) (hy:y≠0) (hv:v≠0) :
  Calls Tryz.prog 47 #[va,vb] w fun e w'=>∃r,e = .returned (.tuple #[r,.int .i64 0])∧PC w' r (qN (opAdd (x*v) (u*y)) (y*v)) (qD (opAdd (x*v) (u*y)) (y*v))∧Below w.heap.size w w':=by
 have HY:=hide hy
 have HV:=hide hv
 have H0:=hide h0
 clear hy hv h0
 obtain⟨n_0a,o_0a,k_0a,c_0a,n_0b,o_0b,k_0b,c_0b,rfl,ha1,ha2⟩:=ha
 obtain⟨n_1a,o_1a,k_1a,c_1a,n_1b,o_1b,k_1b,c_1b,rfl,hq1,hq2⟩:=hq
 go_enter Tryz.func47,Tryz.ntmps47
 have hs:=St.nil w
 refine zk fun K1 hK1=>rg [0,1,2,3] ?_
 refine sq ?_
 refine .al hs ?_;clear hs;intro p_b1 w_1 hs n1 kb_b1
 refine sq ?_
 refine .al hs ?_;clear hs;intro p_b2 w_2 hs n2 kb_b2
 refine sq ?_
 refine .al hs ?_;clear hs;intro p_b3 w_3 hs n3 kb_b3
 refine sm (ze (hK1 _ _ ?_))
 refine zk fun K2 hK2=>rg [0,1,2,3,4,5,6,7] ?_
 refine sq ?_
 refine .r4 hs.g2.f4 ?_
 refine sq ?_
 refine .r4 hs.g1.f4 ?_
 refine sr ?_
 refine sq ?_
 intro K hK
 have x_b1:=hs.g2
 have x_b2:=hs.g1
 have k0_3:=((kb n1).b n2).b n3
 replace ha1:=ha1.k k0_3
 replace ha2:=ha2.k k0_3
 replace hq1:=hq1.k k0_3
 replace hq2:=hq2.k k0_3
 go_big_op
 go_fit (of2Add_any x_b1 x_b2 ha1 ha2 hq1 hq2 hl hm hk hn HY.out HV.out H0.out)
 rintro e w_4 ⟨_,rfl,⟨n_g1a,o_g1a,k_g1a,c_g1a,n_g1b,o_g1b,k_g1b,c_g1b,rfl,g11,g12⟩,hb_4⟩
 clear x_b1 x_b2
 replace hs:=hs.bl hb_4
 refine hK _ _ rfl trivial ?_
 clear hK K
 refine xrr ?_
 refine sq ?_
 refine .s4 hs.g0 (fun _=>hs.u0 kb_b3) ?_;clear hs;intro w_5 hs hd5 ho5
 refine sm (ze (hK2 _ _ ?_))
 refine wp_ret ?_
 try dsimp only [Exit.then,Exit.inBlock]
 obtain⟨r0_0,r0_1,r0_2,r0_3⟩:=hs.g0.f4
 refine bodyPost_ret (v:=(.tuple #[(.agg #[.bool n_g1a,.slice o_g1a k_g1a c_g1a,.bool n_g1b,.slice o_g1b k_g1b c_g1b]),(.int .i64 0)])) (by simp[results,Tryz.results47,go_sem,r0_0,r0_1,r0_2,r0_3]) rfl ?_
 have k4_5:=ko hd5 ho5
 replace g11:=g11.k k4_5
 replace g12:=g12.k k4_5
 exact⟨_,rfl,.mk' g11 g12,hs.b⟩
theorem fAdd_any (ha:PN w va x l y m) (hq:PN w vb u k v n) (hl:l≤10000000) (hm:m≤10000000) (hk:k≤10000000) (hn:n≤10000000) (h0:y*v≠0) :
  Calls Tryz.prog 47 #[va,vb] w fun e w'=>∃r,e = .returned (.tuple #[r,.int .i64 0])∧PC w' r (qN (opAdd (x*v) (u*y)) (y*v)) (qD (opAdd (x*v) (u*y)) (y*v))∧Below w.heap.size w w' :=
 fAdd_any0 ha hq hl hm hk hn h0 (fun h=>h0 (by rw[h,Int.zero_mul])) (fun h=>h0 (by rw[h,Int.mul_zero]))
def qcmp (x y u v:Int):Int:=zcmp (x*v) (u*y)*y.sign*v.sign
theorem sign3 {a b c:Int} (ha : -1≤a∧a≤1) (hb : -1≤b∧b≤1) (hc : -1≤c∧c≤1):IntKind.i64.wrap (a*b)=a*b∧IntKind.i64.wrap (a*b*c)=a*b*c:=by
 have h1:a = -1∨a=0∨a=1:=by omega
 have h2:b = -1∨b=0∨b=1:=by omega
 have h3:c = -1∨c=0∨c=1:=by omega
 rcases h1 with rfl | rfl | rfl <;> rcases h2 with rfl | rfl | rfl <;> rcases h3 with rfl | rfl | rfl <;> decide
theorem fCmp_any (ha:PN w va x l y m) (hq:PN w vb u k v n) (hl:l≤10000000) (hm:m≤10000000) (hk:k≤10000000) (hn:n≤10000000) (hy:y≠0) (hv:v≠0) :
  Calls Tryz.prog 50 #[va,vb] w fun e w'=>e = .returned (.tuple #[.int .i64 (qcmp x y u v),.int .i64 0])∧Below w.heap.size w w':=by
 have HY:=hide hy
 have HV:=hide hv
 clear hy hv
 obtain⟨C,hC⟩:∃C,zcmp (x*v) (u*y)=C:=⟨_,rfl⟩
 obtain⟨S,hS⟩:∃S,y.sign=S:=⟨_,rfl⟩
 obtain⟨T,hT⟩:∃T,v.sign=T:=⟨_,rfl⟩
 have hw:=sign3 (a:=C) (b:=S) (c:=T) (by rw[←hC];exact zcmp_bd _ _) (by rw[←hS];exact sign_bd _) (by rw[←hT];exact sign_bd _)
 obtain⟨D,hD⟩:∃D,C*S=D:=⟨_,rfl⟩
 have e1:IntKind.i64.wrap (C*S)=D:=by rw[hw.1,hD]
 have e2:IntKind.i64.wrap (D*T)=D*T:=by rw[←hD];exact hw.2
 have HC:=hide hC
 have HS:=hide hS
 have HT:=hide hT
 have HE:=hide (show qcmp x y u v=D*T by unfold qcmp;rw[hC,hS,hT,hD])
 rw[HE.out]
 clear hC hS hT hD hw
 obtain⟨n_0a,o_0a,k_0a,c_0a,n_0b,o_0b,k_0b,c_0b,rfl,ha1,ha2⟩:=ha
 obtain⟨n_1a,o_1a,k_1a,c_1a,n_1b,o_1b,k_1b,c_1b,rfl,hq1,hq2⟩:=hq
 go_enter Tryz.func50,Tryz.ntmps50
 have hs:=St.nil w
 refine zk fun K1 hK1=>rg [0,1,2,3] ?_
 refine sq ?_
 refine .al hs ?_;clear hs;intro p_b1 w_1 hs n1 kb_b1
 refine sq ?_
 refine .al hs ?_;clear hs;intro p_b2 w_2 hs n2 kb_b2
 refine sm ?_
 refine sm (ze (hK1 _ _ ?_))
 refine zk fun K2 hK2 => ?_
 refine zk fun K3 hK3=>rg [0,1,2,3] ?_
 refine sq ?_
 refine .r4 hs.g1.f4 ?_
 refine sq ?_
 refine .r4 hs.g0.f4 ?_
 refine sq ?_
 refine .al hs ?_;clear hs;intro p_b3 w_3 hs n3 kb_b3
 refine sq ?_
 intro K hK
 have x_b3:=hs.g0
 have k0_3:=((kb n1).b n2).b n3
 replace ha2:=ha2.k k0_3
 replace hq2:=hq2.k k0_3
 go_big_op
 go_fit (div0_none x_b3 ha2 hq2 (by omega) (by omega) HY.out HV.out)
 rintro e w_4 ⟨rfl,hb_4⟩
 clear x_b3
 replace hs:=hs.bl hb_4
 refine hK _ _ rfl trivial ?_
 clear hK K
 refine ze (hK3 _ _ ?_)
 refine cf ?_
 refine wp_skip ?_
 refine hK2 _ _ ?_
 refine zk fun K4 hK4=>rg [0,1,2,3,4,5,6,7,8,9] ?_
 refine sq ?_
 refine .r4 hs.g2.f4 ?_
 refine sq ?_
 refine .r4 hs.g1.f4 ?_
 refine sq ?_
 intro K hK
 have k0_4:=k0_3.b hb_4
 replace ha1:=ha1.k k0_4
 have k3_4:=kb hb_4
 replace ha2:=ha2.k k3_4
 replace hq1:=hq1.k k0_4
 replace hq2:=hq2.k k3_4
 go_big_op
 go_fit (over_any (PN.mk' ha1 ha2) (PN.mk' hq1 hq2) (by omega) (by omega) (by omega) (by omega) )
 rintro e w_5 ⟨v_g1,v_g2,rfl,g1,g2,hb_5⟩
 replace hs:=hs.bl hb_5
 obtain⟨n_g1,o_g1,k_g1,c_g1,rfl⟩:=g1.open2
 obtain⟨n_g2,o_g2,k_g2,c_g2,rfl⟩:=g2.open2
 have Lg1:=hide (g1.lenOf (zlen_mul (ha1.len) (hq2.len)))
 have Lg2:=hide (g2.lenOf (zlen_mul (hq1.len) (ha2.len)))
 refine hK _ _ rfl trivial ?_
 clear hK K
 refine xmr ?_
 refine sr ?_
 refine sq ?_
 refine .al hs ?_;clear hs;intro p_b4 w_6 hs n6 kb_b4
 refine sq ?_
 refine .al hs ?_;clear hs;intro p_b5 w_7 hs n7 kb_b5
 refine sq ?_
 refine .s2 hs.g1 (fun _=>hs.u1 kb_b4) ?_;clear hs;intro w_8 hs hd8 ho8
 refine sq ?_
 refine .s2 hs.g0 (fun _=>hs.u0 kb_b5) ?_;clear hs;intro w_9 hs hd9 ho9
 refine ze (hK4 _ _ ?_)
 refine zk fun K5 hK5 => ?_
 refine wp_region_f4 [(0,false),(1,false),(3,false),(4,false),(7,false),(8,false),(2,true),(5,true),(6,false),(9,true),(10,false),(11,false),(12,false)] [] [] (fun _=>default) [0,1,99,99,2,99,99,99,3,99,99,99,99] [] (.c hs.g1 (.c hs.g0 (.c hs.g4 (.c hs.g3 .n)))) fn fun w_10 n10 => ?_
 replace hs:=hs.bl n10
 refine f2 ?_
 refine f2 ?_
 refine f0 ?_
 refine f4 ?_
 refine f0 ?_
 refine f4 ?_
 refine fl fun w_11 n11 => ?_
 replace hs:=hs.bl n11
 intro K hK
 have k5_11:=(((((kb n6).b n7).o hd8 ho8).o hd9 ho9).b n10).b n11
 replace g1:=g1.k k5_11
 replace g2:=g2.k k5_11
 go_big_op
 go_fit (zcmp_any (g1.zn Lg1.out) (g2.zn Lg2.out) (by omega) (by omega) )
 rintro e w_12 ⟨rfl,hb_12⟩
 replace hs:=hs.bl hb_12
 rw[HC.out]
 refine hK _ _ rfl ⟨hb_12,(ai hs.g1 (ai hs.g0 (ai hs.g4 (ai hs.g3 trivial))))⟩ ?_
 clear hK K
 refine fl fun w_13 n13 => ?_
 replace hs:=hs.bl n13
 intro K hK
 have k4_13:=((((((((kb hb_5).b n6).b n7).o hd8 ho8).o hd9 ho9).b n10).b n11).b hb_12).b n13
 replace ha2:=ha2.k k4_13
 go_big_op
 go_fit (zsign_any ha2 (by omega) )
 rintro e w_14 ⟨rfl,hb_14⟩
 replace hs:=hs.bl hb_14
 rw[HS.out]
 refine hK _ _ rfl ⟨hb_14,(ai hs.g1 (ai hs.g0 (ai hs.g4 (ai hs.g3 trivial))))⟩ ?_
 clear hK K
 refine f0 ?_
 refine fl fun w_15 n15 => ?_
 replace hs:=hs.bl n15
 intro K hK
 have k4_15:=(k4_13.b hb_14).b n15
 replace hq2:=hq2.k k4_15
 go_big_op
 go_fit (zsign_any hq2 (by omega) )
 rintro e w_16 ⟨rfl,hb_16⟩
 replace hs:=hs.bl hb_16
 rw[HT.out]
 refine hK _ _ rfl ⟨hb_16,(ai hs.g1 (ai hs.g0 (ai hs.g4 (ai hs.g3 trivial))))⟩ ?_
 clear hK K
 refine f0 ?_
 refine fmv ?_
 refine fmv ?_
 refine e0 hs ?_;clear hs;intro w_17 hs n17
 apply wpTail_end
 refine hK5 _ _ ?_
 refine wp_ret ?_
 try dsimp only [Exit.then,Exit.inBlock]
 refine bodyPost_ret (v:=(.tuple #[.int .i64 (D*T),.int .i64 0])) (by simp[results,Tryz.results50,go_sem]) rfl ?_
 have hb:=hs.b
 exact⟨rfl,hb⟩
end
end Go.Proofs.YthmolpepinolkaaGreat
