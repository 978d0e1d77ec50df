/- frac: Add, Sub, Mul, Quo. -/
import Derived.Test.YthmolpepinolkaaGreatGpToQ2
namespace Go.Proofs.YthmolpepinolkaaGreat
open Go Go.RowKit Dig
set_option maxHeartbeats 4000000
set_option maxRecDepth 20000
set_option linter.unusedVariables false
def opAdd (x y:Int):Int:=x+y
section
variable {w:World} {pa pb:Nat} {n1 n2 n3 n4:Bool} {o1 o2 o3 o4:Option Addr} {k1 k2 k3 k4 c1 c2 c3 c4:Nat} {x y u v:Int} {l m k n:Nat}
theorem fAdd_c (hxa:Bs w pa #[.bool n1,.slice o1 k1 c1,.bool n2,.slice o2 k2 c2] 39) (hxb:Bs w pb #[.bool n3,.slice o3 k3 c3,.bool n4,.slice o4 k4 c4] 39)
  (h1:ZN w (.agg #[.bool n1,.slice o1 k1 c1]) x l) (h2:ZN w (.agg #[.bool n2,.slice o2 k2 c2]) y m) (h3:ZN w (.agg #[.bool n3,.slice o3 k3 c3]) u k) (h4:ZN w (.agg #[.bool n4,.slice o4 k4 c4]) v n)
  (hl:l≤10000000) (hm:m≤10000000) (hk:k≤10000000) (hn:n≤10000000) :
  Calls Tryz.prog 103 #[.pointer (some ⟨pa,0,none⟩),.pointer (some ⟨pb,0,none⟩)] w fun e w'=>∃v1 v2,e = .returned (.tuple #[v1,v2])∧ZC w' v1 (opAdd (x*v) (u*y))∧ZC w' v2 (y*v)∧Below w.heap.size w w':=by
 unfold opAdd
 go_enter Tryz.func103,Tryz.ntmps103
 have hs:=St.nil w
 have lt_xa:=hxa.lt
 have hxaz:=hxa
 have lt_xb:=hxb.lt
 have hxbz:=hxb
 refine zk fun K1 hK1=>rg [0,1] ?_
 refine sq ?_
 refine .al hs ?_;clear hs;intro p_b1 w_1 hs n1 kb_b1
 replace hxa:=hxa.bl n1;replace hxb:=hxb.bl n1
 refine sq ?_
 refine .al hs ?_;clear hs;intro p_b2 w_2 hs n2 kb_b2
 replace hxa:=hxa.bl n2;replace hxb:=hxb.bl n2
 refine ze (hK1 _ _ ?_)
 refine zk fun K2 hK2=>rg [0,1,2,3,4,5,6,7,8,9] ?_
 refine sq ?_
 refine .r4 hxa.f4 ?_
 refine sq ?_
 refine .r4 hxb.f4 ?_
 refine sq ?_
 intro K hK
 have k0_2:=(kb n1).b n2
 replace h1:=h1.k k0_2
 replace h2:=h2.k k0_2
 replace h3:=h3.k k0_2
 replace h4:=h4.k k0_2
 go_big_op
 go_fit (over_any (PN.mk' h1 h2) (PN.mk' h3 h4) (by omega) (by omega) (by omega) (by omega) )
 rintro e w_3 ⟨v_g1,v_g2,rfl,g1,g2,hb_3⟩
 replace hxa:=hxa.bl hb_3;replace hxb:=hxb.bl hb_3;replace hs:=hs.bl hb_3
 obtain⟨n_g1,o_g1,k_g1,c_g1,rfl⟩:=g1.open2
 obtain⟨n_g2,o_g2,k_g2,c_g2,rfl⟩:=g2.open2
 have Lg1:=hide (g1.lenOf (zlen_mul (h1.len) (h4.len)))
 have Lg2:=hide (g2.lenOf (zlen_mul (h3.len) (h2.len)))
 refine hK _ _ rfl trivial ?_
 clear hK K
 refine xmr ?_
 refine sr ?_
 refine sq ?_
 refine .al hs ?_;clear hs;intro p_b3 w_4 hs n4 kb_b3
 replace hxa:=hxa.bl n4;replace hxb:=hxb.bl n4
 refine sq ?_
 refine .al hs ?_;clear hs;intro p_b4 w_5 hs n5 kb_b4
 replace hxa:=hxa.bl n5;replace hxb:=hxb.bl n5
 refine sq ?_
 refine .s2 hs.g1 (fun _=>hs.u1 kb_b3) ?_;clear hs;intro w_6 hs hd6 ho6
 replace hxa:=hxa.frame ho6 (Nat.ne_of_lt (Nat.lt_of_lt_of_le lt_xa kb_b3));replace hxb:=hxb.frame ho6 (Nat.ne_of_lt (Nat.lt_of_lt_of_le lt_xb kb_b3))
 refine sq ?_
 refine .s2 hs.g0 (fun _=>hs.u0 kb_b4) ?_;clear hs;intro w_7 hs hd7 ho7
 replace hxa:=hxa.frame ho7 (Nat.ne_of_lt (Nat.lt_of_lt_of_le lt_xa kb_b4));replace hxb:=hxb.frame ho7 (Nat.ne_of_lt (Nat.lt_of_lt_of_le lt_xb kb_b4))
 refine ze (hK2 _ _ ?_)
 refine zk fun K3 hK3 => ?_
 refine wp_region_f4 [(0,false),(1,false),(3,false),(4,false),(5,false),(6,false),(2,true),(7,true)] [8,9] [] (fun _=>default) [0,1,99,99,2,99,3,99,99,99] [] (.c hs.g1 (.c hs.g0 (.c hxa (.c hxb .n)))) fn fun w_8 n8 => ?_
 replace hxa:=hxa.bl n8;replace hxb:=hxb.bl n8;replace hs:=hs.bl n8
 refine f2 ?_
 refine f2 ?_
 refine f0 ?_
 refine f4 ?_
 refine f0 ?_
 refine f4 ?_
 refine fl fun w_9 n9 => ?_
 replace hxa:=hxa.bl n9;replace hxb:=hxb.bl n9;replace hs:=hs.bl n9
 intro K hK
 have k3_9:=(((((kb n4).b n5).o hd6 ho6).o hd7 ho7).b n8).b n9
 replace g1:=g1.k k3_9
 replace g2:=g2.k k3_9
 go_big_op
 go_fit (zfAdd_any (g1.zn Lg1.out) (g2.zn Lg2.out) (by omega) (by omega) )
 rintro e w_10 ⟨v_g3,rfl,g3,hb_10⟩
 replace hxa:=hxa.bl hb_10;replace hxb:=hxb.bl hb_10;replace hs:=hs.bl hb_10
 replace g3:=g3.rd
 obtain⟨n_g3,o_g3,k_g3,c_g3,rfl⟩:=g3.open2
 refine hK _ _ rfl ⟨hb_10,(ai hs.g1 (ai hs.g0 (ai hxa (ai hxb trivial))))⟩ ?_
 clear hK K
 refine fl fun w_11 n11 => ?_
 replace hxa:=hxa.bl n11;replace hxb:=hxb.bl n11;replace hs:=hs.bl n11
 intro K hK
 have k2_11:=((((((((kb hb_3).b n4).b n5).o hd6 ho6).o hd7 ho7).b n8).b n9).b hb_10).b n11
 replace h2:=h2.k k2_11
 replace h4:=h4.k k2_11
 go_big_op
 go_fit (zmul_any h2 h4 (by omega) (by omega) )
 rintro e w_12 ⟨v_g4,rfl,g4,hb_12⟩
 replace hxa:=hxa.bl hb_12;replace hxb:=hxb.bl hb_12;replace hs:=hs.bl hb_12
 replace g4:=g4.rd
 obtain⟨n_g4,o_g4,k_g4,c_g4,rfl⟩:=g4.open2
 refine hK _ _ rfl ⟨hb_12,(ai hs.g1 (ai hs.g0 (ai hxa (ai hxb trivial))))⟩ ?_
 clear hK K
 refine e0 hs ?_;clear hs;intro w_13 hs n13
 replace hxa:=hxa.bl n13;replace hxb:=hxb.bl n13
 refine tl ?_
 refine .s2 hs.g3 (fun _=>hs.u3 kb_b1) ?_ (e:=fun _ hs=>(ai hs.g1 (ai hs.g0 (ai (hxaz.bl hs.b) (ai (hxbz.bl hs.b) trivial)))));clear hs;intro w_14 hs hd14 ho14
 replace hxa:=hxa.frame ho14 (Nat.ne_of_lt (Nat.lt_of_lt_of_le lt_xa kb_b1));replace hxb:=hxb.frame ho14 (Nat.ne_of_lt (Nat.lt_of_lt_of_le lt_xb kb_b1))
 refine tl ?_
 refine .s2 hs.g2 (fun _=>hs.u2 kb_b2) ?_ (e:=fun _ hs=>(ai hs.g1 (ai hs.g0 (ai (hxaz.bl hs.b) (ai (hxbz.bl hs.b) trivial)))));clear hs;intro w_15 hs hd15 ho15
 replace hxa:=hxa.frame ho15 (Nat.ne_of_lt (Nat.lt_of_lt_of_le lt_xa kb_b2));replace hxb:=hxb.frame ho15 (Nat.ne_of_lt (Nat.lt_of_lt_of_le lt_xb kb_b2))
 apply wpTail_end
 refine hK3 _ _ ?_
 refine wp_ret ?_
 try dsimp only [Exit.then,Exit.inBlock]
 obtain⟨r0_0,r0_1⟩:=hs.g3.f2
 obtain⟨r2_0,r2_1⟩:=hs.g2.f2
 refine bodyPost_ret (v:=(.tuple #[(.agg #[.bool n_g3,.slice o_g3 k_g3 c_g3]),(.agg #[.bool n_g4,.slice o_g4 k_g4 c_g4])])) (by simp[results,Tryz.results103,go_sem,r0_0,r0_1,r2_0,r2_1]) rfl ?_
 have k10_15:=((((kb n11).b hb_12).b n13).o hd14 ho14).o hd15 ho15
 replace g3:=g3.k k10_15
 have k12_15:=((kb n13).o hd14 ho14).o hd15 ho15
 replace g4:=g4.k k12_15
 exact⟨_,_,rfl,g3,g4,hs.b⟩
theorem of2Add_any (hxa:Bs w pa #[.bool n1,.slice o1 k1 c1,.bool n2,.slice o2 k2 c2] 39) (hxb:Bs w pb #[.bool n3,.slice o3 k3 c3,.bool n4,.slice o4 k4 c4] 39)
  (h1:ZN w (.agg #[.bool n1,.slice o1 k1 c1]) x l) (h2:ZN w (.agg #[.bool n2,.slice o2 k2 c2]) y m) (h3:ZN w (.agg #[.bool n3,.slice o3 k3 c3]) u k) (h4:ZN w (.agg #[.bool n4,.slice o4 k4 c4]) v n)
  (hl:l≤10000000) (hm:m≤10000000) (hk:k≤10000000) (hn:n≤10000000) (hy:y≠0) (hv:v≠0) (h0:y*v≠0) :
  Calls Tryz.prog 102 #[.agg #[.bool n1,.slice o1 k1 c1,.bool n2,.slice o2 k2 c2],.agg #[.bool n3,.slice o3 k3 c3,.bool n4,.slice o4 k4 c4],.func (.func 103) #[] #[.pointer (some ⟨pa,0,none⟩),.pointer (some ⟨pb,0,none⟩)]] w
   fun e w'=>∃r,e = .returned (.tuple #[r,.int .i64 0])∧PC w' r (qN (opAdd (x*v) (u*y)) (y*v)) (qD (opAdd (x*v) (u*y)) (y*v))∧Below w.heap.size w w':=by
 have LN:=hide (show (dig (opAdd (x*v) (u*y)).natAbs).length≤_ from (by rw[opAdd];exact zlen_add (zlen_mul h1.len h4.len) (zlen_mul h3.len h2.len)))
 have LD:=hide (show (dig (y*v).natAbs).length≤_ from zlen_mul h2.len h4.len)
 have HY:=hide hy
 have HV:=hide hv
 have H0:=hide h0
 clear hy hv h0
 go_enter Tryz.func102,Tryz.ntmps102
 have hs:=St.nil w
 have lt_xa:=hxa.lt
 have hxaz:=hxa
 have lt_xb:=hxb.lt
 have hxbz:=hxb
 refine zk fun K1 hK1=>rg [0,1,2,3] ?_
 refine sq ?_
 refine .al hs ?_;clear hs;intro p_b1 w_1 hs n1 kb_b1
 replace hxa:=hxa.bl n1;replace hxb:=hxb.bl n1
 refine sq ?_
 refine .al hs ?_;clear hs;intro p_b2 w_2 hs n2 kb_b2
 replace hxa:=hxa.bl n2;replace hxb:=hxb.bl n2
 refine sq ?_
 refine .al hs ?_;clear hs;intro p_b3 w_3 hs n3 kb_b3
 replace hxa:=hxa.bl n3;replace hxb:=hxb.bl n3
 refine sm (ze (hK1 _ _ ?_))
 refine zk fun K2 hK2 => ?_
 refine zk fun K3 hK3=>rg [0,1,2,3] ?_
 refine sq ?_
 refine .r4 hs.g2.f4 ?_
 refine sq ?_
 refine .r4 hs.g1.f4 ?_
 refine sq ?_
 refine .al hs ?_;clear hs;intro p_b4 w_4 hs n4 kb_b4
 replace hxa:=hxa.bl n4;replace hxb:=hxb.bl n4
 refine sq ?_
 intro K hK
 have x_b4:=hs.g0
 have k0_4:=(((kb n1).b n2).b n3).b n4
 replace h2:=h2.k k0_4
 replace h4:=h4.k k0_4
 go_big_op
 go_fit (div0_none x_b4 h2 h4 (by omega) (by omega) HY.out HV.out)
 rintro e w_5 ⟨rfl,hb_5⟩
 clear x_b4
 replace hxa:=hxa.bl hb_5;replace hxb:=hxb.bl hb_5;replace hs:=hs.bl hb_5
 refine hK _ _ rfl trivial ?_
 clear hK K
 refine ze (hK3 _ _ ?_)
 refine cf ?_
 refine wp_skip ?_
 refine hK2 _ _ ?_
 refine zk fun K4 hK4=>rg [0,1,2,3,4,5,6,7,8] ?_
 refine sm ?_
 refine sq ?_
 intro K hK
 have k0_5:=k0_4.b hb_5
 replace h1:=h1.k k0_5
 have k4_5:=kb hb_5
 replace h2:=h2.k k4_5
 replace h3:=h3.k k0_5
 replace h4:=h4.k k4_5
 go_big_op
 go_fit (fAdd_c hxa hxb h1 h2 h3 h4 hl hm hk hn)
 rintro e w_6 ⟨v_g1,v_g2,rfl,g1,g2,hb_6⟩
 clear hxa h1 h2 hxb h3 h4
 replace hs:=hs.bl hb_6
 obtain⟨n_g1,o_g1,k_g1,c_g1,rfl⟩:=g1.open2
 obtain⟨n_g2,o_g2,k_g2,c_g2,rfl⟩:=g2.open2
 refine hK _ _ rfl trivial ?_
 clear hK K
 refine xrr ?_
 have Lg1:=hide (g1.lenOf (LN.out))
 have Lg2:=hide (g2.lenOf (LD.out))
 refine sq ?_
 intro K hK
 go_big_op
 go_fit (fmake_any (g1.zn Lg1.out) (g2.zn Lg2.out) (by omega) (by omega) H0.out)
 rintro e w_7 ⟨_,rfl,⟨n_g3a,o_g3a,k_g3a,c_g3a,n_g3b,o_g3b,k_g3b,c_g3b,rfl,g31,g32⟩,hb_7⟩
 replace hs:=hs.bl hb_7
 refine hK _ _ rfl trivial ?_
 clear hK K
 refine xrr ?_
 refine sq ?_
 refine .s4 hs.g1 (fun _=>hs.u1 kb_b3) ?_;clear hs;intro w_8 hs hd8 ho8
 refine sm (ze (hK4 _ _ ?_))
 refine wp_ret ?_
 try dsimp only [Exit.then,Exit.inBlock]
 obtain⟨r0_0,r0_1,r0_2,r0_3⟩:=hs.g1.f4
 refine bodyPost_ret (v:=(.tuple #[(.agg #[.bool n_g3a,.slice o_g3a k_g3a c_g3a,.bool n_g3b,.slice o_g3b k_g3b c_g3b]),(.int .i64 0)])) (by simp[results,Tryz.results102,go_sem,r0_0,r0_1,r0_2,r0_3]) rfl ?_
 have k7_8:=ko hd8 ho8
 replace g31:=g31.k k7_8
 replace g32:=g32.k k7_8
 exact⟨_,rfl,.mk' g31 g32,hs.b⟩
end
end Go.Proofs.YthmolpepinolkaaGreat
