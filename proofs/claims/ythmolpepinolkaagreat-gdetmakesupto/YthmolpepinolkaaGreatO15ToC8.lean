/- The reference's Equal. -/
import Derived.Test.YthmolpepinolkaaGreatRtToI7
namespace Go.Proofs.YthmolpepinolkaaGreat
open Go Go.RowKit Dig
set_option maxHeartbeats 4000000
set_option maxRecDepth 20000
set_option linter.unusedVariables false
set_option linter.unusedSimpArgs false
theorem qC_len {y p:Int × Int} {l l2:Nat} (hp:p≠0) (hy:zl l y) (h2:zl l2 p) :
  (dig (qC y p).1.num.natAbs).length≤l+l2+1+1∧(dig ((qC y p).1.den:Int).natAbs).length≤l2+l2+1+1∧(dig (qC y p).2.num.natAbs).length≤l+l2+1+1∧(dig ((qC y p).2.den:Int).natAbs).length≤l2+l2+1+1:=by
 obtain⟨p1,p2⟩:=p
 obtain⟨y1,y2⟩:=y
 have np:p1*p1+p2*p2≠0:=fun e=>hp (Prod.ext (gN_zero.1 e).1 (gN_zero.1 e).2)
 have Z1:=zlen_small8 (z:=1) (by decide)
 have LN:=zlen_addM (zlen_mul h2.1 h2.1) (zlen_mul h2.2 h2.2)
 rw[qC_eq]
 have a1:=r_len (Int.mul_ne_zero np (by decide)) (rv_quo (y1*p1 - y2 * -p2) 1 (p1*p1+p2*p2) 1) (zlen_mul (zlen_subM (zlen_mul hy.1 h2.1) (zlen_mul hy.2 (zlen_neg h2.2))) Z1) (zlen_mul LN Z1)
 have a2:=r_len (Int.mul_ne_zero np (by decide)) (rv_quo (y1 * -p2+y2*p1) 1 (p1*p1+p2*p2) 1) (zlen_mul (zlen_addM (zlen_mul hy.1 (zlen_neg h2.2)) (zlen_mul hy.2 h2.1)) Z1) (zlen_mul LN Z1)
 exact⟨a1.1,a1.2,a2.1,a2.2⟩
theorem LQ.op {w:World} {o:Option Addr} {ps:List (Rat × Rat)} {i:Nat} (h:LQ w o ps) (hi:i<ps.length) :
  ∃g off cur ty fz n1 o1 k1 c1 n2 o2 k2 c2 n3 o3 k3 c3 n4 o4 k4 c4,o=some ⟨g,off,none⟩∧Bs w g cur ty fz∧cur[off+i*8]? = some (.bool n1)∧cur[off+i*8+1]? = some (.slice o1 k1 c1)∧cur[off+i*8+2]? = some (.bool n2)∧cur[off+i*8+3]? = some (.slice o2 k2 c2)∧cur[off+i*8+4]? = some (.bool n3)∧cur[off+i*8+5]? = some (.slice o3 k3 c3)∧cur[off+i*8+6]? = some (.bool n4)∧cur[off+i*8+7]? = some (.slice o4 k4 c4) ∧
   ZC w (.agg #[.bool n1,.slice o1 k1 c1]) ps[i].1.num∧ZC w (.agg #[.bool n2,.slice o2 k2 c2]) ps[i].1.den∧ZC w (.agg #[.bool n3,.slice o3 k3 c3]) ps[i].2.num∧ZC w (.agg #[.bool n4,.slice o4 k4 c4]) ps[i].2.den:=by
 obtain⟨g,off,cur,ty,fz,rfl,x,d⟩:=h.resolve_left fun e=>by simp[e] at hi
 obtain⟨d1,d2,d3,d4,d5,d6,d7,d8,e1,e2,e3,e4,e5,e6,e7,e8,n1,o1,k1,c1,n2,o2,k2,c2,n3,o3,k3,c3,n4,o4,k4,c4,hv,z1,z2,z3,z4⟩:=d i hi
 simp only[Value.agg.injEq,Array.mk.injEq,List.cons.injEq,and_true] at hv
 obtain⟨rfl,rfl,rfl,rfl,rfl,rfl,rfl,rfl⟩:=hv
 exact⟨g,off,cur,ty,fz,n1,o1,k1,c1,n2,o2,k2,c2,n3,o3,k3,c3,n4,o4,k4,c4,rfl,x,e1,e2,e3,e4,e5,e6,e7,e8,z1,z2,z3,z4⟩
section
variable {w:World} {la lv n k m L L1 L2 LG ca cv r:Nat} {oa ov:Option Addr} {A:List (List (Int × Int))} {V:List (Int × Int)}
theorem solve_bad (ha:MN la w oa A) (hna:A.length=n) (h:¬gd A) (hla:n≤1000000000) :
  Calls Tryz.prog 5 #[.slice oa n ca,.slice ov m cv] w fun e w'=>e = .returned (.tuple #[.slice none 0 0,.int .i64 4])∧Below w.heap.size w w':=by
 have HA:=hide ha
 have H:=hide h
 clear ha h
 go_enter Tryz.func5,Tryz.ntmps5
 have hs:=St.nil w
 refine zk fun K1 hK1=>rg [0,1] ?_
 refine sm ?_
 refine sm (ze (hK1 _ _ ?_))
 refine zk fun K2 hK2=>rg [0,1,2,3,4,5,6,7,8] ?_
 refine sm ?_
 refine sq ?_
 intro K hK
 have hb:=hs.b
 go_big_op
 go_fit (mSize_bad (HA.out.bl stab_n hb) hna H.out hla)
 rintro e w_1 ⟨rfl,hb_1⟩
 clear hb
 replace hs:=hs.bl hb_1
 refine hK _ _ rfl trivial ?_
 clear hK K
 refine xmr ?_
 refine xrr ?_
 refine xmm ?_
 refine sm (ze (hK2 _ _ ?_))
 refine zk fun K3 hK3 => ?_
 refine zk fun K4 hK4=>rg [0,1,2,3,4,5,6,7,8,9,10,11] ?_
 refine xmr ?_
 refine sm ?_
 refine sk ?_
 refine sk ?_
 refine sk ?_
 refine sk ?_
 refine sk ?_
 refine sk ?_
 refine sk ?_
 refine sk ?_
 refine sr (ze (hK4 _ _ ?_))
 refine ct ?_
 refine zk fun K5 hK5=>rg [0,1] ?_
 refine sm ?_
 refine sm (ze (hK5 _ _ ?_))
 refine wp_ret ?_
 try dsimp only [Exit.then,Exit.inBlock]
 refine bodyPost_ret (v:=(.tuple #[(.slice none 0 0),(.int .i64 4)])) (by simp[results,Tryz.results5,go_sem]) rfl ?_
 exact⟨rfl,hs.b⟩
theorem solve_len (ha:MN la w oa A) (hna:A.length=n) (h:gd A) (hk:wd A=k) (hn0:0<n) (hmk:m≠k) :
  Calls Tryz.prog 5 #[.slice oa n ca,.slice ov m cv] w fun e w'=>e = .returned (.tuple #[.slice none 0 0,.int .i64 4])∧Below w.heap.size w w':=by
 have HA:=hide ha
 have H:=hide h
 have HK:=hide hk
 have t3:((m:Int) != (k:Int))=true:=bne_iff_ne.2 (by omega)
 have t4:(m=k)=False:=eq_false hmk
 clear ha h hk
 go_enter Tryz.func5,Tryz.ntmps5
 have hs:=St.nil w
 refine zk fun K1 hK1=>rg [0,1] ?_
 refine sm ?_
 refine sm (ze (hK1 _ _ ?_))
 refine zk fun K2 hK2=>rg [0,1,2,3,4,5,6,7,8] ?_
 refine sm ?_
 refine sq ?_
 intro K hK
 have hb:=hs.b
 go_big_op
 go_fit (mSize_ok (HA.out.bl stab_n hb) hna H.out HK.out)
 rintro e w_1 ⟨rfl,hb_1⟩
 clear hb
 replace hs:=hs.bl hb_1
 refine hK _ _ rfl trivial ?_
 clear hK K
 refine xmr ?_
 refine xrr ?_
 refine xmm ?_
 refine sm (ze (hK2 _ _ ?_))
 refine zk fun K3 hK3 => ?_
 refine zk fun K4 hK4=>rg [0,1,2,3,4,5,6,7,8,9,10,11] ?_
 refine xmr ?_
 refine xmm ?_
 refine xrm ?_
 refine xmr ?_
 refine xmr ?_
 refine sr ?_
 refine sr (ze (hK4 _ _ ?_))
 refine ct ?_
 refine zk fun K5 hK5=>rg [0,1] ?_
 refine sm ?_
 refine sm (ze (hK5 _ _ ?_))
 refine wp_ret ?_
 try dsimp only [Exit.then,Exit.inBlock]
 refine bodyPost_ret (v:=(.tuple #[(.slice none 0 0),(.int .i64 4)])) (by simp[results,Tryz.results5,go_sem]) rfl ?_
 exact⟨rfl,hs.b⟩
theorem solve_any (ha:MN la w oa A) (hna:A.length=n) (h:gd A) (hk:wd A=k) (hv:SN lv w ov V) (hnv:V.length=m) (hKk:0<n→m=k) (hm:m≤2000000)
  (hB:MinB (n+1) (m+n) L (brdG n m (at2 A) fun _=>at1 V)) (hL:L≤3300000) (hB2:MinB n k L2 (at2 A)) (hL2:L2≤1100000) (hla:la≤10000000) (hlv:lv≤10000000) :
  Calls Tryz.prog 5 #[.slice oa n ca,.slice ov m cv] w fun e w'=>SolvP n k m L2 L (at2 A) (at1 V) e w'∧Below w.heap.size w w':=by
 rcases Nat.eq_zero_or_pos n with h0 | h0
 ·refine solve_zero ha hna h hk hv hnv h0 ?_ hm hB hL hB2 hla hlv
  have:A=[]:=List.eq_nil_of_length_eq_zero (by omega)
  rw[←hk,this];rfl
 ·obtain rfl:=hKk h0
  exact solve_pos ha hna h hk hv hnv h0 hB hL hB2 hL2 hla hlv
end
theorem g9_any (a b:Int) (w:World) (h1 : -9223372036854775808≤a) (h2:a≤9223372036854775807) (h3 : -9223372036854775808≤b) (h4:b≤9223372036854775807) :
  Calls Tryz.prog 28 #[.int .i64 a,.int .i64 b] w fun e w'=>∃r,e = .returned r∧PC w' r a b∧Below w.heap.size w w':=by
 go_enter Tryz.func28,Tryz.ntmps28
 have hs:=St.nil w
 refine zk fun K1 hK1=>rg [0] ?_
 refine sq ?_
 refine .al hs ?_;clear hs;intro p_b1 w_1 hs n1 kb_b1
 refine ze (hK1 _ _ ?_)
 refine zk fun K2 hK2=>rg [0,1,2,3] ?_
 refine xmm ?_
 refine sq ?_
 intro K hK
 go_big_op
 go_fit (rgI_any a b _ h1 h2 h3 h4)
 rintro e w_2 ⟨_,rfl,⟨n_ra,o_ra,k_ra,c_ra,n_rb,o_rb,k_rb,c_rb,rfl,r1,r2⟩,hb_2⟩
 replace hs:=hs.bl hb_2
 refine hK _ _ rfl trivial ?_
 clear hK K
 refine sq ?_
 refine .s4 hs.g0 (fun _=>hs.u0 kb_b1) ?_;clear hs;intro w_3 hs hd3 ho3
 refine ze (hK2 _ _ ?_)
 refine wp_ret ?_
 try dsimp only [Exit.then,Exit.inBlock]
 obtain⟨r0_0,r0_1,r0_2,r0_3⟩:=hs.g0.f4
 refine bodyPost_ret (v:=(.agg #[.bool n_ra,.slice o_ra k_ra c_ra,.bool n_rb,.slice o_rb k_rb c_rb])) (by simp[results,Tryz.results28,go_sem,r0_0,r0_1,r0_2,r0_3]) rfl ?_
 have k2_3:=ko hd3 ho3
 replace r1:=r1.k k2_3
 replace r2:=r2.k k2_3
 exact⟨_,rfl,.mk' r1 r2,hs.b⟩
theorem simple9_any (w:World) :
  Calls Tryz.prog 26 #[] w fun e w'=>∃o c,e = .returned (.slice o 2 c)∧MC w' o [[(1,0),(2,0)],[(0,1),(0,0)]]∧Below w.heap.size w w':=by
 go_enter Tryz.func26,Tryz.ntmps26
 have hs:=St.nil w
 refine zk fun K1 hK1=>rg [0] ?_
 refine sm (ze (hK1 _ _ ?_))
 refine zk fun K2 hK2=>rg [0,1,2,3,4,5,6,7] ?_
 refine sq ?_
 intro K hK
 go_big_op
 go_fit (g9_any 1 0 _ (by decide) (by decide) (by decide) (by decide))
 rintro e w_1 ⟨_,rfl,⟨n_aa,o_aa,k_aa,c_aa,n_ab,o_ab,k_ab,c_ab,rfl,a1,a2⟩,hb_1⟩
 replace hs:=hs.bl hb_1
 refine hK _ _ rfl trivial ?_
 clear hK K
 refine sq ?_
 intro K hK
 go_big_op
 go_fit (g9_any 2 0 _ (by decide) (by decide) (by decide) (by decide))
 rintro e w_2 ⟨_,rfl,⟨n_ba,o_ba,k_ba,c_ba,n_bb,o_bb,k_bb,c_bb,rfl,b1,b2⟩,hb_2⟩
 replace hs:=hs.bl hb_2
 refine hK _ _ rfl trivial ?_
 clear hK K
 refine sq ?_
 refine .al hs ?_;clear hs;intro p_b1 w_3 hs n3 kb_b1
 refine sq ?_
 intro K hK
 go_big_op
 go_fit (g9_any 0 1 _ (by decide) (by decide) (by decide) (by decide))
 rintro e w_4 ⟨_,rfl,⟨n_ca,o_ca,k_ca,c_ca,n_cb,o_cb,k_cb,c_cb,rfl,c1,c2⟩,hb_4⟩
 replace hs:=hs.bl hb_4
 refine hK _ _ rfl trivial ?_
 clear hK K
 refine sq ?_
 intro K hK
 go_big_op
 go_fit (g9_any 0 0 _ (by decide) (by decide) (by decide) (by decide))
 rintro e w_5 ⟨_,rfl,⟨n_da,o_da,k_da,c_da,n_db,o_db,k_db,c_db,rfl,d1,d2⟩,hb_5⟩
 replace hs:=hs.bl hb_5
 refine hK _ _ rfl trivial ?_
 clear hK K
 refine sq ?_
 refine .al hs ?_;clear hs;intro p_b2 w_6 hs n6 kb_b2
 refine sq ?_
 refine .al hs ?_;clear hs;intro p_b3 w_7 hs n7 kb_b3
 refine sm (ze (hK2 _ _ ?_))
 refine wp_ret ?_
 have k1_7:=(((((kb hb_2).b n3).b hb_4).b hb_5).b n6).b n7
 replace a1:=a1.k k1_7
 replace a2:=a2.k k1_7
 have k2_7:=((((kb n3).b hb_4).b hb_5).b n6).b n7
 replace b1:=b1.k k2_7
 replace b2:=b2.k k2_7
 have k4_7:=((kb hb_5).b n6).b n7
 replace c1:=c1.k k4_7
 replace c2:=c2.k k4_7
 have k5_7:=(kb n6).b n7
 replace d1:=d1.k k5_7
 replace d2:=d2.k k5_7
 try dsimp only [Exit.then,Exit.inBlock]
 refine bodyPost_ret (v:=(.slice (some ⟨p_b3,0,none⟩) 2 2)) (by simp[results,Tryz.results26,go_sem]) rfl ?_
 exact⟨_,_,rfl,mc2 hs.g0 (sc2 hs.g2 a1 a2 b1 b2) (sc2 hs.g1 c1 c2 d1 d2),hs.b⟩
section
variable {w:World} {va vb:Value} {x y:Int} {l m:Nat}
theorem told9_yes (ha:PC w va x y) (hq:PN w vb x l y m) (hl:l≤80000000) (hm:m≤80000000) :
  Calls Tryz.prog 27 #[va,.int .i64 0,vb,.int .i64 0] w fun e w'=>e = .returned (.bool true)∧Below w.heap.size w w':=by
 obtain⟨n_0a,o_0a,k_0a,c_0a,n_0b,o_0b,k_0b,c_0b,rfl,ha1,ha2⟩:=ha
 obtain⟨n_2a,o_2a,k_2a,c_2a,n_2b,o_2b,k_2b,c_2b,rfl,hq1,hq2⟩:=hq
 go_enter Tryz.func27,Tryz.ntmps27
 have hs:=St.nil w
 refine zk fun K1 hK1=>rg [0,1,2] ?_
 refine sq ?_
 refine .al hs ?_;clear hs;intro p_b1 w_1 hs n1 kb_b1
 refine sq ?_
 refine .al hs ?_;clear hs;intro p_b2 w_2 hs n2 kb_b2
 refine sm (ze (hK1 _ _ ?_))
 refine zk fun K2 hK2 => ?_
 refine zk fun K3 hK3=>rg [0,1] ?_
 refine sm ?_
 refine sr (ze (hK3 _ _ ?_))
 refine cf ?_
 refine wp_skip ?_
 refine hK2 _ _ ?_
 refine zk fun K4 hK4=>rg [0,1,2,3,4,5,6,7] ?_
 refine xmr ?_
 refine sm ?_
 refine sq ?_
 refine .r4 hs.g1.f4 ?_
 refine sq ?_
 refine .r4 hs.g0.f4 ?_
 refine sq ?_
 intro K hK
 have k0_2:=(kb n1).b n2
 replace ha1:=ha1.k k0_2
 replace ha2:=ha2.k k0_2
 replace hq1:=hq1.k k0_2
 replace hq2:=hq2.k k0_2
 go_big_op
 go_fit (rgSame_any (PC.mk' ha1 ha2) (PN.mk' hq1 hq2) (by omega) (by omega) )
 rintro e w_3 ⟨rfl,hb_3⟩
 replace hs:=hs.bl hb_3
 refine hK _ _ rfl trivial ?_
 clear hK K
 refine sr ?_
 refine sm (ze (hK4 _ _ ?_))
 refine wp_ret ?_
 try dsimp only [Exit.then,Exit.inBlock]
 refine bodyPost_ret (v:=(.bool true)) (by simp[results,Tryz.results27,go_sem]) rfl ?_
 have hb:=hs.b
 exact⟨rfl,hb⟩
end
theorem det_simple:Dt.det 2 (at2 [[(1,0),(2,0)],[(0,1),(0,0)]])=((0,-2):Int × Int):=by decide +kernel
theorem minB_simple:MinB 2 2 67 (at2 [[(1,0),(2,0)],[(0,1),(0,0)]]) :=
 minB_of (T:=2) (b:=fun _=>1) (by decide) (by decide) fun i hi q hq=>(bd_small (by decide)).at2
theorem awake9_any (w:World) :
  Calls Tryz.prog 6 #[] w fun e w'=>e = .returned (.bool true)∧Below w.heap.size w w':=by
 go_enter Tryz.func6,Tryz.ntmps6
 have hs:=St.nil w
 refine zk fun K1 hK1=>rg [0] ?_
 refine sm (ze (hK1 _ _ ?_))
 refine zk fun K2 hK2=>rg [0,1,2,3,4,5,6,7] ?_
 refine sq ?_
 intro K hK
 go_big_op
 go_fit (simple9_any _)
 rintro e w_1 ⟨o_S,c_S,rfl,m_S,hb_1⟩
 replace hs:=hs.bl hb_1
 refine hK _ _ rfl trivial ?_
 clear hK K
 refine sq ?_
 intro K hK
 go_big_op
 go_fit (det_ok (m_S.mn (bd_small (by decide))) rfl gd_simple rfl minB_simple (by decide) (by decide))
 rintro e w_2 ⟨_,rfl,⟨n_da,o_da,k_da,c_da,n_db,o_db,k_db,c_db,rfl,d1,d2⟩,hb_2⟩
 replace m_S:=m_S.bl hb_2;replace hs:=hs.bl hb_2
 rw[det_simple] at d1 d2
 refine hK _ _ rfl trivial ?_
 clear hK K
 refine xmr ?_
 refine sr ?_
 refine sq ?_
 refine .al hs ?_;clear hs;intro p_b1 w_3 hs n3 kb_b1
 refine sq ?_
 refine .s4 hs.g0 (fun _=>hs.u0 kb_b1) ?_;clear hs;intro w_4 hs hd4 ho4
 refine sm (ze (hK2 _ _ ?_))
 refine zk fun K3 hK3 => ?_
 refine wp_region_f4 [(0,false),(1,false),(2,true),(3,true),(4,false)] [] [] (fun _=>default) [0,99,99,99,99] [] (.c hs.g0 .n) fn fun w_5 n5 => ?_
 replace hs:=hs.bl n5
 refine f4 ?_
 refine fmv ?_
 refine fl fun w_6 n6 => ?_
 replace hs:=hs.bl n6
 intro K hK
 go_big_op
 go_fit (g9_any 0 (-2) _ (by decide) (by decide) (by decide) (by decide))
 rintro e w_7 ⟨_,rfl,⟨n_aa,o_aa,k_aa,c_aa,n_ab,o_ab,k_ab,c_ab,rfl,a1,a2⟩,hb_7⟩
 replace hs:=hs.bl hb_7
 have La1:=hide (a1.lenOf (zlen_small8 (z:=0) (by decide)))
 have La2:=hide (a2.lenOf (zlen_small8 (z := -2) (by decide)))
 refine hK _ _ rfl ⟨hb_7,(ai hs.g0 trivial)⟩ ?_
 clear hK K
 refine fl fun w_8 n8 => ?_
 replace hs:=hs.bl n8
 intro K hK
 have k2_8:=(((((kb n3).o hd4 ho4).b n5).b n6).b hb_7).b n8
 replace d1:=d1.k k2_8
 replace d2:=d2.k k2_8
 have k7_8:=kb n8
 replace a1:=a1.k k7_8
 replace a2:=a2.k k7_8
 go_big_op
 go_fit (told9_yes (.mk' d1 d2) (.mk' (a1.zn La1.out) (a2.zn La2.out)) (by decide) (by decide))
 rintro e w_9 ⟨rfl,hb_9⟩
 replace hs:=hs.bl hb_9
 refine hK _ _ rfl ⟨hb_9,(ai hs.g0 trivial)⟩ ?_
 clear hK K
 refine fmv ?_
 refine e0 hs ?_;clear hs;intro w_10 hs n10
 apply wpTail_end
 refine hK3 _ _ ?_
 refine wp_ret ?_
 try dsimp only [Exit.then,Exit.inBlock]
 refine bodyPost_ret (v:=(.bool true)) (by simp[results,Tryz.results6,go_sem]) rfl ?_
 exact⟨rfl,hs.b⟩
theorem rv_1 (x:Int):rv x 1=(x:Rat):=by unfold rv;grind
theorem qC_zero (p:Int × Int):qC (0,0) p=(rv 0 1,rv 0 1):=by
 unfold qC
 simp only[rv_1]
 refine Prod.ext ?_ ?_ <;> grind
theorem qC_mul (y m p:Int × Int):(qC y p).1*rv m.1 1 - (qC y p).2*rv m.2 1=(qC (y*m) p).1∧(qC y p).1*rv m.2 1+(qC y p).2*rv m.1 1=(qC (y*m) p).2:=by
 obtain⟨y1,y2⟩:=y
 obtain⟨m1,m2⟩:=m
 obtain⟨p1,p2⟩:=p
 have e1:rv ((y1,y2)*(m1,m2)).1 1=rv y1 1*rv m1 1 - rv y2 1*rv m2 1:=by rw[rv_m1,rv_m1,rv_s1];rfl
 have e2:rv ((y1,y2)*(m1,m2)).2 1=rv y1 1*rv m2 1+rv y2 1*rv m1 1:=by rw[rv_m1,rv_m1,rv_a1];rfl
 unfold qC
 rw[e1,e2]
 constructor <;> grind
theorem qC_add (a b p:Int × Int):(qC a p).1+(qC b p).1=(qC (a+b) p).1∧(qC a p).2+(qC b p).2=(qC (a+b) p).2:=by
 obtain⟨a1,a2⟩:=a
 obtain⟨b1,b2⟩:=b
 obtain⟨p1,p2⟩:=p
 have e1:rv ((a1,a2)+(b1,b2)).1 1=rv a1 1+rv b1 1:=by rw[rv_a1];rfl
 have e2:rv ((a1,a2)+(b1,b2)).2 1=rv a2 1+rv b2 1:=by rw[rv_a1];rfl
 unfold qC
 rw[e1,e2]
 constructor <;> grind
theorem qC_self {v p:Int × Int} (hp:p≠0):qC (p*v) p=(rv v.1 1,rv v.2 1):=by
 obtain⟨v1,v2⟩:=v
 obtain⟨p1,p2⟩:=p
 have np:p1*p1+p2*p2≠0:=fun e=>hp (Prod.ext (gN_zero.1 e).1 (gN_zero.1 e).2)
 have nd:rv p1 1*rv p1 1+rv p2 1*rv p2 1≠0:=by
  rw[rv_m1,rv_m1,rv_a1,rv_1]
  exact_mod_cast np
 have e1:rv ((p1,p2)*(v1,v2)).1 1=rv p1 1*rv v1 1 - rv p2 1*rv v2 1:=by rw[rv_m1,rv_m1,rv_s1];rfl
 have e2:rv ((p1,p2)*(v1,v2)).2 1=rv p1 1*rv v2 1+rv p2 1*rv v1 1:=by rw[rv_m1,rv_m1,rv_a1];rfl
 unfold qC
 rw[e1,e2]
 refine Prod.ext ?_ ?_ <;> grind
theorem qcmp_self (x:Int):qcmp x 1 x 1=0:=by
 unfold qcmp zcmp
 rw[if_neg (by omega),if_pos rfl];rfl
section
variable {w:World} {va:Value} {x y:Int} {l m:Nat}
theorem r7Of_q (ha:PN w va x l y m) (hl:l≤10000000) (hm:m≤10000000) :
  Calls Tryz.prog 18 #[va] w fun e w'=>∃r,e = .returned r∧CC w' r (rv x 1).num (rv x 1).den (rv y 1).num (rv y 1).den∧Below w.heap.size w w':=by
 rw[(rv_one x).1,(rv_one x).2,(rv_one y).1,(rv_one y).2]
 exact r7Of_any ha hl hm
end
section
variable {w:World} {n k m ca cv r:Nat} {oa ov:Option Addr} {A:List (List (Int × Int))} {V:List (Int × Int)}
theorem solve_minB2 {lv:Nat} (hT:Tot 1048576 A) (hn:A.length=n) (h64:n≤64) (hv:SN lv w ov V):MinB (n+1) (m+n) (1048576+lv+2001) (brdG n m (at2 A) fun _=>at1 V):=by
 obtain⟨b,hb,hbd⟩:=hT
 subst hn
 exact minB_brd (b:=b) (d:=fun _=>lv) (T:=1048576) (D:=lv) (by omega) hb (by rw[sN_one];omega) (fun i hi q _=>by
  unfold at2;rw[rw_eq hi];exact(hbd i hi).at1) (fun _ _ _ _=>hv.bd.at1)
def SolB (n m:Nat) (M:Nat→Nat→Int × Int) (v:Nat→Int × Int) (L:Nat) (p:Int × Int) (x:Nat→Int × Int):Prop:=Sol n m M v p x∧zl 1048641 p∧∀i,i<n→zl L (x i)
section
variable {lv:Nat} (hl:lv≤2200000) (ha:MN 1048576 w oa A) (hna:A.length=n) (h:gd A) (hk:wd A=k) (hv:SN lv w ov V) (hnv:V.length=m) (hKk:0<n→m=k) (hm:m≤1048576) (hT:Tot 1048576 A)
include hl ha hna h hk hv hnv hKk hm hT
theorem pp_all:Calls Tryz.prog 5 #[.slice oa n ca,.slice ov m cv] w fun e w'=>SolvP n k m 1048641 (1048576+lv+2001) (at2 A) (at1 V) e w'∧Below w.heap.size w w' :=
 have h64:n≤64:=by have:=h.1;omega
 solve_any ha hna h hk hv hnv hKk (by omega) (solve_minB2 hT hna h64 hv) (by omega) (hT.minB hna h64) (by omega) (by omega) (by omega)
theorem pp_dep (hr:Dt.Rk n k (at2 A) r) (hlt:r<n):Calls Tryz.prog 5 #[.slice oa n ca,.slice ov m cv] w fun e w'=>e = .returned (.tuple #[.slice none 0 0,.int .i64 3])∧Below w.heap.size w w' :=
 Calls.mono (pp_all hl ha hna h hk hv hnv hKk hm hT) fun e w' ⟨h1,h2⟩=>⟨by
  rcases h1 with ⟨_,_,_,h1⟩ | ⟨h1,_⟩ | ⟨h1,_⟩
  ·exact h1
  ·have:=Dt.Rk.eq noz one_ne h1 hr;omega
  ·have:=Dt.Rk.eq noz one_ne h1 hr;omega,h2⟩
theorem pp_no (hr:Dt.Rk n k (at2 A) n) (hS:∀p x,¬Sol n m (at2 A) (at1 V) p x):Calls Tryz.prog 5 #[.slice oa n ca,.slice ov m cv] w fun e w'=>e = .returned (.tuple #[.slice none 0 0,.int .i64 10])∧Below w.heap.size w w' :=
 Calls.mono (pp_all hl ha hna h hk hv hnv hKk hm hT) fun e w' ⟨h1,h2⟩=>⟨by
  rcases h1 with ⟨_,h3,h1,_⟩ | ⟨_,_,h1⟩ | ⟨_,p,y,h1,_⟩
  ·have:=Dt.Rk.eq noz one_ne h1 hr;omega
  ·exact h1
  ·exact absurd h1 (hS p y),h2⟩
theorem pp_yes {p0:Int × Int} {x0:Nat→Int × Int} (hr:Dt.Rk n k (at2 A) n) (hS:Sol n m (at2 A) (at1 V) p0 x0):Calls Tryz.prog 5 #[.slice oa n ca,.slice ov m cv] w fun e w'=>∃p x o c,e = .returned (.tuple #[.slice o n c,.int .i64 0])∧Hid (SolB n m (at2 A) (at1 V) (1048576+lv+2001) p x)∧LQ w' o ((List.range n).map fun i=>qC (x i) p)∧Below w.heap.size w w' :=
 Calls.mono (pp_all hl ha hna h hk hv hnv hKk hm hT) fun e w' ⟨h1,h2⟩=>by
  rcases h1 with ⟨_,h3,h1,_⟩ | ⟨_,h1,_⟩ | ⟨_,p,y,h1,hb,o,c,h3,h4⟩
  ·have:=Dt.Rk.eq noz one_ne h1 hr;omega
  ·exact absurd hS (h1 p0 x0)
  ·exact⟨p,y,o,c,h3,hide ⟨h1,hb⟩,h4,h2⟩
end
theorem sol_one {p:Int × Int} {x y:Nat→Int × Int} {M:Nat→Nat→Int × Int} {v:Nat→Int × Int} (hD:Dt.det n (gG m M)≠0) (h1:Sol n m M v p x) (h2:∀c,c<m→v c=Dt.sm n fun i=>y i*M i c) {i:Nat} (hi:i<n):x i=p*y i:=by
 have e1:=yR_eq h1 hi
 have e2:=yR_eq (M:=M) (v:=v) (p:=1) (x:=y) ⟨one_ne,fun c hc=>by rw[←h2 c hc];grind⟩ hi
 refine eqmul hD ?_
 rw[←e1]
 have:yR n m M v i=Dt.det n (gG m M)*y i:=by rw[←e2];grind
 rw[this];grind
theorem pp_back {Y:List (Int × Int)} {p0:Int × Int} {o:Option Addr} {c lv:Nat} (hl:lv≤2200000) (ha:MN 1048576 w oa A) (hna:A.length=n) (h:gd A) (hk:wd A=k) (hv:SN lv w o (rowC Y A n k)) (hT:Tot 1048576 A) (hr:Dt.Rk n k (at2 A) n) (hD:Dt.det n (gG k (at2 A))≠0) :
  Calls Tryz.prog 5 #[.slice oa n ca,.slice o k c] w fun e w'=>∃o c,e = .returned (.tuple #[.slice o n c,.int .i64 0])∧LQ w' o ((List.range n).map fun i=>(rv (at1 Y i).1 1,rv (at1 Y i).2 1))∧Below w.heap.size w w':=by
 have hk64:k≤64:=by have:=h.2.1;omega
 have er:∀c,c<k→at1 (rowC Y A n k) c=Dt.sm n fun i=>at1 Y i*at2 A i c:=fun c hc=>by
  unfold rowC;rw[at1_map hc,sm_sumP];rfl
 refine Calls.mono (pp_yes (p0:=1) (x0:=at1 Y) hl ha hna h hk hv rowC_len (fun _=>rfl) (by omega) hT hr ⟨one_ne,fun c hc=>by rw[er c hc];grind⟩) fun e w' ⟨p,x,o,c,h1,h2,h3,h4⟩=>⟨o,c,h1,?_,h4⟩
 have h5:=h2.out.1
 rw[show ((List.range n).map fun i=>(rv (at1 Y i).1 1,rv (at1 Y i).2 1))=(List.range n).map fun i=>qC (x i) p from List.map_congr_left fun i hi=>by
  rw[sol_one hD h5 er (List.mem_range.1 hi),qC_self h5.1]]
 exact h3
end
end Go.Proofs.YthmolpepinolkaaGreat
