/- gfrac's reference; the law's told, is, awake. -/
import Derived.Test.YthmolpepinolkaaGreatT1ToX6
namespace Go.Proofs.YthmolpepinolkaaGreat
open Go Go.RowKit Dig
set_option linter.unusedVariables false
section
variable {w:World} {va vb:Value} {x y u v p q s t:Int} {l m k n l2 m2 k2 n2:Nat}
theorem rv_neg1 (x y:Int):rv (-x) y = -rv x y:=by unfold rv;rw[Rat.intCast_neg];grind
theorem rfsame_r {r:Rat} (ha:PC w va r.num r.den) (hq:PN w vb r.num l r.den m) (hl:l≤44000000) (hm:m≤44000000) :
  Calls Tryz.prog 38 #[va,vb] w fun e w'=>e = .returned (.bool true)∧Below w.heap.size w w' :=
 rfsame_any (u:=r.num) (v:=r.den) (by rw[qN_low (rat_low r),qD_low (rat_low r)];exact ha) hq hl hm (den_ne r)
theorem rv_nd (r:Rat):rv r.num r.den=r:=rv_self r
set_option maxHeartbeats 4000000 in
set_option maxRecDepth 20000 in
theorem r7Same_ok {a b:Rat} (ha:CC w va a.num a.den b.num b.den) (hq:CN w vb a.num l a.den m b.num k b.den n) (hl:l≤44000000) (hm:m≤44000000) (hk:k≤44000000) (hn:n≤44000000) :
  Calls Tryz.prog 10 #[va,vb] w fun e w'=>e = .returned (.bool true)∧Below w.heap.size w w':=by
 obtain⟨n_0a,o_0a,k_0a,c_0a,n_0b,o_0b,k_0b,c_0b,n_0c,o_0c,k_0c,c_0c,n_0d,o_0d,k_0d,c_0d,rfl,ha1,ha2,ha3,ha4⟩:=ha
 obtain⟨n_1a,o_1a,k_1a,c_1a,n_1b,o_1b,k_1b,c_1b,n_1c,o_1c,k_1c,c_1c,n_1d,o_1d,k_1d,c_1d,rfl,hq1,hq2,hq3,hq4⟩:=hq
 go_enter Tryz.func10,Tryz.ntmps10
 have hs:=St.nil w
 refine zk fun K1 hK1=>rg [0,1,2] ?_
 refine sq ?_
 refine .al hs ?_;clear hs;intro p_b1 w_1 hs n1 kb_b1
 refine sq ?_
 refine .al hs ?_;clear hs;intro p_b2 w_2 hs n2 kb_b2
 refine sm (ze (hK1 _ _ ?_))
 refine zk fun K2 hK2=>rg [0,1,2,3,4,5,6,7,8,9,10,11,12] ?_
 refine sr ?_
 refine sq ?_
 refine .r4 ⟨hs.g1.cell 0 rfl,hs.g1.cell 1 rfl,hs.g1.cell 2 rfl,hs.g1.cell 3 rfl⟩ ?_
 refine sr ?_
 refine sq ?_
 refine .r4 ⟨hs.g0.cell 0 rfl,hs.g0.cell 1 rfl,hs.g0.cell 2 rfl,hs.g0.cell 3 rfl⟩ ?_
 refine sq ?_
 intro K hK
 have k0_2:=(kb n1).b n2
 replace ha1:=ha1.k k0_2
 replace ha2:=ha2.k k0_2
 replace hq1:=hq1.k k0_2
 replace hq2:=hq2.k k0_2
 go_big_op
 go_fit (rfsame_r (.mk' ha1 ha2) (.mk' hq1 hq2) hl hm)
 rintro e w_3 ⟨rfl,hb_3⟩
 replace hs:=hs.bl hb_3
 refine hK _ _ rfl trivial ?_
 clear hK K
 refine xmr ?_
 refine sq ?_
 refine .r4 ⟨hs.g1.cell 4 rfl,hs.g1.cell 5 rfl,hs.g1.cell 6 rfl,hs.g1.cell 7 rfl⟩ ?_
 refine sr ?_
 refine sq ?_
 refine .r4 ⟨hs.g0.cell 4 rfl,hs.g0.cell 5 rfl,hs.g0.cell 6 rfl,hs.g0.cell 7 rfl⟩ ?_
 refine sq ?_
 intro K hK
 have k0_3:=k0_2.b hb_3
 replace ha3:=ha3.k k0_3
 replace ha4:=ha4.k k0_3
 replace hq3:=hq3.k k0_3
 replace hq4:=hq4.k k0_3
 go_big_op
 go_fit (rfsame_r (.mk' ha3 ha4) (.mk' hq3 hq4) hk hn)
 rintro e w_4 ⟨rfl,hb_4⟩
 replace hs:=hs.bl hb_4
 refine hK _ _ rfl trivial ?_
 clear hK K
 refine sr ?_
 refine sm (ze (hK2 _ _ ?_))
 refine wp_ret ?_
 try dsimp only [Exit.then,Exit.inBlock]
 refine bodyPost_ret (v:=(.bool true)) (by simp[results,Tryz.results10,go_sem]) rfl ?_
 have hb:=hs.b
 exact⟨rfl,hb⟩
end
set_option maxHeartbeats 4000000
set_option maxRecDepth 20000
section
variable {w:World} {va vb:Value} {x y u v p q s t:Int} {l m k n l2 m2 k2 n2:Nat}
theorem gfOf_any (ha:PN w va x l y m) (hl:l≤10000000) (hm:m≤10000000) :
  Calls Tryz.prog 11 #[va] w fun e w'=>∃r,e = .returned r∧CC w' r (rv x 1).num (rv x 1).den (rv y 1).num (rv y 1).den∧Below w.heap.size w w':=by
 have H1:=hide (show (1:Int)≠0 by decide)
 obtain⟨n_0a,o_0a,k_0a,c_0a,n_0b,o_0b,k_0b,c_0b,rfl,ha1,ha2⟩:=ha
 go_enter Tryz.func11,Tryz.ntmps11
 have hs:=St.nil w
 refine zk fun K1 hK1=>rg [0,1] ?_
 refine sq ?_
 refine .al hs ?_;clear hs;intro p_b1 w_1 hs n1 kb_b1
 refine sq ?_
 refine .al hs ?_;clear hs;intro p_b2 w_2 hs n2 kb_b2
 refine ze (hK1 _ _ ?_)
 refine zk fun K2 hK2 => ?_
 refine wp_region_f4 [(0,false),(1,true),(2,true),(3,true),(4,false),(5,false),(6,false)] [8,9] [7] (fun j=>(.cells #[.bool false,.slice none 0 0,.bool false,.slice none 0 0,.bool false,.slice none 0 0,.bool false,.slice none 0 0] 41)) [0,99,99,99,99,99,99,99,99,99] [] (.c hs.g1 .n) (fm fn) fun w_3 n3 => ?_
 replace hs:=hs.bl n3
 have hlB:=hs.lt;have hkB:=hs.k
 refine f4 ?_
 refine fl fun w_4 n4 => ?_
 replace hs:=hs.bl n4
 intro K hK
 go_big_op
 go_fit (from_any (1:Int) _ (by decide) (by decide))
 rintro e w_5 ⟨v_g,rfl,g,hb_5⟩
 replace hs:=hs.bl hb_5
 replace g:=g.rd
 obtain⟨n_g,o_g,k_g,c_g,rfl⟩:=g.open2
 have Lg:=hide (g.lenOf (zlen_i (1:Int) (by decide) (by decide)))
 refine hK _ _ rfl ⟨hb_5,(ai hs.g1 trivial)⟩ ?_
 clear hK K
 refine fl fun w_6 n6 => ?_
 replace hs:=hs.bl n6
 intro K hK
 have k0_6:=(((((kb n1).b n2).b n3).b n4).b hb_5).b n6
 replace ha1:=ha1.k k0_6
 replace ha2:=ha2.k k0_6
 have k5_6:=kb n6
 replace g:=g.k k5_6
 go_big_op
 go_fit (over_c (PN.mk' ha1 ha2) (g.zn Lg.out)  )
 rintro e w_7 ⟨_,rfl,⟨n_ov1,o_ov1,k_ov1,c_ov1,n_ov2,o_ov2,k_ov2,c_ov2,n_ov3,o_ov3,k_ov3,c_ov3,n_ov4,o_ov4,k_ov4,c_ov4,rfl,ov1,ov2,ov3,ov4⟩,hb_7⟩
 replace hs:=hs.bl hb_7
 refine hK _ _ rfl ⟨hb_7,(ai hs.g1 trivial)⟩ ?_
 clear hK K
 refine fl fun w_8 n8 => ?_
 replace hs:=hs.bl n8
 intro K hK
 have k7_8:=kb n8
 replace ov1:=ov1.k k7_8
 replace ov2:=ov2.k k7_8
 replace ov3:=ov3.k k7_8
 replace ov4:=ov4.k k7_8
 go_big_op
 go_fit (low_ok (CN.mk' ov1 ov2 ov3 ov4) (by omega) (by omega) (by omega) (by omega) H1.out H1.out)
 rintro e w_9 ⟨_,rfl,⟨n_r1,o_r1,k_r1,c_r1,n_r2,o_r2,k_r2,c_r2,n_r3,o_r3,k_r3,c_r3,n_r4,o_r4,k_r4,c_r4,rfl,r1,r2,r3,r4⟩,hb_9⟩
 replace hs:=hs.bl hb_9
 refine hK _ _ rfl ⟨hb_9,(ai hs.g1 trivial)⟩ ?_
 clear hK K
 refine fmv ?_
 refine f0 ?_
 refine f0 ?_
 refine e1 hs hlB hkB ?_;clear hs hlB hkB;intro w_10 p_b3 hs n10 kb_b3
 refine tl ?_
 intro K hK
 have xs:=hs.g0
 have d0:w_10.cell? ⟨p_b3,0,none⟩=some (.bool false):=hs.g0.cell 0 rfl
 have d1:w_10.cell? ⟨p_b3,1,none⟩=some (.slice none 0 0):=hs.g0.cell 1 rfl
 have d2:w_10.cell? ⟨p_b3,2,none⟩=some (.bool false):=hs.g0.cell 2 rfl
 have d3:w_10.cell? ⟨p_b3,3,none⟩=some (.slice none 0 0):=hs.g0.cell 3 rfl
 have d4:w_10.cell? ⟨p_b3,4,none⟩=some (.bool false):=hs.g0.cell 4 rfl
 have d5:w_10.cell? ⟨p_b3,5,none⟩=some (.slice none 0 0):=hs.g0.cell 5 rfl
 have d6:w_10.cell? ⟨p_b3,6,none⟩=some (.bool false):=hs.g0.cell 6 rfl
 have d7:w_10.cell? ⟨p_b3,7,none⟩=some (.slice none 0 0):=hs.g0.cell 7 rfl
 have f0:=xs.free 0;have f1:=xs.free 1;have f2:=xs.free 2;have f3:=xs.free 3;have f4:=xs.free 4;have f5:=xs.free 5;have f6:=xs.free 6;have f7:=xs.free 7
 go_big_op
 have hd11:=xs.nod rfl rfl
 obtain⟨w_11_0,eW,xs_0,ho_0⟩:∃w',((((w_10.setCell ⟨p_b3,0,none⟩ (.bool n_r1)).setCell ⟨p_b3,1,none⟩ (.slice o_r1 k_r1 c_r1)).setCell ⟨p_b3,2,none⟩ (.bool n_r2)).setCell ⟨p_b3,3,none⟩ (.slice o_r2 k_r2 c_r2))=w'∧Bs w' p_b3 #[.bool n_r1,.slice o_r1 k_r1 c_r1,.bool n_r2,.slice o_r2 k_r2 c_r2,.bool false,.slice none 0 0,.bool false,.slice none 0 0] 41∧Only p_b3 w_10 w':=xs.setN [(0,.bool n_r1),(1,.slice o_r1 k_r1 c_r1),(2,.bool n_r2),(3,.slice o_r2 k_r2 c_r2)]
 rw[eW];clear eW
 obtain⟨w_11,eW,xs',ho_4⟩:∃w',((((w_11_0.setCell ⟨p_b3,4,none⟩ (.bool n_r3)).setCell ⟨p_b3,5,none⟩ (.slice o_r3 k_r3 c_r3)).setCell ⟨p_b3,6,none⟩ (.bool n_r4)).setCell ⟨p_b3,7,none⟩ (.slice o_r4 k_r4 c_r4))=w'∧Bs w' p_b3 #[.bool n_r1,.slice o_r1 k_r1 c_r1,.bool n_r2,.slice o_r2 k_r2 c_r2,.bool n_r3,.slice o_r3 k_r3 c_r3,.bool n_r4,.slice o_r4 k_r4 c_r4] 41∧Only p_b3 w_11_0 w':=xs_0.setN [(4,.bool n_r3),(5,.slice o_r3 k_r3 c_r3),(6,.bool n_r4),(7,.slice o_r4 k_r4 c_r4)]
 rw[eW];clear eW xs_0
 have ho11:=(ho_0.trans ho_4)
 clear ho_0 ho_4 d0 d1 d2 d3 d4 d5 d6 d7 f0 f1 f2 f3 f4 f5 f6 f7 xs
 replace hs:=hs.u0 kb_b3 xs' ho11;clear xs'
 refine hK _ _ rfl (ai hs.g2 trivial) ?_;clear hK K
 refine tl ?_
 refine .mv ?_ (e:=(ai hs.g2 trivial))
 apply wpTail_end
 refine hK2 _ _ ?_
 refine zk fun K3 hK3=>rg [0,1] ?_
 refine sq ?_
 intro K hK
 have d0:w_11.cell? ⟨p_b3,0,none⟩=some (.bool n_r1):=hs.g0.cell 0 rfl
 have d1:w_11.cell? ⟨p_b3,1,none⟩=some (.slice o_r1 k_r1 c_r1):=hs.g0.cell 1 rfl
 have d2:w_11.cell? ⟨p_b3,2,none⟩=some (.bool n_r2):=hs.g0.cell 2 rfl
 have d3:w_11.cell? ⟨p_b3,3,none⟩=some (.slice o_r2 k_r2 c_r2):=hs.g0.cell 3 rfl
 have d4:w_11.cell? ⟨p_b3,4,none⟩=some (.bool n_r3):=hs.g0.cell 4 rfl
 have d5:w_11.cell? ⟨p_b3,5,none⟩=some (.slice o_r3 k_r3 c_r3):=hs.g0.cell 5 rfl
 have d6:w_11.cell? ⟨p_b3,6,none⟩=some (.bool n_r4):=hs.g0.cell 6 rfl
 have d7:w_11.cell? ⟨p_b3,7,none⟩=some (.slice o_r4 k_r4 c_r4):=hs.g0.cell 7 rfl
 go_big_op;refine hK _ _ rfl trivial ?_;clear hK K d0 d1 d2 d3 d4 d5 d6 d7
 refine sq ?_
 intro K hK
 have xs:=hs.g1
 have d0:w_11.cell? ⟨p_b2,0,none⟩=some (.bool false):=hs.g1.cell 0 rfl
 have d1:w_11.cell? ⟨p_b2,1,none⟩=some (.slice none 0 0):=hs.g1.cell 1 rfl
 have d2:w_11.cell? ⟨p_b2,2,none⟩=some (.bool false):=hs.g1.cell 2 rfl
 have d3:w_11.cell? ⟨p_b2,3,none⟩=some (.slice none 0 0):=hs.g1.cell 3 rfl
 have d4:w_11.cell? ⟨p_b2,4,none⟩=some (.bool false):=hs.g1.cell 4 rfl
 have d5:w_11.cell? ⟨p_b2,5,none⟩=some (.slice none 0 0):=hs.g1.cell 5 rfl
 have d6:w_11.cell? ⟨p_b2,6,none⟩=some (.bool false):=hs.g1.cell 6 rfl
 have d7:w_11.cell? ⟨p_b2,7,none⟩=some (.slice none 0 0):=hs.g1.cell 7 rfl
 have f0:=xs.free 0;have f1:=xs.free 1;have f2:=xs.free 2;have f3:=xs.free 3;have f4:=xs.free 4;have f5:=xs.free 5;have f6:=xs.free 6;have f7:=xs.free 7
 go_big_op
 have hd12:=xs.nod rfl rfl
 obtain⟨w_12_0,eW,xs_0,ho_0⟩:∃w',((((w_11.setCell ⟨p_b2,0,none⟩ (.bool n_r1)).setCell ⟨p_b2,1,none⟩ (.slice o_r1 k_r1 c_r1)).setCell ⟨p_b2,2,none⟩ (.bool n_r2)).setCell ⟨p_b2,3,none⟩ (.slice o_r2 k_r2 c_r2))=w'∧Bs w' p_b2 #[.bool n_r1,.slice o_r1 k_r1 c_r1,.bool n_r2,.slice o_r2 k_r2 c_r2,.bool false,.slice none 0 0,.bool false,.slice none 0 0] 41∧Only p_b2 w_11 w':=xs.setN [(0,.bool n_r1),(1,.slice o_r1 k_r1 c_r1),(2,.bool n_r2),(3,.slice o_r2 k_r2 c_r2)]
 rw[eW];clear eW
 obtain⟨w_12,eW,xs',ho_4⟩:∃w',((((w_12_0.setCell ⟨p_b2,4,none⟩ (.bool n_r3)).setCell ⟨p_b2,5,none⟩ (.slice o_r3 k_r3 c_r3)).setCell ⟨p_b2,6,none⟩ (.bool n_r4)).setCell ⟨p_b2,7,none⟩ (.slice o_r4 k_r4 c_r4))=w'∧Bs w' p_b2 #[.bool n_r1,.slice o_r1 k_r1 c_r1,.bool n_r2,.slice o_r2 k_r2 c_r2,.bool n_r3,.slice o_r3 k_r3 c_r3,.bool n_r4,.slice o_r4 k_r4 c_r4] 41∧Only p_b2 w_12_0 w':=xs_0.setN [(4,.bool n_r3),(5,.slice o_r3 k_r3 c_r3),(6,.bool n_r4),(7,.slice o_r4 k_r4 c_r4)]
 rw[eW];clear eW xs_0
 have ho12:=(ho_0.trans ho_4)
 clear ho_0 ho_4 d0 d1 d2 d3 d4 d5 d6 d7 f0 f1 f2 f3 f4 f5 f6 f7 xs
 replace hs:=hs.u1 kb_b2 xs' ho12;clear xs'
 clear g ov1 ov2 ov3 ov4 ha1 ha2
 refine hK _ _ rfl trivial ?_;clear hK K
 refine ze (hK3 _ _ ?_)
 refine wp_ret ?_
 try dsimp only [Exit.then,Exit.inBlock]
 have r0_0:w_12.cell? ⟨p_b2,0,none⟩=some (.bool n_r1):=hs.g1.cell 0 rfl
 have r0_1:w_12.cell? ⟨p_b2,1,none⟩=some (.slice o_r1 k_r1 c_r1):=hs.g1.cell 1 rfl
 have r0_2:w_12.cell? ⟨p_b2,2,none⟩=some (.bool n_r2):=hs.g1.cell 2 rfl
 have r0_3:w_12.cell? ⟨p_b2,3,none⟩=some (.slice o_r2 k_r2 c_r2):=hs.g1.cell 3 rfl
 have r0_4:w_12.cell? ⟨p_b2,4,none⟩=some (.bool n_r3):=hs.g1.cell 4 rfl
 have r0_5:w_12.cell? ⟨p_b2,5,none⟩=some (.slice o_r3 k_r3 c_r3):=hs.g1.cell 5 rfl
 have r0_6:w_12.cell? ⟨p_b2,6,none⟩=some (.bool n_r4):=hs.g1.cell 6 rfl
 have r0_7:w_12.cell? ⟨p_b2,7,none⟩=some (.slice o_r4 k_r4 c_r4):=hs.g1.cell 7 rfl
 refine bodyPost_ret (v:=(.agg #[.bool n_r1,.slice o_r1 k_r1 c_r1,.bool n_r2,.slice o_r2 k_r2 c_r2,.bool n_r3,.slice o_r3 k_r3 c_r3,.bool n_r4,.slice o_r4 k_r4 c_r4])) (by simp[results,Tryz.results11,go_sem,r0_0,r0_1,r0_2,r0_3,r0_4,r0_5,r0_6,r0_7]) rfl ?_
 have k9_12:=((kb n10).o hd11 ho11).o hd12 ho12
 replace r1:=r1.k k9_12
 replace r2:=r2.k k9_12
 replace r3:=r3.k k9_12
 replace r4:=r4.k k9_12
 exact⟨_,rfl,.mk' r1 r2 r3 r4,hs.b⟩
theorem rfZ_any {z:Int} (ha:ZN w va z l) (hl:l≤10000000) :
  Calls Tryz.prog 54 #[va] w fun e w'=>∃r,e = .returned r∧PC w' r z 1∧Below w.heap.size w w':=by
 obtain⟨n_0,o_0,k_0,c_0,rfl⟩:=ha.open2
 go_enter Tryz.func54,Tryz.ntmps54
 have hs:=St.nil w
 refine zk fun K1 hK1=>rg [0,1] ?_
 refine sq ?_
 refine .al hs ?_;clear hs;intro p_b1 w_1 hs n1 kb_b1
 refine sq ?_
 refine .al hs ?_;clear hs;intro p_b2 w_2 hs n2 kb_b2
 refine ze (hK1 _ _ ?_)
 refine zk fun K2 hK2=>rg [0,1,2,3,4] ?_
 refine sq ?_
 refine .r2 hs.g1.f2 ?_
 refine sq ?_
 intro K hK
 have k0_2:=(kb n1).b n2
 replace ha:=ha.k k0_2
 go_big_op
 go_fit (rnorm_any ha (by omega) )
 rintro e w_3 ⟨v_g,rfl,g,hb_3⟩
 replace hs:=hs.bl hb_3
 replace g:=g.rd
 obtain⟨n_g,o_g,k_g,c_g,rfl⟩:=g.open2
 refine hK _ _ rfl trivial ?_
 clear hK K
 refine sq ?_
 intro K hK
 go_big_op
 go_fit (ri_any 1 _ (by decide) (by decide))
 rintro e w_4 ⟨v_rb,rfl,rb,hb_4⟩
 replace hs:=hs.bl hb_4
 replace rb:=rb.rd
 obtain⟨n_rb,o_rb,k_rb,c_rb,rfl⟩:=rb.open2
 refine hK _ _ rfl trivial ?_
 clear hK K
 refine sr ?_
 refine sq ?_
 refine .s4 hs.g0 (fun _=>hs.u0 kb_b2) ?_;clear hs;intro w_5 hs hd5 ho5
 refine ze (hK2 _ _ ?_)
 refine wp_ret ?_
 try dsimp only [Exit.then,Exit.inBlock]
 obtain⟨r0_0,r0_1,r0_2,r0_3⟩:=hs.g0.f4
 refine bodyPost_ret (v:=(.agg #[.bool n_g,.slice o_g k_g c_g,.bool n_rb,.slice o_rb k_rb c_rb])) (by simp[results,Tryz.results54,go_sem,r0_0,r0_1,r0_2,r0_3]) rfl ?_
 have k3_5:=(kb hb_4).o hd5 ho5
 replace g:=g.k k3_5
 have k4_5:=ko hd5 ho5
 replace rb:=rb.k k4_5
 exact⟨_,rfl,.mk' g rb,hs.b⟩
theorem r7Of_any (ha:PN w va x l y m) (hl:l≤10000000) (hm:m≤10000000) :
  Calls Tryz.prog 18 #[va] w fun e w'=>∃r,e = .returned r∧CC w' r x 1 y 1∧Below w.heap.size w w':=by
 obtain⟨n_0a,o_0a,k_0a,c_0a,n_0b,o_0b,k_0b,c_0b,rfl,ha1,ha2⟩:=ha
 go_enter Tryz.func18,Tryz.ntmps18
 have hs:=St.nil w
 refine zk fun K1 hK1=>rg [0,1] ?_
 refine sq ?_
 refine .al hs ?_;clear hs;intro p_b1 w_1 hs n1 kb_b1
 refine sq ?_
 refine .al hs ?_;clear hs;intro p_b2 w_2 hs n2 kb_b2
 refine ze (hK1 _ _ ?_)
 refine zk fun K2 hK2 => ?_
 refine wp_region_f4 [(0,false),(1,false),(3,false),(4,false),(2,true),(5,true),(6,false)] [7] [] (fun _=>default) [99,0,99,99,0,99,99,99] [] (.c hs.g1 .n) fn fun w_3 n3 => ?_
 replace hs:=hs.bl n3
 refine f0 ?_
 refine f4 ?_
 refine f0 ?_
 refine f4 ?_
 refine fl fun w_4 n4 => ?_
 replace hs:=hs.bl n4
 intro K hK
 have k0_4:=(((kb n1).b n2).b n3).b n4
 replace ha1:=ha1.k k0_4
 go_big_op
 go_fit (rfZ_any ha1 (by omega))
 rintro e w_5 ⟨_,rfl,⟨n_gaa,o_gaa,k_gaa,c_gaa,n_gab,o_gab,k_gab,c_gab,rfl,ga1,ga2⟩,hb_5⟩
 replace hs:=hs.bl hb_5
 refine hK _ _ rfl ⟨hb_5,(ai hs.g1 trivial)⟩ ?_
 clear hK K
 refine fl fun w_6 n6 => ?_
 replace hs:=hs.bl n6
 intro K hK
 have k0_6:=(k0_4.b hb_5).b n6
 replace ha2:=ha2.k k0_6
 go_big_op
 go_fit (rfZ_any ha2 (by omega))
 rintro e w_7 ⟨_,rfl,⟨n_gba,o_gba,k_gba,c_gba,n_gbb,o_gbb,k_gbb,c_gbb,rfl,gb1,gb2⟩,hb_7⟩
 replace hs:=hs.bl hb_7
 refine hK _ _ rfl ⟨hb_7,(ai hs.g1 trivial)⟩ ?_
 clear hK K
 refine f0 ?_
 refine e0 hs ?_;clear hs;intro w_8 hs n8
 refine tl ?_
 intro K hK
 have xs:=hs.g0
 have d0:w_8.cell? ⟨p_b2,0,none⟩=some (.bool false):=hs.g0.cell 0 rfl
 have d1:w_8.cell? ⟨p_b2,1,none⟩=some (.slice none 0 0):=hs.g0.cell 1 rfl
 have d2:w_8.cell? ⟨p_b2,2,none⟩=some (.bool false):=hs.g0.cell 2 rfl
 have d3:w_8.cell? ⟨p_b2,3,none⟩=some (.slice none 0 0):=hs.g0.cell 3 rfl
 have d4:w_8.cell? ⟨p_b2,4,none⟩=some (.bool false):=hs.g0.cell 4 rfl
 have d5:w_8.cell? ⟨p_b2,5,none⟩=some (.slice none 0 0):=hs.g0.cell 5 rfl
 have d6:w_8.cell? ⟨p_b2,6,none⟩=some (.bool false):=hs.g0.cell 6 rfl
 have d7:w_8.cell? ⟨p_b2,7,none⟩=some (.slice none 0 0):=hs.g0.cell 7 rfl
 have f0:=xs.free 0;have f1:=xs.free 1;have f2:=xs.free 2;have f3:=xs.free 3;have f4:=xs.free 4;have f5:=xs.free 5;have f6:=xs.free 6;have f7:=xs.free 7
 go_big_op
 have hd9:=xs.nod rfl rfl
 obtain⟨w_9_0,eW,xs_0,ho_0⟩:∃w',((((w_8.setCell ⟨p_b2,0,none⟩ (.bool n_gaa)).setCell ⟨p_b2,1,none⟩ (.slice o_gaa k_gaa c_gaa)).setCell ⟨p_b2,2,none⟩ (.bool n_gab)).setCell ⟨p_b2,3,none⟩ (.slice o_gab k_gab c_gab))=w'∧Bs w' p_b2 #[.bool n_gaa,.slice o_gaa k_gaa c_gaa,.bool n_gab,.slice o_gab k_gab c_gab,.bool false,.slice none 0 0,.bool false,.slice none 0 0] 41∧Only p_b2 w_8 w':=xs.setN [(0,.bool n_gaa),(1,.slice o_gaa k_gaa c_gaa),(2,.bool n_gab),(3,.slice o_gab k_gab c_gab)]
 rw[eW];clear eW
 obtain⟨w_9,eW,xs',ho_4⟩:∃w',((((w_9_0.setCell ⟨p_b2,4,none⟩ (.bool n_gba)).setCell ⟨p_b2,5,none⟩ (.slice o_gba k_gba c_gba)).setCell ⟨p_b2,6,none⟩ (.bool n_gbb)).setCell ⟨p_b2,7,none⟩ (.slice o_gbb k_gbb c_gbb))=w'∧Bs w' p_b2 #[.bool n_gaa,.slice o_gaa k_gaa c_gaa,.bool n_gab,.slice o_gab k_gab c_gab,.bool n_gba,.slice o_gba k_gba c_gba,.bool n_gbb,.slice o_gbb k_gbb c_gbb] 41∧Only p_b2 w_9_0 w':=xs_0.setN [(4,.bool n_gba),(5,.slice o_gba k_gba c_gba),(6,.bool n_gbb),(7,.slice o_gbb k_gbb c_gbb)]
 rw[eW];clear eW xs_0
 have ho9:=(ho_0.trans ho_4)
 clear ho_0 ho_4 d0 d1 d2 d3 d4 d5 d6 d7 f0 f1 f2 f3 f4 f5 f6 f7 xs
 replace hs:=hs.u0 kb_b2 xs' ho9;clear xs'
 refine hK _ _ rfl (ai hs.g1 trivial) ?_;clear hK K
 apply wpTail_end
 refine hK2 _ _ ?_
 refine wp_ret ?_
 try dsimp only [Exit.then,Exit.inBlock]
 have r0_0:w_9.cell? ⟨p_b2,0,none⟩=some (.bool n_gaa):=hs.g0.cell 0 rfl
 have r0_1:w_9.cell? ⟨p_b2,1,none⟩=some (.slice o_gaa k_gaa c_gaa):=hs.g0.cell 1 rfl
 have r0_2:w_9.cell? ⟨p_b2,2,none⟩=some (.bool n_gab):=hs.g0.cell 2 rfl
 have r0_3:w_9.cell? ⟨p_b2,3,none⟩=some (.slice o_gab k_gab c_gab):=hs.g0.cell 3 rfl
 have r0_4:w_9.cell? ⟨p_b2,4,none⟩=some (.bool n_gba):=hs.g0.cell 4 rfl
 have r0_5:w_9.cell? ⟨p_b2,5,none⟩=some (.slice o_gba k_gba c_gba):=hs.g0.cell 5 rfl
 have r0_6:w_9.cell? ⟨p_b2,6,none⟩=some (.bool n_gbb):=hs.g0.cell 6 rfl
 have r0_7:w_9.cell? ⟨p_b2,7,none⟩=some (.slice o_gbb k_gbb c_gbb):=hs.g0.cell 7 rfl
 refine bodyPost_ret (v:=(.agg #[.bool n_gaa,.slice o_gaa k_gaa c_gaa,.bool n_gab,.slice o_gab k_gab c_gab,.bool n_gba,.slice o_gba k_gba c_gba,.bool n_gbb,.slice o_gbb k_gbb c_gbb])) (by simp[results,Tryz.results18,go_sem,r0_0,r0_1,r0_2,r0_3,r0_4,r0_5,r0_6,r0_7]) rfl ?_
 have k5_9:=(((kb n6).b hb_7).b n8).o hd9 ho9
 replace ga1:=ga1.k k5_9
 replace ga2:=ga2.k k5_9
 have k7_9:=(kb n8).o hd9 ho9
 replace gb1:=gb1.k k7_9
 replace gb2:=gb2.k k7_9
 exact⟨_,rfl,.mk' ga1 ga2 gb1 gb2,hs.b⟩
end
section
variable {w w0:World} {l la n k L ca:Nat} {oa:Option Addr} {bs:List En} {A:List (List (Int × Int))}
theorem rank_ok (ha:MN la w oa A) (hna:A.length=n) (h:gd A) (hk:wd A=k) (hB:MinB n k L (at2 A)) (hL:L≤3300000) (hla:la≤20000000) :
  Calls Tryz.prog 53 #[.slice oa n ca] w fun e w'=>∃r:Nat,e = .returned (.tuple #[.int .i64 (r:Int),.int .i64 0])∧Dt.Rk n k (at2 A) r∧Below w.heap.size w w':=by
 have HA:=hide ha
 have H:=hide h
 have HK:=hide hk
 have HB:=hide hB
 have hn64:n≤64:=by have:=h.1;omega
 have hk64:k≤64:=by have:=h.2.1;omega
 clear ha h hk hB
 go_enter Tryz.func53,Tryz.ntmps53
 have hs:=St.nil w
 refine zk fun K1 hK1=>rg [0,1] ?_
 refine sm ?_
 refine sm (ze (hK1 _ _ ?_))
 refine zk fun K2 hK2 => ?_
 refine zk fun K3 hK3=>rg [0,1,2] ?_
 refine sm ?_
 refine sq ?_
 intro K hK
 have hb:=hs.b
 go_big_op
 go_fit (good_yes (HA.out.bl stab_n hb) hna (by omega) H.out)
 rintro e w_1 ⟨rfl,hb_1⟩
 clear hb
 replace hs:=hs.bl hb_1
 refine hK _ _ rfl trivial ?_
 clear hK K
 refine sr (ze (hK3 _ _ ?_))
 refine cf ?_
 refine wp_skip ?_
 refine hK2 _ _ ?_
 refine zk fun K4 hK4=>rg [0,1,2,3,4,5] ?_
 refine sm ?_
 refine sq ?_
 intro K hK
 go_big_op
 go_fit (laid_any hs HA.out hna H.out HK.out hla)
 have bb2:=hs.b
 rintro e w_2 ⟨p_t,o_t,c_t,rs_t,rfl,kb_bt,hl_t,hd,hs',kp2⟩
 clear hs;have hs:=hs';clear hs'
 have bc2:=hs.b
 clear bb2 bc2
 refine hK _ _ rfl trivial ?_
 clear hK K
 refine sq ?_
 intro K hK
 go_big_op
 go_fit (pivots_any (bs:=[]) hs kb_bt hl_t hd nl nl (by omega) (by omega) HB.out hL)
 have bb3:=hs.b
 rintro e w_3 ⟨o9,c9,xs,r,A2,F2,odd2,rs2,rfl,hF,hL9,hA2,hl2,hd2,hs',kp3⟩
 clear hs;have hs:=hs';clear hs'
 have bc3:=hs.b
 clear bb3 bc3
 have HRK:=hide hF.rk
 clear hF
 refine hK _ _ rfl trivial ?_
 clear hK K
 refine xrm ?_
 refine sm (ze (hK4 _ _ ?_))
 refine wp_ret ?_
 try dsimp only [Exit.then,Exit.inBlock]
 refine bodyPost_ret (v:=(.tuple #[(.int .i64 ((r:Nat):Int)),(.int .i64 0)])) (by simp[results,Tryz.results53,go_sem]) rfl ?_
 exact⟨r,rfl,HRK.out,hs.b⟩
theorem rank_is {r:Nat} (ha:MN la w oa A) (hna:A.length=n) (h:gd A) (hk:wd A=k) (hB:MinB n k L (at2 A)) (hL:L≤3300000) (hla:la≤20000000) (hr:Dt.Rk n k (at2 A) r) :
  Calls Tryz.prog 53 #[.slice oa n ca] w fun e w'=>e = .returned (.tuple #[.int .i64 (r:Int),.int .i64 0])∧Below w.heap.size w w' :=
 Calls.mono (rank_ok (ca:=ca) ha hna h hk hB hL hla) fun e w' ⟨s,h1,h2,h3⟩=>by
  obtain rfl:=Dt.Rk.eq noz one_ne h2 hr
  exact⟨h1,h3⟩
theorem independent_is {r:Nat} (ha:MN la w oa A) (hna:A.length=n) (h:gd A) (hk:wd A=k) (hB:MinB n k L (at2 A)) (hL:L≤3300000) (hla:la≤20000000) (hr:Dt.Rk n k (at2 A) r) :
  Calls Tryz.prog 17 #[.slice oa n ca] w fun e w'=>e = .returned (.tuple #[.bool (decide (r=n)),.int .i64 0])∧Below w.heap.size w w':=by
 have HA:=hide ha
 have H:=hide h
 have HK:=hide hk
 have HB:=hide hB
 have HR:=hide hr
 have E:=hide (show ((r:Int)==(n:Int))=decide (r=n) by by_cases h:r=n <;> simp[h];omega)
 clear ha h hk hB hr
 go_enter Tryz.func17,Tryz.ntmps17
 have hs:=St.nil w
 refine zk fun K1 hK1=>rg [0,1] ?_
 refine sm ?_
 refine sm (ze (hK1 _ _ ?_))
 refine zk fun K2 hK2=>rg [0,1,2,3,4,5,6] ?_
 refine sm ?_
 refine sq ?_
 intro K hK
 have hb:=hs.b
 go_big_op
 go_fit (rank_is (HA.out.bl stab_n hb) hna H.out HK.out HB.out hL hla HR.out)
 rintro e w_1 ⟨rfl,hb_1⟩
 clear hb
 replace hs:=hs.bl hb_1
 refine hK _ _ rfl trivial ?_
 clear hK K
 refine xmr ?_
 refine xrm ?_
 refine sm (ze (hK2 _ _ ?_))
 refine zk fun K3 hK3=>rg [0,1,2,3,4,5,6,7,8,9,10] ?_
 refine xmr ?_
 refine xmm ?_
 refine xmr ?_
 refine xrr ?_
 refine xmm ?_
 refine sm (ze (hK3 _ _ ?_))
 refine wp_ret ?_
 try dsimp only [Exit.then,Exit.inBlock]
 refine bodyPost_ret (v:=(.tuple #[.bool ((r:Int)==(n:Int)),.int .i64 0])) (by simp[results,Tryz.results17,go_sem]) rfl ?_
 exact⟨by rw[E.out],hs.b⟩
end
set_option linter.unusedSimpArgs false
theorem rv_one (x:Int):(rv x 1).num=x∧((rv x 1).den:Int)=1:=by
 have e:rv x 1=(x:Rat):=by unfold rv;grind
 rw[e];exact⟨Rat.num_intCast x,by simp⟩
def qC (y p:Int × Int):Rat × Rat :=
 ((rv y.1 1*rv p.1 1 - rv y.2 1 * -rv p.2 1)/(rv p.1 1*rv p.1 1+rv p.2 1*rv p.2 1),(rv y.1 1 * -rv p.2 1+rv y.2 1*rv p.1 1)/(rv p.1 1*rv p.1 1+rv p.2 1*rv p.2 1))
theorem Pmd.wide {h K:Nat} {A0 A:Nat→Nat→Int × Int} (hp:Pmd h 0 A0 A):Pmd h K A0 A:=by
 obtain⟨u,u',v,v',h1,h2,h3⟩:=hp
 refine⟨u,u',v,v',h1,h2,fun i=>⟨fun hi => ?_,fun _=>(h3 i).2.1 (Nat.zero_le _),(h3 i).2.2.1,(h3 i).2.2.2⟩⟩
 have e1:=(h3 i).2.1 (Nat.zero_le _)
 have e2:=(h3 i).2.2.2
 rw[e1] at e2
 omega
theorem Rk.brdG {n k K r:Nat} {M B:Nat→Nat→Int × Int} (hk:k≤K) (h:Dt.Rk n k (Go.Proofs.YthmolpepinolkaaGreat.brdG n K M B) r):Dt.Rk n k M r:=by
 obtain⟨f,g,h1,h2,C,p,h3,h4⟩:=h
 have e:∀i,i<n→∀j,j<k→Go.Proofs.YthmolpepinolkaaGreat.brdG n K M B i j=M i j:=fun i hi j hj=>by unfold Go.Proofs.YthmolpepinolkaaGreat.brdG;rw[if_pos hi,if_pos (by omega)]
 refine⟨f,g,h1,?_,C,p,h3,fun i hi j hj => ?_⟩
 ·rw[Dt.det_congr fun i hi j hj=>(e (f i) (h1 i hi).1 (g j) (h1 j hj).2).symm];exact h2
 ·rw[←e i hi j hj,h4 i hi j hj]
  exact Dt.sm_congr fun c hc=>by rw[e _ (h1 c hc).1 j hj]
theorem Pmd.det_bd {n k K L2:Nat} {M B A:Nat→Nat→Int × Int} (hk:n≤k) (hkK:k≤K) (hp:Pmd n k (brdG n K M B) A) (hB:MinB n k L2 M):zl L2 (Dt.det n A):=by
 obtain⟨u,u',v,v',h1,h2,h3⟩:=hp
 have e:Dt.det n A=Dt.det n fun i j=>M (u i) (v j):=Dt.det_congr fun i hi j hj=>by
  rw[h1];unfold brdG;rw[if_pos ((h2 i).1 hi).1,if_pos (by have:=((h3 j).1 (by omega)).1;omega)]
 rw[e]
 exact hB n u v (fun r hr=>⟨((h2 r).1 hr).1,((h3 r).1 (by omega)).1⟩) fun r q hrq hq he=>by
  have h4:=(h2 r).2.2.2
  have h5:=(h2 q).2.2.2
  rw[he] at h4
  omega
theorem zl_negP {L:Nat} {p:Int × Int} (h:zl L p):zl L (-p) :=
 ⟨Nat.le_trans (Nat.le_of_eq (by show (dig (-p.1).natAbs).length=_;rw[Int.natAbs_neg])) h.1,Nat.le_trans (Nat.le_of_eq (by show (dig (-p.2).natAbs).length=_;rw[Int.natAbs_neg])) h.2⟩
def SolvP (n k K L2 L:Nat) (M:Nat→Nat→Int × Int) (v:Nat→Int × Int) (e:Ending) (w':World):Prop :=
 (∃r,r<n∧Dt.Rk n k M r∧e = .returned (.tuple #[.slice none 0 0,.int .i64 3])) ∨
 (Dt.Rk n k M n∧(∀p x,¬Sol n K M v p x)∧e = .returned (.tuple #[.slice none 0 0,.int .i64 10])) ∨
 (Dt.Rk n k M n∧∃p y,Sol n K M v p y∧(zl L2 p∧∀i,i<n→zl L (y i))∧∃o c,e = .returned (.tuple #[.slice o n c,.int .i64 0])∧LQ w' o ((List.range n).map fun i=>qC (y i) p))
section
variable {w:World} {la lv n k L L2 ca cv:Nat} {oa ov:Option Addr} {A:List (List (Int × Int))} {V:List (Int × Int)}
set_option maxHeartbeats 8000000 in
set_option maxRecDepth 20000 in
theorem solve_pos (ha:MN la w oa A) (hna:A.length=n) (h:gd A) (hk:wd A=k) (hv:SN lv w ov V) (hnv:V.length=k) (hn0:0<n)
  (hB:MinB (n+1) (k+n) L (brdG n k (at2 A) fun _=>at1 V)) (hL:L≤3300000) (hB2:MinB n k L2 (at2 A)) (hL2:L2≤1100000) (hla:la≤10000000) (hlv:lv≤10000000) :
  Calls Tryz.prog 5 #[.slice oa n ca,.slice ov k cv] w fun e w'=>SolvP n k k L2 L (at2 A) (at1 V) e w'∧Below w.heap.size w w':=by
 have HA:=hide ha
 have HV:=hide hv
 have H:=hide h
 have HK:=hide hk
 have HB:=hide hB
 have HB2:=hide hB2
 have hn64:n≤64:=by have:=h.1;omega
 have hk64:k≤64:=by have:=h.2.1;omega
 have HNV:=hide (show ∀i,i<1→(rw_ [V] i).length=k from fun i hi=>by obtain rfl:i=0:=Nat.lt_one_iff.1 hi;exact hnv)
 have EB:=hide (show mkM (n+1) (k+n) (brdG n k (at2 A) (at2 [V]))=mkM (n+1) (k+n) (brdG n k (at2 A) fun _=>at1 V) from mkM_eq rfl rfl fun i hi j hj=>by
  unfold brdG
  by_cases c:i<n
  ·rw[if_pos c,if_pos c]
  ·obtain rfl:i=n:=by omega
   rw[if_neg c,if_neg c,Nat.sub_self];rfl)
 clear ha hv h hk hB hB2
 go_enter Tryz.func5,Tryz.ntmps5
 have hs:=St.nil w
 refine zk fun K1 hK1=>rg [0,1] ?_
 refine sm ?_
 refine sm (ze (hK1 _ _ ?_))
 refine zk fun K2 hK2=>rg [0,1,2,3,4,5,6,7,8] ?_
 refine sm ?_
 refine sq ?_
 intro K hK
 have hb:=hs.b
 go_big_op
 go_fit (mSize_ok (HA.out.bl stab_n hb) hna H.out HK.out)
 rintro e w_1 ⟨rfl,hb_1⟩
 clear hb
 replace hs:=hs.bl hb_1
 refine hK _ _ rfl trivial ?_
 clear hK K
 refine xmr ?_
 refine xrr ?_
 refine xmm ?_
 refine sm (ze (hK2 _ _ ?_))
 refine zk fun K3 hK3 => ?_
 refine zk fun K4 hK4=>rg [0,1,2,3,4,5,6,7,8,9,10,11] ?_
 refine xmr ?_
 refine xmm ?_
 refine xrm ?_
 refine xmr ?_
 refine xmr ?_
 refine sr ?_
 refine sr (ze (hK4 _ _ ?_))
 refine cf ?_
 refine wp_skip ?_
 refine hK3 _ _ ?_
 refine zk fun K5 hK5=>rg [0,1,2,3,4] ?_
 refine xmm ?_
 refine sq ?_
 refine .al hs ?_;clear hs;intro p_b1 w_2 hs n2 kb_b1
 refine sq ?_
 intro K hK
 go_big_op
 go_fit (bordered_any (la:=la) (lb:=lv) (bs:=[bx p_b1 #[.slice ov k cv] 24]) (B:=[V]) hs HA.out hna H.out HK.out (fun w' hw _↦.inr ⟨p_b1,0,_,_,_,rfl,hw.g0,fun i hi↦⟨ov,cv,by simp at hi;subst hi;simp[hnv],by simp at hi;subst hi;exact HV.out.bl stab_n hw.b⟩⟩) rfl HNV.out (fun _↦rfl) (by omega) (by omega) (by omega) (by omega))
 have bb3:=hs.b
 rintro e w_3 ⟨p_t,o_t,c_t,rs_t,rfl,kb_bt,hl_t,hd,hs',kp3⟩
 clear hs;have hs:=hs';clear hs'
 have bc3:=hs.b
 clear bb3 bc3
 rw[EB.out] at hd
 refine hK _ _ rfl trivial ?_
 clear hK K
 refine sm (ze (hK5 _ _ ?_))
 refine zk fun K6 hK6=>rg [0,1,2] ?_
 refine sm ?_
 refine sq ?_
 intro K hK
 go_big_op
 go_fit (pivots_any (bs:=[bx p_b1 #[.slice ov k cv] 24]) hs kb_bt hl_t hd (by omega) (by omega) (by omega) (by omega) HB.out hL)
 have bb4:=hs.b
 rintro e w_4 ⟨o9,c9,xs,r,A2,F2,odd2,rs2,rfl,hF,hL9,hA2,hl2,hd2,hs',kp4⟩
 clear hs;have hs:=hs';clear hs'
 have bc4:=hs.b
 clear bb4 bc4
 refine hK _ _ rfl trivial ?_
 clear hK K
 refine sm (ze (hK6 _ _ ?_))
 refine zk fun K7 hK7 => ?_
 refine zk fun K8 hK8=>rg [0,1,2,3] ?_
 refine xmr ?_
 refine sm ?_
 refine sr (ze (hK8 _ _ ?_))
 have HF:=hide hF
 have HA2:=hide hA2
 have hrn:r≤n:=hF.1.1
 clear hF hA2
 by_cases hr:r<n
 ·have HRK:=hide (Rk.brdG (K:=k) (by omega) HF.out.rk)
  have HRN:=hide hr
  refine ct ?_
  refine zk fun K9 hK9=>rg [0,1] ?_
  refine sm ?_
  refine sm (ze (hK9 _ _ ?_))
  refine wp_ret ?_
  try dsimp only [Exit.then,Exit.inBlock]
  refine bodyPost_ret (v:=(.tuple #[(.slice none 0 0),(.int .i64 3)])) (by simp[results,Tryz.results5,go_sem]) rfl ?_
  exact⟨.inl ⟨r,HRN.out,HRK.out,rfl⟩,hs.b⟩
 ·have hnk:r≤k:=HF.out.1.2.1
  have HX:=hide hr
  obtain rfl:n=r:=by omega
  have HRK:=hide (Rk.brdG (K:=k) nl HF.out.rk)
  have HPM:=hide (show Pmd n k (brdG n k (at2 A) fun _=>at1 V) A2 from HF.out.1.2.2.2.1)
  have HDT:=hide (show Dt.det n A2≠0 from HF.out.1.2.2.1)
  have HFN:=hide (show ∀q,n≤q→q<k+n→F2 n q=Dt.D n A2 n q from fun q h1 h2=>HA2.out n (by omega) q h2 nl h1)
  have HBF:=hide (show ∀q,n≤q→q<k+n→zl L (F2 n q) from fun q h1 h2=>by
   rw[HFN.out q h1 h2]
   exact HPM.out.bd HB.out (by omega) (by omega) _ _ (by omega) _ h2)
  have HLY:=hide (show zl L2 (Dt.det n A2)∧∀i,i<n→zl L (yS n k A2 i) from ⟨HPM.out.det_bd hnk nl HB2.out,fun i hi=>by
   have h1:=HBF.out (k+i) (by omega) (by omega)
   rw[HFN.out (k+i) (by omega) (by omega)] at h1
   exact zl_negP h1⟩)
  obtain⟨r1,gr,cr,ys,r2,e1,h1,hrv,hx,hs⟩:=St.row (bs:=[ls w.heap.size 45 4 (.slice o9 n c9) n xs,bx p_t #[.slice o_t (n+1) c_t,.int .i64 (n:Int),.int .i64 (k:Int),.bool odd2] 61,bx p_b1 #[.slice ov k cv] 24]) (hs.perm (List.Perm.swap _ _ _)) hd2 (p:=n) (K:=k+n) (by rw[len_mkM];omega) (by rw[mkM_row (by omega)];simp) (by omega)
  rw[mkM_row (by omega)] at hx
  have LT9:Lst _ w.heap.size 24 1 (.slice o_t (n+1) c_t) (n+1) _:=hs.1.2.1.1
  obtain⟨gT,curT,rfl,xT,hcT⟩:=LT9.box (by omega)
  have eT:=hcT _ _ hrv
  have LR:Lst _ w.heap.size 45 4 (.slice (some ⟨gr,0,none⟩) (k+n) cr) (k+n) ys:=hs.1.1.1
  have hcr:k+n≤cr:=LR.capn
  have LL:Lst _ w.heap.size 45 4 (.slice o9 n c9) n xs:=hs.1.2.2.1.1
  obtain⟨gL,curL,rfl,xL,hcL⟩:=LL.box hn0
  clear LT9 hcT LR hrv e1 h1 LL xL hcL hr
  refine cf ?_
  refine wp_skip ?_
  refine hK7 _ _ ?_
  refine zk fun K9 hK9=>rg [0,1,2,3,4,5,6,7] ?_
  refine xmr ?_
  refine sr ?_
  refine sq ?_
  refine .r4 hs.g3.f4 ?_
  refine xmr ?_
  refine sq ?_
  refine .r1 (xT.cell _ eT) ?_
  refine sm (ze (hK9 _ _ ?_))
  refine zk fun K10 hK10 => ?_
  refine zk fun K11 hK11=>rg [0,1,2,3,4,5,6] ?_
  refine xmm ?_
  refine xmr ?_
  refine xrr ?_
  refine sm (ze (hK11 _ _ ?_))
  refine wp_block ?_
  generalize hoT:(@ite (Option Addr) (cr=n) _ (some ⟨gr,0,none⟩) _)=oT
  obtain rfl:oT=some ⟨gr,n*4,none⟩:=by rw[←hoT,if_neg (by omega)];try simp
  clear hoT
  have hd5:=hs.2.1
  go_loopg [58] (k - n) (fun kz s58 wr=>∃i:Nat,s58 = .int .i64 (i:Int)∧i+kz=k - n∧Hid (∀q,n≤q→q<n+i→F2 n q=0)∧GD wr ys ((List.range (k+n)).map (F2 n))∧GD wr xs (pvs A2 n)∧St w (ls w.heap.size 45 4 (.slice (some ⟨gr,0,none⟩) (k+n) cr) (k+n) ys::ls w.heap.size 45 4 (.slice (some ⟨gL,0,none⟩) n c9) n xs::[]) wr)
  case atStart=>exact⟨0,rfl,by omega,hide (fun q h1 h2=>absurd h2 (by omega)),hx,hL9,hs.sub (.cons_cons _ (.cons _ (.cons_cons _ (List.nil_sublist _))))⟩
  case round =>
  clear hd hL9 hd2 hx xT hs
  obtain⟨i,rfl,hik,HZ,hx,hL9,hs⟩:=hrel
  by_cases hi:i<k - n
  ·have HI:=hide hi
   have LR:Lst wr w.heap.size 45 4 (.slice (some ⟨gr,0,none⟩) (k+n) cr) (k+n) ys:=hs.1.1.1
   obtain⟨gr',curR,eS,xR,hcR⟩:=LR.box (by omega)
   simp only[Option.some.injEq,Addr.mk.injEq,and_true] at eS
   obtain rfl:gr=gr':=eS
   obtain⟨a1,a2,a3,a4,a5,a6,a7,a8,ee1,ee2,ee3,ee4,x1,x2⟩:=hx.els (n+i) (by simp;omega)
   rw[show ((List.range (k+n)).map (F2 n))[n+i]'(by simp;omega)=F2 n (n+i) by simp] at x1 x2
   replace ee1:=hcR _ _ ee1
   replace ee2:=hcR _ _ ee2
   replace ee3:=hcR _ _ ee3
   replace ee4:=hcR _ _ ee4
   rw[Nat.add_mul] at ee1 ee2 ee3 ee4
   have LX:=HBF.out (n+i) (by omega) (by omega)
   replace x1:=x1.zn LX.1
   replace x2:=x2.zn LX.2
   obtain⟨X,hX⟩:∃X,F2 n (n+i)=X:=⟨_,rfl⟩
   have HXE:=hide hX
   rw[hX] at x1 x2
   clear LR hcR LX hX
   by_cases hz:X.1=0∧X.2=0
   ·have EZ:=hide (decide_eq_true hz)
    have HZE:=hide hz
    clear hz
    refine zk fun K12 hK12=>rg [0] ?_
    refine sr (ze (hK12 _ _ ?_))
    refine zk fun K13 hK13 => ?_
    refine ct ?_
    refine wp_skip ?_
    refine hK13 _ _ ?_
    refine zk fun K14 hK14 => ?_
    refine wp_block ?_
    refine zk fun K15 hK15=>rg [0,1,2,3] ?_
    refine sr ?_
    refine sq ?_
    refine .r4 ⟨xR.cell _ ee1,xR.cell _ ee2,xR.cell _ ee3,xR.cell _ ee4⟩ ?_
    refine sq ?_
    refine .al hs ?_;clear hs;intro p_b2 w_6 hs n6 kb_b2
    replace xR:=xR.bl n6
    refine sq ?_
    refine .s4 hs.g0 (fun _=>hs.u0 kb_b2) ?_;clear hs;intro w_7 hs hd7 ho7
    replace xR:=xR.frame ho7 (hs.ne 1 0)
    refine ze (hK15 _ _ ?_)
    refine zk fun K16 hK16=>rg [0,1,2] ?_
    refine sq ?_
    refine .r4 hs.g0.f4 ?_
    refine sq ?_
    intro K hK
    have k0_2:=(kb n6).o hd7 ho7
    replace x1:=x1.k k0_2
    replace x2:=x2.k k0_2
    go_big_op
    go_fit (isZero_any (.mk' x1 x2) (by omega) (by omega))
    rintro e w_8 ⟨rfl,hb_8⟩
    replace xR:=xR.bl hb_8;replace hs:=hs.bl hb_8
    rw[EZ.out]
    refine hK _ _ rfl trivial ?_
    clear hK K
    refine sr (ze (hK16 _ _ ?_))
    refine cf ?_
    refine wp_skip ?_
    refine hK14 _ _ ?_
    refine rg [0,1] ?_
    refine xrm ?_
    apply wpSq_end
    have k0_3:=k0_2.b hb_8
    replace hx:=hx.k k0_3
    replace hL9:=hL9.k k0_3
    refine ‹∀(a':Act) (w':World),Handed _ _ a' w'→_› _ _ ?_
    go_roundg (gk - 1)
    case rel=>exact⟨i+1,by rfl,by omega,hide (fun q h1 h2=>by
     by_cases c:q<n+i
     ·exact HZ.out q h1 c
     ·obtain rfl:q=n+i:=by omega
      rw[HXE.out];exact Prod.ext HZE.out.1 HZE.out.2),hx,hL9,hs.sub (.cons _ (List.Sublist.refl _))⟩
    case measure=>omega
   ·have EZ:=hide (decide_eq_false hz)
    have HNS:=hide (show ∀p x,¬Sol n k (at2 A) (at1 V) p x from fun p x hsol=>hz (by
     have:=solve_no HPM.out hsol (q:=n+i) (by omega) (by have:=HI.out;omega)
     rw[←HFN.out (n+i) (by omega) (by have:=HI.out;omega),HXE.out] at this
     rw[this];exact⟨rfl,rfl⟩))
    clear hz
    refine zk fun K12 hK12=>rg [0] ?_
    refine sr (ze (hK12 _ _ ?_))
    refine zk fun K13 hK13 => ?_
    refine ct ?_
    refine wp_skip ?_
    refine hK13 _ _ ?_
    refine zk fun K14 hK14 => ?_
    refine wp_block ?_
    refine zk fun K15 hK15=>rg [0,1,2,3] ?_
    refine sr ?_
    refine sq ?_
    refine .r4 ⟨xR.cell _ ee1,xR.cell _ ee2,xR.cell _ ee3,xR.cell _ ee4⟩ ?_
    refine sq ?_
    refine .al hs ?_;clear hs;intro p_b2 w_6 hs n6 kb_b2
    replace xR:=xR.bl n6
    refine sq ?_
    refine .s4 hs.g0 (fun _=>hs.u0 kb_b2) ?_;clear hs;intro w_7 hs hd7 ho7
    replace xR:=xR.frame ho7 (hs.ne 1 0)
    refine ze (hK15 _ _ ?_)
    refine zk fun K16 hK16=>rg [0,1,2] ?_
    refine sq ?_
    refine .r4 hs.g0.f4 ?_
    refine sq ?_
    intro K hK
    have k0_2:=(kb n6).o hd7 ho7
    replace x1:=x1.k k0_2
    replace x2:=x2.k k0_2
    go_big_op
    go_fit (isZero_any (.mk' x1 x2) (by omega) (by omega))
    rintro e w_8 ⟨rfl,hb_8⟩
    replace xR:=xR.bl hb_8;replace hs:=hs.bl hb_8
    rw[EZ.out]
    refine hK _ _ rfl trivial ?_
    clear hK K
    refine sr (ze (hK16 _ _ ?_))
    refine ct ?_
    refine zk fun K17 hK17=>rg [0,1] ?_
    refine sm ?_
    refine sm (ze (hK17 _ _ ?_))
    refine wp_ret ?_
    try dsimp only [Exit.then,Exit.inBlock]
    refine bodyPost_ret (v:=(.tuple #[(.slice none 0 0),(.int .i64 10)])) (by simp[results,Tryz.results5,go_sem]) rfl ?_
    exact⟨.inr (.inl ⟨HRK.out,HNS.out,rfl⟩),hs.b⟩
  ·have HI:=hide (show i=k - n by omega)
   have HI2:=hide hi
   have HY:=hide (show Sol n k (at2 A) (at1 V) (Dt.det n A2) (yS n k A2) from solve_yes HPM.out HDT.out fun q h1 h2=>by
    rw[←HFN.out q h1 (by omega)];exact HZ.out q h1 (by omega))
   refine zk fun K12 hK12=>rg [0] ?_
   refine sr (ze (hK12 _ _ ?_))
   refine zk fun K13 hK13 => ?_
   refine cf ?_
   refine wp_exit ?_
   refine hK10 _ _ ?_
   refine zk fun K14 hK14=>rg [0,1,2] ?_
   refine sm ?_
   refine sq ?_
   refine .mk (n:=n) hs ?_ (by first | rfl | omega) (by omega);clear hs;intro g_S xs_S w_6 hs e_S n6 kb_S
   refine sm (ze (hK14 _ _ ?_))
   refine zk fun K15 hK15 => ?_
   refine zk fun K16 hK16=>rg [0,1,2,3,4,5] ?_
   refine xmm ?_
   refine xrr ?_
   refine sr ?_
   refine sm (ze (hK16 _ _ ?_))
   refine wp_block ?_
   generalize hoT:(@ite (Option Addr) (cr=k) _ (some ⟨gr,0,none⟩) _)=oT
   obtain rfl:oT=some ⟨gr,k*4,none⟩:=by rw[←hoT,if_neg (by omega)];try simp
   clear hoT
   have k0_1:=kb n6
   replace hx:=hx.k k0_1
   replace hL9:=hL9.k k0_1
   have hd7:=hs.2.1
   go_loopg [73] n (fun kz s73 wr=>∃(i:Nat) (ps zs:List Value),s73 = .int .i64 (i:Int)∧i+kz=n∧ps.length=i*8∧CD wr ps ((List.range i).map fun i=>qC (yS n k A2 i) (Dt.det n A2))∧GD wr ys ((List.range (k+n)).map (F2 n))∧GD wr xs (pvs A2 n)∧St w (ls w.heap.size 41 8 (.slice (some ⟨g_S,0,none⟩) n n) n (ps++zs)::ls w.heap.size 45 4 (.slice (some ⟨gr,0,none⟩) (k+n) cr) (k+n) ys::ls w.heap.size 45 4 (.slice (some ⟨gL,0,none⟩) n c9) n xs::[]) wr)
   case atStart=>exact⟨0,[],xs_S,rfl,by omega,rfl,CD.nil _,hx,hL9,hs⟩
   case round =>
   clear hi HI2
   clear hx hL9 hs
   obtain⟨i,ps,zs,rfl,hin,hpl,hz,hx,hL9,hs⟩:=hrel
   have hlen:=hs.1.1.1.1.1
   rw[List.length_append,hpl] at hlen
   by_cases hi:i<n
   ·have HI:=hide hi
    obtain⟨z0,z1,z2,z3,z4,z5,z6,z7,ws,rfl⟩:=eight_of (zs:=zs) (by omega)
    have LR:Lst wr w.heap.size 45 4 (.slice (some ⟨gr,0,none⟩) (k+n) cr) (k+n) ys:=hs.1.2.1.1
    obtain⟨gr',curR,eS,xR,hcR⟩:=LR.box (by omega)
    simp only[Option.some.injEq,Addr.mk.injEq,and_true] at eS
    obtain rfl:gr=gr':=eS
    obtain⟨a1,a2,a3,a4,a5,a6,a7,a8,ee1,ee2,ee3,ee4,x1,x2⟩:=hx.els (k+i) (by simp;omega)
    rw[show ((List.range (k+n)).map (F2 n))[k+i]'(by simp;omega)=F2 n (k+i) by simp] at x1 x2
    replace ee1:=hcR _ _ ee1
    replace ee2:=hcR _ _ ee2
    replace ee3:=hcR _ _ ee3
    replace ee4:=hcR _ _ ee4
    rw[Nat.add_mul] at ee1 ee2 ee3 ee4
    have LX:=HBF.out (k+i) (by omega) (by omega)
    replace x1:=x1.zn LX.1
    replace x2:=x2.zn LX.2
    have HYE:=hide (show yS n k A2 i=(-(F2 n (k+i)).1,-(F2 n (k+i)).2) by rw[HFN.out (k+i) (by omega) (by omega)];rfl)
    obtain⟨X,hX⟩:∃X,F2 n (k+i)=X:=⟨_,rfl⟩
    rw[hX] at x1 x2 LX HYE
    have LNG:zl L (-X.1,-X.2):=⟨Nat.le_trans (Nat.le_of_eq (by rw[Int.natAbs_neg])) LX.1,Nat.le_trans (Nat.le_of_eq (by rw[Int.natAbs_neg])) LX.2⟩
    have LNG1:=hide LNG.1
    have LNG2:=hide LNG.2
    obtain⟨n1,hn1⟩:∃n1,n=n1+1:=⟨n - 1,by omega⟩
    have LL:Lst wr w.heap.size 45 4 (.slice (some ⟨gL,0,none⟩) n c9) n xs:=hs.1.2.2.1.1
    obtain⟨gL',curL,eL,xL,hcL⟩:=LL.box hn0
    simp only[Option.some.injEq,Addr.mk.injEq,and_true] at eL
    obtain rfl:gL=gL':=eL
    obtain⟨l1,l2,l3,l4,l5,l6,l7,l8,j1,j2,j3,j4,v1,v2⟩:=hL9.els n1 (by rw[pvs_len];omega)
    rw[show (pvs A2 n)[n1]'(by rw[pvs_len];omega)=Dt.det n A2 by simp[pvs,hn1]] at v1 v2
    replace j1:=hcL _ _ j1
    replace j2:=hcL _ _ j2
    replace j3:=hcL _ _ j3
    replace j4:=hcL _ _ j4
    have LV:=HPM.out.det_bd hnk nl HB2.out
    replace v1:=v1.zn LV.1
    replace v2:=v2.zn LV.2
    have HPE:=HDT.out
    obtain⟨P,hP⟩:∃P,Dt.det n A2=P:=⟨_,rfl⟩
    rw[hP] at v1 v2 HPE LV hz
    have HP0:=hide (show ¬(P.1=0∧P.2=0) from fun c=>HPE (Prod.ext c.1 c.2))
    have LV1:=hide LV.1
    have LV2:=hide LV.2
    have EK1:(n:Int) - 1=(n1:Int):=by omega
    have HN1:=hide hn1
    have HP:=hide hP
    have Z1:=hide (zlen_small8 (z:=1) (by decide))
    clear LR hcR LX hX LL hcL LNG LV HPE hn1 hP
    refine zk fun K17 hK17=>rg [0] ?_
    refine sr (ze (hK17 _ _ ?_))
    refine zk fun K18 hK18 => ?_
    refine ct ?_
    refine wp_skip ?_
    refine hK18 _ _ ?_
    refine zk fun K19 hK19 => ?_
    refine wp_block ?_
    refine zk fun K20 hK20=>rg [0,1,2,3,4,5] ?_
    refine xmr ?_
    refine sq ?_
    refine .r4 ⟨xR.cell _ ee1,xR.cell _ ee2,xR.cell _ ee3,xR.cell _ ee4⟩ ?_
    refine sq ?_
    refine .al hs ?_;clear hs;intro p_b2 w_8 hs n8 kb_b2
    replace xR:=xR.bl n8;replace xL:=xL.bl n8
    refine sm ?_
    refine sq ?_
    refine .s4 hs.g0 (fun _=>hs.u0 kb_b2) ?_;clear hs;intro w_9 hs hd9 ho9
    replace xR:=xR.frame ho9 (hs.ne 2 0);replace xL:=xL.frame ho9 (hs.ne 3 0)
    refine ze (hK20 _ _ ?_)
    refine wp_region_f4 [(0,false),(1,false),(2,false),(5,false),(6,false),(7,false),(8,false),(9,false),(3,true),(4,true),(10,true),(11,true),(12,false),(13,false),(14,false),(15,false)] [16] [] (fun _=>default) [99,99,0,99,99,99,99,99,99,1,99,99,99,99,99,99,99] [] (.c hs.g0 (.c xL .n)) fn fun w_10 n10 => ?_
    replace xR:=xR.bl n10;replace xL:=xL.bl n10;replace hs:=hs.bl n10
    refine fmv ?_
    refine fmv ?_
    refine f4 ?_
    refine fmv ?_
    refine fmv ?_
    refine f0 ?_
    refine f0 ?_
    apply wpFl_ld rfl rfl;(case h1=>intro w' hC K hK;have c0:=Bs.cell hC ((n1*4)) j1;have c1:=Bs.cell hC ((n1*4)+1) j2;have c2:=Bs.cell hC ((n1*4)+2) j3;have c3:=Bs.cell hC ((n1*4)+3) j4;go_big_op;exact hK);iterate 4 kernel_rfl
    refine fl fun w_11 n11 => ?_
    replace xR:=xR.bl n11;replace xL:=xL.bl n11;replace hs:=hs.bl n11
    intro K hK
    have k0_4:=(((kb n8).o hd9 ho9).b n10).b n11
    replace x1:=x1.k k0_4
    replace x2:=x2.k k0_4
    go_big_op
    go_fit (gNeg_any (.mk' x1 x2) (by omega) (by omega))
    rintro e w_12 ⟨_,rfl,⟨n_ga,o_ga,k_ga,c_ga,n_gb,o_gb,k_gb,c_gb,rfl,g1,g2⟩,hb_12⟩
    replace xR:=xR.bl hb_12;replace xL:=xL.bl hb_12;replace hs:=hs.bl hb_12
    refine hK _ _ rfl ⟨hb_12,(ai hs.g0 (ai xL trivial))⟩ ?_
    clear hK K
    refine fl fun w_13 n13 => ?_
    replace xR:=xR.bl n13;replace xL:=xL.bl n13;replace hs:=hs.bl n13
    intro K hK
    have k5_6:=kb n13
    replace g1:=g1.k k5_6
    replace g2:=g2.k k5_6
    go_big_op
    go_fit (gfOf_any (.mk' (g1.zn LNG1.out) (g2.zn LNG2.out)) (by omega) (by omega))
    rintro e w_14 ⟨_,rfl,⟨n_o1,o_o1,k_o1,c_o1,n_o2,o_o2,k_o2,c_o2,n_o3,o_o3,k_o3,c_o3,n_o4,o_o4,k_o4,c_o4,rfl,o1,o2,o3,o4⟩,hb_14⟩
    replace xR:=xR.bl hb_14;replace xL:=xL.bl hb_14;replace hs:=hs.bl hb_14
    rw[(rv_one _).1] at o1 o3
    rw[(rv_one _).2] at o2 o4
    refine hK _ _ rfl ⟨hb_14,(ai hs.g0 (ai xL trivial))⟩ ?_
    clear hK K
    refine fl fun w_15 n15 => ?_
    replace xR:=xR.bl n15;replace xL:=xL.bl n15;replace hs:=hs.bl n15
    intro K hK
    have k0_8:=(((k0_4.b hb_12).b n13).b hb_14).b n15
    replace v1:=v1.k k0_8
    replace v2:=v2.k k0_8
    go_big_op
    go_fit (gfOf_any (.mk' v1 v2) (by omega) (by omega))
    rintro e w_16 ⟨_,rfl,⟨n_q1,o_q1,k_q1,c_q1,n_q2,o_q2,k_q2,c_q2,n_q3,o_q3,k_q3,c_q3,n_q4,o_q4,k_q4,c_q4,rfl,q1,q2,q3,q4⟩,hb_16⟩
    replace xR:=xR.bl hb_16;replace xL:=xL.bl hb_16;replace hs:=hs.bl hb_16
    rw[(rv_one _).1] at q1 q3
    rw[(rv_one _).2] at q2 q4
    refine hK _ _ rfl ⟨hb_16,(ai hs.g0 (ai xL trivial))⟩ ?_
    clear hK K
    refine fl fun w_17 n17 => ?_
    replace xR:=xR.bl n17;replace xL:=xL.bl n17;replace hs:=hs.bl n17
    intro K hK
    have k7_10:=((kb n15).b hb_16).b n17
    replace o1:=o1.k k7_10
    replace o2:=o2.k k7_10
    replace o3:=o3.k k7_10
    replace o4:=o4.k k7_10
    have k9_10:=kb n17
    replace q1:=q1.k k9_10
    replace q2:=q2.k k9_10
    replace q3:=q3.k k9_10
    replace q4:=q4.k k9_10
    go_big_op
    go_fit (gfQuo_ok (.mk' (o1.zn LNG1.out) (o2.zn Z1.out) (o3.zn LNG2.out) (o4.zn Z1.out)) (.mk' (q1.zn LV1.out) (q2.zn Z1.out) (q3.zn LV2.out) (q4.zn Z1.out)) (by omega) (by omega) (by omega) (by omega) (by omega) (by omega) (by omega) (by omega) (by decide) (by decide) (by decide) (by decide) HP0.out)
    rintro e w_18 ⟨_,rfl,⟨n_s1,o_s1,k_s1,c_s1,n_s2,o_s2,k_s2,c_s2,n_s3,o_s3,k_s3,c_s3,n_s4,o_s4,k_s4,c_s4,rfl,s1,s2,s3,s4⟩,hb_18⟩
    replace xR:=xR.bl hb_18;replace xL:=xL.bl hb_18;replace hs:=hs.bl hb_18
    refine hK _ _ rfl ⟨hb_18,(ai hs.g0 (ai xL trivial))⟩ ?_
    clear hK K
    refine fmv ?_
    refine f0 ?_
    refine f0 ?_
    refine f0 ?_
    refine e0 hs ?_;clear hs;intro w_19 hs n19
    clear g1 g2 o1 o2 o3 o4 q1 q2 q3 q4
    replace xR:=xR.bl n19;replace xL:=xL.bl n19
    refine tl ?_
    refine .i8 1 hs (j:=i) (by exact HI.out) ?_ (e:=fun _ hB hO=>(ai (hs.g0.frame hO (hs.ne 0 1)) (ai (xL.frame hO (hs.ne 3 1)) trivial)));clear hs;intro w_20 hs kp20 hd20 ho20 hw20;simp only[List.set_cons_succ,List.set_cons_zero] at hs
    clear xR
    clear xL
    apply wpTail_end
    refine hK19 _ _ ?_
    refine rg [0,1] ?_
    refine xrm ?_
    apply wpSq_end
    have k0_13:=((((k0_8.b hb_16).b n17).b hb_18).b n19).t kp20
    replace hz:=hz.k k0_13
    replace hx:=hx.k k0_13
    replace hL9:=hL9.k k0_13
    have k11_13:=(kb n19).t kp20
    replace s1:=s1.k k11_13
    replace s2:=s2.k k11_13
    replace s3:=s3.k k11_13
    replace s4:=s4.k k11_13
    refine ‹∀(a':Act) (w':World),Handed _ _ a' w'→_› _ _ ?_
    rw[setL_app8 hpl] at hs
    go_roundg (gk - 1)
    case rel=>exact⟨i+1,_,ws,by rfl,by omega,by simp;omega,by rw[List.range_succ,List.map_append,HP.out];exact hz.snoc (by show CC _ _ (qC (yS n k A2 i) P).1.num (qC (yS n k A2 i) P).1.den (qC (yS n k A2 i) P).2.num (qC (yS n k A2 i) P).2.den;rw[HYE.out];exact .mk' s1 s2 s3 s4),hx,hL9,hs.sub (.cons _ (List.Sublist.refl _))⟩
    case measure=>omega
   ·have HI:=hide hi
    obtain rfl:n=i:=by omega
    obtain rfl:zs=[]:=List.eq_nil_of_length_eq_zero (by omega)
    rw[List.append_nil] at hs
    refine zk fun K17 hK17=>rg [0] ?_
    refine sr (ze (hK17 _ _ ?_))
    refine zk fun K18 hK18 => ?_
    refine cf ?_
    refine wp_exit ?_
    refine hK15 _ _ ?_
    refine zk fun K19 hK19=>rg [0,1,2] ?_
    refine xmm ?_
    refine sm (ze (hK19 _ _ ?_))
    refine wp_ret ?_
    try dsimp only [Exit.then,Exit.inBlock]
    refine bodyPost_ret (v:=(.tuple #[(.slice (some ⟨g_S,0,none⟩) n n),(.int .i64 0)])) (by simp[results,Tryz.results5,go_sem]) rfl ?_
    exact⟨.inr (.inr ⟨HRK.out,_,_,HY.out,HLY.out,_,_,rfl,LQ.of hs.1.1.1 hz (by simp)⟩),hs.b⟩
end
section
variable {w:World} {la lv n k m L L2 ca cv:Nat} {oa ov:Option Addr} {A:List (List (Int × Int))} {V:List (Int × Int)}
set_option maxHeartbeats 8000000 in
set_option maxRecDepth 20000 in
theorem solve_zero (ha:MN la w oa A) (hna:A.length=n) (h:gd A) (hk:wd A=k) (hv:SN lv w ov V) (hnv:V.length=m) (hn0:n=0) (hk0:k=0) (hm:m≤2000000)
  (hB:MinB (n+1) (m+n) L (brdG n m (at2 A) fun _=>at1 V)) (hL:L≤3300000) (hB2:MinB n k L2 (at2 A)) (hla:la≤10000000) (hlv:lv≤10000000) :
  Calls Tryz.prog 5 #[.slice oa n ca,.slice ov m cv] w fun e w'=>SolvP n k m L2 L (at2 A) (at1 V) e w'∧Below w.heap.size w w':=by
 have HA:=hide ha
 have HV:=hide hv
 have H:=hide h
 have HK:=hide hk
 have HB:=hide hB
 have HN0:=hide hn0
 have HK0:=hide hk0
 have HZ1:=hide (show zl L2 (1,0) from hB2 0 id id (fun r hr=>absurd hr (Nat.not_lt_zero _)) (fun r q h1 h2=>absurd h2 (Nat.not_lt_zero _)))
 have HNV:=hide (show ∀i,i<1→(rw_ [V] i).length=m from fun i hi=>by obtain rfl:i=0:=Nat.lt_one_iff.1 hi;exact hnv)
 have EB:=hide (show mkM (n+1) (m+n) (brdG n m (at2 A) (at2 [V]))=mkM (n+1) (m+n) (brdG n m (at2 A) fun _=>at1 V) from mkM_eq rfl rfl fun i hi j hj=>by
  unfold brdG
  by_cases c:i<n
  ·rw[if_pos c,if_pos c]
  ·obtain rfl:i=n:=by omega
   rw[if_neg c,if_neg c,Nat.sub_self];rfl)
 have t0:¬0<n:=by omega
 have hnm:n≤m:=by omega
 clear ha hv h hk hB hn0 hk0 hB2
 go_enter Tryz.func5,Tryz.ntmps5
 have hs:=St.nil w
 refine zk fun K1 hK1=>rg [0,1] ?_
 refine sm ?_
 refine sm (ze (hK1 _ _ ?_))
 refine zk fun K2 hK2=>rg [0,1,2,3,4,5,6,7,8] ?_
 refine sm ?_
 refine sq ?_
 intro K hK
 have hb:=hs.b
 go_big_op
 go_fit (mSize_ok (HA.out.bl stab_n hb) hna H.out HK.out)
 rintro e w_1 ⟨rfl,hb_1⟩
 clear hb
 replace hs:=hs.bl hb_1
 refine hK _ _ rfl trivial ?_
 clear hK K
 refine xmr ?_
 refine xrr ?_
 refine xmm ?_
 refine sm (ze (hK2 _ _ ?_))
 refine zk fun K3 hK3 => ?_
 refine zk fun K4 hK4=>rg [0,1,2,3,4,5,6,7,8,9,10,11] ?_
 refine xmr ?_
 refine xmm ?_
 refine xrm ?_
 refine sk ?_
 refine sk ?_
 refine sk ?_
 refine sk ?_
 refine sr ?_
 refine sr (ze (hK4 _ _ ?_))
 refine cf ?_
 refine wp_skip ?_
 refine hK3 _ _ ?_
 refine zk fun K5 hK5=>rg [0,1,2,3,4] ?_
 refine xmm ?_
 refine sq ?_
 refine .al hs ?_;clear hs;intro p_b1 w_2 hs n2 kb_b1
 refine sq ?_
 intro K hK
 go_big_op
 go_fit (bordered_any (la:=la) (lb:=lv) (bs:=[bx p_b1 #[.slice ov m cv] 24]) (B:=[V]) hs HA.out hna H.out HK.out (fun w' hw _↦.inr ⟨p_b1,0,_,_,_,rfl,hw.g0,fun i hi↦⟨ov,cv,by simp at hi;subst hi;simp[hnv],by simp at hi;subst hi;exact HV.out.bl stab_n hw.b⟩⟩) rfl HNV.out (fun c↦absurd HN0.out (by omega)) hm (by omega) (by omega) (by omega))
 have bb3:=hs.b
 rintro e w_3 ⟨p_t,o_t,c_t,rs_t,rfl,kb_bt,hl_t,hd,hs',kp3⟩
 clear hs;have hs:=hs';clear hs'
 have bc3:=hs.b
 clear bb3 bc3
 rw[EB.out] at hd
 refine hK _ _ rfl trivial ?_
 clear hK K
 refine sm (ze (hK5 _ _ ?_))
 refine zk fun K6 hK6=>rg [0,1,2] ?_
 refine sm ?_
 refine sq ?_
 intro K hK
 go_big_op
 go_fit (pivots_any (bs:=[bx p_b1 #[.slice ov m cv] 24]) hs kb_bt hl_t hd (by omega) (by have:=HK0.out;omega) (by have:=HN0.out;omega) (by have:=HN0.out;omega) HB.out hL)
 have bb4:=hs.b
 rintro e w_4 ⟨o9,c9,xs,r,A2,F2,odd2,rs2,rfl,hF,hL9,hA2,hl2,hd2,hs',kp4⟩
 clear hs;have hs:=hs';clear hs'
 have bc4:=hs.b
 clear bb4 bc4
 refine hK _ _ rfl trivial ?_
 clear hK K
 refine sm (ze (hK6 _ _ ?_))
 refine zk fun K7 hK7 => ?_
 refine zk fun K8 hK8=>rg [0,1,2,3] ?_
 refine xmr ?_
 refine sm ?_
 refine sr (ze (hK8 _ _ ?_))
 have HF:=hide hF
 have HA2:=hide hA2
 have hrn:r≤n:=hF.1.1
 clear hF hA2
 have hr:¬r<n:=by have:=HN0.out;omega
 have HX:=hide hr
 obtain rfl:n=r:=by have:=HN0.out;omega
 have HRK:=hide (Rk.brdG (K:=m) (by have:=HK0.out;omega) HF.out.rk)
 have HPM:=hide (show Pmd n m (brdG n m (at2 A) fun _=>at1 V) A2 from by
  have:=HF.out.1.2.2.2.1
  obtain rfl:k=0:=HK0.out
  exact this.wide)
 have HDT:=hide (show Dt.det n A2≠0 from HF.out.1.2.2.1)
 have HFN:=hide (show ∀q,n≤q→q<m+n→F2 n q=Dt.D n A2 n q from fun q h1 h2=>HA2.out n (by omega) q h2 nl h1)
 have HBF:=hide (show ∀q,n≤q→q<m+n→zl L (F2 n q) from fun q h1 h2=>by
  rw[HFN.out q h1 h2]
  exact HPM.out.bd HB.out (by omega) (by omega) _ _ (by omega) _ h2)
 have hs:=hs.perm (List.Perm.swap _ _ _)
 have ENT:∃oi ci,(rs2.map (·.v))[n]? = some (.slice oi (m+n) ci)∧m+n≤ci:=by
  obtain⟨oi,ci,hvi⟩:=St.rowv (bs:=[ls w.heap.size 45 4 (.slice o9 n c9) n xs,bx p_t #[.slice o_t (n+1) c_t,.int .i64 (n:Int),.int .i64 (k:Int),.bool odd2] 61,bx p_b1 #[.slice ov m cv] 24]) hs hd2 (p:=n) (K:=m+n) (by rw[len_mkM];omega) (by rw[mkM_row (by omega)];simp)
  refine⟨oi,ci,hvi,?_⟩
  rcases Nat.eq_zero_or_pos (m+n) with c | c
  ·omega
  ·obtain⟨r1,gr,cr,ys,r2,e1,h1,hrv,hx,hs⟩:=St.row (bs:=[ls w.heap.size 45 4 (.slice o9 n c9) n xs,bx p_t #[.slice o_t (n+1) c_t,.int .i64 (n:Int),.int .i64 (k:Int),.bool odd2] 61,bx p_b1 #[.slice ov m cv] 24]) hs hd2 (p:=n) (K:=m+n) (by rw[len_mkM];omega) (by rw[mkM_row (by omega)];simp) (by omega)
   have LR:Lst _ w.heap.size 45 4 (.slice (some ⟨gr,0,none⟩) (m+n) cr) (m+n) ys:=hs.1.1.1
   have:=LR.capn
   rw[hrv] at hvi
   simp only[Option.some.injEq,Value.slice.injEq] at hvi
   omega
 obtain⟨oi,ci,hvi,hci⟩:=ENT
 have hci2:m≤ci:=by omega
 have LT9:Lst _ w.heap.size 24 1 (.slice o_t (n+1) c_t) (n+1) _:=hs.1.1.1
 obtain⟨gT,curT,rfl,xT,hcT⟩:=LT9.box (by omega)
 have eT:=hcT _ _ hvi
 have HVI:=hide hvi
 clear LT9 hcT hvi hr
 refine cf ?_
 refine wp_skip ?_
 refine hK7 _ _ ?_
 refine zk fun K9 hK9=>rg [0,1,2,3,4,5,6,7] ?_
 refine xmr ?_
 refine sr ?_
 refine sq ?_
 refine .r4 hs.g2.f4 ?_
 refine xmr ?_
 refine sq ?_
 refine .r1 (xT.cell _ eT) ?_
 refine sm (ze (hK9 _ _ ?_))
 refine zk fun K10 hK10 => ?_
 refine zk fun K11 hK11=>rg [0,1,2,3,4,5,6] ?_
 refine xmm ?_
 refine xmr ?_
 refine xrr ?_
 refine sm (ze (hK11 _ _ ?_))
 refine wp_block ?_
 generalize hoT:(@ite (Option Addr) (ci=n) _ oi _)=oT
 have HOT:=hide hoT
 clear hoT
 have hd5:=hs.2.1
 go_loopg [58] (m - n) (fun kz s58 wr=>∃i:Nat,s58 = .int .i64 (i:Int)∧i+kz=m - n∧Hid (∀q,n≤q→q<n+i→F2 n q=0)∧RD wr rs2 (mkM (n+1) (m+n) F2)∧St w (ls w.heap.size 24 1 (.slice (some ⟨gT,0,none⟩) (n+1) c_t) (n+1) (rs2.map (·.v))::([]++rs2.map (Rw.e w.heap.size))) wr)
 case atStart=>exact⟨0,rfl,by omega,hide (fun q h1 h2=>absurd h2 (by omega)),hd2,hs.sub (.cons_cons _ (.cons _ (.cons _ (.cons _ (List.Sublist.refl _)))))⟩
 case round =>
 clear hd hL9 hd2 xT hs
 obtain⟨i,rfl,hik,HZ,hd2,hs⟩:=hrel
 by_cases hi:i<m - n
 ·have HI:=hide hi
  obtain⟨r1,gr,cr,ys,r2,e1,h1,hrv,hx,hs0⟩:=St.row (bs:=[]) hs hd2 (p:=n) (K:=m+n) (by rw[len_mkM];omega) (by rw[mkM_row (by omega)];simp) (by omega)
  rw[mkM_row (by omega)] at hx
  have hvi:=HVI.out
  rw[hrv] at hvi
  simp only[Option.some.injEq,Value.slice.injEq,true_and] at hvi
  obtain⟨rfl,rfl⟩:=hvi
  have HE1:=hide e1
  have LR:Lst wr w.heap.size 45 4 (.slice (some ⟨gr,0,none⟩) (m+n) cr) (m+n) ys:=hs0.1.1.1
  obtain⟨gr',curR,eS,xR,hcR⟩:=LR.box (by omega)
  simp only[Option.some.injEq,Addr.mk.injEq,and_true] at eS
  obtain rfl:gr=gr':=eS
  obtain rfl:oT=some ⟨gr,n*4,none⟩:=by rw[←HOT.out,if_neg (by omega)];simp[Addr.add]
  obtain⟨a1,a2,a3,a4,a5,a6,a7,a8,ee1,ee2,ee3,ee4,x1,x2⟩:=hx.els (n+i) (by simp;omega)
  rw[show ((List.range (m+n)).map (F2 n))[n+i]'(by simp;omega)=F2 n (n+i) by simp] at x1 x2
  replace ee1:=hcR _ _ ee1
  replace ee2:=hcR _ _ ee2
  replace ee3:=hcR _ _ ee3
  replace ee4:=hcR _ _ ee4
  rw[Nat.add_mul] at ee1 ee2 ee3 ee4
  have LX:=HBF.out (n+i) (by omega) (by omega)
  replace x1:=x1.zn LX.1
  replace x2:=x2.zn LX.2
  obtain⟨X,hX⟩:∃X,F2 n (n+i)=X:=⟨_,rfl⟩
  have HXE:=hide hX
  have kR:=xR.lt
  rw[hX] at x1 x2
  clear LR hcR LX hX e1 h1 hrv hx
  by_cases hz:X.1=0∧X.2=0
  ·have EZ:=hide (decide_eq_true hz)
   have HZE:=hide hz
   have hs:=hs0
   clear hz hs0
   refine zk fun K12 hK12=>rg [0] ?_
   refine sr (ze (hK12 _ _ ?_))
   refine zk fun K13 hK13 => ?_
   refine ct ?_
   refine wp_skip ?_
   refine hK13 _ _ ?_
   refine zk fun K14 hK14 => ?_
   refine wp_block ?_
   refine zk fun K15 hK15=>rg [0,1,2,3] ?_
   refine sr ?_
   refine sq ?_
   refine .r4 ⟨xR.cell _ ee1,xR.cell _ ee2,xR.cell _ ee3,xR.cell _ ee4⟩ ?_
   refine sq ?_
   refine .al hs ?_;clear hs;intro p_b2 w_6 hs n6 kb_b2
   replace xR:=xR.bl n6
   refine sq ?_
   refine .s4 hs.g0 (fun _=>hs.u0 kb_b2) ?_;clear hs;intro w_7 hs hd7 ho7
   replace xR:=xR.frame ho7 (hs.ne 1 0)
   refine ze (hK15 _ _ ?_)
   refine zk fun K16 hK16=>rg [0,1,2] ?_
   refine sq ?_
   refine .r4 hs.g0.f4 ?_
   refine sq ?_
   intro K hK
   have k0_2:=(kb n6).o hd7 ho7
   replace x1:=x1.k k0_2
   replace x2:=x2.k k0_2
   go_big_op
   go_fit (isZero_any (.mk' x1 x2) (by omega) (by omega))
   rintro e w_8 ⟨rfl,hb_8⟩
   replace xR:=xR.bl hb_8;replace hs:=hs.bl hb_8
   rw[EZ.out]
   refine hK _ _ rfl trivial ?_
   clear hK K
   refine sr (ze (hK16 _ _ ?_))
   refine cf ?_
   refine wp_skip ?_
   refine hK14 _ _ ?_
   refine rg [0,1] ?_
   refine xrm ?_
   apply wpSq_end
   have k0_3:=k0_2.b hb_8
   replace hd2:=hd2.k k0_3
   refine ‹∀(a':Act) (w':World),Handed _ _ a' w'→_› _ _ ?_
   go_roundg (gk - 1)
   case rel=>exact⟨i+1,by rfl,by omega,hide (fun q h1 h2=>by
    by_cases c:q<n+i
    ·exact HZ.out q h1 c
    ·obtain rfl:q=n+i:=by omega
     rw[HXE.out];exact Prod.ext HZE.out.1 HZE.out.2),hd2,by have h9:=hs.sub (.cons _ (List.Sublist.refl _));rw[HE1.out] at h9 ⊢;exact St.unrow h9⟩
   case measure=>omega
  ·have EZ:=hide (decide_eq_false hz)
   have HNS:=hide (show ∀p x,¬Sol n m (at2 A) (at1 V) p x from fun p x hsol=>hz (by
    have:=solve_no HPM.out hsol (q:=n+i) (by omega) (by have:=HI.out;omega)
    rw[←HFN.out (n+i) (by omega) (by have:=HI.out;omega),HXE.out] at this
    rw[this];exact⟨rfl,rfl⟩))
   have hs:=hs0
   clear hz hs0
   refine zk fun K12 hK12=>rg [0] ?_
   refine sr (ze (hK12 _ _ ?_))
   refine zk fun K13 hK13 => ?_
   refine ct ?_
   refine wp_skip ?_
   refine hK13 _ _ ?_
   refine zk fun K14 hK14 => ?_
   refine wp_block ?_
   refine zk fun K15 hK15=>rg [0,1,2,3] ?_
   refine sr ?_
   refine sq ?_
   refine .r4 ⟨xR.cell _ ee1,xR.cell _ ee2,xR.cell _ ee3,xR.cell _ ee4⟩ ?_
   refine sq ?_
   refine .al hs ?_;clear hs;intro p_b2 w_6 hs n6 kb_b2
   replace xR:=xR.bl n6
   refine sq ?_
   refine .s4 hs.g0 (fun _=>hs.u0 kb_b2) ?_;clear hs;intro w_7 hs hd7 ho7
   replace xR:=xR.frame ho7 (hs.ne 1 0)
   refine ze (hK15 _ _ ?_)
   refine zk fun K16 hK16=>rg [0,1,2] ?_
   refine sq ?_
   refine .r4 hs.g0.f4 ?_
   refine sq ?_
   intro K hK
   have k0_2:=(kb n6).o hd7 ho7
   replace x1:=x1.k k0_2
   replace x2:=x2.k k0_2
   go_big_op
   go_fit (isZero_any (.mk' x1 x2) (by omega) (by omega))
   rintro e w_8 ⟨rfl,hb_8⟩
   replace xR:=xR.bl hb_8;replace hs:=hs.bl hb_8
   rw[EZ.out]
   refine hK _ _ rfl trivial ?_
   clear hK K
   refine sr (ze (hK16 _ _ ?_))
   refine ct ?_
   refine zk fun K17 hK17=>rg [0,1] ?_
   refine sm ?_
   refine sm (ze (hK17 _ _ ?_))
   refine wp_ret ?_
   try dsimp only [Exit.then,Exit.inBlock]
   refine bodyPost_ret (v:=(.tuple #[(.slice none 0 0),(.int .i64 10)])) (by simp[results,Tryz.results5,go_sem]) rfl ?_
   exact⟨.inr (.inl ⟨HRK.out,HNS.out,rfl⟩),hs.b⟩
 ·have HI:=hide (show i=m - n by omega)
  have HI2:=hide hi
  have HY:=hide (show Sol n m (at2 A) (at1 V) (Dt.det n A2) (yS n m A2) from solve_yes HPM.out HDT.out fun q h1 h2=>by
   rw[←HFN.out q h1 (by omega)];exact HZ.out q h1 (by omega))
  refine zk fun K12 hK12=>rg [0] ?_
  refine sr (ze (hK12 _ _ ?_))
  refine zk fun K13 hK13 => ?_
  refine cf ?_
  refine wp_exit ?_
  refine hK10 _ _ ?_
  refine zk fun K14 hK14=>rg [0,1,2] ?_
  refine sm ?_
  refine sq ?_
  refine .mk (n:=n) hs ?_ (by first | rfl | omega) (by omega);clear hs;intro g_S xs_S w_6 hs e_S n6 kb_S
  refine sm (ze (hK14 _ _ ?_))
  refine zk fun K15 hK15 => ?_
  refine zk fun K16 hK16=>rg [0,1,2,3,4,5] ?_
  refine xmm ?_
  refine xrr ?_
  refine sr ?_
  refine sm (ze (hK16 _ _ ?_))
  refine wp_block ?_
  generalize hoT2:(@ite (Option Addr) (ci=m) _ oi _)=oT2
  clear hoT2
  have hd7:=hs.2.1
  go_loopg [73] n (fun kz s73 wr=>∃(i:Nat) (zs:List Value),s73 = .int .i64 (i:Int)∧i+kz=n∧St w (ls w.heap.size 41 8 (.slice (some ⟨g_S,0,none⟩) n n) n zs::[]) wr)
  case atStart=>exact⟨0,xs_S,rfl,by omega,hs.sub (.cons_cons _ (List.nil_sublist _))⟩
  case round =>
  clear hi HI2
  clear hd2 hs
  obtain⟨i,zs,rfl,hin,hs⟩:=hrel
  have hi:¬i<n:=by have:=HN0.out;omega
  have HI:=hide hi
  refine zk fun K17 hK17=>rg [0] ?_
  refine sr (ze (hK17 _ _ ?_))
  refine zk fun K18 hK18 => ?_
  refine cf ?_
  refine wp_exit ?_
  refine hK15 _ _ ?_
  refine zk fun K19 hK19=>rg [0,1,2] ?_
  refine xmm ?_
  refine sm (ze (hK19 _ _ ?_))
  refine wp_ret ?_
  try dsimp only [Exit.then,Exit.inBlock]
  refine bodyPost_ret (v:=(.tuple #[(.slice (some ⟨g_S,0,none⟩) n n),(.int .i64 0)])) (by simp[results,Tryz.results5,go_sem]) rfl ?_
  exact⟨.inr (.inr ⟨HRK.out,_,_,HY.out,⟨by rw[HN0.out];exact HZ1.out,fun i hi=>absurd (HN0.out ▸ hi) (Nat.not_lt_zero _)⟩,_,_,rfl,.inl (by rw[HN0.out];rfl)⟩),hs.b⟩
end
theorem rv_m1 (x p:Int):rv x 1*rv p 1=rv (x*p) 1:=by rw[←rv_mul];rfl
theorem rv_s1 (x p:Int):rv x 1 - rv p 1=rv (x - p) 1:=by
 rw[←rv_sub (by decide) (by decide)];simp
theorem rv_a1 (x p:Int):rv x 1+rv p 1=rv (x+p) 1:=by
 rw[←rv_add (by decide) (by decide)];simp
theorem rv_n1 (x:Int) : -rv x 1=rv (-x) 1:=(rv_neg1 x 1).symm
theorem qC_eq (x u p s:Int):qC (x,u) (p,s)=(rv (x*p - u * -s) 1/rv (p*p+s*s) 1,rv (x * -s+u*p) 1/rv (p*p+s*s) 1):=by
 unfold qC
 simp only[rv_n1,rv_m1,rv_s1,rv_a1]
end Go.Proofs.YthmolpepinolkaaGreat
namespace Go.Proofs.YthmolpepinolkaaGreat
open Go Go.RowKit Dig
set_option linter.unusedVariables false
variable {l:Nat}
end Go.Proofs.YthmolpepinolkaaGreat
