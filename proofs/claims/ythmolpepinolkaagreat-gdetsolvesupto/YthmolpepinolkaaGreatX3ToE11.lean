/- gfrac: low; Add, Sub. -/
import Derived.Test.YthmolpepinolkaaGreatT1ToX2
import Derived.Test.YthmolpepinolkaaGreatM2ToG2
import Derived.Test.YthmolpepinolkaaGreatGpToA2
import Derived.Test.YthmolpepinolkaaGreatScToDt2
namespace Go.Proofs.YthmolpepinolkaaGreat
open Go Go.RowKit Dig
set_option maxHeartbeats 4000000
set_option maxRecDepth 20000
set_option linter.unusedVariables false
section
variable {w:World} {va vb:Value} {x y u v p q s t:Int} {l m k n l2 m2 k2 n2:Nat}
def BC (w:World) (pa:Nat) (x:Int) (l:Nat) (y:Int) (m:Nat) (u:Int) (k:Nat) (v:Int) (n:Nat):Prop :=
 ∃n1 o1 k1 c1 n2 o2 k2 c2 n3 o3 k3 c3 n4 o4 k4 c4,Bs w pa #[.bool n1,.slice o1 k1 c1,.bool n2,.slice o2 k2 c2,.bool n3,.slice o3 k3 c3,.bool n4,.slice o4 k4 c4] 41∧ZN w (.agg #[.bool n1,.slice o1 k1 c1]) x l∧ZN w (.agg #[.bool n2,.slice o2 k2 c2]) y m∧ZN w (.agg #[.bool n3,.slice o3 k3 c3]) u k∧ZN w (.agg #[.bool n4,.slice o4 k4 c4]) v n
theorem BC.mk' {pa:Nat} {n1 n2 n3 n4:Bool} {o1 o2 o3 o4:Option Addr} {k1 c1 k2 c2 k3 c3 k4 c4:Nat} (hb:Bs w pa #[.bool n1,.slice o1 k1 c1,.bool n2,.slice o2 k2 c2,.bool n3,.slice o3 k3 c3,.bool n4,.slice o4 k4 c4] 41) (h1:ZN w (.agg #[.bool n1,.slice o1 k1 c1]) x l) (h2:ZN w (.agg #[.bool n2,.slice o2 k2 c2]) y m) (h3:ZN w (.agg #[.bool n3,.slice o3 k3 c3]) u k) (h4:ZN w (.agg #[.bool n4,.slice o4 k4 c4]) v n):BC w pa x l y m u k v n :=
 ⟨_,_,_,_,_,_,_,_,_,_,_,_,_,_,_,_,hb,h1,h2,h3,h4⟩
theorem low1_ok1 {pa:Nat} (hp:BC w pa x l y m u k v n) (hl:l≤100000000) (hm:m≤100000000) (hk:k≤100000000) (hn:n≤100000000) (h0:y≠0) :
  Calls Tryz.prog 92 (#[.func (.func 149) #[] #[]] ++ #[.pointer (some ⟨pa,0,none⟩)]) w fun e w'=>∃r,e = .returned (.tuple #[r,.int .i64 0])∧PC w' r (rv x y).num (rv x y).den∧Below w.heap.size w w':=by
 have H0:=hide h0
 clear h0
 obtain ⟨n1,o1,k1,c1,n2,o2,k2,c2,n3,o3,k3,c3,n4,o4,k4,c4,xa,h1,h2,h3,h4⟩:=hp
 show Calls Tryz.prog 92 #[.func (.func 149) #[] #[],.pointer (some ⟨pa,0,none⟩)] w _
 go_enter Tryz.func92,Tryz.ntmps92
 have hs:=St.nil w
 have lt_xa:=xa.lt
 have xaz:=xa
 refine wp_seq_k fun K1 hK1=>rg [0,1] ?_
 refine sq ?_
 refine .al hs ?_;clear hs;intro p_b1 w_1 hs n1 kb_b1
 replace xa:=xa.bl n1
 refine sm ?_
 apply wpSq_end
 refine hK1 _ _ ?_
 refine wp_seq_k ?_
 intro K2 hK2
 refine wp_region_f4 [(0,false),(1,false),(4,false),(5,false),(2,true),(3,false),(6,true),(7,false),(8,true),(9,false),(10,false)] [11,12] [] (fun _=>default) [99,0,99,99,99,0,99,99,99,99,99,99,99] [] (.c xa .n) fn fun w_2 n2 => ?_
 replace xa:=xa.bl n2;replace hs:=hs.bl n2
 refine fmv ?_
 apply wpFl_ld rfl rfl;(case h1=>intro w' hC K hK;have c0:=Bs.cell hC 0 rfl;have c1:=Bs.cell hC 1 rfl;have c2:=Bs.cell hC 2 rfl;have c3:=Bs.cell hC 3 rfl;have c4:=Bs.cell hC 4 rfl;have c5:=Bs.cell hC 5 rfl;have c6:=Bs.cell hC 6 rfl;have c7:=Bs.cell hC 7 rfl;go_big_op;exact hK);iterate 4 kernel_rfl
 refine fmv ?_
 apply wpFl_ld rfl rfl;(case h1=>intro w' hC K hK;have c0:=Bs.cell hC 0 rfl;have c1:=Bs.cell hC 1 rfl;have c2:=Bs.cell hC 2 rfl;have c3:=Bs.cell hC 3 rfl;have c4:=Bs.cell hC 4 rfl;have c5:=Bs.cell hC 5 rfl;have c6:=Bs.cell hC 6 rfl;have c7:=Bs.cell hC 7 rfl;go_big_op;exact hK);iterate 4 kernel_rfl
 refine fl fun w_3 n3 => ?_
 replace xa:=xa.bl n3;replace hs:=hs.bl n3
 intro K hK
 have k0_3:=((kb n1).b n2).b n3
 replace h1:=h1.k k0_3
 replace h2:=h2.k k0_3
 replace h3:=h3.k k0_3
 replace h4:=h4.k k0_3
 go_big_op
 go_fit (selQ1 (.mk' h1 h2 h3 h4))
 rintro e w_4 ⟨_,rfl,⟨n_gaa,o_gaa,k_gaa,c_gaa,n_gab,o_gab,k_gab,c_gab,rfl,ga1,ga2⟩,hb_4⟩
 replace xa:=xa.bl hb_4;replace hs:=hs.bl hb_4
 refine hK _ _ rfl ⟨hb_4,(And.intro xa trivial)⟩ ?_
 clear hK K
 apply wpFl_ld rfl rfl;(case h1=>intro w' hC K hK;go_big_op;rw [(?eX:Sem.run _ (Instr.field _ _ _) _=Result.ok (.agg #[.bool n_gaa,.slice o_gaa k_gaa c_gaa]) w')];(case eX=>kernel_rfl);simp only [Result.andThen,Oper.upon,Act.put,List.setIfInBounds_toArray,List.set_cons_succ,List.set_cons_zero];exact hK);iterate 4 kernel_rfl
 refine fl fun w_5 n5 => ?_
 replace xa:=xa.bl n5;replace hs:=hs.bl n5
 intro K hK
 have k3_5:=(kb hb_4).b n5
 replace h1:=h1.k k3_5
 replace h2:=h2.k k3_5
 replace h3:=h3.k k3_5
 replace h4:=h4.k k3_5
 go_big_op
 go_fit (selQ1 (.mk' h1 h2 h3 h4))
 rintro e w_6 ⟨_,rfl,⟨n_gba,o_gba,k_gba,c_gba,n_gbb,o_gbb,k_gbb,c_gbb,rfl,gb1,gb2⟩,hb_6⟩
 replace xa:=xa.bl hb_6;replace hs:=hs.bl hb_6
 refine hK _ _ rfl ⟨hb_6,(And.intro xa trivial)⟩ ?_
 clear hK K
 apply wpFl_ld rfl rfl;(case h1=>intro w' hC K hK;go_big_op;rw [(?eX:Sem.run _ (Instr.field _ _ _) _=Result.ok (.agg #[.bool n_gbb,.slice o_gbb k_gbb c_gbb]) w')];(case eX=>kernel_rfl);simp only [Result.andThen,Oper.upon,Act.put,List.setIfInBounds_toArray,List.set_cons_succ,List.set_cons_zero];exact hK);iterate 4 kernel_rfl
 refine fl fun w_7 n7 => ?_
 replace xa:=xa.bl n7;replace hs:=hs.bl n7
 intro K hK
 have k4_7:=((kb n5).b hb_6).b n7
 replace ga1:=ga1.k k4_7
 have k6_7:=kb n7
 replace gb2:=gb2.k k6_7
 go_big_op
 go_fit (fmake_r ga1 gb2 (by omega) (by omega) H0.out)
 rintro e w_8 ⟨_,rfl,⟨n_ra,o_ra,k_ra,c_ra,n_rb,o_rb,k_rb,c_rb,rfl,r1,r2⟩,hb_8⟩
 replace xa:=xa.bl hb_8;replace hs:=hs.bl hb_8
 refine hK _ _ rfl ⟨hb_8,(And.intro xa trivial)⟩ ?_
 clear hK K
 refine f0 ?_
 refine f0 ?_
 refine e0 hs ?_;clear hs;intro w_9 hs n9
 replace xa:=xa.bl n9
 refine tl ?_
 refine .s4 hs.g0 (fun _=>hs.u0 kb_b1) ?_ (e:=fun _ hs=>(And.intro (xaz.bl hs.b) True.intro));clear hs;intro w_10 hs hd10 ho10
 replace xa:=xa.frame ho10 (Nat.ne_of_lt (Nat.lt_of_lt_of_le lt_xa kb_b1))
 refine tl ?_
 refine .mv ?_ (e:=(And.intro (xaz.bl hs.b) True.intro))
 apply wpTail_end
 refine hK2 _ _ ?_
 refine wp_ret ?_
 try dsimp only [Exit.then,Exit.inBlock]
 obtain ⟨r0_0,r0_1,r0_2,r0_3⟩:=hs.g0.f4
 refine bodyPost_ret (v:=(.tuple #[(.agg #[.bool n_ra,.slice o_ra k_ra c_ra,.bool n_rb,.slice o_rb k_rb c_rb]),(.int .i64 0)])) (by simp [results,Tryz.results92,go_sem,r0_0,r0_1,r0_2,r0_3]) rfl ?_
 have k8_10:=(kb n9).o hd10 ho10
 replace r1:=r1.k k8_10
 replace r2:=r2.k k8_10
 exact ⟨_,rfl,.mk' r1 r2,hs.b⟩
theorem low1_ok2 {pa:Nat} (hp:BC w pa x l y m u k v n) (hl:l≤100000000) (hm:m≤100000000) (hk:k≤100000000) (hn:n≤100000000) (h0:v≠0) :
  Calls Tryz.prog 92 (#[.func (.func 150) #[] #[]] ++ #[.pointer (some ⟨pa,0,none⟩)]) w fun e w'=>∃r,e = .returned (.tuple #[r,.int .i64 0])∧PC w' r (rv u v).num (rv u v).den∧Below w.heap.size w w':=by
 have H0:=hide h0
 clear h0
 obtain ⟨n1,o1,k1,c1,n2,o2,k2,c2,n3,o3,k3,c3,n4,o4,k4,c4,xa,h1,h2,h3,h4⟩:=hp
 show Calls Tryz.prog 92 #[.func (.func 150) #[] #[],.pointer (some ⟨pa,0,none⟩)] w _
 go_enter Tryz.func92,Tryz.ntmps92
 have hs:=St.nil w
 have lt_xa:=xa.lt
 have xaz:=xa
 refine wp_seq_k fun K1 hK1=>rg [0,1] ?_
 refine sq ?_
 refine .al hs ?_;clear hs;intro p_b1 w_1 hs n1 kb_b1
 replace xa:=xa.bl n1
 refine sm ?_
 apply wpSq_end
 refine hK1 _ _ ?_
 refine wp_seq_k ?_
 intro K2 hK2
 refine wp_region_f4 [(0,false),(1,false),(4,false),(5,false),(2,true),(3,false),(6,true),(7,false),(8,true),(9,false),(10,false)] [11,12] [] (fun _=>default) [99,0,99,99,99,0,99,99,99,99,99,99,99] [] (.c xa .n) fn fun w_2 n2 => ?_
 replace xa:=xa.bl n2;replace hs:=hs.bl n2
 refine fmv ?_
 apply wpFl_ld rfl rfl;(case h1=>intro w' hC K hK;have c0:=Bs.cell hC 0 rfl;have c1:=Bs.cell hC 1 rfl;have c2:=Bs.cell hC 2 rfl;have c3:=Bs.cell hC 3 rfl;have c4:=Bs.cell hC 4 rfl;have c5:=Bs.cell hC 5 rfl;have c6:=Bs.cell hC 6 rfl;have c7:=Bs.cell hC 7 rfl;go_big_op;exact hK);iterate 4 kernel_rfl
 refine fmv ?_
 apply wpFl_ld rfl rfl;(case h1=>intro w' hC K hK;have c0:=Bs.cell hC 0 rfl;have c1:=Bs.cell hC 1 rfl;have c2:=Bs.cell hC 2 rfl;have c3:=Bs.cell hC 3 rfl;have c4:=Bs.cell hC 4 rfl;have c5:=Bs.cell hC 5 rfl;have c6:=Bs.cell hC 6 rfl;have c7:=Bs.cell hC 7 rfl;go_big_op;exact hK);iterate 4 kernel_rfl
 refine fl fun w_3 n3 => ?_
 replace xa:=xa.bl n3;replace hs:=hs.bl n3
 intro K hK
 have k0_3:=((kb n1).b n2).b n3
 replace h1:=h1.k k0_3
 replace h2:=h2.k k0_3
 replace h3:=h3.k k0_3
 replace h4:=h4.k k0_3
 go_big_op
 go_fit (selQ2 (.mk' h1 h2 h3 h4))
 rintro e w_4 ⟨_,rfl,⟨n_gaa,o_gaa,k_gaa,c_gaa,n_gab,o_gab,k_gab,c_gab,rfl,ga1,ga2⟩,hb_4⟩
 replace xa:=xa.bl hb_4;replace hs:=hs.bl hb_4
 refine hK _ _ rfl ⟨hb_4,(And.intro xa trivial)⟩ ?_
 clear hK K
 apply wpFl_ld rfl rfl;(case h1=>intro w' hC K hK;go_big_op;rw [(?eX:Sem.run _ (Instr.field _ _ _) _=Result.ok (.agg #[.bool n_gaa,.slice o_gaa k_gaa c_gaa]) w')];(case eX=>kernel_rfl);simp only [Result.andThen,Oper.upon,Act.put,List.setIfInBounds_toArray,List.set_cons_succ,List.set_cons_zero];exact hK);iterate 4 kernel_rfl
 refine fl fun w_5 n5 => ?_
 replace xa:=xa.bl n5;replace hs:=hs.bl n5
 intro K hK
 have k3_5:=(kb hb_4).b n5
 replace h1:=h1.k k3_5
 replace h2:=h2.k k3_5
 replace h3:=h3.k k3_5
 replace h4:=h4.k k3_5
 go_big_op
 go_fit (selQ2 (.mk' h1 h2 h3 h4))
 rintro e w_6 ⟨_,rfl,⟨n_gba,o_gba,k_gba,c_gba,n_gbb,o_gbb,k_gbb,c_gbb,rfl,gb1,gb2⟩,hb_6⟩
 replace xa:=xa.bl hb_6;replace hs:=hs.bl hb_6
 refine hK _ _ rfl ⟨hb_6,(And.intro xa trivial)⟩ ?_
 clear hK K
 apply wpFl_ld rfl rfl;(case h1=>intro w' hC K hK;go_big_op;rw [(?eX:Sem.run _ (Instr.field _ _ _) _=Result.ok (.agg #[.bool n_gbb,.slice o_gbb k_gbb c_gbb]) w')];(case eX=>kernel_rfl);simp only [Result.andThen,Oper.upon,Act.put,List.setIfInBounds_toArray,List.set_cons_succ,List.set_cons_zero];exact hK);iterate 4 kernel_rfl
 refine fl fun w_7 n7 => ?_
 replace xa:=xa.bl n7;replace hs:=hs.bl n7
 intro K hK
 have k4_7:=((kb n5).b hb_6).b n7
 replace ga1:=ga1.k k4_7
 have k6_7:=kb n7
 replace gb2:=gb2.k k6_7
 go_big_op
 go_fit (fmake_r ga1 gb2 (by omega) (by omega) H0.out)
 rintro e w_8 ⟨_,rfl,⟨n_ra,o_ra,k_ra,c_ra,n_rb,o_rb,k_rb,c_rb,rfl,r1,r2⟩,hb_8⟩
 replace xa:=xa.bl hb_8;replace hs:=hs.bl hb_8
 refine hK _ _ rfl ⟨hb_8,(And.intro xa trivial)⟩ ?_
 clear hK K
 refine f0 ?_
 refine f0 ?_
 refine e0 hs ?_;clear hs;intro w_9 hs n9
 replace xa:=xa.bl n9
 refine tl ?_
 refine .s4 hs.g0 (fun _=>hs.u0 kb_b1) ?_ (e:=fun _ hs=>(And.intro (xaz.bl hs.b) True.intro));clear hs;intro w_10 hs hd10 ho10
 replace xa:=xa.frame ho10 (Nat.ne_of_lt (Nat.lt_of_lt_of_le lt_xa kb_b1))
 refine tl ?_
 refine .mv ?_ (e:=(And.intro (xaz.bl hs.b) True.intro))
 apply wpTail_end
 refine hK2 _ _ ?_
 refine wp_ret ?_
 try dsimp only [Exit.then,Exit.inBlock]
 obtain ⟨r0_0,r0_1,r0_2,r0_3⟩:=hs.g0.f4
 refine bodyPost_ret (v:=(.tuple #[(.agg #[.bool n_ra,.slice o_ra k_ra c_ra,.bool n_rb,.slice o_rb k_rb c_rb]),(.int .i64 0)])) (by simp [results,Tryz.results92,go_sem,r0_0,r0_1,r0_2,r0_3]) rfl ?_
 have k8_10:=(kb n9).o hd10 ho10
 replace r1:=r1.k k8_10
 replace r2:=r2.k k8_10
 exact ⟨_,rfl,.mk' r1 r2,hs.b⟩
theorem low_ok (ha:CN w va x l y m u k v n) (hl:l≤100000000) (hm:m≤100000000) (hk:k≤100000000) (hn:n≤100000000) (hy:y≠0) (hv:v≠0) :
  Calls Tryz.prog 39 #[va] w fun e w'=>∃r,e = .returned (.tuple #[r,.int .i64 0])∧CC w' r (rv x y).num (rv x y).den (rv u v).num (rv u v).den∧Below w.heap.size w w':=by
 have HY:=hide hy
 have HV:=hide hv
 clear hy hv
 obtain ⟨n_0a,o_0a,k_0a,c_0a,n_0b,o_0b,k_0b,c_0b,n_0c,o_0c,k_0c,c_0c,n_0d,o_0d,k_0d,c_0d,rfl,ha1,ha2,ha3,ha4⟩:=ha
 go_enter Tryz.func39,Tryz.ntmps39
 have hs:=St.nil w
 refine wp_seq_k fun K1 hK1=>rg [0,1,2] ?_
 refine sq ?_
 refine .al hs ?_;clear hs;intro p_b1 w_1 hs n1 kb_b1
 refine sq ?_
 refine .al hs ?_;clear hs;intro p_b2 w_2 hs n2 kb_b2
 refine sm ?_
 apply wpSq_end
 refine hK1 _ _ ?_
 refine wp_seq_k fun K2 hK2=>rg [0,1,2,3,4,5] ?_
 refine sr ?_
 refine sq ?_
 intro K hK
 have x_b1:=hs.g1
 have k0_2:=(kb n1).b n2
 replace ha1:=ha1.k k0_2
 replace ha2:=ha2.k k0_2
 replace ha3:=ha3.k k0_2
 replace ha4:=ha4.k k0_2
 go_big_op
 go_fit (number_ok (fun _ _↦by kernel_rfl) (fun w1 h↦low1_ok1 (.mk' (x_b1.bl h) (ha1.bl h) (ha2.bl h) (ha3.bl h) (ha4.bl h)) hl hm hk hn HY.out) (fun w1 h↦low1_ok2 (.mk' (x_b1.bl h) (ha1.bl h) (ha2.bl h) (ha3.bl h) (ha4.bl h)) hl hm hk hn HV.out))
 rintro e w_3 ⟨_,rfl,⟨n_r1,o_r1,k_r1,c_r1,n_r2,o_r2,k_r2,c_r2,n_r3,o_r3,k_r3,c_r3,n_r4,o_r4,k_r4,c_r4,rfl,r1,r2,r3,r4⟩,hb_3⟩
 clear x_b1
 replace hs:=hs.bl hb_3
 refine hK _ _ rfl trivial ?_
 clear hK K
 refine sr ?_
 refine sr ?_
 refine sq ?_
 intro K hK
 have xs:=hs.g0
 have d0:w_3.cell? ⟨p_b2,0,none⟩=some (.bool false):=hs.g0.cell 0 rfl
 have d1:w_3.cell? ⟨p_b2,1,none⟩=some (.slice none 0 0):=hs.g0.cell 1 rfl
 have d2:w_3.cell? ⟨p_b2,2,none⟩=some (.bool false):=hs.g0.cell 2 rfl
 have d3:w_3.cell? ⟨p_b2,3,none⟩=some (.slice none 0 0):=hs.g0.cell 3 rfl
 have d4:w_3.cell? ⟨p_b2,4,none⟩=some (.bool false):=hs.g0.cell 4 rfl
 have d5:w_3.cell? ⟨p_b2,5,none⟩=some (.slice none 0 0):=hs.g0.cell 5 rfl
 have d6:w_3.cell? ⟨p_b2,6,none⟩=some (.bool false):=hs.g0.cell 6 rfl
 have d7:w_3.cell? ⟨p_b2,7,none⟩=some (.slice none 0 0):=hs.g0.cell 7 rfl
 have f0:=xs.free 0;have f1:=xs.free 1;have f2:=xs.free 2;have f3:=xs.free 3;have f4:=xs.free 4;have f5:=xs.free 5;have f6:=xs.free 6;have f7:=xs.free 7
 go_big_op
 have hd4:=xs.nod rfl rfl
 obtain ⟨w_4_0,eW,xs_0,ho_0⟩:∃w',((((w_3.setCell ⟨p_b2,0,none⟩ (.bool n_r1)).setCell ⟨p_b2,1,none⟩ (.slice o_r1 k_r1 c_r1)).setCell ⟨p_b2,2,none⟩ (.bool n_r2)).setCell ⟨p_b2,3,none⟩ (.slice o_r2 k_r2 c_r2))=w'∧Bs w' p_b2 #[.bool n_r1,.slice o_r1 k_r1 c_r1,.bool n_r2,.slice o_r2 k_r2 c_r2,.bool false,.slice none 0 0,.bool false,.slice none 0 0] 41∧Only p_b2 w_3 w':=xs.setN [(0,.bool n_r1),(1,.slice o_r1 k_r1 c_r1),(2,.bool n_r2),(3,.slice o_r2 k_r2 c_r2)]
 rw [eW];clear eW
 obtain ⟨w_4,eW,xs',ho_4⟩:∃w',((((w_4_0.setCell ⟨p_b2,4,none⟩ (.bool n_r3)).setCell ⟨p_b2,5,none⟩ (.slice o_r3 k_r3 c_r3)).setCell ⟨p_b2,6,none⟩ (.bool n_r4)).setCell ⟨p_b2,7,none⟩ (.slice o_r4 k_r4 c_r4))=w'∧Bs w' p_b2 #[.bool n_r1,.slice o_r1 k_r1 c_r1,.bool n_r2,.slice o_r2 k_r2 c_r2,.bool n_r3,.slice o_r3 k_r3 c_r3,.bool n_r4,.slice o_r4 k_r4 c_r4] 41∧Only p_b2 w_4_0 w':=xs_0.setN [(4,.bool n_r3),(5,.slice o_r3 k_r3 c_r3),(6,.bool n_r4),(7,.slice o_r4 k_r4 c_r4)]
 rw [eW];clear eW xs_0
 have ho4:=(ho_0.trans ho_4)
 clear ho_0 ho_4 d0 d1 d2 d3 d4 d5 d6 d7 f0 f1 f2 f3 f4 f5 f6 f7 xs
 replace hs:=hs.u0 kb_b2 xs' ho4;clear xs'
 refine hK _ _ rfl trivial ?_;clear hK K
 refine sm ?_
 apply wpSq_end
 refine hK2 _ _ ?_
 refine wp_ret ?_
 try dsimp only [Exit.then,Exit.inBlock]
 have r0_0:w_4.cell? ⟨p_b2,0,none⟩=some (.bool n_r1):=hs.g0.cell 0 rfl
 have r0_1:w_4.cell? ⟨p_b2,1,none⟩=some (.slice o_r1 k_r1 c_r1):=hs.g0.cell 1 rfl
 have r0_2:w_4.cell? ⟨p_b2,2,none⟩=some (.bool n_r2):=hs.g0.cell 2 rfl
 have r0_3:w_4.cell? ⟨p_b2,3,none⟩=some (.slice o_r2 k_r2 c_r2):=hs.g0.cell 3 rfl
 have r0_4:w_4.cell? ⟨p_b2,4,none⟩=some (.bool n_r3):=hs.g0.cell 4 rfl
 have r0_5:w_4.cell? ⟨p_b2,5,none⟩=some (.slice o_r3 k_r3 c_r3):=hs.g0.cell 5 rfl
 have r0_6:w_4.cell? ⟨p_b2,6,none⟩=some (.bool n_r4):=hs.g0.cell 6 rfl
 have r0_7:w_4.cell? ⟨p_b2,7,none⟩=some (.slice o_r4 k_r4 c_r4):=hs.g0.cell 7 rfl
 refine bodyPost_ret (v:=(.tuple #[(.agg #[.bool n_r1,.slice o_r1 k_r1 c_r1,.bool n_r2,.slice o_r2 k_r2 c_r2,.bool n_r3,.slice o_r3 k_r3 c_r3,.bool n_r4,.slice o_r4 k_r4 c_r4]),(.int .i64 0)])) (by simp [results,Tryz.results39,go_sem,r0_0,r0_1,r0_2,r0_3,r0_4,r0_5,r0_6,r0_7]) rfl ?_
 have k3_4:=ko hd4 ho4
 replace r1:=r1.k k3_4
 replace r2:=r2.k k3_4
 replace r3:=r3.k k3_4
 replace r4:=r4.k k3_4
 exact ⟨_,rfl,.mk' r1 r2 r3 r4,hs.b⟩
end
def odF (y v:Int):Int:=v.fdiv (Int.gcd y v)
def odG (y v:Int):Int:=y.fdiv (Int.gcd y v)
theorem od_len {y v:Int} {m n:Nat} (hy:(dig y.natAbs).length≤m) (hv:(dig v.natAbs).length≤n):(dig (odF y v).natAbs).length≤n∧(dig (odG y v).natAbs).length≤m:=by
 unfold odF odG
 by_cases h:(Int.gcd y v:Int)=0
 ·have h1:Int.gcd y v=0:=by exact_mod_cast h
  obtain ⟨rfl,rfl⟩:=Int.gcd_eq_zero_iff.1 h1
  rw [Int.zero_fdiv]
  exact ⟨hv,hy⟩
 ·exact ⟨fdiv_len h hv,fdiv_len h hy⟩
theorem od_ne {y v:Int} (hy:y≠0) (hv:v≠0):odF y v≠0∧odG y v≠0∧y*odF y v=v*odG y v:=by
 have h1:=Int.fdiv_mul_cancel (Int.gcd_dvd_left y v)
 have h2:=Int.fdiv_mul_cancel (Int.gcd_dvd_right y v)
 unfold odF odG
 generalize (Int.gcd y v:Int)=g at *
 generalize y.fdiv g=a at *
 generalize v.fdiv g=b at *
 refine ⟨fun h=>hv (by rw [←h2,h,Int.zero_mul]),fun h=>hy (by rw [←h1,h,Int.zero_mul]),?_⟩
 rw [←h1,←h2]
 grind
theorem rv_scale {x y f:Int} (hy:y≠0) (hf:f≠0):rv (x*f) (y*f)=rv x y :=
 (rv_eq (Int.mul_ne_zero hy hf) hy).2 (by grind)
section
variable {x y u v p q s t:Int}
theorem od_rv (hy:y≠0) (hv:v≠0):y*odF y v≠0∧rv (x*odF y v) (y*odF y v)=rv x y∧rv (u*odG y v) (y*odF y v)=rv u v:=by
 obtain ⟨h1,h2,h3⟩:=od_ne hy hv
 exact ⟨Int.mul_ne_zero hy h1,rv_scale hy h1,by rw [h3];exact rv_scale hv h2⟩
theorem quo_rv {X Y D P S E:Int} (hD:D≠0) (hE:E≠0) (hN:gN P S≠0) :
  rv ((X*E - Y*0)*P - (X*0+Y*E) * -S) (D*gN P S)=(rv X D*rv P E - rv Y D * -rv S E)/(rv P E*rv P E+rv S E*rv S E) ∧
  rv ((X*E - Y*0) * -S+(X*0+Y*E)*P) (D*gN P S)=(rv X D * -rv S E+rv Y D*rv P E)/(rv P E*rv P E+rv S E*rv S E):=by
 have h1:=cast_ne hD
 have h2:=cast_ne hE
 have h3:=cast_ne hN
 unfold gN at h3 ⊢
 rw [Rat.intCast_add,Rat.intCast_mul,Rat.intCast_mul] at h3
 unfold rv
 simp only [Rat.intCast_add,Rat.intCast_sub,Rat.intCast_mul,Rat.intCast_neg]
 generalize (X:Rat)=a at *
 generalize (Y:Rat)=b at *
 generalize (D:Rat)=c at *
 generalize (P:Rat)=d at *
 generalize (S:Rat)=e at *
 generalize (E:Rat)=f at *
 obtain ⟨n,hn⟩:∃n,d*d+e*e=n:=⟨_,rfl⟩
 rw [hn] at h3 ⊢
 have h4:d/f*(d/f)+e/f*(e/f)=n/(f*f):=by grind
 rw [h4]
 have h5:((0:Int):Rat)=0:=rfl
 rw [h5]
 constructor <;> grind
end
section
variable {w:World} {va vb:Value} {x y u v p q s t:Int} {l m k n l2 m2 k2 n2:Nat}
theorem od_some (ha:CN w va x l y m u k v n) (hl:l≤9000000) (hm:m≤4500000) (hk:k≤9000000) (hn:n≤4500000) (h:¬(y=0∧v=0)) :
  Calls Tryz.prog 42 #[va] w fun e w'=>∃r d,e = .returned (.tuple #[r,d])∧PC w' r (x*odF y v) (u*odG y v)∧ZC w' d (y*odF y v)∧Below w.heap.size w w':=by
 have HG:=hide (show (Int.gcd y v:Int)≠0 from fun h0=>h (Int.gcd_eq_zero_iff.1 (by exact_mod_cast h0)))
 have H1:=hide (fmod_dvd (Int.gcd_dvd_left y v))
 have H2:=hide (fmod_dvd (Int.gcd_dvd_right y v))
 clear h
 unfold odF odG
 obtain ⟨n_0a,o_0a,k_0a,c_0a,n_0b,o_0b,k_0b,c_0b,n_0c,o_0c,k_0c,c_0c,n_0d,o_0d,k_0d,c_0d,rfl,ha1,ha2,ha3,ha4⟩:=ha
 go_enter Tryz.func42,Tryz.ntmps42
 have hs:=St.nil w
 refine wp_seq_k fun K1 hK1=>rg [0,1,2] ?_
 refine sq ?_
 refine .al hs ?_;clear hs;intro p_b1 w_1 hs n1 kb_b1
 refine sq ?_
 refine .al hs ?_;clear hs;intro p_b2 w_2 hs n2 kb_b2
 refine sq ?_
 refine .al hs ?_;clear hs;intro p_b3 w_3 hs n3 kb_b3
 apply wpSq_end
 refine hK1 _ _ ?_
 refine wp_seq_k fun K2 hK2=>rg [0,1,2,3,4,5,6,7,8] ?_
 refine sr ?_
 refine sr ?_
 refine sq ?_
 refine .r2 ⟨hs.g2.cell 2 rfl,hs.g2.cell 3 rfl⟩ ?_
 refine sr ?_
 refine sr ?_
 refine sq ?_
 refine .r2 ⟨hs.g2.cell 6 rfl,hs.g2.cell 7 rfl⟩ ?_
 refine sq ?_
 intro K hK
 have k0_3:=((kb n1).b n2).b n3
 replace ha2:=ha2.k k0_3
 replace ha4:=ha4.k k0_3
 go_big_op
 go_fit (zgcd_any ha2 ha4 (by omega) (by omega) )
 rintro e w_4 ⟨v_g,rfl,g,hb_4⟩
 replace hs:=hs.bl hb_4
 replace g:=g.rd
 obtain ⟨n_g,o_g,k_g,c_g,rfl⟩:=g.open2
 have Lg:=hide (g.lenOf (zlen_gcd (ha2.len) (ha4.len)))
 refine hK _ _ rfl trivial ?_
 clear hK K
 refine sq ?_
 refine .al hs ?_;clear hs;intro p_b4 w_5 hs n5 kb_b4
 refine sq ?_
 refine .s2 hs.g0 (fun _=>hs.u0 kb_b4) ?_;clear hs;intro w_6 hs hd6 ho6
 apply wpSq_end
 refine hK2 _ _ ?_
 refine wp_seq_k fun K3 hK3=>rg [0,1,2,3,4,5,6,7,8,9,10] ?_
 refine sr ?_
 refine sr ?_
 refine sq ?_
 refine .r2 ⟨hs.g3.cell 2 rfl,hs.g3.cell 3 rfl⟩ ?_
 refine sq ?_
 refine .r2 hs.g0.f2 ?_
 refine sq ?_
 intro K hK
 have k3_6:=((kb hb_4).b n5).o hd6 ho6
 replace ha2:=ha2.k k3_6
 have k4_6:=(kb n5).o hd6 ho6
 replace g:=g.k k4_6
 go_big_op
 go_fit (exact_any ha2 (g.zn Lg.out) (by omega) (by omega) HG.out H1.out)
 rintro e w_7 ⟨v_gi,rfl,gi,hb_7⟩
 replace hs:=hs.bl hb_7
 replace gi:=gi.rd
 obtain ⟨n_gi,o_gi,k_gi,c_gi,rfl⟩:=gi.open2
 have Lgi:=hide (gi.lenOf (fdiv_len (HG.out) (ha2.len)))
 refine hK _ _ rfl trivial ?_
 clear hK K
 refine sm ?_
 refine sr ?_
 refine sr ?_
 refine sq ?_
 refine .al hs ?_;clear hs;intro p_b5 w_8 hs n8 kb_b5
 refine sq ?_
 refine .s2 hs.g0 (fun _=>hs.u0 kb_b5) ?_;clear hs;intro w_9 hs hd9 ho9
 refine sm ?_
 apply wpSq_end
 refine hK3 _ _ ?_
 refine wp_seq_k fun K4 hK4=>rg [0,1,2,3,4,5,6,7,8,9,10] ?_
 refine sr ?_
 refine sr ?_
 refine sq ?_
 refine .r2 ⟨hs.g4.cell 6 rfl,hs.g4.cell 7 rfl⟩ ?_
 refine sq ?_
 refine .r2 hs.g1.f2 ?_
 refine sq ?_
 intro K hK
 have k3_9:=((k3_6.b hb_7).b n8).o hd9 ho9
 replace ha4:=ha4.k k3_9
 have k6_9:=((kb hb_7).b n8).o hd9 ho9
 replace g:=g.k k6_9
 go_big_op
 go_fit (exact_any ha4 (g.zn Lg.out) (by omega) (by omega) HG.out H2.out)
 rintro e w_10 ⟨v_gr,rfl,gr,hb_10⟩
 replace hs:=hs.bl hb_10
 replace gr:=gr.rd
 obtain ⟨n_gr,o_gr,k_gr,c_gr,rfl⟩:=gr.open2
 have Lgr:=hide (gr.lenOf (fdiv_len (HG.out) (ha4.len)))
 refine hK _ _ rfl trivial ?_
 clear hK K
 refine sm ?_
 refine sr ?_
 refine sr ?_
 refine sq ?_
 refine .al hs ?_;clear hs;intro p_b6 w_11 hs n11 kb_b6
 refine sq ?_
 refine .s2 hs.g0 (fun _=>hs.u0 kb_b6) ?_;clear hs;intro w_12 hs hd12 ho12
 refine sm ?_
 apply wpSq_end
 refine hK4 _ _ ?_
 refine wp_seq_k ?_
 intro K5 hK5
 refine wp_region_f4 [(0,false),(1,false),(2,false),(3,false),(5,false),(6,false),(7,false),(8,false),(4,true),(9,true),(10,false)] [11] [] (fun _=>default) [99,99,0,1,99,99,99,0,2,99,99,99] [] (.c hs.g5 (.c hs.g0 (.c hs.g1 .n))) fn fun w_13 n13 => ?_
 replace hs:=hs.bl n13
 refine f0 ?_
 refine f0 ?_
 apply wpFl_ld rfl rfl;(case h1=>intro w' hC K hK;have c0:=Bs.cell hC 0 rfl;have c1:=Bs.cell hC 1 rfl;go_big_op;exact hK);iterate 4 kernel_rfl
 refine f2 ?_
 refine f0 ?_
 refine f0 ?_
 apply wpFl_ld rfl rfl;(case h1=>intro w' hC K hK;have c4:=Bs.cell hC 4 rfl;have c5:=Bs.cell hC 5 rfl;go_big_op;exact hK);iterate 4 kernel_rfl
 refine f2 ?_
 refine fl fun w_14 n14 => ?_
 replace hs:=hs.bl n14
 intro K hK
 have k0_14:=((((((((((k0_3.b hb_4).b n5).o hd6 ho6).b hb_7).b n8).o hd9 ho9).b hb_10).b n11).o hd12 ho12).b n13).b n14
 replace ha1:=ha1.k k0_14
 have k10_14:=(((kb n11).o hd12 ho12).b n13).b n14
 replace gr:=gr.k k10_14
 go_big_op
 go_fit (zmul_any ha1 (gr.zn Lgr.out) (by omega) (by omega) )
 rintro e w_15 ⟨v_tr,rfl,tr,hb_15⟩
 replace hs:=hs.bl hb_15
 replace tr:=tr.rd
 obtain ⟨n_tr,o_tr,k_tr,c_tr,rfl⟩:=tr.open2
 refine hK _ _ rfl ⟨hb_15,(And.intro hs.g5 (And.intro hs.g0 (And.intro hs.g1 trivial)))⟩ ?_
 clear hK K
 refine fl fun w_16 n16 => ?_
 replace hs:=hs.bl n16
 intro K hK
 have k0_16:=(k0_14.b hb_15).b n16
 replace ha3:=ha3.k k0_16
 have k7_16:=((((((((kb n8).o hd9 ho9).b hb_10).b n11).o hd12 ho12).b n13).b n14).b hb_15).b n16
 replace gi:=gi.k k7_16
 go_big_op
 go_fit (zmul_any ha3 (gi.zn Lgi.out) (by omega) (by omega) )
 rintro e w_17 ⟨v_ti,rfl,ti,hb_17⟩
 replace hs:=hs.bl hb_17
 replace ti:=ti.rd
 obtain ⟨n_ti,o_ti,k_ti,c_ti,rfl⟩:=ti.open2
 refine hK _ _ rfl ⟨hb_17,(And.intro hs.g5 (And.intro hs.g0 (And.intro hs.g1 trivial)))⟩ ?_
 clear hK K
 refine f0 ?_
 refine e0 hs ?_;clear hs;intro w_18 hs n18
 refine tl ?_
 refine .s4 hs.g4 (fun _=>hs.u4 kb_b2) ?_ (e:=fun _ hs=>(And.intro hs.g5 (And.intro hs.g0 (And.intro hs.g1 True.intro))));clear hs;intro w_19 hs hd19 ho19
 apply wpTail_end
 refine hK5 _ _ ?_
 refine wp_seq_k ?_
 intro K6 hK6
 refine wp_region_f4 [(0,false),(1,false),(2,false),(3,false),(4,false),(5,true)] [6,7] [] (fun _=>default) [0,99,99,1,2,99,99,99] [(6,0),(7,0)] (.c hs.g4 (.c hs.g5 (.c hs.g0 .n))) fn fun w_20 n20 => ?_
 replace hs:=hs.bl n20
 refine f4 ?_
 refine f0 ?_
 refine f0 ?_
 apply wpFl_ld rfl rfl;(case h1=>intro w' hC K hK;have c2:=Bs.cell hC 2 rfl;have c3:=Bs.cell hC 3 rfl;go_big_op;exact hK);iterate 4 kernel_rfl
 refine f2 ?_
 refine fl fun w_21 n21 => ?_
 replace hs:=hs.bl n21
 intro K hK
 have k6_21:=(((((((((((k6_9.b hb_10).b n11).o hd12 ho12).b n13).b n14).b hb_15).b n16).b hb_17).b n18).o hd19 ho19).b n20).b n21
 replace ha2:=ha2.k k6_21
 have k14_21:=((((((kb hb_15).b n16).b hb_17).b n18).o hd19 ho19).b n20).b n21
 replace gr:=gr.k k14_21
 go_big_op
 go_fit (zmul_any ha2 (gr.zn Lgr.out) (by omega) (by omega) )
 rintro e w_22 ⟨v_dd,rfl,dd,hb_22⟩
 replace hs:=hs.bl hb_22
 replace dd:=dd.rd
 obtain ⟨n_dd,o_dd,k_dd,c_dd,rfl⟩:=dd.open2
 refine hK _ _ rfl ⟨hb_22,(And.intro hs.g4 (And.intro hs.g5 (And.intro hs.g0 trivial)))⟩ ?_
 clear hK K
 refine e0 hs ?_;clear hs;intro w_23 hs n23
 refine tl ?_
 refine .s4 hs.g4 (fun _=>hs.u4 kb_b2) ?_ (e:=fun _ hs=>(And.intro True.intro (And.intro hs.g5 (And.intro hs.g0 True.intro))));clear hs;intro w_24 hs hd24 ho24
 refine tl ?_
 refine .s2 hs.g3 (fun _=>hs.u3 kb_b3) ?_ (e:=fun _ hs=>(And.intro True.intro (And.intro hs.g5 (And.intro hs.g0 True.intro))));clear hs;intro w_25 hs hd25 ho25
 apply wpTail_end
 refine hK6 _ _ ?_
 refine wp_ret ?_
 try dsimp only [Exit.then,Exit.inBlock]
 obtain ⟨r0_0,r0_1,r0_2,r0_3⟩:=hs.g4.f4
 obtain ⟨r4_0,r4_1⟩:=hs.g3.f2
 refine bodyPost_ret (v:=(.tuple #[(.agg #[.bool n_tr,.slice o_tr k_tr c_tr,.bool n_ti,.slice o_ti k_ti c_ti]),(.agg #[.bool n_dd,.slice o_dd k_dd c_dd])])) (by simp [results,Tryz.results42,go_sem,r0_0,r0_1,r0_2,r0_3,r4_0,r4_1]) rfl ?_
 have k15_25:=(((((((((kb n16).b hb_17).b n18).o hd19 ho19).b n20).b n21).b hb_22).b n23).o hd24 ho24).o hd25 ho25
 replace tr:=tr.k k15_25
 have k17_25:=(((((((kb n18).o hd19 ho19).b n20).b n21).b hb_22).b n23).o hd24 ho24).o hd25 ho25
 replace ti:=ti.k k17_25
 have k22_25:=((kb n23).o hd24 ho24).o hd25 ho25
 replace dd:=dd.k k22_25
 exact ⟨_,_,rfl,.mk' tr ti,dd,hs.b⟩
theorem od_none (ha:CN w va x l 0 m u k 0 n) (hl:l≤9000000) (hm:m≤4500000) (hk:k≤9000000) (hn:n≤4500000) :
  Calls Tryz.prog 42 #[va] w fun e w'=>∃r d,e = .returned (.tuple #[r,d])∧PC w' r (x*0) (u*0)∧ZC w' d (0*0)∧Below w.heap.size w w':=by
 have HG:=hide (show (Int.gcd 0 0:Int)=0 from rfl)
 obtain ⟨n_0a,o_0a,k_0a,c_0a,n_0b,o_0b,k_0b,c_0b,n_0c,o_0c,k_0c,c_0c,n_0d,o_0d,k_0d,c_0d,rfl,ha1,ha2,ha3,ha4⟩:=ha
 go_enter Tryz.func42,Tryz.ntmps42
 have hs:=St.nil w
 refine wp_seq_k fun K1 hK1=>rg [0,1,2] ?_
 refine sq ?_
 refine .al hs ?_;clear hs;intro p_b1 w_1 hs n1 kb_b1
 refine sq ?_
 refine .al hs ?_;clear hs;intro p_b2 w_2 hs n2 kb_b2
 refine sq ?_
 refine .al hs ?_;clear hs;intro p_b3 w_3 hs n3 kb_b3
 apply wpSq_end
 refine hK1 _ _ ?_
 refine wp_seq_k fun K2 hK2=>rg [0,1,2,3,4,5,6,7,8] ?_
 refine sr ?_
 refine sr ?_
 refine sq ?_
 refine .r2 ⟨hs.g2.cell 2 rfl,hs.g2.cell 3 rfl⟩ ?_
 refine sr ?_
 refine sr ?_
 refine sq ?_
 refine .r2 ⟨hs.g2.cell 6 rfl,hs.g2.cell 7 rfl⟩ ?_
 refine sq ?_
 intro K hK
 have k0_3:=((kb n1).b n2).b n3
 replace ha2:=ha2.k k0_3
 replace ha4:=ha4.k k0_3
 go_big_op
 go_fit (zgcd_any ha2 ha4 (by omega) (by omega) )
 rintro e w_4 ⟨v_g,rfl,g,hb_4⟩
 replace hs:=hs.bl hb_4
 replace g:=g.rd
 obtain ⟨n_g,o_g,k_g,c_g,rfl⟩:=g.open2
 have Lg:=hide (g.lenOf (zlen_gcd (ha2.len) (ha4.len)))
 rw [HG.out] at g
 refine hK _ _ rfl trivial ?_
 clear hK K
 refine sq ?_
 refine .al hs ?_;clear hs;intro p_b4 w_5 hs n5 kb_b4
 refine sq ?_
 refine .s2 hs.g0 (fun _=>hs.u0 kb_b4) ?_;clear hs;intro w_6 hs hd6 ho6
 apply wpSq_end
 refine hK2 _ _ ?_
 refine wp_seq_k fun K3 hK3=>rg [0,1,2,3,4,5,6,7,8,9,10] ?_
 refine sr ?_
 refine sr ?_
 refine sq ?_
 refine .r2 ⟨hs.g3.cell 2 rfl,hs.g3.cell 3 rfl⟩ ?_
 refine sq ?_
 refine .r2 hs.g0.f2 ?_
 have Lg:=hide (g.lenOf (zlen_0))
 refine sq ?_
 intro K hK
 have k3_6:=((kb hb_4).b n5).o hd6 ho6
 replace ha2:=ha2.k k3_6
 have k4_6:=(kb n5).o hd6 ho6
 replace g:=g.k k4_6
 go_big_op
 go_fit (exact_zero ha2 (g.zn Lg.out) (by omega) (by omega) )
 rintro e w_7 ⟨rfl,hb_7⟩
 replace hs:=hs.bl hb_7
 refine hK _ _ rfl trivial ?_
 clear hK K
 refine sm ?_
 refine sr ?_
 refine sr ?_
 refine sq ?_
 refine .al hs ?_;clear hs;intro p_b5 w_8 hs n8 kb_b5
 refine sq ?_
 refine .s2 hs.g0 (fun _=>hs.u0 kb_b5) ?_;clear hs;intro w_9 hs hd9 ho9
 refine sm ?_
 apply wpSq_end
 refine hK3 _ _ ?_
 refine wp_seq_k fun K4 hK4=>rg [0,1,2,3,4,5,6,7,8,9,10] ?_
 refine sr ?_
 refine sr ?_
 refine sq ?_
 refine .r2 ⟨hs.g4.cell 6 rfl,hs.g4.cell 7 rfl⟩ ?_
 refine sq ?_
 refine .r2 hs.g1.f2 ?_
 refine sq ?_
 intro K hK
 have k3_9:=((k3_6.b hb_7).b n8).o hd9 ho9
 replace ha4:=ha4.k k3_9
 have k6_9:=((kb hb_7).b n8).o hd9 ho9
 replace g:=g.k k6_9
 go_big_op
 go_fit (exact_zero ha4 (g.zn Lg.out) (by omega) (by omega) )
 rintro e w_10 ⟨rfl,hb_10⟩
 replace hs:=hs.bl hb_10
 refine hK _ _ rfl trivial ?_
 clear hK K
 refine sm ?_
 refine sr ?_
 refine sr ?_
 refine sq ?_
 refine .al hs ?_;clear hs;intro p_b6 w_11 hs n11 kb_b6
 refine sq ?_
 refine .s2 hs.g0 (fun _=>hs.u0 kb_b6) ?_;clear hs;intro w_12 hs hd12 ho12
 refine sm ?_
 apply wpSq_end
 refine hK4 _ _ ?_
 refine wp_seq_k ?_
 intro K5 hK5
 refine wp_region_f4 [(0,false),(1,false),(2,false),(3,false),(5,false),(6,false),(7,false),(8,false),(4,true),(9,true),(10,false)] [11] [] (fun _=>default) [99,99,0,1,99,99,99,0,2,99,99,99] [] (.c hs.g5 (.c hs.g0 (.c hs.g1 .n))) fn fun w_13 n13 => ?_
 replace hs:=hs.bl n13
 refine f0 ?_
 refine f0 ?_
 apply wpFl_ld rfl rfl;(case h1=>intro w' hC K hK;have c0:=Bs.cell hC 0 rfl;have c1:=Bs.cell hC 1 rfl;go_big_op;exact hK);iterate 4 kernel_rfl
 refine f2 ?_
 refine f0 ?_
 refine f0 ?_
 apply wpFl_ld rfl rfl;(case h1=>intro w' hC K hK;have c4:=Bs.cell hC 4 rfl;have c5:=Bs.cell hC 5 rfl;go_big_op;exact hK);iterate 4 kernel_rfl
 refine f2 ?_
 refine fl fun w_14 n14 => ?_
 replace hs:=hs.bl n14
 intro K hK
 have k0_14:=((((((((((k0_3.b hb_4).b n5).o hd6 ho6).b hb_7).b n8).o hd9 ho9).b hb_10).b n11).o hd12 ho12).b n13).b n14
 replace ha1:=ha1.k k0_14
 go_big_op
 go_fit (zmul_any ha1 ((zc_zero w_14).zn zlen_0) (by omega) (by omega) )
 rintro e w_15 ⟨v_tr,rfl,tr,hb_15⟩
 replace hs:=hs.bl hb_15
 replace tr:=tr.rd
 obtain ⟨n_tr,o_tr,k_tr,c_tr,rfl⟩:=tr.open2
 refine hK _ _ rfl ⟨hb_15,(And.intro hs.g5 (And.intro hs.g0 (And.intro hs.g1 trivial)))⟩ ?_
 clear hK K
 refine fl fun w_16 n16 => ?_
 replace hs:=hs.bl n16
 intro K hK
 have k0_16:=(k0_14.b hb_15).b n16
 replace ha3:=ha3.k k0_16
 go_big_op
 go_fit (zmul_any ha3 ((zc_zero w_16).zn zlen_0) (by omega) (by omega) )
 rintro e w_17 ⟨v_ti,rfl,ti,hb_17⟩
 replace hs:=hs.bl hb_17
 replace ti:=ti.rd
 obtain ⟨n_ti,o_ti,k_ti,c_ti,rfl⟩:=ti.open2
 refine hK _ _ rfl ⟨hb_17,(And.intro hs.g5 (And.intro hs.g0 (And.intro hs.g1 trivial)))⟩ ?_
 clear hK K
 refine f0 ?_
 refine e0 hs ?_;clear hs;intro w_18 hs n18
 refine tl ?_
 refine .s4 hs.g4 (fun _=>hs.u4 kb_b2) ?_ (e:=fun _ hs=>(And.intro hs.g5 (And.intro hs.g0 (And.intro hs.g1 True.intro))));clear hs;intro w_19 hs hd19 ho19
 apply wpTail_end
 refine hK5 _ _ ?_
 refine wp_seq_k ?_
 intro K6 hK6
 refine wp_region_f4 [(0,false),(1,false),(2,false),(3,false),(4,false),(5,true)] [6,7] [] (fun _=>default) [0,99,99,1,2,99,99,99] [(6,0),(7,0)] (.c hs.g4 (.c hs.g5 (.c hs.g0 .n))) fn fun w_20 n20 => ?_
 replace hs:=hs.bl n20
 refine f4 ?_
 refine f0 ?_
 refine f0 ?_
 apply wpFl_ld rfl rfl;(case h1=>intro w' hC K hK;have c2:=Bs.cell hC 2 rfl;have c3:=Bs.cell hC 3 rfl;go_big_op;exact hK);iterate 4 kernel_rfl
 refine f2 ?_
 refine fl fun w_21 n21 => ?_
 replace hs:=hs.bl n21
 intro K hK
 have k6_21:=(((((((((((k6_9.b hb_10).b n11).o hd12 ho12).b n13).b n14).b hb_15).b n16).b hb_17).b n18).o hd19 ho19).b n20).b n21
 replace ha2:=ha2.k k6_21
 go_big_op
 go_fit (zmul_any ha2 ((zc_zero w_21).zn zlen_0) (by omega) (by omega) )
 rintro e w_22 ⟨v_dd,rfl,dd,hb_22⟩
 replace hs:=hs.bl hb_22
 replace dd:=dd.rd
 obtain ⟨n_dd,o_dd,k_dd,c_dd,rfl⟩:=dd.open2
 refine hK _ _ rfl ⟨hb_22,(And.intro hs.g4 (And.intro hs.g5 (And.intro hs.g0 trivial)))⟩ ?_
 clear hK K
 refine e0 hs ?_;clear hs;intro w_23 hs n23
 refine tl ?_
 refine .s4 hs.g4 (fun _=>hs.u4 kb_b2) ?_ (e:=fun _ hs=>(And.intro True.intro (And.intro hs.g5 (And.intro hs.g0 True.intro))));clear hs;intro w_24 hs hd24 ho24
 refine tl ?_
 refine .s2 hs.g3 (fun _=>hs.u3 kb_b3) ?_ (e:=fun _ hs=>(And.intro True.intro (And.intro hs.g5 (And.intro hs.g0 True.intro))));clear hs;intro w_25 hs hd25 ho25
 apply wpTail_end
 refine hK6 _ _ ?_
 refine wp_ret ?_
 try dsimp only [Exit.then,Exit.inBlock]
 obtain ⟨r0_0,r0_1,r0_2,r0_3⟩:=hs.g4.f4
 obtain ⟨r4_0,r4_1⟩:=hs.g3.f2
 refine bodyPost_ret (v:=(.tuple #[(.agg #[.bool n_tr,.slice o_tr k_tr c_tr,.bool n_ti,.slice o_ti k_ti c_ti]),(.agg #[.bool n_dd,.slice o_dd k_dd c_dd])])) (by simp [results,Tryz.results42,go_sem,r0_0,r0_1,r0_2,r0_3,r4_0,r4_1]) rfl ?_
 have k15_25:=(((((((((kb n16).b hb_17).b n18).o hd19 ho19).b n20).b n21).b hb_22).b n23).o hd24 ho24).o hd25 ho25
 replace tr:=tr.k k15_25
 have k17_25:=(((((((kb n18).o hd19 ho19).b n20).b n21).b hb_22).b n23).o hd24 ho24).o hd25 ho25
 replace ti:=ti.k k17_25
 have k22_25:=((kb n23).o hd24 ho24).o hd25 ho25
 replace dd:=dd.k k22_25
 exact ⟨_,_,rfl,.mk' tr ti,dd,hs.b⟩
theorem od_any (ha:CN w va x l y m u k v n) (hl:l≤9000000) (hm:m≤4500000) (hk:k≤9000000) (hn:n≤4500000) :
  Calls Tryz.prog 42 #[va] w fun e w'=>∃r d,e = .returned (.tuple #[r,d])∧PC w' r (x*odF y v) (u*odG y v)∧ZC w' d (y*odF y v)∧Below w.heap.size w w':=by
 by_cases h:y=0∧v=0
 ·obtain ⟨rfl,rfl⟩:=h
  exact od_none ha hl hm hk hn
 ·exact od_some ha hl hm hk hn h
theorem gfQuo_ok (ha:CN w va x l y m u k v n) (hq:CN w vb p l2 q m2 s k2 t n2) (hl:l≤9000000) (hm:m≤4500000) (hk:k≤9000000) (hn:n≤4500000) (hl2:l2≤1100000) (hm2:m2≤1100000) (hk2:k2≤1100000) (hn2:n2≤1100000) (hy:y≠0) (hv:v≠0) (hq0:q≠0) (ht:t≠0) (h0:¬(p=0∧s=0)) :
  Calls Tryz.prog 23 #[va,vb] w fun e w'=>∃r,e = .returned (.tuple #[r,.int .i64 0])∧CC w' r ((rv x y*rv p q - rv u v * -rv s t)/(rv p q*rv p q+rv s t*rv s t)).num ((rv x y*rv p q - rv u v * -rv s t)/(rv p q*rv p q+rv s t*rv s t)).den ((rv x y * -rv s t+rv u v*rv p q)/(rv p q*rv p q+rv s t*rv s t)).num ((rv x y * -rv s t+rv u v*rv p q)/(rv p q*rv p q+rv s t*rv s t)).den∧Below w.heap.size w w':=by
 obtain ⟨h1,h2,h3⟩:=od_rv (x:=x) (u:=u) hy hv
 obtain ⟨h4,h5,h6⟩:=od_rv (x:=p) (u:=s) hq0 ht
 have h7:gN (p*odF q t) (s*odG q t)≠0:=fun e=>h0 (by
  have e2:=gN_zero.1 e
  have e3:=od_ne hq0 ht
  exact ⟨(Int.mul_eq_zero.1 e2.1).resolve_right e3.1,(Int.mul_eq_zero.1 e2.2).resolve_right e3.2.1⟩)
 have HD:=hide (Int.mul_ne_zero h1 h7)
 have HS:((q*odF q t).sign=0)=False:=by simpa using h4
 have HM:=quo_rv (X:=x*odF y v) (Y:=u*odG y v) (P:=p*odF q t) (S:=s*odG q t) h1 h4 h7
 rw [h2,h3,h5,h6] at HM
 replace HM:=hide HM
 obtain ⟨Sg,hSg⟩:∃Sg,(q*odF q t).sign=Sg:=⟨_,rfl⟩
 have HSg:=hide hSg
 rw [hSg] at HS
 clear hy hv hq0 ht h1 h2 h3 h4 h5 h6 h7 h0 hSg
 obtain ⟨n_0a,o_0a,k_0a,c_0a,n_0b,o_0b,k_0b,c_0b,n_0c,o_0c,k_0c,c_0c,n_0d,o_0d,k_0d,c_0d,rfl,ha1,ha2,ha3,ha4⟩:=ha
 obtain ⟨n_1a,o_1a,k_1a,c_1a,n_1b,o_1b,k_1b,c_1b,n_1c,o_1c,k_1c,c_1c,n_1d,o_1d,k_1d,c_1d,rfl,hq1,hq2,hq3,hq4⟩:=hq
 go_enter Tryz.func23,Tryz.ntmps23
 have hs:=St.nil w
 refine wp_seq_k fun K1 hK1=>rg [0,1,2,3] ?_
 refine sq ?_
 refine .al hs ?_;clear hs;intro p_b1 w_1 hs n1 kb_b1
 refine sq ?_
 refine .al hs ?_;clear hs;intro p_b2 w_2 hs n2 kb_b2
 refine sq ?_
 refine .al hs ?_;clear hs;intro p_b3 w_3 hs n3 kb_b3
 refine sm ?_
 apply wpSq_end
 refine hK1 _ _ ?_
 refine wp_seq_k fun K2 hK2=>rg [0,1,2,3,4,5,6,7,8] ?_
 refine sq ?_
 intro K hK
 have d0:w_3.cell? ⟨p_b1,0,none⟩=some (.bool n_0a):=hs.g2.cell 0 rfl
 have d1:w_3.cell? ⟨p_b1,1,none⟩=some (.slice o_0a k_0a c_0a):=hs.g2.cell 1 rfl
 have d2:w_3.cell? ⟨p_b1,2,none⟩=some (.bool n_0b):=hs.g2.cell 2 rfl
 have d3:w_3.cell? ⟨p_b1,3,none⟩=some (.slice o_0b k_0b c_0b):=hs.g2.cell 3 rfl
 have d4:w_3.cell? ⟨p_b1,4,none⟩=some (.bool n_0c):=hs.g2.cell 4 rfl
 have d5:w_3.cell? ⟨p_b1,5,none⟩=some (.slice o_0c k_0c c_0c):=hs.g2.cell 5 rfl
 have d6:w_3.cell? ⟨p_b1,6,none⟩=some (.bool n_0d):=hs.g2.cell 6 rfl
 have d7:w_3.cell? ⟨p_b1,7,none⟩=some (.slice o_0d k_0d c_0d):=hs.g2.cell 7 rfl
 go_big_op;refine hK _ _ rfl trivial ?_;clear hK K d0 d1 d2 d3 d4 d5 d6 d7
 refine sq ?_
 intro K hK
 have k0_3:=((kb n1).b n2).b n3
 replace ha1:=ha1.k k0_3
 replace ha2:=ha2.k k0_3
 replace ha3:=ha3.k k0_3
 replace ha4:=ha4.k k0_3
 go_big_op
 go_fit (od_any (CN.mk' ha1 ha2 ha3 ha4) (by omega) (by omega) (by omega) (by omega) )
 rintro e w_4 ⟨_,v_da,rfl,⟨n_gaa,o_gaa,k_gaa,c_gaa,n_gab,o_gab,k_gab,c_gab,rfl,ga1,ga2⟩,da,hb_4⟩
 replace hs:=hs.bl hb_4
 obtain ⟨n_da,o_da,k_da,c_da,rfl⟩:=da.open2
 have Lga1:=hide (ga1.lenOf ((zlen_mul (ha1.len) (od_len (ha2.len) (ha4.len)).1)))
 have Lga2:=hide (ga2.lenOf ((zlen_mul (ha3.len) (od_len (ha2.len) (ha4.len)).2)))
 have Lda:=hide (da.lenOf ((zlen_mul (ha2.len) (od_len (ha2.len) (ha4.len)).1)))
 refine hK _ _ rfl trivial ?_
 clear hK K
 refine sm ?_
 refine sr ?_
 refine sr ?_
 refine sq ?_
 refine .al hs ?_;clear hs;intro p_b4 w_5 hs n5 kb_b4
 refine sq ?_
 refine .al hs ?_;clear hs;intro p_b5 w_6 hs n6 kb_b5
 refine sq ?_
 refine .s4 hs.g1 (fun _=>hs.u1 kb_b4) ?_;clear hs;intro w_7 hs hd7 ho7
 refine sq ?_
 refine .s2 hs.g0 (fun _=>hs.u0 kb_b5) ?_;clear hs;intro w_8 hs hd8 ho8
 apply wpSq_end
 refine hK2 _ _ ?_
 refine wp_seq_k fun K3 hK3=>rg [0,1,2,3,4,5,6,7,8] ?_
 refine sq ?_
 intro K hK
 have d0:w_8.cell? ⟨p_b2,0,none⟩=some (.bool n_1a):=hs.g3.cell 0 rfl
 have d1:w_8.cell? ⟨p_b2,1,none⟩=some (.slice o_1a k_1a c_1a):=hs.g3.cell 1 rfl
 have d2:w_8.cell? ⟨p_b2,2,none⟩=some (.bool n_1b):=hs.g3.cell 2 rfl
 have d3:w_8.cell? ⟨p_b2,3,none⟩=some (.slice o_1b k_1b c_1b):=hs.g3.cell 3 rfl
 have d4:w_8.cell? ⟨p_b2,4,none⟩=some (.bool n_1c):=hs.g3.cell 4 rfl
 have d5:w_8.cell? ⟨p_b2,5,none⟩=some (.slice o_1c k_1c c_1c):=hs.g3.cell 5 rfl
 have d6:w_8.cell? ⟨p_b2,6,none⟩=some (.bool n_1d):=hs.g3.cell 6 rfl
 have d7:w_8.cell? ⟨p_b2,7,none⟩=some (.slice o_1d k_1d c_1d):=hs.g3.cell 7 rfl
 go_big_op;refine hK _ _ rfl trivial ?_;clear hK K d0 d1 d2 d3 d4 d5 d6 d7
 refine sq ?_
 intro K hK
 have k0_8:=((((k0_3.b hb_4).b n5).b n6).o hd7 ho7).o hd8 ho8
 replace hq1:=hq1.k k0_8
 replace hq2:=hq2.k k0_8
 replace hq3:=hq3.k k0_8
 replace hq4:=hq4.k k0_8
 go_big_op
 go_fit (od_any (CN.mk' hq1 hq2 hq3 hq4) (by omega) (by omega) (by omega) (by omega) )
 rintro e w_9 ⟨_,v_db,rfl,⟨n_gba,o_gba,k_gba,c_gba,n_gbb,o_gbb,k_gbb,c_gbb,rfl,gb1,gb2⟩,db,hb_9⟩
 replace hs:=hs.bl hb_9
 obtain ⟨n_db,o_db,k_db,c_db,rfl⟩:=db.open2
 have Lgb1:=hide (gb1.lenOf ((zlen_mul (hq1.len) (od_len (hq2.len) (hq4.len)).1)))
 have Lgb2:=hide (gb2.lenOf ((zlen_mul (hq3.len) (od_len (hq2.len) (hq4.len)).2)))
 have Ldb:=hide (db.lenOf ((zlen_mul (hq2.len) (od_len (hq2.len) (hq4.len)).1)))
 refine hK _ _ rfl trivial ?_
 clear hK K
 refine sm ?_
 refine sr ?_
 refine sr ?_
 refine sq ?_
 refine .al hs ?_;clear hs;intro p_b6 w_10 hs n10 kb_b6
 clear ha1 ha2 ha3 ha4 hq1 hq2 hq3 hq4
 refine sq ?_
 refine .al hs ?_;clear hs;intro p_b7 w_11 hs n11 kb_b7
 refine sq ?_
 refine .s4 hs.g1 (fun _=>hs.u1 kb_b6) ?_;clear hs;intro w_12 hs hd12 ho12
 refine sq ?_
 refine .s2 hs.g0 (fun _=>hs.u0 kb_b7) ?_;clear hs;intro w_13 hs hd13 ho13
 apply wpSq_end
 refine hK3 _ _ ?_
 refine wp_seq_k ?_
 intro K4 hK4
 refine wp_seq_k fun K5 hK5=>rg [0,1,2] ?_
 refine sq ?_
 refine .r2 hs.g0.f2 ?_
 refine sq ?_
 intro K hK
 have k9_13:=(((kb n10).b n11).o hd12 ho12).o hd13 ho13
 replace db:=db.k k9_13
 go_big_op
 go_fit (zsign_any (db.zn Ldb.out) (by omega) )
 rintro e w_14 ⟨rfl,hb_14⟩
 replace hs:=hs.bl hb_14
 rw [HSg.out]
 refine hK _ _ rfl trivial ?_
 clear hK K
 refine sr ?_
 apply wpSq_end
 refine hK5 _ _ ?_
 refine wp_cond_false (congrArg Value.bool (show _=false from (by simpa using HS))) ?_
 refine wp_skip ?_
 refine hK4 _ _ ?_
 refine wp_seq_k ?_
 intro K6 hK6
 refine wp_region_f4 [(0,false),(1,false),(2,false),(4,false),(3,true),(5,true),(6,true)] [7] [] (fun _=>default) [0,1,99,99,2,99,99,99] [(7,0)] (.c hs.g3 (.c hs.g0 (.c hs.g1 .n))) fn fun w_15 n15 => ?_
 replace hs:=hs.bl n15
 refine f4 ?_
 refine f2 ?_
 refine f0 ?_
 refine f4 ?_
 refine fl fun w_16 n16 => ?_
 replace hs:=hs.bl n16
 intro K hK
 have k4_16:=(((((((((((kb n5).b n6).o hd7 ho7).o hd8 ho8).b hb_9).b n10).b n11).o hd12 ho12).o hd13 ho13).b hb_14).b n15).b n16
 replace ga1:=ga1.k k4_16
 replace ga2:=ga2.k k4_16
 have k13_16:=((kb hb_14).b n15).b n16
 replace db:=db.k k13_16
 go_big_op
 go_fit (gMul_any (PN.mk' (ga1.zn Lga1.out) (ga2.zn Lga2.out)) (PN.mk' (db.zn Ldb.out) ((zc_zero w_16).zn zlen_0)) (by omega) (by omega) (by omega) (by omega) )
 rintro e w_17 ⟨_,rfl,⟨n_gma,o_gma,k_gma,c_gma,n_gmb,o_gmb,k_gmb,c_gmb,rfl,gm1,gm2⟩,hb_17⟩
 replace hs:=hs.bl hb_17
 have Lgm1:=hide (gm1.lenOf (zlen_sub (zlen_mul (Lga1.out) (Ldb.out)) (zlen_mul (Lga2.out) (zlen_0))))
 have Lgm2:=hide (gm2.lenOf (zlen_add (zlen_mul (Lga1.out) (zlen_0)) (zlen_mul (Lga2.out) (Ldb.out))))
 refine hK _ _ rfl ⟨hb_17,(And.intro hs.g3 (And.intro hs.g0 (And.intro hs.g1 trivial)))⟩ ?_
 clear hK K
 refine fl fun w_18 n18 => ?_
 replace hs:=hs.bl n18
 intro K hK
 have k9_18:=((((k9_13.b hb_14).b n15).b n16).b hb_17).b n18
 replace gb1:=gb1.k k9_18
 replace gb2:=gb2.k k9_18
 go_big_op
 go_fit (gConj_any (PN.mk' (gb1.zn Lgb1.out) (gb2.zn Lgb2.out)) (by omega) (by omega) )
 rintro e w_19 ⟨_,rfl,⟨n_gca,o_gca,k_gca,c_gca,n_gcb,o_gcb,k_gcb,c_gcb,rfl,gc1,gc2⟩,hb_19⟩
 replace hs:=hs.bl hb_19
 have Lgc1:=hide (gc1.lenOf ((Lgb1.out)))
 have Lgc2:=hide (gc2.lenOf (zlen_neg (Lgb2.out)))
 refine hK _ _ rfl ⟨hb_19,(And.intro hs.g3 (And.intro hs.g0 (And.intro hs.g1 trivial)))⟩ ?_
 clear hK K
 refine fl fun w_20 n20 => ?_
 replace hs:=hs.bl n20
 intro K hK
 have k17_20:=((kb n18).b hb_19).b n20
 replace gm1:=gm1.k k17_20
 replace gm2:=gm2.k k17_20
 have k19_20:=kb n20
 replace gc1:=gc1.k k19_20
 replace gc2:=gc2.k k19_20
 go_big_op
 go_fit (gMul_any (PN.mk' (gm1.zn Lgm1.out) (gm2.zn Lgm2.out)) (PN.mk' (gc1.zn Lgc1.out) (gc2.zn Lgc2.out)) (by omega) (by omega) (by omega) (by omega) )
 rintro e w_21 ⟨_,rfl,⟨n_gta,o_gta,k_gta,c_gta,n_gtb,o_gtb,k_gtb,c_gtb,rfl,gt1,gt2⟩,hb_21⟩
 replace hs:=hs.bl hb_21
 have Lgt1:=hide (gt1.lenOf (zlen_sub (zlen_mul (Lgm1.out) (Lgc1.out)) (zlen_mul (Lgm2.out) (Lgc2.out))))
 have Lgt2:=hide (gt2.lenOf (zlen_add (zlen_mul (Lgm1.out) (Lgc2.out)) (zlen_mul (Lgm2.out) (Lgc1.out))))
 refine hK _ _ rfl ⟨hb_21,(And.intro hs.g3 (And.intro hs.g0 (And.intro hs.g1 trivial)))⟩ ?_
 clear hK K
 refine e0 hs ?_;clear hs;intro w_22 hs n22
 refine tl ?_
 refine .s4 hs.g3 (fun _=>hs.u3 kb_b4) ?_ (e:=fun _ hs=>(And.intro True.intro (And.intro hs.g0 (And.intro hs.g1 True.intro))));clear hs;intro w_23 hs hd23 ho23
 clear gm1 gm2 gc1 gc2 ga1 ga2
 apply wpTail_end
 refine hK6 _ _ ?_
 refine wp_seq_k ?_
 intro K7 hK7
 refine wp_region_f4 [(0,false),(1,false),(2,false),(3,true),(4,true),(5,true),(6,true),(7,false),(8,false)] [9,10] [] (fun _=>default) [0,1,2,99,99,99,99,99,99,99,99] [] (.c hs.g3 (.c hs.g2 (.c hs.g1 .n))) fn fun w_24 n24 => ?_
 replace hs:=hs.bl n24
 refine f4 ?_
 refine f2 ?_
 refine f4 ?_
 refine fl fun w_25 n25 => ?_
 replace hs:=hs.bl n25
 intro K hK
 have k18_25:=((((((kb hb_19).b n20).b hb_21).b n22).o hd23 ho23).b n24).b n25
 replace gb1:=gb1.k k18_25
 replace gb2:=gb2.k k18_25
 go_big_op
 go_fit (gNorm_any (PN.mk' (gb1.zn Lgb1.out) (gb2.zn Lgb2.out)) (by omega) (by omega) )
 rintro e w_26 ⟨v_nn,rfl,nn,hb_26⟩
 replace hs:=hs.bl hb_26
 obtain ⟨n_nn,o_nn,k_nn,c_nn,rfl⟩:=nn.open2
 have Lnn:=hide (nn.lenOf (zlen_add (zlen_mul (Lgb1.out) (Lgb1.out)) (zlen_mul (Lgb2.out) (Lgb2.out))))
 refine hK _ _ rfl ⟨hb_26,(And.intro hs.g3 (And.intro hs.g2 (And.intro hs.g1 trivial)))⟩ ?_
 clear hK K
 refine fl fun w_27 n27 => ?_
 replace hs:=hs.bl n27
 intro K hK
 have k4_27:=((((((((((k4_16.b hb_17).b n18).b hb_19).b n20).b hb_21).b n22).o hd23 ho23).b n24).b n25).b hb_26).b n27
 replace da:=da.k k4_27
 have k26_27:=kb n27
 replace nn:=nn.k k26_27
 go_big_op
 go_fit (zmul_any (da.zn Lda.out) (nn.zn Lnn.out) (by omega) (by omega) )
 rintro e w_28 ⟨v_dm,rfl,dm,hb_28⟩
 replace hs:=hs.bl hb_28
 replace dm:=dm.rd
 obtain ⟨n_dm,o_dm,k_dm,c_dm,rfl⟩:=dm.open2
 have Ldm:=hide (dm.lenOf (zlen_mul (Lda.out) (Lnn.out)))
 refine hK _ _ rfl ⟨hb_28,(And.intro hs.g3 (And.intro hs.g2 (And.intro hs.g1 trivial)))⟩ ?_
 clear hK K
 refine fl fun w_29 n29 => ?_
 replace hs:=hs.bl n29
 intro K hK
 have k21_29:=(((((((kb n22).o hd23 ho23).b n24).b n25).b hb_26).b n27).b hb_28).b n29
 replace gt1:=gt1.k k21_29
 replace gt2:=gt2.k k21_29
 have k28_29:=kb n29
 replace dm:=dm.k k28_29
 go_big_op
 go_fit (over_c (PN.mk' (gt1.zn Lgt1.out) (gt2.zn Lgt2.out)) (dm.zn Ldm.out)  )
 rintro e w_30 ⟨_,rfl,⟨n_ov1,o_ov1,k_ov1,c_ov1,n_ov2,o_ov2,k_ov2,c_ov2,n_ov3,o_ov3,k_ov3,c_ov3,n_ov4,o_ov4,k_ov4,c_ov4,rfl,ov1,ov2,ov3,ov4⟩,hb_30⟩
 replace hs:=hs.bl hb_30
 refine hK _ _ rfl ⟨hb_30,(And.intro hs.g3 (And.intro hs.g2 (And.intro hs.g1 trivial)))⟩ ?_
 clear hK K
 refine fl fun w_31 n31 => ?_
 replace hs:=hs.bl n31
 intro K hK
 have k30_31:=kb n31
 replace ov1:=ov1.k k30_31
 replace ov2:=ov2.k k30_31
 replace ov3:=ov3.k k30_31
 replace ov4:=ov4.k k30_31
 go_big_op
 go_fit (low_ok (CN.mk' ov1 ov2 ov3 ov4) (by omega) (by omega) (by omega) (by omega) HD.out HD.out)
 rintro e w_32 ⟨_,rfl,⟨n_r1,o_r1,k_r1,c_r1,n_r2,o_r2,k_r2,c_r2,n_r3,o_r3,k_r3,c_r3,n_r4,o_r4,k_r4,c_r4,rfl,r1,r2,r3,r4⟩,hb_32⟩
 replace hs:=hs.bl hb_32
 rw [HM.out.1] at r1 r2
 rw [HM.out.2] at r3 r4
 refine hK _ _ rfl ⟨hb_32,(And.intro hs.g3 (And.intro hs.g2 (And.intro hs.g1 trivial)))⟩ ?_
 clear hK K
 refine f0 ?_
 refine f0 ?_
 refine e0 hs ?_;clear hs;intro w_33 hs n33
 clear db nn dm ov1 ov2 ov3 ov4
 refine tl ?_
 intro K hK
 have xs:=hs.g4
 have d0:w_33.cell? ⟨p_b3,0,none⟩=some (.bool false):=hs.g4.cell 0 rfl
 have d1:w_33.cell? ⟨p_b3,1,none⟩=some (.slice none 0 0):=hs.g4.cell 1 rfl
 have d2:w_33.cell? ⟨p_b3,2,none⟩=some (.bool false):=hs.g4.cell 2 rfl
 have d3:w_33.cell? ⟨p_b3,3,none⟩=some (.slice none 0 0):=hs.g4.cell 3 rfl
 have d4:w_33.cell? ⟨p_b3,4,none⟩=some (.bool false):=hs.g4.cell 4 rfl
 have d5:w_33.cell? ⟨p_b3,5,none⟩=some (.slice none 0 0):=hs.g4.cell 5 rfl
 have d6:w_33.cell? ⟨p_b3,6,none⟩=some (.bool false):=hs.g4.cell 6 rfl
 have d7:w_33.cell? ⟨p_b3,7,none⟩=some (.slice none 0 0):=hs.g4.cell 7 rfl
 have f0:=xs.free 0;have f1:=xs.free 1;have f2:=xs.free 2;have f3:=xs.free 3;have f4:=xs.free 4;have f5:=xs.free 5;have f6:=xs.free 6;have f7:=xs.free 7
 go_big_op
 have hd34:=xs.nod rfl rfl
 obtain ⟨w_34_0,eW,xs_0,ho_0⟩:∃w',((((w_33.setCell ⟨p_b3,0,none⟩ (.bool n_r1)).setCell ⟨p_b3,1,none⟩ (.slice o_r1 k_r1 c_r1)).setCell ⟨p_b3,2,none⟩ (.bool n_r2)).setCell ⟨p_b3,3,none⟩ (.slice o_r2 k_r2 c_r2))=w'∧Bs w' p_b3 #[.bool n_r1,.slice o_r1 k_r1 c_r1,.bool n_r2,.slice o_r2 k_r2 c_r2,.bool false,.slice none 0 0,.bool false,.slice none 0 0] 41∧Only p_b3 w_33 w':=xs.setN [(0,.bool n_r1),(1,.slice o_r1 k_r1 c_r1),(2,.bool n_r2),(3,.slice o_r2 k_r2 c_r2)]
 rw [eW];clear eW
 obtain ⟨w_34,eW,xs',ho_4⟩:∃w',((((w_34_0.setCell ⟨p_b3,4,none⟩ (.bool n_r3)).setCell ⟨p_b3,5,none⟩ (.slice o_r3 k_r3 c_r3)).setCell ⟨p_b3,6,none⟩ (.bool n_r4)).setCell ⟨p_b3,7,none⟩ (.slice o_r4 k_r4 c_r4))=w'∧Bs w' p_b3 #[.bool n_r1,.slice o_r1 k_r1 c_r1,.bool n_r2,.slice o_r2 k_r2 c_r2,.bool n_r3,.slice o_r3 k_r3 c_r3,.bool n_r4,.slice o_r4 k_r4 c_r4] 41∧Only p_b3 w_34_0 w':=xs_0.setN [(4,.bool n_r3),(5,.slice o_r3 k_r3 c_r3),(6,.bool n_r4),(7,.slice o_r4 k_r4 c_r4)]
 rw [eW];clear eW xs_0
 have ho34:=(ho_0.trans ho_4)
 clear ho_0 ho_4 d0 d1 d2 d3 d4 d5 d6 d7 f0 f1 f2 f3 f4 f5 f6 f7 xs
 replace hs:=hs.u4 kb_b3 xs' ho34;clear xs'
 refine hK _ _ rfl (And.intro hs.g3 (And.intro hs.g2 (And.intro hs.g1 True.intro))) ?_;clear hK K
 refine tl ?_
 refine .mv ?_ (e:=(And.intro hs.g3 (And.intro hs.g2 (And.intro hs.g1 True.intro))))
 apply wpTail_end
 refine hK7 _ _ ?_
 refine wp_ret ?_
 try dsimp only [Exit.then,Exit.inBlock]
 have r0_0:w_34.cell? ⟨p_b3,0,none⟩=some (.bool n_r1):=hs.g4.cell 0 rfl
 have r0_1:w_34.cell? ⟨p_b3,1,none⟩=some (.slice o_r1 k_r1 c_r1):=hs.g4.cell 1 rfl
 have r0_2:w_34.cell? ⟨p_b3,2,none⟩=some (.bool n_r2):=hs.g4.cell 2 rfl
 have r0_3:w_34.cell? ⟨p_b3,3,none⟩=some (.slice o_r2 k_r2 c_r2):=hs.g4.cell 3 rfl
 have r0_4:w_34.cell? ⟨p_b3,4,none⟩=some (.bool n_r3):=hs.g4.cell 4 rfl
 have r0_5:w_34.cell? ⟨p_b3,5,none⟩=some (.slice o_r3 k_r3 c_r3):=hs.g4.cell 5 rfl
 have r0_6:w_34.cell? ⟨p_b3,6,none⟩=some (.bool n_r4):=hs.g4.cell 6 rfl
 have r0_7:w_34.cell? ⟨p_b3,7,none⟩=some (.slice o_r4 k_r4 c_r4):=hs.g4.cell 7 rfl
 refine bodyPost_ret (v:=(.tuple #[(.agg #[.bool n_r1,.slice o_r1 k_r1 c_r1,.bool n_r2,.slice o_r2 k_r2 c_r2,.bool n_r3,.slice o_r3 k_r3 c_r3,.bool n_r4,.slice o_r4 k_r4 c_r4]),(.int .i64 0)])) (by simp [results,Tryz.results23,go_sem,r0_0,r0_1,r0_2,r0_3,r0_4,r0_5,r0_6,r0_7]) rfl ?_
 have k32_34:=(kb n33).o hd34 ho34
 replace r1:=r1.k k32_34
 replace r2:=r2.k k32_34
 replace r3:=r3.k k32_34
 replace r4:=r4.k k32_34
 exact ⟨_,rfl,.mk' r1 r2 r3 r4,hs.b⟩
end
section
variable {w:World} {va vb:Value} {x y u v p q s t:Int} {l m k n l2 m2 k2 n2:Nat}
theorem rfAdd_r (ha:PN w va x l y m) (hq:PN w vb u k v n) (hl:l≤10000000) (hm:m≤10000000) (hk:k≤10000000) (hn:n≤10000000) (hy:y≠0) (hv:v≠0) :
  Calls Tryz.prog 137 #[va,vb] w fun e w'=>∃r,e = .returned r∧PC w' r (rv x y+rv u v).num (rv x y+rv u v).den∧Below w.heap.size w w':=by
 have h0:=Int.mul_ne_zero hy hv
 have:=rfAdd_any ha hq hl hm hk hn h0
 rw [(q_eq h0 (rv_opAdd hy hv)).1,(q_eq h0 (rv_opAdd hy hv)).2] at this
 exact this
theorem rfSub_r (ha:PN w va x l y m) (hq:PN w vb u k v n) (hl:l≤9000000) (hm:m≤9000000) (hk:k≤9000000) (hn:n≤9000000) (hy:y≠0) (hv:v≠0) :
  Calls Tryz.prog 135 #[va,vb] w fun e w'=>∃r,e = .returned r∧PC w' r (rv x y - rv u v).num (rv x y - rv u v).den∧Below w.heap.size w w':=by
 have h0:=Int.mul_ne_zero hy hv
 have:=rfSub_any ha hq hl hm hk hn hy hv
 rw [(q_eq h0 (rv_opSub hy hv)).1,(q_eq h0 (rv_opSub hy hv)).2] at this
 exact this
theorem rfMul_r (ha:PN w va x l y m) (hq:PN w vb u k v n) (hl:l≤10000000) (hm:m≤10000000) (hk:k≤10000000) (hn:n≤10000000) (hy:y≠0) (hv:v≠0) :
  Calls Tryz.prog 136 #[va,vb] w fun e w'=>∃r,e = .returned r∧PC w' r (rv x y*rv u v).num (rv x y*rv u v).den∧Below w.heap.size w w':=by
 have h0:=Int.mul_ne_zero hy hv
 have:=rfMul_any ha hq hl hm hk hn h0
 rw [(q_eq h0 (rv_mul x y u v)).1,(q_eq h0 (rv_mul x y u v)).2] at this
 exact this
theorem rfQuo_r (ha:PN w va x l y m) (hq:PN w vb u k v n) (hl:l≤10000000) (hm:m≤10000000) (hk:k≤10000000) (hn:n≤10000000) (hu:u≠0) (hy:y≠0) :
  Calls Tryz.prog 134 #[va,vb] w fun e w'=>∃r,e = .returned r∧PC w' r (rv x y/rv u v).num (rv x y/rv u v).den∧Below w.heap.size w w':=by
 have h0:=Int.mul_ne_zero hu hy
 have:=rfQuo_any ha hq hl hm hk hn h0
 rw [(q_eq h0 (rv_quo x y u v)).1,(q_eq h0 (rv_quo x y u v)).2] at this
 exact this
theorem rv_neg1 (x y:Int):rv (-x) y = -rv x y:=by unfold rv;rw [Rat.intCast_neg];grind
theorem rfNeg_r (ha:PN w va x l y m) (hl:l≤10000000) (hm:m≤10000000) (h0:y≠0) :
  Calls Tryz.prog 138 #[va] w fun e w'=>∃r,e = .returned r∧PC w' r (-rv x y).num (-rv x y).den∧Below w.heap.size w w':=by
 have:=rfNeg_any ha hl hm h0
 rw [(q_eq h0 (rv_neg1 x y)).1,(q_eq h0 (rv_neg1 x y)).2] at this
 exact this
theorem rfnorm_r (ha:PN w va x l y m) (hl:l≤44000000) (hm:m≤44000000) (h0:y≠0) :
  Calls Tryz.prog 90 #[va] w fun e w'=>∃r,e = .returned r∧PC w' r (rv x y).num (rv x y).den∧Below w.heap.size w w':=by
 have:=rfnorm_any ha hl hm h0
 rw [(q_num h0).1,(q_num h0).2] at this
 exact this
theorem rfsame_r {r:Rat} (ha:PC w va r.num r.den) (hq:PN w vb r.num l r.den m) (hl:l≤44000000) (hm:m≤44000000) :
  Calls Tryz.prog 38 #[va,vb] w fun e w'=>e = .returned (.bool true)∧Below w.heap.size w w' :=
 rfsame_any (u:=r.num) (v:=r.den) (by rw [qN_low (rat_low r),qD_low (rat_low r)];exact ha) hq hl hm (den_ne r)
set_option maxHeartbeats 4000000 in
set_option maxRecDepth 20000 in
theorem r7Same_ok {a b:Rat} (ha:CC w va a.num a.den b.num b.den) (hq:CN w vb a.num l a.den m b.num k b.den n) (hl:l≤44000000) (hm:m≤44000000) (hk:k≤44000000) (hn:n≤44000000) :
  Calls Tryz.prog 10 #[va,vb] w fun e w'=>e = .returned (.bool true)∧Below w.heap.size w w':=by
 obtain ⟨n_0a,o_0a,k_0a,c_0a,n_0b,o_0b,k_0b,c_0b,n_0c,o_0c,k_0c,c_0c,n_0d,o_0d,k_0d,c_0d,rfl,ha1,ha2,ha3,ha4⟩:=ha
 obtain ⟨n_1a,o_1a,k_1a,c_1a,n_1b,o_1b,k_1b,c_1b,n_1c,o_1c,k_1c,c_1c,n_1d,o_1d,k_1d,c_1d,rfl,hq1,hq2,hq3,hq4⟩:=hq
 go_enter Tryz.func10,Tryz.ntmps10
 have hs:=St.nil w
 refine wp_seq_k fun K1 hK1=>rg [0,1,2] ?_
 refine sq ?_
 refine .al hs ?_;clear hs;intro p_b1 w_1 hs n1 kb_b1
 refine sq ?_
 refine .al hs ?_;clear hs;intro p_b2 w_2 hs n2 kb_b2
 refine sm ?_
 apply wpSq_end
 refine hK1 _ _ ?_
 refine wp_seq_k fun K2 hK2=>rg [0,1,2,3,4,5,6,7,8,9,10,11,12] ?_
 refine sr ?_
 refine sq ?_
 refine .r4 ⟨hs.g1.cell 0 rfl,hs.g1.cell 1 rfl,hs.g1.cell 2 rfl,hs.g1.cell 3 rfl⟩ ?_
 refine sr ?_
 refine sq ?_
 refine .r4 ⟨hs.g0.cell 0 rfl,hs.g0.cell 1 rfl,hs.g0.cell 2 rfl,hs.g0.cell 3 rfl⟩ ?_
 refine sq ?_
 intro K hK
 have k0_2:=(kb n1).b n2
 replace ha1:=ha1.k k0_2
 replace ha2:=ha2.k k0_2
 replace hq1:=hq1.k k0_2
 replace hq2:=hq2.k k0_2
 go_big_op
 go_fit (rfsame_r (.mk' ha1 ha2) (.mk' hq1 hq2) hl hm)
 rintro e w_3 ⟨rfl,hb_3⟩
 replace hs:=hs.bl hb_3
 refine hK _ _ rfl trivial ?_
 clear hK K
 refine sm ?_
 refine sr ?_
 refine sq ?_
 refine .r4 ⟨hs.g1.cell 4 rfl,hs.g1.cell 5 rfl,hs.g1.cell 6 rfl,hs.g1.cell 7 rfl⟩ ?_
 refine sr ?_
 refine sq ?_
 refine .r4 ⟨hs.g0.cell 4 rfl,hs.g0.cell 5 rfl,hs.g0.cell 6 rfl,hs.g0.cell 7 rfl⟩ ?_
 refine sq ?_
 intro K hK
 have k0_3:=k0_2.b hb_3
 replace ha3:=ha3.k k0_3
 replace ha4:=ha4.k k0_3
 replace hq3:=hq3.k k0_3
 replace hq4:=hq4.k k0_3
 go_big_op
 go_fit (rfsame_r (.mk' ha3 ha4) (.mk' hq3 hq4) hk hn)
 rintro e w_4 ⟨rfl,hb_4⟩
 replace hs:=hs.bl hb_4
 refine hK _ _ rfl trivial ?_
 clear hK K
 refine sr ?_
 refine sm ?_
 apply wpSq_end
 refine hK2 _ _ ?_
 refine wp_ret ?_
 try dsimp only [Exit.then,Exit.inBlock]
 refine bodyPost_ret (v:=(.bool true)) (by simp [results,Tryz.results10,go_sem]) rfl ?_
 have hb:=hs.b
 exact ⟨rfl,hb⟩
end
section
variable {w:World} {va vb:Value} {x y u v p q s t:Int} {l m k n l2 m2 k2 n2:Nat}
set_option maxHeartbeats 4000000 in
set_option maxRecDepth 20000 in
theorem r7Over_ok (ha:CN w va x l y m u k v n) (hq:PN w vb p l2 q m2) (hl:l≤10000000) (hm:m≤10000000) (hk:k≤10000000) (hn:n≤10000000) (hl2:l2≤10000000) (hm2:m2≤10000000) (hy:y≠0) (hv:v≠0) (hp:p≠0) :
  Calls Tryz.prog 86 #[va,vb] w fun e w'=>∃r,e = .returned r∧CC w' r (rv x y/rv p q).num (rv x y/rv p q).den (rv u v/rv p q).num (rv u v/rv p q).den∧Below w.heap.size w w':=by
 have HY:=hide (And.intro hy hv)
 have HP:=hide hp
 clear hy hv hp
 obtain ⟨n_0a,o_0a,k_0a,c_0a,n_0b,o_0b,k_0b,c_0b,n_0c,o_0c,k_0c,c_0c,n_0d,o_0d,k_0d,c_0d,rfl,ha1,ha2,ha3,ha4⟩:=ha
 obtain ⟨n_1a,o_1a,k_1a,c_1a,n_1b,o_1b,k_1b,c_1b,rfl,hq1,hq2⟩:=hq
 go_enter Tryz.func86,Tryz.ntmps86
 have hs:=St.nil w
 refine wp_seq_k fun K1 hK1=>rg [0,1,2] ?_
 refine sq ?_
 refine .al hs ?_;clear hs;intro p_b1 w_1 hs n1 kb_b1
 refine sq ?_
 refine .al hs ?_;clear hs;intro p_b2 w_2 hs n2 kb_b2
 refine sq ?_
 refine .al hs ?_;clear hs;intro p_b3 w_3 hs n3 kb_b3
 apply wpSq_end
 refine hK1 _ _ ?_
 refine wp_seq_k ?_
 intro K2 hK2
 refine wp_region_f4 [(0,false),(1,false),(2,false),(4,false),(5,false),(6,false),(3,true),(7,true),(8,false)] [9] [] (fun _=>default) [99,0,1,99,99,0,1,99,99,99] [] (.c hs.g2 (.c hs.g1 .n)) fn fun w_4 n4 => ?_
 replace hs:=hs.bl n4
 refine f0 ?_
 apply wpFl_ld rfl rfl;(case h1=>intro w' hC K hK;have c0:=Bs.cell hC 0 rfl;have c1:=Bs.cell hC 1 rfl;have c2:=Bs.cell hC 2 rfl;have c3:=Bs.cell hC 3 rfl;go_big_op;exact hK);iterate 4 kernel_rfl
 refine f4 ?_
 refine f0 ?_
 apply wpFl_ld rfl rfl;(case h1=>intro w' hC K hK;have c4:=Bs.cell hC 4 rfl;have c5:=Bs.cell hC 5 rfl;have c6:=Bs.cell hC 6 rfl;have c7:=Bs.cell hC 7 rfl;go_big_op;exact hK);iterate 4 kernel_rfl
 refine f4 ?_
 refine fl fun w_5 n5 => ?_
 replace hs:=hs.bl n5
 intro K hK
 have k0_5:=((((kb n1).b n2).b n3).b n4).b n5
 replace ha1:=ha1.k k0_5
 replace ha2:=ha2.k k0_5
 replace hq1:=hq1.k k0_5
 replace hq2:=hq2.k k0_5
 go_big_op
 go_fit (rfQuo_r (PN.mk' ha1 ha2) (PN.mk' hq1 hq2) (by omega) (by omega) (by omega) (by omega) HP.out HY.out.1)
 rintro e w_6 ⟨_,rfl,⟨n_gaa,o_gaa,k_gaa,c_gaa,n_gab,o_gab,k_gab,c_gab,rfl,ga1,ga2⟩,hb_6⟩
 replace hs:=hs.bl hb_6
 refine hK _ _ rfl ⟨hb_6,(And.intro hs.g2 (And.intro hs.g1 trivial))⟩ ?_
 clear hK K
 refine fl fun w_7 n7 => ?_
 replace hs:=hs.bl n7
 intro K hK
 have k0_7:=(k0_5.b hb_6).b n7
 replace ha3:=ha3.k k0_7
 replace ha4:=ha4.k k0_7
 have k5_7:=(kb hb_6).b n7
 replace hq1:=hq1.k k5_7
 replace hq2:=hq2.k k5_7
 go_big_op
 go_fit (rfQuo_r (PN.mk' ha3 ha4) (PN.mk' hq1 hq2) (by omega) (by omega) (by omega) (by omega) HP.out HY.out.2)
 rintro e w_8 ⟨_,rfl,⟨n_gba,o_gba,k_gba,c_gba,n_gbb,o_gbb,k_gbb,c_gbb,rfl,gb1,gb2⟩,hb_8⟩
 replace hs:=hs.bl hb_8
 refine hK _ _ rfl ⟨hb_8,(And.intro hs.g2 (And.intro hs.g1 trivial))⟩ ?_
 clear hK K
 refine f0 ?_
 refine e0 hs ?_;clear hs;intro w_9 hs n9
 refine tl ?_
 intro K hK
 have xs:=hs.g0
 have d0:w_9.cell? ⟨p_b3,0,none⟩=some (.bool false):=hs.g0.cell 0 rfl
 have d1:w_9.cell? ⟨p_b3,1,none⟩=some (.slice none 0 0):=hs.g0.cell 1 rfl
 have d2:w_9.cell? ⟨p_b3,2,none⟩=some (.bool false):=hs.g0.cell 2 rfl
 have d3:w_9.cell? ⟨p_b3,3,none⟩=some (.slice none 0 0):=hs.g0.cell 3 rfl
 have d4:w_9.cell? ⟨p_b3,4,none⟩=some (.bool false):=hs.g0.cell 4 rfl
 have d5:w_9.cell? ⟨p_b3,5,none⟩=some (.slice none 0 0):=hs.g0.cell 5 rfl
 have d6:w_9.cell? ⟨p_b3,6,none⟩=some (.bool false):=hs.g0.cell 6 rfl
 have d7:w_9.cell? ⟨p_b3,7,none⟩=some (.slice none 0 0):=hs.g0.cell 7 rfl
 have f0:=xs.free 0;have f1:=xs.free 1;have f2:=xs.free 2;have f3:=xs.free 3;have f4:=xs.free 4;have f5:=xs.free 5;have f6:=xs.free 6;have f7:=xs.free 7
 go_big_op
 have hd10:=xs.nod rfl rfl
 obtain ⟨w_10_0,eW,xs_0,ho_0⟩:∃w',((((w_9.setCell ⟨p_b3,0,none⟩ (.bool n_gaa)).setCell ⟨p_b3,1,none⟩ (.slice o_gaa k_gaa c_gaa)).setCell ⟨p_b3,2,none⟩ (.bool n_gab)).setCell ⟨p_b3,3,none⟩ (.slice o_gab k_gab c_gab))=w'∧Bs w' p_b3 #[.bool n_gaa,.slice o_gaa k_gaa c_gaa,.bool n_gab,.slice o_gab k_gab c_gab,.bool false,.slice none 0 0,.bool false,.slice none 0 0] 41∧Only p_b3 w_9 w':=xs.setN [(0,.bool n_gaa),(1,.slice o_gaa k_gaa c_gaa),(2,.bool n_gab),(3,.slice o_gab k_gab c_gab)]
 rw [eW];clear eW
 obtain ⟨w_10,eW,xs',ho_4⟩:∃w',((((w_10_0.setCell ⟨p_b3,4,none⟩ (.bool n_gba)).setCell ⟨p_b3,5,none⟩ (.slice o_gba k_gba c_gba)).setCell ⟨p_b3,6,none⟩ (.bool n_gbb)).setCell ⟨p_b3,7,none⟩ (.slice o_gbb k_gbb c_gbb))=w'∧Bs w' p_b3 #[.bool n_gaa,.slice o_gaa k_gaa c_gaa,.bool n_gab,.slice o_gab k_gab c_gab,.bool n_gba,.slice o_gba k_gba c_gba,.bool n_gbb,.slice o_gbb k_gbb c_gbb] 41∧Only p_b3 w_10_0 w':=xs_0.setN [(4,.bool n_gba),(5,.slice o_gba k_gba c_gba),(6,.bool n_gbb),(7,.slice o_gbb k_gbb c_gbb)]
 rw [eW];clear eW xs_0
 have ho10:=(ho_0.trans ho_4)
 clear ho_0 ho_4 d0 d1 d2 d3 d4 d5 d6 d7 f0 f1 f2 f3 f4 f5 f6 f7 xs
 replace hs:=hs.u0 kb_b3 xs' ho10;clear xs'
 refine hK _ _ rfl (And.intro hs.g2 (And.intro hs.g1 True.intro)) ?_;clear hK K
 apply wpTail_end
 refine hK2 _ _ ?_
 refine wp_ret ?_
 try dsimp only [Exit.then,Exit.inBlock]
 have r0_0:w_10.cell? ⟨p_b3,0,none⟩=some (.bool n_gaa):=hs.g0.cell 0 rfl
 have r0_1:w_10.cell? ⟨p_b3,1,none⟩=some (.slice o_gaa k_gaa c_gaa):=hs.g0.cell 1 rfl
 have r0_2:w_10.cell? ⟨p_b3,2,none⟩=some (.bool n_gab):=hs.g0.cell 2 rfl
 have r0_3:w_10.cell? ⟨p_b3,3,none⟩=some (.slice o_gab k_gab c_gab):=hs.g0.cell 3 rfl
 have r0_4:w_10.cell? ⟨p_b3,4,none⟩=some (.bool n_gba):=hs.g0.cell 4 rfl
 have r0_5:w_10.cell? ⟨p_b3,5,none⟩=some (.slice o_gba k_gba c_gba):=hs.g0.cell 5 rfl
 have r0_6:w_10.cell? ⟨p_b3,6,none⟩=some (.bool n_gbb):=hs.g0.cell 6 rfl
 have r0_7:w_10.cell? ⟨p_b3,7,none⟩=some (.slice o_gbb k_gbb c_gbb):=hs.g0.cell 7 rfl
 refine bodyPost_ret (v:=(.agg #[.bool n_gaa,.slice o_gaa k_gaa c_gaa,.bool n_gab,.slice o_gab k_gab c_gab,.bool n_gba,.slice o_gba k_gba c_gba,.bool n_gbb,.slice o_gbb k_gbb c_gbb])) (by simp [results,Tryz.results86,go_sem,r0_0,r0_1,r0_2,r0_3,r0_4,r0_5,r0_6,r0_7]) rfl ?_
 have k6_10:=(((kb n7).b hb_8).b n9).o hd10 ho10
 replace ga1:=ga1.k k6_10
 replace ga2:=ga2.k k6_10
 have k8_10:=(kb n9).o hd10 ho10
 replace gb1:=gb1.k k8_10
 replace gb2:=gb2.k k8_10
 exact ⟨_,rfl,.mk' ga1 ga2 gb1 gb2,hs.b⟩
end
section
variable {w:World} {va vb:Value} {x y u v p q s t:Int} {l m k n l2 m2 k2 n2:Nat}
theorem gfOf_any (ha:PN w va x l y m) (hl:l≤10000000) (hm:m≤10000000) :
  Calls Tryz.prog 11 #[va] w fun e w'=>∃r,e = .returned r∧CC w' r (rv x 1).num (rv x 1).den (rv y 1).num (rv y 1).den∧Below w.heap.size w w':=by
 have H1:=hide (show (1:Int)≠0 by decide)
 obtain ⟨n_0a,o_0a,k_0a,c_0a,n_0b,o_0b,k_0b,c_0b,rfl,ha1,ha2⟩:=ha
 go_enter Tryz.func11,Tryz.ntmps11
 have hs:=St.nil w
 refine wp_seq_k fun K1 hK1=>rg [0,1] ?_
 refine sq ?_
 refine .al hs ?_;clear hs;intro p_b1 w_1 hs n1 kb_b1
 refine sq ?_
 refine .al hs ?_;clear hs;intro p_b2 w_2 hs n2 kb_b2
 apply wpSq_end
 refine hK1 _ _ ?_
 refine wp_seq_k ?_
 intro K2 hK2
 refine wp_region_f4 [(0,false),(1,true),(2,true),(3,true),(4,false),(5,false),(6,false)] [8,9] [7] (fun j=>(.cells #[.bool false,.slice none 0 0,.bool false,.slice none 0 0,.bool false,.slice none 0 0,.bool false,.slice none 0 0] 41)) [0,99,99,99,99,99,99,99,99,99] [] (.c hs.g1 .n) (fm fn) fun w_3 n3 => ?_
 replace hs:=hs.bl n3
 have hlB:=hs.lt;have hkB:=hs.k
 refine f4 ?_
 refine fl fun w_4 n4 => ?_
 replace hs:=hs.bl n4
 intro K hK
 go_big_op
 go_fit (from_any (1:Int) _ (by decide) (by decide))
 rintro e w_5 ⟨v_g,rfl,g,hb_5⟩
 replace hs:=hs.bl hb_5
 replace g:=g.rd
 obtain ⟨n_g,o_g,k_g,c_g,rfl⟩:=g.open2
 have Lg:=hide (g.lenOf (zlen_i (1:Int) (by decide) (by decide)))
 refine hK _ _ rfl ⟨hb_5,(And.intro hs.g1 trivial)⟩ ?_
 clear hK K
 refine fl fun w_6 n6 => ?_
 replace hs:=hs.bl n6
 intro K hK
 have k0_6:=(((((kb n1).b n2).b n3).b n4).b hb_5).b n6
 replace ha1:=ha1.k k0_6
 replace ha2:=ha2.k k0_6
 have k5_6:=kb n6
 replace g:=g.k k5_6
 go_big_op
 go_fit (over_c (PN.mk' ha1 ha2) (g.zn Lg.out)  )
 rintro e w_7 ⟨_,rfl,⟨n_ov1,o_ov1,k_ov1,c_ov1,n_ov2,o_ov2,k_ov2,c_ov2,n_ov3,o_ov3,k_ov3,c_ov3,n_ov4,o_ov4,k_ov4,c_ov4,rfl,ov1,ov2,ov3,ov4⟩,hb_7⟩
 replace hs:=hs.bl hb_7
 refine hK _ _ rfl ⟨hb_7,(And.intro hs.g1 trivial)⟩ ?_
 clear hK K
 refine fl fun w_8 n8 => ?_
 replace hs:=hs.bl n8
 intro K hK
 have k7_8:=kb n8
 replace ov1:=ov1.k k7_8
 replace ov2:=ov2.k k7_8
 replace ov3:=ov3.k k7_8
 replace ov4:=ov4.k k7_8
 go_big_op
 go_fit (low_ok (CN.mk' ov1 ov2 ov3 ov4) (by omega) (by omega) (by omega) (by omega) H1.out H1.out)
 rintro e w_9 ⟨_,rfl,⟨n_r1,o_r1,k_r1,c_r1,n_r2,o_r2,k_r2,c_r2,n_r3,o_r3,k_r3,c_r3,n_r4,o_r4,k_r4,c_r4,rfl,r1,r2,r3,r4⟩,hb_9⟩
 replace hs:=hs.bl hb_9
 refine hK _ _ rfl ⟨hb_9,(And.intro hs.g1 trivial)⟩ ?_
 clear hK K
 refine fmv ?_
 refine f0 ?_
 refine f0 ?_
 refine e1 hs hlB hkB ?_;clear hs hlB hkB;intro w_10 p_b3 hs n10 kb_b3
 refine tl ?_
 intro K hK
 have xs:=hs.g0
 have d0:w_10.cell? ⟨p_b3,0,none⟩=some (.bool false):=hs.g0.cell 0 rfl
 have d1:w_10.cell? ⟨p_b3,1,none⟩=some (.slice none 0 0):=hs.g0.cell 1 rfl
 have d2:w_10.cell? ⟨p_b3,2,none⟩=some (.bool false):=hs.g0.cell 2 rfl
 have d3:w_10.cell? ⟨p_b3,3,none⟩=some (.slice none 0 0):=hs.g0.cell 3 rfl
 have d4:w_10.cell? ⟨p_b3,4,none⟩=some (.bool false):=hs.g0.cell 4 rfl
 have d5:w_10.cell? ⟨p_b3,5,none⟩=some (.slice none 0 0):=hs.g0.cell 5 rfl
 have d6:w_10.cell? ⟨p_b3,6,none⟩=some (.bool false):=hs.g0.cell 6 rfl
 have d7:w_10.cell? ⟨p_b3,7,none⟩=some (.slice none 0 0):=hs.g0.cell 7 rfl
 have f0:=xs.free 0;have f1:=xs.free 1;have f2:=xs.free 2;have f3:=xs.free 3;have f4:=xs.free 4;have f5:=xs.free 5;have f6:=xs.free 6;have f7:=xs.free 7
 go_big_op
 have hd11:=xs.nod rfl rfl
 obtain ⟨w_11_0,eW,xs_0,ho_0⟩:∃w',((((w_10.setCell ⟨p_b3,0,none⟩ (.bool n_r1)).setCell ⟨p_b3,1,none⟩ (.slice o_r1 k_r1 c_r1)).setCell ⟨p_b3,2,none⟩ (.bool n_r2)).setCell ⟨p_b3,3,none⟩ (.slice o_r2 k_r2 c_r2))=w'∧Bs w' p_b3 #[.bool n_r1,.slice o_r1 k_r1 c_r1,.bool n_r2,.slice o_r2 k_r2 c_r2,.bool false,.slice none 0 0,.bool false,.slice none 0 0] 41∧Only p_b3 w_10 w':=xs.setN [(0,.bool n_r1),(1,.slice o_r1 k_r1 c_r1),(2,.bool n_r2),(3,.slice o_r2 k_r2 c_r2)]
 rw [eW];clear eW
 obtain ⟨w_11,eW,xs',ho_4⟩:∃w',((((w_11_0.setCell ⟨p_b3,4,none⟩ (.bool n_r3)).setCell ⟨p_b3,5,none⟩ (.slice o_r3 k_r3 c_r3)).setCell ⟨p_b3,6,none⟩ (.bool n_r4)).setCell ⟨p_b3,7,none⟩ (.slice o_r4 k_r4 c_r4))=w'∧Bs w' p_b3 #[.bool n_r1,.slice o_r1 k_r1 c_r1,.bool n_r2,.slice o_r2 k_r2 c_r2,.bool n_r3,.slice o_r3 k_r3 c_r3,.bool n_r4,.slice o_r4 k_r4 c_r4] 41∧Only p_b3 w_11_0 w':=xs_0.setN [(4,.bool n_r3),(5,.slice o_r3 k_r3 c_r3),(6,.bool n_r4),(7,.slice o_r4 k_r4 c_r4)]
 rw [eW];clear eW xs_0
 have ho11:=(ho_0.trans ho_4)
 clear ho_0 ho_4 d0 d1 d2 d3 d4 d5 d6 d7 f0 f1 f2 f3 f4 f5 f6 f7 xs
 replace hs:=hs.u0 kb_b3 xs' ho11;clear xs'
 refine hK _ _ rfl (And.intro hs.g2 True.intro) ?_;clear hK K
 refine tl ?_
 refine .mv ?_ (e:=(And.intro hs.g2 True.intro))
 apply wpTail_end
 refine hK2 _ _ ?_
 refine wp_seq_k fun K3 hK3=>rg [0,1] ?_
 refine sq ?_
 intro K hK
 have d0:w_11.cell? ⟨p_b3,0,none⟩=some (.bool n_r1):=hs.g0.cell 0 rfl
 have d1:w_11.cell? ⟨p_b3,1,none⟩=some (.slice o_r1 k_r1 c_r1):=hs.g0.cell 1 rfl
 have d2:w_11.cell? ⟨p_b3,2,none⟩=some (.bool n_r2):=hs.g0.cell 2 rfl
 have d3:w_11.cell? ⟨p_b3,3,none⟩=some (.slice o_r2 k_r2 c_r2):=hs.g0.cell 3 rfl
 have d4:w_11.cell? ⟨p_b3,4,none⟩=some (.bool n_r3):=hs.g0.cell 4 rfl
 have d5:w_11.cell? ⟨p_b3,5,none⟩=some (.slice o_r3 k_r3 c_r3):=hs.g0.cell 5 rfl
 have d6:w_11.cell? ⟨p_b3,6,none⟩=some (.bool n_r4):=hs.g0.cell 6 rfl
 have d7:w_11.cell? ⟨p_b3,7,none⟩=some (.slice o_r4 k_r4 c_r4):=hs.g0.cell 7 rfl
 go_big_op;refine hK _ _ rfl trivial ?_;clear hK K d0 d1 d2 d3 d4 d5 d6 d7
 refine sq ?_
 intro K hK
 have xs:=hs.g1
 have d0:w_11.cell? ⟨p_b2,0,none⟩=some (.bool false):=hs.g1.cell 0 rfl
 have d1:w_11.cell? ⟨p_b2,1,none⟩=some (.slice none 0 0):=hs.g1.cell 1 rfl
 have d2:w_11.cell? ⟨p_b2,2,none⟩=some (.bool false):=hs.g1.cell 2 rfl
 have d3:w_11.cell? ⟨p_b2,3,none⟩=some (.slice none 0 0):=hs.g1.cell 3 rfl
 have d4:w_11.cell? ⟨p_b2,4,none⟩=some (.bool false):=hs.g1.cell 4 rfl
 have d5:w_11.cell? ⟨p_b2,5,none⟩=some (.slice none 0 0):=hs.g1.cell 5 rfl
 have d6:w_11.cell? ⟨p_b2,6,none⟩=some (.bool false):=hs.g1.cell 6 rfl
 have d7:w_11.cell? ⟨p_b2,7,none⟩=some (.slice none 0 0):=hs.g1.cell 7 rfl
 have f0:=xs.free 0;have f1:=xs.free 1;have f2:=xs.free 2;have f3:=xs.free 3;have f4:=xs.free 4;have f5:=xs.free 5;have f6:=xs.free 6;have f7:=xs.free 7
 go_big_op
 have hd12:=xs.nod rfl rfl
 obtain ⟨w_12_0,eW,xs_0,ho_0⟩:∃w',((((w_11.setCell ⟨p_b2,0,none⟩ (.bool n_r1)).setCell ⟨p_b2,1,none⟩ (.slice o_r1 k_r1 c_r1)).setCell ⟨p_b2,2,none⟩ (.bool n_r2)).setCell ⟨p_b2,3,none⟩ (.slice o_r2 k_r2 c_r2))=w'∧Bs w' p_b2 #[.bool n_r1,.slice o_r1 k_r1 c_r1,.bool n_r2,.slice o_r2 k_r2 c_r2,.bool false,.slice none 0 0,.bool false,.slice none 0 0] 41∧Only p_b2 w_11 w':=xs.setN [(0,.bool n_r1),(1,.slice o_r1 k_r1 c_r1),(2,.bool n_r2),(3,.slice o_r2 k_r2 c_r2)]
 rw [eW];clear eW
 obtain ⟨w_12,eW,xs',ho_4⟩:∃w',((((w_12_0.setCell ⟨p_b2,4,none⟩ (.bool n_r3)).setCell ⟨p_b2,5,none⟩ (.slice o_r3 k_r3 c_r3)).setCell ⟨p_b2,6,none⟩ (.bool n_r4)).setCell ⟨p_b2,7,none⟩ (.slice o_r4 k_r4 c_r4))=w'∧Bs w' p_b2 #[.bool n_r1,.slice o_r1 k_r1 c_r1,.bool n_r2,.slice o_r2 k_r2 c_r2,.bool n_r3,.slice o_r3 k_r3 c_r3,.bool n_r4,.slice o_r4 k_r4 c_r4] 41∧Only p_b2 w_12_0 w':=xs_0.setN [(4,.bool n_r3),(5,.slice o_r3 k_r3 c_r3),(6,.bool n_r4),(7,.slice o_r4 k_r4 c_r4)]
 rw [eW];clear eW xs_0
 have ho12:=(ho_0.trans ho_4)
 clear ho_0 ho_4 d0 d1 d2 d3 d4 d5 d6 d7 f0 f1 f2 f3 f4 f5 f6 f7 xs
 replace hs:=hs.u1 kb_b2 xs' ho12;clear xs'
 clear g ov1 ov2 ov3 ov4 ha1 ha2
 refine hK _ _ rfl trivial ?_;clear hK K
 apply wpSq_end
 refine hK3 _ _ ?_
 refine wp_ret ?_
 try dsimp only [Exit.then,Exit.inBlock]
 have r0_0:w_12.cell? ⟨p_b2,0,none⟩=some (.bool n_r1):=hs.g1.cell 0 rfl
 have r0_1:w_12.cell? ⟨p_b2,1,none⟩=some (.slice o_r1 k_r1 c_r1):=hs.g1.cell 1 rfl
 have r0_2:w_12.cell? ⟨p_b2,2,none⟩=some (.bool n_r2):=hs.g1.cell 2 rfl
 have r0_3:w_12.cell? ⟨p_b2,3,none⟩=some (.slice o_r2 k_r2 c_r2):=hs.g1.cell 3 rfl
 have r0_4:w_12.cell? ⟨p_b2,4,none⟩=some (.bool n_r3):=hs.g1.cell 4 rfl
 have r0_5:w_12.cell? ⟨p_b2,5,none⟩=some (.slice o_r3 k_r3 c_r3):=hs.g1.cell 5 rfl
 have r0_6:w_12.cell? ⟨p_b2,6,none⟩=some (.bool n_r4):=hs.g1.cell 6 rfl
 have r0_7:w_12.cell? ⟨p_b2,7,none⟩=some (.slice o_r4 k_r4 c_r4):=hs.g1.cell 7 rfl
 refine bodyPost_ret (v:=(.agg #[.bool n_r1,.slice o_r1 k_r1 c_r1,.bool n_r2,.slice o_r2 k_r2 c_r2,.bool n_r3,.slice o_r3 k_r3 c_r3,.bool n_r4,.slice o_r4 k_r4 c_r4])) (by simp [results,Tryz.results11,go_sem,r0_0,r0_1,r0_2,r0_3,r0_4,r0_5,r0_6,r0_7]) rfl ?_
 have k9_12:=((kb n10).o hd11 ho11).o hd12 ho12
 replace r1:=r1.k k9_12
 replace r2:=r2.k k9_12
 replace r3:=r3.k k9_12
 replace r4:=r4.k k9_12
 exact ⟨_,rfl,.mk' r1 r2 r3 r4,hs.b⟩
theorem rfZ_any {z:Int} (ha:ZN w va z l) (hl:l≤10000000) :
  Calls Tryz.prog 54 #[va] w fun e w'=>∃r,e = .returned r∧PC w' r z 1∧Below w.heap.size w w':=by
 obtain ⟨n_0,o_0,k_0,c_0,rfl⟩:=ha.open2
 go_enter Tryz.func54,Tryz.ntmps54
 have hs:=St.nil w
 refine wp_seq_k fun K1 hK1=>rg [0,1] ?_
 refine sq ?_
 refine .al hs ?_;clear hs;intro p_b1 w_1 hs n1 kb_b1
 refine sq ?_
 refine .al hs ?_;clear hs;intro p_b2 w_2 hs n2 kb_b2
 apply wpSq_end
 refine hK1 _ _ ?_
 refine wp_seq_k fun K2 hK2=>rg [0,1,2,3,4] ?_
 refine sq ?_
 refine .r2 hs.g1.f2 ?_
 refine sq ?_
 intro K hK
 have k0_2:=(kb n1).b n2
 replace ha:=ha.k k0_2
 go_big_op
 go_fit (rnorm_any ha (by omega) )
 rintro e w_3 ⟨v_g,rfl,g,hb_3⟩
 replace hs:=hs.bl hb_3
 replace g:=g.rd
 obtain ⟨n_g,o_g,k_g,c_g,rfl⟩:=g.open2
 refine hK _ _ rfl trivial ?_
 clear hK K
 refine sq ?_
 intro K hK
 go_big_op
 go_fit (ri_any 1 _ (by decide) (by decide))
 rintro e w_4 ⟨v_rb,rfl,rb,hb_4⟩
 replace hs:=hs.bl hb_4
 replace rb:=rb.rd
 obtain ⟨n_rb,o_rb,k_rb,c_rb,rfl⟩:=rb.open2
 refine hK _ _ rfl trivial ?_
 clear hK K
 refine sr ?_
 refine sq ?_
 refine .s4 hs.g0 (fun _=>hs.u0 kb_b2) ?_;clear hs;intro w_5 hs hd5 ho5
 apply wpSq_end
 refine hK2 _ _ ?_
 refine wp_ret ?_
 try dsimp only [Exit.then,Exit.inBlock]
 obtain ⟨r0_0,r0_1,r0_2,r0_3⟩:=hs.g0.f4
 refine bodyPost_ret (v:=(.agg #[.bool n_g,.slice o_g k_g c_g,.bool n_rb,.slice o_rb k_rb c_rb])) (by simp [results,Tryz.results54,go_sem,r0_0,r0_1,r0_2,r0_3]) rfl ?_
 have k3_5:=(kb hb_4).o hd5 ho5
 replace g:=g.k k3_5
 have k4_5:=ko hd5 ho5
 replace rb:=rb.k k4_5
 exact ⟨_,rfl,.mk' g rb,hs.b⟩
theorem r7Of_any (ha:PN w va x l y m) (hl:l≤10000000) (hm:m≤10000000) :
  Calls Tryz.prog 18 #[va] w fun e w'=>∃r,e = .returned r∧CC w' r x 1 y 1∧Below w.heap.size w w':=by
 obtain ⟨n_0a,o_0a,k_0a,c_0a,n_0b,o_0b,k_0b,c_0b,rfl,ha1,ha2⟩:=ha
 go_enter Tryz.func18,Tryz.ntmps18
 have hs:=St.nil w
 refine wp_seq_k fun K1 hK1=>rg [0,1] ?_
 refine sq ?_
 refine .al hs ?_;clear hs;intro p_b1 w_1 hs n1 kb_b1
 refine sq ?_
 refine .al hs ?_;clear hs;intro p_b2 w_2 hs n2 kb_b2
 apply wpSq_end
 refine hK1 _ _ ?_
 refine wp_seq_k ?_
 intro K2 hK2
 refine wp_region_f4 [(0,false),(1,false),(3,false),(4,false),(2,true),(5,true),(6,false)] [7] [] (fun _=>default) [99,0,99,99,0,99,99,99] [] (.c hs.g1 .n) fn fun w_3 n3 => ?_
 replace hs:=hs.bl n3
 refine f0 ?_
 refine f4 ?_
 refine f0 ?_
 refine f4 ?_
 refine fl fun w_4 n4 => ?_
 replace hs:=hs.bl n4
 intro K hK
 have k0_4:=(((kb n1).b n2).b n3).b n4
 replace ha1:=ha1.k k0_4
 go_big_op
 go_fit (rfZ_any ha1 (by omega))
 rintro e w_5 ⟨_,rfl,⟨n_gaa,o_gaa,k_gaa,c_gaa,n_gab,o_gab,k_gab,c_gab,rfl,ga1,ga2⟩,hb_5⟩
 replace hs:=hs.bl hb_5
 refine hK _ _ rfl ⟨hb_5,(And.intro hs.g1 trivial)⟩ ?_
 clear hK K
 refine fl fun w_6 n6 => ?_
 replace hs:=hs.bl n6
 intro K hK
 have k0_6:=(k0_4.b hb_5).b n6
 replace ha2:=ha2.k k0_6
 go_big_op
 go_fit (rfZ_any ha2 (by omega))
 rintro e w_7 ⟨_,rfl,⟨n_gba,o_gba,k_gba,c_gba,n_gbb,o_gbb,k_gbb,c_gbb,rfl,gb1,gb2⟩,hb_7⟩
 replace hs:=hs.bl hb_7
 refine hK _ _ rfl ⟨hb_7,(And.intro hs.g1 trivial)⟩ ?_
 clear hK K
 refine f0 ?_
 refine e0 hs ?_;clear hs;intro w_8 hs n8
 refine tl ?_
 intro K hK
 have xs:=hs.g0
 have d0:w_8.cell? ⟨p_b2,0,none⟩=some (.bool false):=hs.g0.cell 0 rfl
 have d1:w_8.cell? ⟨p_b2,1,none⟩=some (.slice none 0 0):=hs.g0.cell 1 rfl
 have d2:w_8.cell? ⟨p_b2,2,none⟩=some (.bool false):=hs.g0.cell 2 rfl
 have d3:w_8.cell? ⟨p_b2,3,none⟩=some (.slice none 0 0):=hs.g0.cell 3 rfl
 have d4:w_8.cell? ⟨p_b2,4,none⟩=some (.bool false):=hs.g0.cell 4 rfl
 have d5:w_8.cell? ⟨p_b2,5,none⟩=some (.slice none 0 0):=hs.g0.cell 5 rfl
 have d6:w_8.cell? ⟨p_b2,6,none⟩=some (.bool false):=hs.g0.cell 6 rfl
 have d7:w_8.cell? ⟨p_b2,7,none⟩=some (.slice none 0 0):=hs.g0.cell 7 rfl
 have f0:=xs.free 0;have f1:=xs.free 1;have f2:=xs.free 2;have f3:=xs.free 3;have f4:=xs.free 4;have f5:=xs.free 5;have f6:=xs.free 6;have f7:=xs.free 7
 go_big_op
 have hd9:=xs.nod rfl rfl
 obtain ⟨w_9_0,eW,xs_0,ho_0⟩:∃w',((((w_8.setCell ⟨p_b2,0,none⟩ (.bool n_gaa)).setCell ⟨p_b2,1,none⟩ (.slice o_gaa k_gaa c_gaa)).setCell ⟨p_b2,2,none⟩ (.bool n_gab)).setCell ⟨p_b2,3,none⟩ (.slice o_gab k_gab c_gab))=w'∧Bs w' p_b2 #[.bool n_gaa,.slice o_gaa k_gaa c_gaa,.bool n_gab,.slice o_gab k_gab c_gab,.bool false,.slice none 0 0,.bool false,.slice none 0 0] 41∧Only p_b2 w_8 w':=xs.setN [(0,.bool n_gaa),(1,.slice o_gaa k_gaa c_gaa),(2,.bool n_gab),(3,.slice o_gab k_gab c_gab)]
 rw [eW];clear eW
 obtain ⟨w_9,eW,xs',ho_4⟩:∃w',((((w_9_0.setCell ⟨p_b2,4,none⟩ (.bool n_gba)).setCell ⟨p_b2,5,none⟩ (.slice o_gba k_gba c_gba)).setCell ⟨p_b2,6,none⟩ (.bool n_gbb)).setCell ⟨p_b2,7,none⟩ (.slice o_gbb k_gbb c_gbb))=w'∧Bs w' p_b2 #[.bool n_gaa,.slice o_gaa k_gaa c_gaa,.bool n_gab,.slice o_gab k_gab c_gab,.bool n_gba,.slice o_gba k_gba c_gba,.bool n_gbb,.slice o_gbb k_gbb c_gbb] 41∧Only p_b2 w_9_0 w':=xs_0.setN [(4,.bool n_gba),(5,.slice o_gba k_gba c_gba),(6,.bool n_gbb),(7,.slice o_gbb k_gbb c_gbb)]
 rw [eW];clear eW xs_0
 have ho9:=(ho_0.trans ho_4)
 clear ho_0 ho_4 d0 d1 d2 d3 d4 d5 d6 d7 f0 f1 f2 f3 f4 f5 f6 f7 xs
 replace hs:=hs.u0 kb_b2 xs' ho9;clear xs'
 refine hK _ _ rfl (And.intro hs.g1 True.intro) ?_;clear hK K
 apply wpTail_end
 refine hK2 _ _ ?_
 refine wp_ret ?_
 try dsimp only [Exit.then,Exit.inBlock]
 have r0_0:w_9.cell? ⟨p_b2,0,none⟩=some (.bool n_gaa):=hs.g0.cell 0 rfl
 have r0_1:w_9.cell? ⟨p_b2,1,none⟩=some (.slice o_gaa k_gaa c_gaa):=hs.g0.cell 1 rfl
 have r0_2:w_9.cell? ⟨p_b2,2,none⟩=some (.bool n_gab):=hs.g0.cell 2 rfl
 have r0_3:w_9.cell? ⟨p_b2,3,none⟩=some (.slice o_gab k_gab c_gab):=hs.g0.cell 3 rfl
 have r0_4:w_9.cell? ⟨p_b2,4,none⟩=some (.bool n_gba):=hs.g0.cell 4 rfl
 have r0_5:w_9.cell? ⟨p_b2,5,none⟩=some (.slice o_gba k_gba c_gba):=hs.g0.cell 5 rfl
 have r0_6:w_9.cell? ⟨p_b2,6,none⟩=some (.bool n_gbb):=hs.g0.cell 6 rfl
 have r0_7:w_9.cell? ⟨p_b2,7,none⟩=some (.slice o_gbb k_gbb c_gbb):=hs.g0.cell 7 rfl
 refine bodyPost_ret (v:=(.agg #[.bool n_gaa,.slice o_gaa k_gaa c_gaa,.bool n_gab,.slice o_gab k_gab c_gab,.bool n_gba,.slice o_gba k_gba c_gba,.bool n_gbb,.slice o_gbb k_gbb c_gbb])) (by simp [results,Tryz.results18,go_sem,r0_0,r0_1,r0_2,r0_3,r0_4,r0_5,r0_6,r0_7]) rfl ?_
 have k5_9:=(((kb n6).b hb_7).b n8).o hd9 ho9
 replace ga1:=ga1.k k5_9
 replace ga2:=ga2.k k5_9
 have k7_9:=(kb n8).o hd9 ho9
 replace gb1:=gb1.k k7_9
 replace gb2:=gb2.k k7_9
 exact ⟨_,rfl,.mk' ga1 ga2 gb1 gb2,hs.b⟩
end
end Go.Proofs.YthmolpepinolkaaGreat
