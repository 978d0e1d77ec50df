/- A region that draws, at whose end two operations are ready at once: both orders (else as Rf). -/
import Derived.Test.YthmolpepinolkaaGreatX7ToU4
namespace Go.Proofs.YthmolpepinolkaaGreat
open Go Go.RowKit Dig
set_option linter.unusedVariables false
set_option maxHeartbeats 4000000 in
set_option maxRecDepth 20000 in
theorem rround_big {w:World} {va vb:Value} {x y:Int} {l m:Nat} (ha:ZN w va x l) (hb':ZN w vb y m) (hl:l≤40000000) (hm:m≤20000000) (h0:y≠0) :
  Calls Tryz.prog 170 #[va,vb] w fun e w'=>∃v1 v2,e = .returned (.tuple #[v1,v2])∧ZC w' v1 (rnd x y)∧ZC w' v2 (x - rnd x y*y)∧Below w.heap.size w w':=by
 have LX2:=hide (zlen_add ha.len ha.len)
 have LS:=hide (show (dig (x+x+y).natAbs).length≤l+1+m+1 from zlen_add (show (dig (x+x).natAbs).length≤l+1 by
  have:=add_len x.natAbs
  rw[val_dig] at this
  rw[show (x+x).natAbs=x.natAbs+x.natAbs by omega]
  have:=ha.len
  omega) hb'.len)
 have LY:=hide (show (dig (y+y).natAbs).length≤m+1 by
  have:=add_len y.natAbs
  rw[val_dig] at this
  rw[show (y+y).natAbs=y.natAbs+y.natAbs by omega]
  have:=hb'.len
  omega)
 have LN:=hide (rnd_len h0 ha.len)
 have LM:=hide (zlen_mul LN.out hb'.len)
 have EN:=hide (show (x+x+y).fdiv (y+y)=rnd x y by unfold rnd;rw[show x+x+y=2*x+y by omega,show y+y=2*y by omega])
 have H0:=hide (show y+y≠0 by omega)
 clear h0
 obtain⟨na,oa,ca,xs,rfl,hca,_,_,hxl⟩:=ha.open_
 obtain⟨nb,ob,cb,ys,rfl,hcb,_,_,hyl⟩:=hb'.open_
 go_enter Tryz.func170,Tryz.ntmps170
 have hb:=Below.refl w.heap.size w
 have hp:=Bk.new w na (.slice oa xs.length ca)
 replace ha:=ha.alloc (.cells #[.bool na,(.slice oa xs.length ca)] 37)
 replace hb':=hb'.alloc (.cells #[.bool na,(.slice oa xs.length ca)] 37)
 replace hb:=hb.alloc hb.size (.cells #[.bool na,(.slice oa xs.length ca)] 37)
 have hq:=Bk.new (w.alloc (.cells #[.bool na,(.slice oa xs.length ca)] 37)) nb (.slice ob ys.length cb)
 simp only[Bk.size_alloc] at hq
 replace ha:=ha.alloc (.cells #[.bool nb,(.slice ob ys.length cb)] 37)
 replace hb':=hb'.alloc (.cells #[.bool nb,(.slice ob ys.length cb)] 37)
 replace hp:=hp.alloc (.cells #[.bool nb,(.slice ob ys.length cb)] 37)
 replace hb:=hb.alloc hb.size (.cells #[.bool nb,(.slice ob ys.length cb)] 37)
 have hz1:=Bk.new ((w.alloc (.cells #[.bool na,(.slice oa xs.length ca)] 37)).alloc (.cells #[.bool nb,(.slice ob ys.length cb)] 37)) false (.slice none 0 0)
 simp only[Bk.size_alloc] at hz1
 replace ha:=ha.alloc (.cells #[.bool false,(.slice none 0 0)] 37)
 replace hb':=hb'.alloc (.cells #[.bool false,(.slice none 0 0)] 37)
 replace hp:=hp.alloc (.cells #[.bool false,(.slice none 0 0)] 37)
 replace hq:=hq.alloc (.cells #[.bool false,(.slice none 0 0)] 37)
 replace hb:=hb.alloc hb.size (.cells #[.bool false,(.slice none 0 0)] 37)
 have hz2:=Bk.new (((w.alloc (.cells #[.bool na,(.slice oa xs.length ca)] 37)).alloc (.cells #[.bool nb,(.slice ob ys.length cb)] 37)).alloc (.cells #[.bool false,(.slice none 0 0)] 37)) false (.slice none 0 0)
 simp only[Bk.size_alloc] at hz2
 replace ha:=ha.alloc (.cells #[.bool false,(.slice none 0 0)] 37)
 replace hb':=hb'.alloc (.cells #[.bool false,(.slice none 0 0)] 37)
 replace hp:=hp.alloc (.cells #[.bool false,(.slice none 0 0)] 37)
 replace hq:=hq.alloc (.cells #[.bool false,(.slice none 0 0)] 37)
 replace hz1:=hz1.alloc (.cells #[.bool false,(.slice none 0 0)] 37)
 replace hb:=hb.alloc hb.size (.cells #[.bool false,(.slice none 0 0)] 37)
 replace ha:=ha.drew
 replace hb':=hb'.drew
 replace hp:=hp.drew
 replace hq:=hq.drew
 replace hz1:=hz1.drew
 replace hz2:=hz2.drew
 replace hb:=hb.drew
 have lt_hp:=hp.lt
 have lt_hq:=hq.lt
 have lt_hz1:=hz1.lt
 have lt_hz2:=hz2.lt
 have kb0:=hb.size
 go_wp2_with fail
 refine wp_region_fl [(0,false),(2,false),(4,false),(1,true),(3,true),(5,true),(6,true),(7,false),(8,false),(9,false)] [12,13] [10,11] (fun _=>obZ) [0,99,1,99,1,99,99,99,99,99,99,99,99,99] [] (fun w'=>w'.cell? ⟨w.heap.size,0,none⟩=some (.bool na)∧w'.cell? ⟨w.heap.size,1,none⟩=some (.slice oa xs.length ca)∧w'.cell? ⟨w.heap.size+1,0,none⟩=some (.bool nb)∧w'.cell? ⟨w.heap.size+1,1,none⟩=some (.slice ob ys.length cb)) [fun w'=>w'.cell? ⟨w.heap.size,0,none⟩=some (.bool na)∧w'.cell? ⟨w.heap.size,1,none⟩=some (.slice oa xs.length ca),fun w'=>w'.cell? ⟨w.heap.size+1,0,none⟩=some (.bool nb)∧w'.cell? ⟨w.heap.size+1,1,none⟩=some (.slice ob ys.length cb)] (by kernel_rfl) (by kernel_rfl) (by kernel_rfl) (by kernel_rfl) (by kernel_rfl) (by kernel_rfl) (by kernel_rfl) (by kernel_rfl) (by decide) (by intro j hj;simp only[List.mem_cons,List.not_mem_nil,or_false] at hj;rcases hj with rfl | rfl;all_goals exact⟨_,rfl,rfl,fun ρ w=>run_alloc_z w⟩) (by intro w' o hC;obtain⟨c0,c1,c2,c3⟩:=hC;exact⟨cell_alloc c0 o,cell_alloc c1 o,cell_alloc c2 o,cell_alloc c3 o⟩) (by intro w' hC G hG;obtain⟨c0,c1,c2,c3⟩:=hC;simp only[List.mem_cons,List.not_mem_nil,or_false] at hG;rcases hG with rfl | rfl <;> first | exact⟨c0,c1⟩ | exact⟨c2,c3⟩) ⟨hp.facts.1,hp.facts.2.1,hq.facts.1,hq.facts.2.1⟩ ?_
 apply wpFl_ld
 case hG=>rfl
 case hi=>rfl
 case h1=>intro w' hC K hK;obtain⟨c0,c1⟩:=hC;(first | go_big_move | go_big_op);exact hK
 case hw=>kernel_rfl
 case hv=>kernel_rfl
 case hb=>kernel_rfl
 case hp=>kernel_rfl
 apply wpFl_ld
 case hG=>rfl
 case hi=>rfl
 case h1=>intro w' hC K hK;obtain⟨c0,c1⟩:=hC;(first | go_big_move | go_big_op);exact hK
 case hw=>kernel_rfl
 case hv=>kernel_rfl
 case hb=>kernel_rfl
 case hp=>kernel_rfl
 apply wpFl_ld
 case hG=>rfl
 case hi=>rfl
 case h1=>intro w' hC K hK;obtain⟨c0,c1⟩:=hC;(first | go_big_move | go_big_op);exact hK
 case hw=>kernel_rfl
 case hv=>kernel_rfl
 case hb=>kernel_rfl
 case hp=>kernel_rfl
 apply wpFl_call
 case hi=>rfl
 case hw=>kernel_rfl
 case h =>
 intro w_1 hn hC
 clear hC
 replace ha:=ha.below hn nl
 replace hb':=hb'.below hn nl
 replace hp:=hp.below hn nl
 replace hq:=hq.below hn nl
 replace hz1:=hz1.below hn nl
 replace hz2:=hz2.below hn nl
 replace hb:=tmm hb hn
 clear hn
 intro K hK
 have kb_2:=hb.size
 go_big_op
 go_fit (twice_any ha (by omega))
 rintro e w_2 ⟨v1,rfl,g1,hb_2⟩
 replace ha:=ha.below hb_2 nl
 replace hb':=hb'.below hb_2 nl
 replace hp:=hp.below hb_2 nl
 replace hq:=hq.below hb_2 nl
 replace hz1:=hz1.below hb_2 nl
 replace hz2:=hz2.below hb_2 nl
 replace hb:=tmm hb hb_2
 refine hK _ _ rfl hb_2 ⟨hp.facts.1,hp.facts.2.1,hq.facts.1,hq.facts.2.1⟩ ?_
 clear hK K hb_2
 apply wpFl_call
 case hi=>rfl
 case hw=>kernel_rfl
 case h =>
 intro w_3 hn hC
 clear hC
 replace ha:=ha.below hn nl
 replace hb':=hb'.below hn nl
 replace hp:=hp.below hn nl
 replace hq:=hq.below hn nl
 replace hz1:=hz1.below hn nl
 replace hz2:=hz2.below hn nl
 replace g1:=g1.below hn nl
 replace hb:=tmm hb hn
 clear hn
 intro K hK
 have kb_4:=hb.size
 go_big_op
 go_fit (rzadd_any (g1.zn LX2.out) hb' (by omega) (by omega))
 rintro e w_4 ⟨v2,rfl,g2,hb_4⟩
 replace ha:=ha.below hb_4 nl
 replace hb':=hb'.below hb_4 nl
 replace hp:=hp.below hb_4 nl
 replace hq:=hq.below hb_4 nl
 replace hz1:=hz1.below hb_4 nl
 replace hz2:=hz2.below hb_4 nl
 replace g1:=g1.below hb_4 nl
 replace hb:=tmm hb hb_4
 refine hK _ _ rfl hb_4 ⟨hp.facts.1,hp.facts.2.1,hq.facts.1,hq.facts.2.1⟩ ?_
 clear hK K hb_4
 replace g2:=g2.rd
 clear g1
 apply wpFl_call
 case hi=>rfl
 case hw=>kernel_rfl
 case h =>
 intro w_5 hn hC
 clear hC
 replace ha:=ha.below hn nl
 replace hb':=hb'.below hn nl
 replace hp:=hp.below hn nl
 replace hq:=hq.below hn nl
 replace hz1:=hz1.below hn nl
 replace hz2:=hz2.below hn nl
 replace g2:=g2.below hn nl
 replace hb:=tmm hb hn
 clear hn
 intro K hK
 have kb_6:=hb.size
 go_big_op
 go_fit (twice_any hb' (by omega))
 rintro e w_6 ⟨v3,rfl,g3,hb_6⟩
 replace ha:=ha.below hb_6 nl
 replace hb':=hb'.below hb_6 nl
 replace hp:=hp.below hb_6 nl
 replace hq:=hq.below hb_6 nl
 replace hz1:=hz1.below hb_6 nl
 replace hz2:=hz2.below hb_6 nl
 replace g2:=g2.below hb_6 nl
 replace hb:=tmm hb hb_6
 refine hK _ _ rfl hb_6 ⟨hp.facts.1,hp.facts.2.1,hq.facts.1,hq.facts.2.1⟩ ?_
 clear hK K hb_6
 apply wpFl_call
 case hi=>rfl
 case hw=>kernel_rfl
 case h =>
 intro w_7 hn hC
 clear hC
 replace ha:=ha.below hn nl
 replace hb':=hb'.below hn nl
 replace hp:=hp.below hn nl
 replace hq:=hq.below hn nl
 replace hz1:=hz1.below hn nl
 replace hz2:=hz2.below hn nl
 replace g2:=g2.below hn nl
 replace g3:=g3.below hn nl
 replace hb:=tmm hb hn
 clear hn
 intro K hK
 have kb_8:=hb.size
 go_big_op
 go_fit (rfloor_any (g2.zn LS.out) (g3.zn LY.out) (by omega) (by omega) H0.out)
 rintro e w_8 ⟨v4,v5,rfl,g4,g5,hb_8⟩
 replace ha:=ha.below hb_8 nl
 replace hb':=hb'.below hb_8 nl
 replace hp:=hp.below hb_8 nl
 replace hq:=hq.below hb_8 nl
 replace hz1:=hz1.below hb_8 nl
 replace hz2:=hz2.below hb_8 nl
 replace g2:=g2.below hb_8 nl
 replace g3:=g3.below hb_8 nl
 replace hb:=tmm hb hb_8
 refine hK _ _ rfl hb_8 ⟨hp.facts.1,hp.facts.2.1,hq.facts.1,hq.facts.2.1⟩ ?_
 clear hK K hb_8
 rw[EN.out] at g4
 clear g2
 clear g3
 apply wpFl_ld
 case hG=>rfl
 case hi=>rfl
 case h1=>intro w' hC K hK;clear hC;(first | go_big_move | go_big_op);exact hK
 case hw=>kernel_rfl
 case hv=>kernel_rfl
 case hb=>kernel_rfl
 case hp=>kernel_rfl
 apply wpFl_ld
 case hG=>rfl
 case hi=>rfl
 case h1=>intro w' hC K hK;clear hC;(first | go_big_move | go_big_op);exact hK
 case hw=>kernel_rfl
 case hv=>kernel_rfl
 case hb=>kernel_rfl
 case hp=>kernel_rfl
 apply wpFl_ld
 case hG=>rfl
 case hi=>rfl
 case h1=>intro w' hC K hK;clear hC;(first | go_big_move | go_big_op);exact hK
 case hw=>kernel_rfl
 case hv=>kernel_rfl
 case hb=>kernel_rfl
 case hp=>kernel_rfl
 apply wpFl_end
 case ha=>intro pt;simp only[putF,nthO,Act.put,ptr,List.setIfInBounds_toArray,List.set_cons_succ,List.set_cons_zero];rfl
 case h =>
 intro w_9 pt hn hC hF hD
 clear hC
 replace ha:=ha.below hn nl
 replace hb':=hb'.below hn nl
 replace hp:=hp.below hn nl
 replace hq:=hq.below hn nl
 replace hz1:=hz1.below hn nl
 replace hz2:=hz2.below hn nl
 replace g4:=g4.below hn nl
 replace g5:=g5.below hn nl
 replace hb:=tmm hb hn
 clear hn
 obtain⟨kB_hz3,hz3⟩:=hF 10 (by decide)
 replace hz3:=obZ_bk hz3
 obtain⟨kB_hz4,hz4⟩:=hF 11 (by decide)
 replace hz4:=obZ_bk hz4
 have ne_hz3_hz4:=hD 10 (by decide) 11 (by decide) (by decide)
 clear hF hD
 generalize pt 10=p_hz3 at *
 generalize pt 11=p_hz4 at *
 clear pt
 have kb_hz3:=Nat.le_trans kb0 kB_hz3
 have ne_hp_hz3:w.heap.size≠p_hz3:=Nat.ne_of_lt (Nat.lt_of_lt_of_le lt_hp kB_hz3)
 have ne_hq_hz3:w.heap.size+1≠p_hz3:=Nat.ne_of_lt (Nat.lt_of_lt_of_le lt_hq kB_hz3)
 have ne_hz1_hz3:w.heap.size+1+1≠p_hz3:=Nat.ne_of_lt (Nat.lt_of_lt_of_le lt_hz1 kB_hz3)
 have ne_hz2_hz3:w.heap.size+1+1+1≠p_hz3:=Nat.ne_of_lt (Nat.lt_of_lt_of_le lt_hz2 kB_hz3)
 clear kB_hz3
 have kb_hz4:=Nat.le_trans kb0 kB_hz4
 have ne_hp_hz4:w.heap.size≠p_hz4:=Nat.ne_of_lt (Nat.lt_of_lt_of_le lt_hp kB_hz4)
 have ne_hq_hz4:w.heap.size+1≠p_hz4:=Nat.ne_of_lt (Nat.lt_of_lt_of_le lt_hq kB_hz4)
 have ne_hz1_hz4:w.heap.size+1+1≠p_hz4:=Nat.ne_of_lt (Nat.lt_of_lt_of_le lt_hz1 kB_hz4)
 have ne_hz2_hz4:w.heap.size+1+1+1≠p_hz4:=Nat.ne_of_lt (Nat.lt_of_lt_of_le lt_hz2 kB_hz4)
 clear kB_hz4
 clear lt_hp
 clear lt_hq
 clear lt_hz1
 clear lt_hz2
 clear kb0
 obtain⟨sb_hz3,o_hz3,n_hz3,c_hz3,rfl⟩:=g4.open2
 apply wpTail_call
 case hi=>rfl
 case hw=>kernel_rfl
 case h =>
 intro K hK
 have c9_:=hz3.facts
 go_big_op
 have ho:=Bk.only w_9 (p_hz3) sb_hz3 (.slice o_hz3 n_hz3 c_hz3)
 have hbx_:=hz3.bx
 replace ha:=ha.frame hbx_ ho
 replace hb':=hb'.frame hbx_ ho
 replace hp:=hp.frame ho (by first | assumption | (apply Ne.symm;assumption) | (simp;done) | omega)
 replace hq:=hq.frame ho (by first | assumption | (apply Ne.symm;assumption) | (simp;done) | omega)
 replace hz1:=hz1.frame ho (by first | assumption | (apply Ne.symm;assumption) | (simp;done) | omega)
 replace hz2:=hz2.frame ho (by first | assumption | (apply Ne.symm;assumption) | (simp;done) | omega)
 replace g4:=g4.frame hbx_ ho
 replace g5:=g5.frame hbx_ ho
 replace hz4:=hz4.frame ho (by first | assumption | (apply Ne.symm;assumption) | (simp;done) | omega)
 replace hz3:=hz3.store sb_hz3 (.slice o_hz3 n_hz3 c_hz3)
 replace hb:=(hb.setCell (p:=⟨p_hz3,0,none⟩) (show w.heap.size≤p_hz3 by first | assumption | (simp;done) | omega) (.bool sb_hz3)).setCell (p:=⟨p_hz3,1,none⟩) (show w.heap.size≤p_hz3 by first | assumption | (simp;done) | omega) (.slice o_hz3 n_hz3 c_hz3)
 refine hK _ _ rfl (ai (ai hp.facts.1 hp.facts.2.1) (ai (ai hq.facts.1 hq.facts.2.1) trivial)) ?_
 clear hK K hbx_ ho c9_
 obtain⟨sb_hz4,o_hz4,n_hz4,c_hz4,rfl⟩:=g5.open2
 apply wpTail_call
 case hi=>rfl
 case hw=>kernel_rfl
 case h =>
 intro K hK
 have c9_:=hz4.facts
 go_big_op
 have ho:=Bk.only ((w_9.setCell ⟨p_hz3,0,none⟩ (.bool sb_hz3)).setCell ⟨p_hz3,1,none⟩ (.slice o_hz3 n_hz3 c_hz3)) (p_hz4) sb_hz4 (.slice o_hz4 n_hz4 c_hz4)
 have hbx_:=hz4.bx
 replace ha:=ha.frame hbx_ ho
 replace hb':=hb'.frame hbx_ ho
 replace hp:=hp.frame ho (by first | assumption | (apply Ne.symm;assumption) | (simp;done) | omega)
 replace hq:=hq.frame ho (by first | assumption | (apply Ne.symm;assumption) | (simp;done) | omega)
 replace hz1:=hz1.frame ho (by first | assumption | (apply Ne.symm;assumption) | (simp;done) | omega)
 replace hz2:=hz2.frame ho (by first | assumption | (apply Ne.symm;assumption) | (simp;done) | omega)
 replace g4:=g4.frame hbx_ ho
 replace g5:=g5.frame hbx_ ho
 replace hz3:=hz3.frame ho (by first | assumption | (apply Ne.symm;assumption) | (simp;done) | omega)
 replace hz4:=hz4.store sb_hz4 (.slice o_hz4 n_hz4 c_hz4)
 replace hb:=(hb.setCell (p:=⟨p_hz4,0,none⟩) (show w.heap.size≤p_hz4 by first | assumption | (simp;done) | omega) (.bool sb_hz4)).setCell (p:=⟨p_hz4,1,none⟩) (show w.heap.size≤p_hz4 by first | assumption | (simp;done) | omega) (.slice o_hz4 n_hz4 c_hz4)
 refine hK _ _ rfl (ai (ai hp.facts.1 hp.facts.2.1) (ai (ai hq.facts.1 hq.facts.2.1) trivial)) ?_
 clear hK K hbx_ ho c9_
 apply wpTail_end
 replace ha:=ha.drew
 replace hb':=hb'.drew
 replace hp:=hp.drew
 replace hq:=hq.drew
 replace hz1:=hz1.drew
 replace hz2:=hz2.drew
 replace g4:=g4.drew
 replace g5:=g5.drew
 replace hz3:=hz3.drew
 replace hz4:=hz4.drew
 replace hb:=hb.drew
 have lt_hp:=hp.lt
 have lt_hq:=hq.lt
 have lt_hz1:=hz1.lt
 have lt_hz2:=hz2.lt
 have lt_hz3:=hz3.lt
 have lt_hz4:=hz4.lt
 have kb0:=hb.size
 go_wp2_with fail
 refine wp_region_fl [(0,false),(1,false),(2,false),(3,false),(4,true),(5,true)] [6,7] [] (fun _=>obZ) [2,0,2,1,99,99,99,99] [] (fun w'=>w'.cell? ⟨w.heap.size,0,none⟩=some (.bool na)∧w'.cell? ⟨w.heap.size,1,none⟩=some (.slice oa xs.length ca)∧w'.cell? ⟨w.heap.size+1,0,none⟩=some (.bool nb)∧w'.cell? ⟨w.heap.size+1,1,none⟩=some (.slice ob ys.length cb)∧w'.cell? ⟨p_hz3,0,none⟩=some (.bool sb_hz3)∧w'.cell? ⟨p_hz3,1,none⟩=some (.slice o_hz3 n_hz3 c_hz3)) [fun w'=>w'.cell? ⟨w.heap.size,0,none⟩=some (.bool na)∧w'.cell? ⟨w.heap.size,1,none⟩=some (.slice oa xs.length ca),fun w'=>w'.cell? ⟨w.heap.size+1,0,none⟩=some (.bool nb)∧w'.cell? ⟨w.heap.size+1,1,none⟩=some (.slice ob ys.length cb),fun w'=>w'.cell? ⟨p_hz3,0,none⟩=some (.bool sb_hz3)∧w'.cell? ⟨p_hz3,1,none⟩=some (.slice o_hz3 n_hz3 c_hz3)] (by kernel_rfl) (by kernel_rfl) (by kernel_rfl) (by kernel_rfl) (by kernel_rfl) (by kernel_rfl) (by kernel_rfl) (by kernel_rfl) (by decide) (by intro j hj;cases hj) (by intro w' o hC;obtain⟨c0,c1,c2,c3,c4,c5⟩:=hC;exact⟨cell_alloc c0 o,cell_alloc c1 o,cell_alloc c2 o,cell_alloc c3 o,cell_alloc c4 o,cell_alloc c5 o⟩) (by intro w' hC G hG;obtain⟨c0,c1,c2,c3,c4,c5⟩:=hC;simp only[List.mem_cons,List.not_mem_nil,or_false] at hG;rcases hG with rfl | rfl | rfl <;> first | exact⟨c0,c1⟩ | exact⟨c2,c3⟩ | exact⟨c4,c5⟩) ⟨hp.facts.1,hp.facts.2.1,hq.facts.1,hq.facts.2.1,hz3.facts.1,hz3.facts.2.1⟩ ?_
 apply wpFl_ld
 case hG=>rfl
 case hi=>rfl
 case h1=>intro w' hC K hK;obtain⟨c0,c1⟩:=hC;(first | go_big_move | go_big_op);exact hK
 case hw=>kernel_rfl
 case hv=>kernel_rfl
 case hb=>kernel_rfl
 case hp=>kernel_rfl
 apply wpFl_ld
 case hG=>rfl
 case hi=>rfl
 case h1=>intro w' hC K hK;obtain⟨c0,c1⟩:=hC;(first | go_big_move | go_big_op);exact hK
 case hw=>kernel_rfl
 case hv=>kernel_rfl
 case hb=>kernel_rfl
 case hp=>kernel_rfl
 apply wpFl_ld
 case hG=>rfl
 case hi=>rfl
 case h1=>intro w' hC K hK;obtain⟨c0,c1⟩:=hC;(first | go_big_move | go_big_op);exact hK
 case hw=>kernel_rfl
 case hv=>kernel_rfl
 case hb=>kernel_rfl
 case hp=>kernel_rfl
 apply wpFl_ld
 case hG=>rfl
 case hi=>rfl
 case h1=>intro w' hC K hK;obtain⟨c0,c1⟩:=hC;(first | go_big_move | go_big_op);exact hK
 case hw=>kernel_rfl
 case hv=>kernel_rfl
 case hb=>kernel_rfl
 case hp=>kernel_rfl
 apply wpFl_call
 case hi=>rfl
 case hw=>kernel_rfl
 case h =>
 intro w_10 hn hC
 clear hC
 replace ha:=ha.below hn nl
 replace hb':=hb'.below hn nl
 replace hp:=hp.below hn nl
 replace hq:=hq.below hn nl
 replace hz1:=hz1.below hn nl
 replace hz2:=hz2.below hn nl
 replace g4:=g4.below hn nl
 replace g5:=g5.below hn nl
 replace hz3:=hz3.below hn nl
 replace hz4:=hz4.below hn nl
 replace hb:=tmm hb hn
 clear hn
 intro K hK
 have kb_11:=hb.size
 go_big_op
 go_fit (rzmul_any (g4.zn LN.out) hb' (by omega) (by omega))
 rintro e w_11 ⟨v6,rfl,g6,hb_11⟩
 replace ha:=ha.below hb_11 nl
 replace hb':=hb'.below hb_11 nl
 replace hp:=hp.below hb_11 nl
 replace hq:=hq.below hb_11 nl
 replace hz1:=hz1.below hb_11 nl
 replace hz2:=hz2.below hb_11 nl
 replace g4:=g4.below hb_11 nl
 replace g5:=g5.below hb_11 nl
 replace hz3:=hz3.below hb_11 nl
 replace hz4:=hz4.below hb_11 nl
 replace hb:=tmm hb hb_11
 refine hK _ _ rfl hb_11 ⟨hp.facts.1,hp.facts.2.1,hq.facts.1,hq.facts.2.1,hz3.facts.1,hz3.facts.2.1⟩ ?_
 clear hK K hb_11
 replace g6:=g6.rd
 apply wpFl_call
 case hi=>rfl
 case hw=>kernel_rfl
 case h =>
 intro w_12 hn hC
 clear hC
 replace ha:=ha.below hn nl
 replace hb':=hb'.below hn nl
 replace hp:=hp.below hn nl
 replace hq:=hq.below hn nl
 replace hz1:=hz1.below hn nl
 replace hz2:=hz2.below hn nl
 replace g4:=g4.below hn nl
 replace g5:=g5.below hn nl
 replace hz3:=hz3.below hn nl
 replace hz4:=hz4.below hn nl
 replace g6:=g6.below hn nl
 replace hb:=tmm hb hn
 clear hn
 intro K hK
 have kb_13:=hb.size
 go_big_op
 go_fit (rzsub_any ha (g6.zn LM.out) (by omega) (by omega))
 rintro e w_13 ⟨v7,rfl,g7,hb_13⟩
 replace ha:=ha.below hb_13 nl
 replace hb':=hb'.below hb_13 nl
 replace hp:=hp.below hb_13 nl
 replace hq:=hq.below hb_13 nl
 replace hz1:=hz1.below hb_13 nl
 replace hz2:=hz2.below hb_13 nl
 replace g4:=g4.below hb_13 nl
 replace g5:=g5.below hb_13 nl
 replace hz3:=hz3.below hb_13 nl
 replace hz4:=hz4.below hb_13 nl
 replace g6:=g6.below hb_13 nl
 replace hb:=tmm hb hb_13
 refine hK _ _ rfl hb_13 ⟨hp.facts.1,hp.facts.2.1,hq.facts.1,hq.facts.2.1,hz3.facts.1,hz3.facts.2.1⟩ ?_
 clear hK K hb_13
 replace g7:=g7.rd
 apply wpFl_end
 case ha=>intro pt;simp only[putF];rfl
 case h =>
 intro w_14 pt hn hC hF hD
 clear hC
 replace ha:=ha.below hn nl
 replace hb':=hb'.below hn nl
 replace hp:=hp.below hn nl
 replace hq:=hq.below hn nl
 replace hz1:=hz1.below hn nl
 replace hz2:=hz2.below hn nl
 replace g4:=g4.below hn nl
 replace g5:=g5.below hn nl
 replace hz3:=hz3.below hn nl
 replace hz4:=hz4.below hn nl
 replace g6:=g6.below hn nl
 replace g7:=g7.below hn nl
 replace hb:=tmm hb hn
 clear hn
 clear hF hD
 clear lt_hp
 clear lt_hq
 clear lt_hz1
 clear lt_hz2
 clear lt_hz3
 clear lt_hz4
 clear kb0
 apply wpTail_call
 case hi=>rfl
 case hw=>kernel_rfl
 case h =>
 intro K hK
 have c9_:=hz1.facts
 go_big_op
 have ho:=Bk.only w_14 (w.heap.size+1+1) sb_hz3 (.slice o_hz3 n_hz3 c_hz3)
 have hbx_:=hz1.bx
 replace ha:=ha.frame hbx_ ho
 replace hb':=hb'.frame hbx_ ho
 replace hp:=hp.frame ho (by first | assumption | (apply Ne.symm;assumption) | (simp;done) | omega)
 replace hq:=hq.frame ho (by first | assumption | (apply Ne.symm;assumption) | (simp;done) | omega)
 replace hz2:=hz2.frame ho (by first | assumption | (apply Ne.symm;assumption) | (simp;done) | omega)
 replace g4:=g4.frame hbx_ ho
 replace g5:=g5.frame hbx_ ho
 replace hz3:=hz3.frame ho (by first | assumption | (apply Ne.symm;assumption) | (simp;done) | omega)
 replace hz4:=hz4.frame ho (by first | assumption | (apply Ne.symm;assumption) | (simp;done) | omega)
 replace g6:=g6.frame hbx_ ho
 replace g7:=g7.frame hbx_ ho
 replace hz1:=hz1.store sb_hz3 (.slice o_hz3 n_hz3 c_hz3)
 replace hb:=(hb.setCell (p:=⟨w.heap.size+1+1,0,none⟩) (show w.heap.size≤w.heap.size+1+1 by first | assumption | (simp;done) | omega) (.bool sb_hz3)).setCell (p:=⟨w.heap.size+1+1,1,none⟩) (show w.heap.size≤w.heap.size+1+1 by first | assumption | (simp;done) | omega) (.slice o_hz3 n_hz3 c_hz3)
 refine hK _ _ rfl (ai (ai hp.facts.1 hp.facts.2.1) (ai (ai hq.facts.1 hq.facts.2.1) (ai (ai hz3.facts.1 hz3.facts.2.1) trivial))) ?_
 clear hK K hbx_ ho c9_
 obtain⟨sb_hz2,o_hz2,n_hz2,c_hz2,rfl⟩:=g7.open2
 apply wpTail_call
 case hi=>rfl
 case hw=>kernel_rfl
 case h =>
 intro K hK
 have c9_:=hz2.facts
 go_big_op
 have ho:=Bk.only ((w_14.setCell ⟨w.heap.size+1+1,0,none⟩ (.bool sb_hz3)).setCell ⟨w.heap.size+1+1,1,none⟩ (.slice o_hz3 n_hz3 c_hz3)) (w.heap.size+1+1+1) sb_hz2 (.slice o_hz2 n_hz2 c_hz2)
 have hbx_:=hz2.bx
 replace ha:=ha.frame hbx_ ho
 replace hb':=hb'.frame hbx_ ho
 replace hp:=hp.frame ho (by first | assumption | (apply Ne.symm;assumption) | (simp;done) | omega)
 replace hq:=hq.frame ho (by first | assumption | (apply Ne.symm;assumption) | (simp;done) | omega)
 replace hz1:=hz1.frame ho (by first | assumption | (apply Ne.symm;assumption) | (simp;done) | omega)
 replace g4:=g4.frame hbx_ ho
 replace g5:=g5.frame hbx_ ho
 replace hz3:=hz3.frame ho (by first | assumption | (apply Ne.symm;assumption) | (simp;done) | omega)
 replace hz4:=hz4.frame ho (by first | assumption | (apply Ne.symm;assumption) | (simp;done) | omega)
 replace g6:=g6.frame hbx_ ho
 replace g7:=g7.frame hbx_ ho
 replace hz2:=hz2.store sb_hz2 (.slice o_hz2 n_hz2 c_hz2)
 replace hb:=(hb.setCell (p:=⟨w.heap.size+1+1+1,0,none⟩) (show w.heap.size≤w.heap.size+1+1+1 by first | assumption | (simp;done) | omega) (.bool sb_hz2)).setCell (p:=⟨w.heap.size+1+1+1,1,none⟩) (show w.heap.size≤w.heap.size+1+1+1 by first | assumption | (simp;done) | omega) (.slice o_hz2 n_hz2 c_hz2)
 refine hK _ _ rfl (ai (ai hp.facts.1 hp.facts.2.1) (ai (ai hq.facts.1 hq.facts.2.1) (ai (ai hz3.facts.1 hz3.facts.2.1) trivial))) ?_
 clear hK K hbx_ ho c9_
 apply wpTail_end
 have f1:=hz1.facts
 have f2:=hz2.facts
 go_wp2
 refine bodyPost_ret (v:=.tuple #[.agg #[.bool sb_hz3,.slice o_hz3 n_hz3 c_hz3],.agg #[.bool sb_hz2,.slice o_hz2 n_hz2 c_hz2]]) (by simp[results,Tryz.results170,go_sem,f1.1,f1.2.1,f2.1,f2.2.1]) rfl ?_
 exact⟨_,_,rfl,g4,g7,hb⟩
set_option maxHeartbeats 4000000
set_option maxRecDepth 20000
theorem rnd_mul {N z:Int} (h:0<N):rnd (N*z) N=z:=by
 unfold rnd
 have e:2*(N*z)+N=N+(2*N)*z:=by grind
 rw[e,Int.add_mul_fdiv_left _ _ (by omega),Int.fdiv_eq_ediv_of_nonneg _ (by omega),Int.ediv_eq_zero_of_lt (by omega) (by omega),Int.zero_add]
theorem gQ_div {q z:Int × Int} (h0:gN q.1 q.2≠0):gQ1 (mP q z).1 (mP q z).2 q.1 q.2=z.1∧gQ2 (mP q z).1 (mP q z).2 q.1 q.2=z.2:=by
 have hp:0<gN q.1 q.2:=by have:=gN_nonneg q.1 q.2;omega
 have e1:gT1 (mP q z).1 (mP q z).2 q.1 q.2=gN q.1 q.2*z.1:=by unfold gT1 mP gN;grind
 have e2:gT2 (mP q z).1 (mP q z).2 q.1 q.2=gN q.1 q.2*z.2:=by unfold gT2 mP gN;grind
 unfold gQ1 gQ2
 rw[e1,e2,rnd_mul hp,rnd_mul hp]
 exact⟨rfl,rfl⟩
theorem gR_div {q z:Int × Int} (h0:gN q.1 q.2≠0):gR1 (mP q z).1 (mP q z).2 q.1 q.2=0∧gR2 (mP q z).1 (mP q z).2 q.1 q.2=0:=by
 unfold gR1 gR2
 rw[(gQ_div h0).1,(gQ_div h0).2]
 unfold mP
 constructor <;> (simp only[];grind)
section
variable {w:World} {va vb:Value} {x y u v:Int} {l m k n:Nat} {q z:Int × Int}
theorem rgRoundX (ha:PN w va x l y m) (hq:PN w vb u k v n) (hl:l≤9000000) (hm:m≤9000000) (hk:k≤4500000) (hn:n≤4500000) (h0:gN u v≠0) :
  Calls Tryz.prog 159 #[va,vb] w fun e w'=>∃r s,e = .returned (.tuple #[r,s])∧PC w' r (gQ1 x y u v) (gQ2 x y u v)∧PC w' s (gR1 x y u v) (gR2 x y u v)∧Below w.heap.size w w':=by
 have H0:=hide h0
 clear h0
 unfold gR1 gR2 gQ1 gQ2 gT1 gT2
 obtain⟨n_0a,o_0a,k_0a,c_0a,n_0b,o_0b,k_0b,c_0b,rfl,ha1,ha2⟩:=ha
 obtain⟨n_1a,o_1a,k_1a,c_1a,n_1b,o_1b,k_1b,c_1b,rfl,hq1,hq2⟩:=hq
 go_enter Tryz.func159,Tryz.ntmps159
 have hs:=St.nil w
 refine zk fun K1 hK1=>rg [0,1,2,3] ?_
 refine sq ?_
 refine .al hs ?_;clear hs;intro p_b1 w_1 hs n1 kb_b1
 refine sq ?_
 refine .al hs ?_;clear hs;intro p_b2 w_2 hs n2 kb_b2
 refine sq ?_
 refine .al hs ?_;clear hs;intro p_b3 w_3 hs n3 kb_b3
 refine sq ?_
 refine .al hs ?_;clear hs;intro p_b4 w_4 hs n4 kb_b4
 refine ze (hK1 _ _ ?_)
 refine zk fun K2 hK2=>rg [0,1,2,3] ?_
 refine sq ?_
 refine .r4 hs.g2.f4 ?_
 refine sq ?_
 intro K hK
 have k0_4:=(((kb n1).b n2).b n3).b n4
 replace hq1:=hq1.k k0_4
 replace hq2:=hq2.k k0_4
 go_big_op
 go_fit (rgNorm_any (PN.mk' hq1 hq2) (by omega) (by omega) )
 rintro e w_5 ⟨v_g2,rfl,g2,hb_5⟩
 replace hs:=hs.bl hb_5
 obtain⟨n_g2,o_g2,k_g2,c_g2,rfl⟩:=g2.open2
 have Lg2:=hide (g2.lenOf (zlen_add (zlen_mul (hq1.len) (hq1.len)) (zlen_mul (hq2.len) (hq2.len))))
 refine hK _ _ rfl trivial ?_
 clear hK K
 refine sq ?_
 refine .al hs ?_;clear hs;intro p_b5 w_6 hs n6 kb_b5
 refine sq ?_
 refine .s2 hs.g0 (fun _=>hs.u0 kb_b5) ?_;clear hs;intro w_7 hs hd7 ho7
 refine ze (hK2 _ _ ?_)
 refine zk fun K3 hK3 => ?_
 refine wp_region_f4 [(0,false),(1,false),(2,true),(3,true)] [5] [4] (fun j=>(.cells #[.bool false,.slice none 0 0,.bool false,.slice none 0 0] 45)) [0,1,99,99,99,99] [] (.c hs.g4 (.c hs.g3 .n)) (fm fn) fun w_8 n8 => ?_
 replace hs:=hs.bl n8
 have hlB:=hs.lt;have hkB:=hs.k
 refine f4 ?_
 refine f4 ?_
 refine fl fun w_9 n9 => ?_
 replace hs:=hs.bl n9
 intro K hK
 have k4_9:=((((kb hb_5).b n6).o hd7 ho7).b n8).b n9
 replace hq1:=hq1.k k4_9
 replace hq2:=hq2.k k4_9
 go_big_op
 go_fit (rgConj_any (PN.mk' hq1 hq2) (by omega) (by omega) )
 rintro e w_10 ⟨_,rfl,⟨n_g1a,o_g1a,k_g1a,c_g1a,n_g1b,o_g1b,k_g1b,c_g1b,rfl,g11,g12⟩,hb_10⟩
 replace hs:=hs.bl hb_10
 have Lg11:=hide (g11.lenOf ((hq1.len)))
 have Lg12:=hide (g12.lenOf (zlen_neg (hq2.len)))
 refine hK _ _ rfl ⟨hb_10,(ai hs.g4 (ai hs.g3 trivial))⟩ ?_
 clear hK K
 refine fl fun w_11 n11 => ?_
 replace hs:=hs.bl n11
 intro K hK
 have k0_11:=((((((k0_4.b hb_5).b n6).o hd7 ho7).b n8).b n9).b hb_10).b n11
 replace ha1:=ha1.k k0_11
 replace ha2:=ha2.k k0_11
 have k10_11:=kb n11
 replace g11:=g11.k k10_11
 replace g12:=g12.k k10_11
 go_big_op
 go_fit (rgMul_any (PN.mk' ha1 ha2) (PN.mk' (g11.zn Lg11.out) (g12.zn Lg12.out)) (by omega) (by omega) (by omega) (by omega) )
 rintro e w_12 ⟨_,rfl,⟨n_g0a,o_g0a,k_g0a,c_g0a,n_g0b,o_g0b,k_g0b,c_g0b,rfl,g01,g02⟩,hb_12⟩
 replace hs:=hs.bl hb_12
 have Lg01:=hide (g01.lenOf (zlen_sub (zlen_mul (ha1.len) (Lg11.out)) (zlen_mul (ha2.len) (Lg12.out))))
 have Lg02:=hide (g02.lenOf (zlen_add (zlen_mul (ha1.len) (Lg12.out)) (zlen_mul (ha2.len) (Lg11.out))))
 refine hK _ _ rfl ⟨hb_12,(ai hs.g4 (ai hs.g3 trivial))⟩ ?_
 clear hK K
 refine e1 hs hlB hkB ?_;clear hs hlB hkB;intro w_13 p_b6 hs n13 kb_b6
 refine tl ?_
 refine .s4 hs.g0 (fun _=>hs.u0 kb_b6) ?_ (e:=fun _ hs=>(ai hs.g5 (ai hs.g4 trivial)));clear hs;intro w_14 hs hd14 ho14
 apply wpTail_end
 refine hK3 _ _ ?_
 refine zk fun K4 hK4=>rg [0,1,2,3,4,5,6,7,8,9,10] ?_
 refine sr ?_
 refine sq ?_
 refine .r4 hs.g0.f4 ?_
 refine sq ?_
 refine .r2 hs.g1.f2 ?_
 refine sq ?_
 intro K hK
 have k12_14:=(kb n13).o hd14 ho14
 replace g01:=g01.k k12_14
 have k5_14:=((((((((kb n6).o hd7 ho7).b n8).b n9).b hb_10).b n11).b hb_12).b n13).o hd14 ho14
 replace g2:=g2.k k5_14
 go_big_op
 go_fit (rround_big (g01.zn Lg01.out) (g2.zn Lg2.out) (by omega) (by omega) H0.out)
 rintro e w_15 ⟨v_g3,v_g4,rfl,g3,g4,hb_15⟩
 replace hs:=hs.bl hb_15
 obtain⟨n_g3,o_g3,k_g3,c_g3,rfl⟩:=g3.open2
 obtain⟨n_g4,o_g4,k_g4,c_g4,rfl⟩:=g4.open2
 have Lg3:=hide (g3.lenOf (rnd_len (H0.out) (Lg01.out)))
 refine hK _ _ rfl trivial ?_
 clear hK K
 refine xmr ?_
 refine sr ?_
 refine sq ?_
 refine .al hs ?_;clear hs;intro p_b7 w_16 hs n16 kb_b7
 refine sq ?_
 refine .al hs ?_;clear hs;intro p_b8 w_17 hs n17 kb_b8
 refine sq ?_
 refine .s2 hs.g1 (fun _=>hs.u1 kb_b7) ?_;clear hs;intro w_18 hs hd18 ho18
 refine sq ?_
 refine .s2 hs.g0 (fun _=>hs.u0 kb_b8) ?_;clear hs;intro w_19 hs hd19 ho19
 refine ze (hK4 _ _ ?_)
 refine zk fun K5 hK5=>rg [0,1,2,3,4,5,6,7,8,9,10] ?_
 refine sr ?_
 refine sq ?_
 refine .r4 hs.g2.f4 ?_
 refine sq ?_
 refine .r2 hs.g3.f2 ?_
 refine sq ?_
 intro K hK
 have k12_19:=((((k12_14.b hb_15).b n16).b n17).o hd18 ho18).o hd19 ho19
 replace g02:=g02.k k12_19
 have k14_19:=((((kb hb_15).b n16).b n17).o hd18 ho18).o hd19 ho19
 replace g2:=g2.k k14_19
 go_big_op
 go_fit (rround_big (g02.zn Lg02.out) (g2.zn Lg2.out) (by omega) (by omega) H0.out)
 rintro e w_20 ⟨v_g5,v_g6,rfl,g5,g6,hb_20⟩
 replace hs:=hs.bl hb_20
 obtain⟨n_g5,o_g5,k_g5,c_g5,rfl⟩:=g5.open2
 obtain⟨n_g6,o_g6,k_g6,c_g6,rfl⟩:=g6.open2
 have Lg5:=hide (g5.lenOf (rnd_len (H0.out) (Lg02.out)))
 refine hK _ _ rfl trivial ?_
 clear hK K
 refine xmr ?_
 refine sr ?_
 refine sq ?_
 refine .al hs ?_;clear hs;intro p_b9 w_21 hs n21 kb_b9
 clear g11 g12 g01 g4 g2 g02
 refine sq ?_
 refine .al hs ?_;clear hs;intro p_b10 w_22 hs n22 kb_b10
 refine sq ?_
 refine .s2 hs.g1 (fun _=>hs.u1 kb_b9) ?_;clear hs;intro w_23 hs hd23 ho23
 refine sq ?_
 refine .s2 hs.g0 (fun _=>hs.u0 kb_b10) ?_;clear hs;intro w_24 hs hd24 ho24
 refine ze (hK5 _ _ ?_)
 refine zk fun K6 hK6=>rg [0,1,2,3,4] ?_
 refine sq ?_
 refine .r2 hs.g3.f2 ?_
 refine sq ?_
 refine .r2 hs.g1.f2 ?_
 refine sr ?_
 refine sq ?_
 refine .al hs ?_;clear hs;intro p_b11 w_25 hs n25 kb_b11
 refine sq ?_
 refine .s4 hs.g0 (fun _=>hs.u0 kb_b11) ?_;clear hs;intro w_26 hs hd26 ho26
 refine ze (hK6 _ _ ?_)
 refine zk fun K7 hK7 => ?_
 refine wp_region_f4 [(0,false),(1,false),(2,false),(3,false),(4,true),(5,true)] [6,7] [] (fun _=>default) [0,1,0,2,99,99,99,99] [] (.c hs.g0 (.c hs.g10 (.c hs.g9 .n))) fn fun w_27 n27 => ?_
 replace hs:=hs.bl n27
 refine f4 ?_
 refine f4 ?_
 refine f4 ?_
 refine f4 ?_
 refine fl fun w_28 n28 => ?_
 replace hs:=hs.bl n28
 intro K hK
 have k15_28:=((((((((((((kb n16).b n17).o hd18 ho18).o hd19 ho19).b hb_20).b n21).b n22).o hd23 ho23).o hd24 ho24).b n25).o hd26 ho26).b n27).b n28
 replace g3:=g3.k k15_28
 have k20_28:=(((((((kb n21).b n22).o hd23 ho23).o hd24 ho24).b n25).o hd26 ho26).b n27).b n28
 replace g5:=g5.k k20_28
 have k9_28:=((((((((((((((((((kb hb_10).b n11).b hb_12).b n13).o hd14 ho14).b hb_15).b n16).b n17).o hd18 ho18).o hd19 ho19).b hb_20).b n21).b n22).o hd23 ho23).o hd24 ho24).b n25).o hd26 ho26).b n27).b n28
 replace hq1:=hq1.k k9_28
 replace hq2:=hq2.k k9_28
 go_big_op
 go_fit (rgMul_any (PN.mk' (g3.zn Lg3.out) (g5.zn Lg5.out)) (PN.mk' hq1 hq2) (by omega) (by omega) (by omega) (by omega) )
 rintro e w_29 ⟨_,rfl,⟨n_g7a,o_g7a,k_g7a,c_g7a,n_g7b,o_g7b,k_g7b,c_g7b,rfl,g71,g72⟩,hb_29⟩
 replace hs:=hs.bl hb_29
 have Lg71:=hide (g71.lenOf (zlen_sub (zlen_mul (Lg3.out) (hq1.len)) (zlen_mul (Lg5.out) (hq2.len))))
 have Lg72:=hide (g72.lenOf (zlen_add (zlen_mul (Lg3.out) (hq2.len)) (zlen_mul (Lg5.out) (hq1.len))))
 refine hK _ _ rfl ⟨hb_29,(ai hs.g0 (ai hs.g10 (ai hs.g9 trivial)))⟩ ?_
 clear hK K
 refine fl fun w_30 n30 => ?_
 replace hs:=hs.bl n30
 intro K hK
 have k11_30:=((((((((((((((((((kb hb_12).b n13).o hd14 ho14).b hb_15).b n16).b n17).o hd18 ho18).o hd19 ho19).b hb_20).b n21).b n22).o hd23 ho23).o hd24 ho24).b n25).o hd26 ho26).b n27).b n28).b hb_29).b n30
 replace ha1:=ha1.k k11_30
 replace ha2:=ha2.k k11_30
 have k29_30:=kb n30
 replace g71:=g71.k k29_30
 replace g72:=g72.k k29_30
 go_big_op
 go_fit (rgSub_any (PN.mk' ha1 ha2) (PN.mk' (g71.zn Lg71.out) (g72.zn Lg72.out)) (by omega) (by omega) (by omega) (by omega) )
 rintro e w_31 ⟨_,rfl,⟨n_g8a,o_g8a,k_g8a,c_g8a,n_g8b,o_g8b,k_g8b,c_g8b,rfl,g81,g82⟩,hb_31⟩
 replace hs:=hs.bl hb_31
 refine hK _ _ rfl ⟨hb_31,(ai hs.g0 (ai hs.g10 (ai hs.g9 trivial)))⟩ ?_
 clear hK K
 refine e0 hs ?_;clear hs;intro w_32 hs n32
 refine tl ?_
 refine .s4 hs.g8 (fun _=>hs.u8 kb_b3) ?_ (e:=fun _ hs=>(ai hs.g0 (ai hs.g10 (ai hs.g9 trivial))));clear hs;intro w_33 hs hd33 ho33
 refine tl ?_
 refine .s4 hs.g7 (fun _=>hs.u7 kb_b4) ?_ (e:=fun _ hs=>(ai hs.g0 (ai hs.g10 (ai hs.g9 trivial))));clear hs;intro w_34 hs hd34 ho34
 apply wpTail_end
 refine hK7 _ _ ?_
 refine wp_ret ?_
 try dsimp only [Exit.then,Exit.inBlock]
 obtain⟨r0_0,r0_1,r0_2,r0_3⟩:=hs.g8.f4
 obtain⟨r4_0,r4_1,r4_2,r4_3⟩:=hs.g7.f4
 refine bodyPost_ret (v:=(.tuple #[(.agg #[.bool n_g3,.slice o_g3 k_g3 c_g3,.bool n_g5,.slice o_g5 k_g5 c_g5]),(.agg #[.bool n_g8a,.slice o_g8a k_g8a c_g8a,.bool n_g8b,.slice o_g8b k_g8b c_g8b])])) (by simp[results,Tryz.results159,go_sem,r0_0,r0_1,r0_2,r0_3,r4_0,r4_1,r4_2,r4_3]) rfl ?_
 have k28_34:=(((((kb hb_29).b n30).b hb_31).b n32).o hd33 ho33).o hd34 ho34
 replace g3:=g3.k k28_34
 replace g5:=g5.k k28_34
 have k31_34:=((kb n32).o hd33 ho33).o hd34 ho34
 replace g81:=g81.k k31_34
 replace g82:=g82.k k31_34
 exact⟨_,_,rfl,.mk' g3 g5,.mk' g81 g82,hs.b⟩
theorem rgRound_div (ha:PN w va (mP q z).1 l (mP q z).2 m) (hq:PN w vb q.1 k q.2 n) (hl:l≤9000000) (hm:m≤9000000) (hk:k≤4500000) (hn:n≤4500000) (h0:gN q.1 q.2≠0) :
  Calls Tryz.prog 159 #[va,vb] w fun e w'=>∃r s,e = .returned (.tuple #[r,s])∧PC w' r z.1 z.2∧PC w' s 0 0∧Below w.heap.size w w':=by
 have:=rgRoundX ha hq hl hm hk hn h0
 rw[(gQ_div h0).1,(gQ_div h0).2,(gR_div h0).1,(gR_div h0).2] at this
 exact this
theorem rgExact_div (ha:PN w va (mP q z).1 l (mP q z).2 m) (hq:PN w vb q.1 k q.2 n) (hl:l≤9000000) (hm:m≤9000000) (hk:k≤4500000) (hn:n≤4500000) (h0:gN q.1 q.2≠0) :
  Calls Tryz.prog 125 #[va,vb] w fun e w'=>∃r,e = .returned (.tuple #[r,.bool true])∧PC w' r z.1 z.2∧Below w.heap.size w w':=by
 have HC:=hide (fun (w1:World) (va:Value) (h1:PN w1 va (mP q z).1 l (mP q z).2 m) (vb:Value) (h2:PN w1 vb q.1 k q.2 n)=>rgRound_div h1 h2 hl hm hk hn h0)
 clear h0
 obtain⟨X,hX⟩:∃X,(mP q z).1=X:=⟨_,rfl⟩
 obtain⟨Y,hY⟩:∃Y,(mP q z).2=Y:=⟨_,rfl⟩
 obtain⟨U,hU⟩:∃U,q.1=U:=⟨_,rfl⟩
 obtain⟨V,hV⟩:∃V,q.2=V:=⟨_,rfl⟩
 rw[hX,hY] at ha HC
 rw[hU,hV] at hq HC
 clear hX hY hU hV
 obtain⟨n_0a,o_0a,k_0a,c_0a,n_0b,o_0b,k_0b,c_0b,rfl,ha1,ha2⟩:=ha
 obtain⟨n_1a,o_1a,k_1a,c_1a,n_1b,o_1b,k_1b,c_1b,rfl,hq1,hq2⟩:=hq
 go_enter Tryz.func125,Tryz.ntmps125
 have hs:=St.nil w
 refine zk fun K1 hK1=>rg [0,1,2,3] ?_
 refine sq ?_
 refine .al hs ?_;clear hs;intro p_b1 w_1 hs n1 kb_b1
 refine sq ?_
 refine .al hs ?_;clear hs;intro p_b2 w_2 hs n2 kb_b2
 refine sq ?_
 refine .al hs ?_;clear hs;intro p_b3 w_3 hs n3 kb_b3
 refine sm (ze (hK1 _ _ ?_))
 refine zk fun K2 hK2=>rg [0,1,2,3,4,5,6,7,8,9] ?_
 refine sq ?_
 refine .r4 hs.g2.f4 ?_
 refine sq ?_
 refine .r4 hs.g1.f4 ?_
 refine sq ?_
 intro K hK
 have k0_3:=((kb n1).b n2).b n3
 replace ha1:=ha1.k k0_3
 replace ha2:=ha2.k k0_3
 replace hq1:=hq1.k k0_3
 replace hq2:=hq2.k k0_3
 go_big_op
 go_fit (HC.out _ _ (.mk' ha1 ha2) _ (.mk' hq1 hq2))
 rintro e w_4 ⟨_,_,rfl,⟨n_ra,o_ra,k_ra,c_ra,n_rb,o_rb,k_rb,c_rb,rfl,r1,r2⟩,⟨n_sa,o_sa,k_sa,c_sa,n_sb,o_sb,k_sb,c_sb,rfl,s1,s2⟩,hb_4⟩
 replace hs:=hs.bl hb_4
 have Ls1:=hide (s1.lenOf (zlen_0))
 have Ls2:=hide (s2.lenOf (zlen_0))
 refine hK _ _ rfl trivial ?_
 clear hK K
 refine xmr ?_
 refine sr ?_
 refine sq ?_
 refine .al hs ?_;clear hs;intro p_b4 w_5 hs n5 kb_b4
 refine sq ?_
 refine .al hs ?_;clear hs;intro p_b5 w_6 hs n6 kb_b5
 refine sq ?_
 refine .s4 hs.g1 (fun _=>hs.u1 kb_b4) ?_;clear hs;intro w_7 hs hd7 ho7
 refine sq ?_
 refine .s4 hs.g0 (fun _=>hs.u0 kb_b5) ?_;clear hs;intro w_8 hs hd8 ho8
 refine ze (hK2 _ _ ?_)
 refine zk fun K3 hK3 => ?_
 refine wp_region_f4 [(0,false),(1,false),(2,true)] [3,4] [] (fun _=>default) [0,1,99,99,99] [] (.c hs.g1 (.c hs.g0 .n)) fn fun w_9 n9 => ?_
 replace hs:=hs.bl n9
 refine f4 ?_
 refine f4 ?_
 refine fl fun w_10 n10 => ?_
 replace hs:=hs.bl n10
 intro K hK
 have k4_10:=(((((kb n5).b n6).o hd7 ho7).o hd8 ho8).b n9).b n10
 replace s1:=s1.k k4_10
 replace s2:=s2.k k4_10
 go_big_op
 go_fit (rgNull_yes (.mk' (s1.zn Ls1.out) (s2.zn Ls2.out)) (by decide) (by decide))
 rintro e w_11 ⟨rfl,hb_11⟩
 replace hs:=hs.bl hb_11
 refine hK _ _ rfl ⟨hb_11,(ai hs.g1 (ai hs.g0 trivial))⟩ ?_
 clear hK K
 refine e0 hs ?_;clear hs;intro w_12 hs n12
 refine tl ?_
 refine .s4 hs.g2 (fun _=>hs.u2 kb_b3) ?_ (e:=fun _ hs=>(ai hs.g1 (ai hs.g0 trivial)));clear hs;intro w_13 hs hd13 ho13
 refine tl ?_
 refine .mv ?_ (e:=(ai hs.g1 (ai hs.g0 trivial)))
 apply wpTail_end
 refine hK3 _ _ ?_
 refine wp_ret ?_
 try dsimp only [Exit.then,Exit.inBlock]
 obtain⟨r0_0,r0_1,r0_2,r0_3⟩:=hs.g2.f4
 refine bodyPost_ret (v:=(.tuple #[(.agg #[.bool n_ra,.slice o_ra k_ra c_ra,.bool n_rb,.slice o_rb k_rb c_rb]),(.bool true)])) (by simp[results,Tryz.results125,go_sem,r0_0,r0_1,r0_2,r0_3]) rfl ?_
 have k4_13:=((k4_10.b hb_11).b n12).o hd13 ho13
 replace r1:=r1.k k4_13
 replace r2:=r2.k k4_13
 exact⟨_,rfl,.mk' r1 r2,hs.b⟩
end
section
variable {n W c k p i j:Nat} {A0 A F:Nat→Nat→Int × Int} {g:Nat→Nat} {odd:Bool}
def Pmr (n:Nat) (A0 A:Nat→Nat→Int × Int):Prop:=∃u u':Nat→Nat,(∀i j,A i j=A0 (u i) j)∧∀i,(i<n→u i<n∧u' i<n)∧u (u' i)=i∧u' (u i)=i
theorem Pmr.swr (hp:Pmr n A0 A) (hi:i<n) (hk:k<n):Pmr n A0 (fun r q=>A (swr i k r) q):=by
 obtain⟨u,u',hA,hu⟩:=hp
 refine⟨fun r=>u (Go.Proofs.YthmolpepinolkaaGreat.swr i k r),fun r=>Go.Proofs.YthmolpepinolkaaGreat.swr i k (u' r),fun r q=>hA _ _,fun r=>⟨fun hr=>⟨((hu _).1 (swr_lt hi hk hr)).1,swr_lt hi hk ((hu r).1 hr).2⟩,?_,?_⟩⟩
 ·simp only[swr_inv];exact(hu r).2.1
 ·simp only[(hu _).2.2,swr_inv]
structure EInv (n W:Nat) (A0:Nat→Nat→Int × Int) (c k:Nat) (A F:Nat→Nat→Int × Int) (g:Nat→Nat) (odd:Bool):Prop where
 kn:k≤n
 kc:k≤c
 cW:c≤W
 mono:∀x,x<k→g x<c∧∀y,y<x→g y<g x
 dne:Dt.det k (fun r x=>A r (g x))≠0
 pm:Pmr n A0 A
 sgn:Dt.det n A=sgb odd (Dt.det n A0)
 low:∀q,q<c→∀r,r<n→Dt.Dg k A g r q=0
 tab:∀r,k≤r→r<n→∀q,c≤q→q<W→F r q=Dt.Dg k A g r q
theorem EInv.start:EInv n W A0 0 0 A0 A0 id false :=
 ⟨Nat.zero_le _,Nat.le_refl _,Nat.zero_le _,fun x hx=>absurd hx (Nat.not_lt_zero _),one_ne,⟨id,id,fun _ _=>rfl,fun i=>⟨fun h=>⟨h,h⟩,rfl,rfl⟩⟩,rfl,fun q hq=>absurd hq (Nat.not_lt_zero _),fun r _ _ q _ _=>Dt.Dg_0.symm⟩
theorem EInv.skip (h:EInv n W A0 c k A F g odd) (hc:c<W) (hz:∀r,k≤r→r<n→F r c=(0,0)):EInv n W A0 (c+1) k A F g odd :=
 ⟨h.kn,by have:=h.kc;omega,hc,fun x hx=>⟨by have:=(h.mono x hx).1;omega,(h.mono x hx).2⟩,h.dne,h.pm,h.sgn,fun q hq r hr=>by
  rcases Nat.lt_or_ge q c with e | e
  ·exact h.low q e r hr
  ·obtain rfl:q=c:=by omega
   by_cases e2:r<k
   ·exact Dt.Dg_row0 e2
   ·rw[←h.tab r (by omega) hr q nl hc];exact hz r (by omega) hr,
  fun r h1 h2 q h3 h4=>h.tab r h1 h2 q (by omega) h4⟩
def gup (g:Nat→Nat) (k c x:Nat):Nat:=if x=k then c else g x
theorem gup_k:gup g k c k=c:=by unfold gup;rw[if_pos rfl]
theorem gup_lt {x:Nat} (hx:x<k):gup g k c x=g x:=by unfold gup;rw[if_neg (by omega)]
theorem Dg_gup {r q:Nat}:Dt.Dg k A (gup g k c) r q=Dt.Dg k A g r q:=by
 unfold Dt.Dg Dt.D
 refine Dt.det_congr fun x _ y hy => ?_
 have:Dt.gx k (gup g k c) q (Dt.bord k k y)=Dt.gx k g q (Dt.bord k k y):=by
  unfold Dt.gx
  split
  ·rename_i h;rw[gup_lt h]
  ·rfl
 show A _ _=A _ _
 rw[this]
theorem Dg_swr (hp:k≤p) {r q:Nat}:Dt.Dg k (fun r q=>A (swr p k r) q) g r q=Dt.Dg k A g (swr p k r) q:=by
 unfold Dt.Dg Dt.D
 refine Dt.det_congr fun x _ y _ => ?_
 show A (swr p k (Dt.bord k r x)) _=A (Dt.bord k (swr p k r) x) _
 congr 1
 unfold Dt.bord
 by_cases h:x<k
 ·rw[if_pos h,if_pos h,swr_low hp h]
 ·rw[if_neg h,if_neg h]
theorem Dg_col0 {x r:Nat} (hx:x<k):Dt.Dg k A g r (g x)=0:=by
 unfold Dt.Dg Dt.D
 refine Dt.det_coleq (c1:=x) (c2:=k) hx (by omega) fun i _ => ?_
 have e1:Dt.gx k g (g x) (Dt.bord k k x)=g x:=by unfold Dt.gx Dt.bord;rw[if_pos hx,if_pos hx]
 have e2:Dt.gx k g (g x) (Dt.bord k k k)=g x:=by unfold Dt.gx Dt.bord;rw[if_neg (Nat.lt_irrefl _),if_neg (Nat.lt_irrefl _)]
 show A _ _=A _ _
 rw[e1,e2]
def Gel (k c:Nat) (A:Nat→Nat→Int × Int) (g:Nat→Nat) (F:Nat→Nat→Int × Int) (i j:Nat):Nat→Nat→Int × Int:=fun p q =>
 if k<p∧((p<i∧c≤q)∨(p=i∧c<q∧q<j)) then (if q=c then (0,0) else Dt.Dg (k+1) A g p q) else F p q
theorem Gel_0 {n W:Nat}:mkM n W F=mkM n W (Gel k c A g F (k+1) (c+1)):=mkM_eq rfl rfl fun p _ q _=>by unfold Gel;rw[if_neg (by omega)]
theorem Gel_here:Gel k c A g F i j i j=F i j:=by unfold Gel;rw[if_neg (by omega)]
theorem Gel_c:Gel k c A g F i j i c=F i c:=by unfold Gel;rw[if_neg (by omega)]
theorem Gel_up {q:Nat}:Gel k c A g F i j k q=F k q:=by unfold Gel;rw[if_neg (by omega)]
theorem Gel_step (hi:k<i) (hj:c<j):upd (Gel k c A g F i j) i j (Dt.Dg (k+1) A g i j)=Gel k c A g F i (j+1):=by
 funext p q
 unfold upd Gel
 by_cases h:p=i∧q=j
 ·rw[if_pos h,if_pos (by omega),if_neg (by omega),h.1,h.2]
 ·rw[if_neg h]
  by_cases h2:k<p∧((p<i∧c≤q)∨(p=i∧c<q∧q<j))
  ·have h3:k<p∧((p<i∧c≤q)∨(p=i∧c<q∧q<j+1)):=by omega
   rw[if_pos h2,if_pos h3]
  ·rw[if_neg h2,if_neg (by omega)]
theorem Gel_row {n W:Nat} (hi:k<i):mkM n W (upd (Gel k c A g F i W) i c (0,0))=mkM n W (Gel k c A g F (i+1) (c+1)):=mkM_eq rfl rfl fun p _ q hq=>by
 unfold upd Gel
 by_cases h:p=i∧q=c
 ·rw[if_pos h,if_pos (by omega),if_pos h.2]
 ·rw[if_neg h]
  by_cases h2:k<p∧((p<i∧c≤q)∨(p=i∧c<q∧q<W))
  ·have h3:k<p∧((p<i+1∧c≤q)∨(p=i+1∧c<q∧q<c+1)):=by omega
   rw[if_pos h2,if_pos h3]
  ·rw[if_neg h2,if_neg (by omega)]
theorem det_row_swr (hi:i<n) (hk:k<n) (h:Dt.det n A=sgb odd (Dt.det n A0)):Dt.det n (fun r q=>A (swr i k r) q)=sgb (odd != decide (i≠k)) (Dt.det n A0):=by
 by_cases e:i=k
 ·subst e
  have e2:Dt.det n (fun r q=>A (swr i i r) q)=Dt.det n A:=Dt.det_congr fun r _ q _=>by
   have:swr i i r=r:=by unfold swr;split <;> omega
   rw[this]
  rw[e2,h];cases odd <;> simp
 ·rw[show Dt.det n (fun r q=>A (swr i k r) q) = - Dt.det n A from (Dt.alt_det (R:=Int × Int) (n:=n)).swap e hi hk A,h]
  simp only[sgb_eq]
  cases odd <;> simp[e] <;> grind
structure EMid (n W:Nat) (A0:Nat→Nat→Int × Int) (c k:Nat) (A F:Nat→Nat→Int × Int) (g:Nat→Nat) (odd:Bool):Prop where
 kn:k<n
 kc:k≤c
 cW:c<W
 mono:∀x,x<k→g x<c∧∀y,y<x→g y<g x
 gk:g k=c
 dne:Dt.det k (fun r x=>A r (g x))≠0
 pne:F k c≠(0,0)
 pm:Pmr n A0 A
 sgn:Dt.det n A=sgb odd (Dt.det n A0)
 low:∀q,q<c→∀r,r<n→Dt.Dg k A g r q=0
 tab:∀r,k≤r→r<n→∀q,c≤q→q<W→F r q=Dt.Dg k A g r q
theorem EInv.mid (h:EInv n W A0 c k A F g odd) (hc:c<W) (hp:k≤p) (hpn:p<n) (hne:F p c≠(0,0)):EMid n W A0 c k (fun r q=>A (swr p k r) q) (fun r q=>F (swr p k r) q) (gup g k c) (odd != decide (p≠k)):=by
 have hd:Dt.det k (fun r x=>A (swr p k r) (gup g k c x))=Dt.det k (fun r x=>A r (g x)):=Dt.det_congr fun r hr x hx=>by rw[swr_low hp hr,gup_lt hx]
 refine⟨by omega,h.kc,hc,fun x hx => ?_,gup_k,by rw[hd];exact h.dne,by rw[swr_k];exact hne,h.pm.swr hpn (by omega),det_row_swr hpn (by omega) h.sgn,fun q hq r hr => ?_,fun r h1 h2 q h3 h4 => ?_⟩
 ·rw[gup_lt hx];exact⟨(h.mono x hx).1,fun y hy=>by rw[gup_lt (by omega)];exact(h.mono x hx).2 y hy⟩
 ·rw[Dg_gup,Dg_swr hp];exact h.low q hq _ (swr_lt hpn (by omega) hr)
 ·rw[Dg_gup,Dg_swr hp]
  exact h.tab _ (by unfold swr;split <;> (try split) <;> omega) (swr_lt hpn (by omega) h2) q h3 h4
theorem EMid.div (h:EMid n W A0 c k A F g odd) (hi:k<i) (hin:i<n) (hj:c<j) (hjW:j<W):sP (mP (F i j) (F k c)) (mP (F i c) (F k j))=mP (Dt.det k fun r x=>A r (g x)) (Dt.Dg (k+1) A g i j):=by
 have h2:=Dt.stepG noz (k:=k) (A:=A) (g:=g) (i:=i) (j:=j) h.dne
 rw[h.gk,←h.tab k nl h.kn c nl h.cW,←h.tab i (by omega) hin j (by omega) hjW,←h.tab i (by omega) hin c nl h.cW,←h.tab k nl h.kn j (by omega) hjW] at h2
 show F i j*F k c - F i c*F k j=Dt.det k (fun r x=>A r (g x))*Dt.Dg (k+1) A g i j
 rw[h2];grind
theorem EMid.last (h:EMid n W A0 c k A F g odd):Dt.det (k+1) (fun r x=>A r (g x))=F k c:=by
 rw[←Dt.Dg_diag,h.gk,←h.tab k nl h.kn c nl h.cW]
theorem EMid.next (h:EMid n W A0 c k A F g odd):EInv n W A0 (c+1) (k+1) A (Gel k c A g F n (c+1)) g odd:=by
 refine⟨h.kn,by have:=h.kc;omega,h.cW,fun x hx => ?_,by rw[h.last];exact h.pne,h.pm,h.sgn,fun q hq r hr => ?_,fun r h1 h2 q h3 h4=>by unfold Gel;rw[if_pos (by omega),if_neg (by omega)]⟩
 ·by_cases e:x=k
  ·subst e;rw[h.gk];exact⟨by omega,fun y hy=>(h.mono y hy).1⟩
  ·have:=h.mono x (by omega);exact⟨by omega,this.2⟩
 ·rcases Nat.lt_or_ge q c with e | e
  ·exact Dt.Dg_zero noz (h:=n - 1) h.dne (fun i hi=>h.low q e i (by have:=h.kn;omega)) (by have:=h.kn;omega) (by omega)
  ·obtain rfl:q=g k:=by rw[h.gk];omega
   exact Dg_col0 (Nat.lt_succ_self k)
theorem EInv.rk (h:EInv n W A0 c k A F g odd) (he:c=W∨k=n):Dt.Rk n W A0 k:=by
 obtain⟨u,u',hA,hu⟩:=h.pm
 have:=Dt.rk_ofG (h:=n) (w:=W) h.kn (fun x hx=>by have:=(h.mono x hx).1;have:=h.cW;omega) h.dne fun i hi j hj=>by
  rcases he with e | e
  ·exact h.low j (by omega) i hi
  ·exact Dt.Dg_row0 (by omega)
 exact this.perm (u:=u) (u':=u') (v:=id) (v':=id) (fun i _ j _=>hA i j) (fun i hi=>⟨((hu i).1 hi).1,((hu i).1 hi).2,(hu i).2.1⟩) (fun i hi=>⟨hi,hi,rfl⟩)
theorem mono_id (hm:∀x,x<n→g x<n∧∀y,y<x→g y<g x):∀x,x<n→g x=x:=by
 have lo:∀x,x<n→x≤g x:=by
  intro x
  induction x with
  | zero=>intro _;omega
  | succ x ih=>intro hx;have:=ih (by omega);have:=(hm (x+1) hx).2 x (by omega);omega
 have hi:∀d x,x+d+1=n→g x≤x:=by
  intro d
  induction d with
  | zero=>intro x hx;have:=(hm x (by omega)).1;omega
  | succ d ih=>intro x hx;have:=ih (x+1) (by omega);have:=(hm (x+1) (by omega)).2 x (by omega);omega
 exact fun x hx=>Nat.le_antisymm (hi (n - x - 1) x (by omega)) (lo x hx)
theorem EInv.det (h:EInv n n A0 c k A F g odd) (hk:k=n):Dt.det n A0=sgb odd (Dt.det k fun r x=>A r (g x)):=by
 subst hk
 have e:Dt.det k (fun r x=>A r (g x))=Dt.det k A:=Dt.det_congr fun r _ x hx=>by
  rw[mono_id (n:=k) (fun x hx=>⟨by have:=(h.mono x hx).1;have:=h.cW;omega,(h.mono x hx).2⟩) x hx]
 rw[e,h.sgn]
 cases odd <;> simp[sgb]
theorem EInv.bd {L:Nat} (hB:MinB n W L A0) (hp:Pmr n A0 A) {s:Nat} (hg:∀x,x<s→g x<W) {i j:Nat} (hi:i<n) (hs:s≤n) (hj:j<W):zl L (Dt.Dg s A g i j):=by
 obtain⟨u,u',hA,hu⟩:=hp
 by_cases e:i<s
 ·rw[Dt.Dg_row0 e];exact zl_0 _
 ·have e2:Dt.Dg s A g i j=Dt.det (s+1) fun r x=>A0 (u (Dt.bord s i r)) (Dt.gx s g j (Dt.bord s s x)):=Dt.det_congr fun r _ x _=>hA _ _
  rw[e2]
  refine hB (s+1) (fun r=>u (Dt.bord s i r)) (fun x=>Dt.gx s g j (Dt.bord s s x)) (fun r hr=>⟨((hu _).1 (by unfold Dt.bord;split <;> omega)).1,?_⟩) fun r q h1 h2 h3 => ?_
  ·unfold Dt.gx
   split
   ·exact hg _ (by assumption)
   ·exact hj
  ·have h4:=congrArg u' h3
   rw[(hu _).2.2,(hu _).2.2] at h4
   unfold Dt.bord at h4
   split at h4 <;> split at h4 <;> omega
end
theorem bd_ex:∀Ms:List (List (Int × Int)),∃l,BdM l Ms
 | []=>⟨0,fun r hr=>by cases hr⟩
 | ps::t=>by
  obtain⟨l,hl⟩:=bd_ex t
  have:∀ps:List (Int × Int),∃l,Bd l ps:=by
   intro ps
   induction ps with
   | nil=>exact⟨0,fun p hp=>by cases hp⟩
   | cons p t ih =>
    obtain⟨l,hl⟩:=ih
    refine⟨l+(dig p.1.natAbs).length+(dig p.2.natAbs).length,fun q hq => ?_⟩
    rcases List.mem_cons.1 hq with rfl | hq
    ·exact⟨by omega,by omega⟩
    ·have:=hl q hq;exact⟨by omega,by omega⟩
  obtain⟨m,hm⟩:=this ps
  refine⟨l+m,fun r hr => ?_⟩
  rcases List.mem_cons.1 hr with rfl | hr
  ·exact fun p hp=>⟨by have:=(hm p hp).1;omega,by have:=(hm p hp).2;omega⟩
  ·exact fun p hp=>⟨by have:=(hl r hr p hp).1;omega,by have:=(hl r hr p hp).2;omega⟩
theorem wd_mkM2 {n W:Nat} {F:Nat→Nat→Int × Int} (h:0<n∨W=0):wd (mkM n W F)=W:=wd_mkM h
def sgz (odd:Bool):Int:=if odd then -1 else 1
section
variable {n W c k p:Nat} {A0 A F:Nat→Nat→Int × Int} {g:Nat→Nat} {odd:Bool}
theorem EInv.dk (h:EInv n W A0 c k A F g odd) (hp:k≤p):Dt.det k (fun r x=>A (swr p k r) (gup g k c x))=Dt.det k (fun r x=>A r (g x)):=Dt.det_congr fun r hr x hx=>by rw[swr_low hp hr,gup_lt hx]
theorem swr_self {r:Nat}:swr k k r=r:=by unfold swr;split <;> omega
theorem sgz_le (odd:Bool) : -1≤sgz odd∧sgz odd≤1:=by cases odd <;> decide
theorem sgz_pm (odd:Bool):sgz odd=1∨sgz odd = -1:=by cases odd;exact .inl rfl;exact .inr rfl
theorem EInv.lastbd {L:Nat} (h:EInv n W A0 c k A F g odd) (hB:MinB n W L A0) (h1:1≤L):zl L (Dt.det k fun r x=>A r (g x)):=by
 cases k with
 | zero=>exact⟨Nat.le_trans (show (dig (1:Int).natAbs).length≤1 from zlen_small8 (by decide)) h1,Nat.le_trans (show (dig (0:Int).natAbs).length≤1 from zlen_small8 (by decide)) h1⟩
 | succ k =>
  rw[←Dt.Dg_diag]
  have hx:∀x,x<k+1→g x<W:=fun x hx=>by have:=(h.mono x hx).1;have:=h.cW;omega
  exact EInv.bd hB h.pm (fun x hx'=>hx x (by omega)) (by have:=h.kn;omega) (by have:=h.kn;omega) (hx k (Nat.lt_succ_self k))
theorem sgz_mul (odd:Bool) (q:Int × Int):sgb odd q=mP q (sgz odd,0):=by
 unfold sgb sgz mP
 cases odd <;> simp
end
section
variable {w:World} {la n W L ca:Nat} {oa:Option Addr} {A:List (List (Int × Int))}
set_option maxHeartbeats 8000000 in
set_option maxRecDepth 20000 in
theorem relim_any (ha:MN la w oa A) (hna:A.length=n) (h:gd A) (hk:wd A=W) (hB:MinB n W L (at2 A)) (hL:L≤3300000) (hL1:1≤L) (hla:la≤20000000) :
  Calls Tryz.prog 75 #[.slice oa n ca] w fun e w'=>∃v1 o9 c9 v3 k z p,e = .returned (.tuple #[v1,.slice o9 k c9,v3,.int .i64 z])∧PC w' v3 p.1 p.2∧zl L p∧(z=1∨z = -1)∧k≤n∧Dt.Rk n W (at2 A) k∧(n=W→k=n→Dt.det n (at2 A)=mP p (z,0))∧Below w.heap.size w w':=by
 have HA:=hide ha
 have H:=hide h
 have HK:=hide hk
 have HB:=hide hB
 have hn64:n≤64:=by have:=h.1;omega
 have hW64:W≤64:=by have:=h.2.1;omega
 have hn0:0<n∨W=0:=by
  rcases Nat.eq_zero_or_pos n with e | e
  ·right;rw[←hk,wd_nil (hna.trans e)]
  ·exact .inl e
 have HN0:=hide hn0
 have HL4:=hide (show L≤40000000 by omega)
 have HL5:=hide (show L+L+1≤100000000 by omega)
 have HL6:=hide (show L+L+2≤9000000 by omega)
 have HL7:=hide (show L≤4500000 by omega)
 have HST:=hide (EInv.start (n:=n) (W:=W) (A0:=at2 A))
 clear ha h hk hB hn0
 go_enter Tryz.func75,Tryz.ntmps75
 have hs:=St.nil w
 refine zk fun K1 hK1=>rg [0,1,2,3] ?_
 refine xmm ?_
 refine sq ?_
 refine .al hs ?_;clear hs;intro p_b1 w_1 hs n1 kb_b1
 refine sm (ze (hK1 _ _ ?_))
 refine zk fun K2 hK2=>rg [0,1,2] ?_
 refine sm ?_
 refine sq ?_
 intro K hK
 have hb:=hs.b
 go_big_op
 go_fit (rCopy_any (HA.out.bl stab_n hb) hna H.out HK.out hla)
 rintro e w_2 ⟨o_O,c_O,rs_O,rfl,hl_O,hs_O,d_O,hb_2⟩
 clear hb
 replace hs:=hs.mx hl_O hs_O;simp only[List.cons_append,List.nil_append] at hs
 refine hK _ _ rfl trivial ?_
 clear hK K
 refine sm (ze (hK2 _ _ ?_))
 refine zk fun K3 hK3=>rg [0,1,2] ?_
 refine sq ?_
 intro K hK
 go_big_op
 go_fit (rgI_any 1 0 _ (by decide) (by decide) (by decide) (by decide))
 rintro e w_3 ⟨_,rfl,⟨n_ma,o_ma,k_ma,c_ma,n_mb,o_mb,k_mb,c_mb,rfl,m1,m2⟩,hb_3⟩
 replace hs:=hs.bl hb_3
 refine hK _ _ rfl trivial ?_
 clear hK K
 refine sq ?_
 refine .al hs ?_;clear hs;intro p_b2 w_4 hs n4 kb_b2
 refine sq ?_
 refine .s4 hs.g0 (fun _=>hs.u0 kb_b2) ?_;clear hs;intro w_5 hs hd5 ho5
 refine ze (hK3 _ _ ?_)
 refine zk fun K4 hK4=>rg [0] ?_
 refine sm (ze (hK4 _ _ ?_))
 refine zk fun K5 hK5=>rg [0] ?_
 refine sm (ze (hK5 _ _ ?_))
 refine zk fun K6 hK6 => ?_
 refine zk fun K7 hK7=>rg [0] ?_
 refine sm (ze (hK7 _ _ ?_))
 refine wp_block ?_
 have hs:=((hs.l0 3 1).perm (List.Perm.cons _ (List.Perm.swap _ _ _))).perm (List.Perm.swap _ _ _)
 have k3_5:=(kb n4).o hd5 ho5
 replace m1:=m1.k k3_5
 replace m2:=m2.k k3_5
 have k2_5:=((kb hb_3).b n4).o hd5 ho5
 replace d_O:=d_O.k k2_5
 have hd6:=hs.2.1
 go_loopg [8,9,10] W (fun kz s8 s9 s10 wr=>∃(c k:Nat) (B F:Nat→Nat→Int × Int) (g:Nat→Nat) (odd:Bool) (rs:List Rw) (o9:Option Addr) (c9:Nat) (xs:List Value) (m1 m5:Bool) (m2 m6:Option Addr) (m3 m4 m7 m8:Nat),s10 = .int .i64 (c:Int)∧s9 = .slice o9 k c9∧s8 = .int .i64 (sgz odd)∧c+kz=W∧Hid (EInv n W (at2 A) c k B F g odd)∧rs.length=n∧RD wr rs (mkM n W F)∧ZC wr (.agg #[.bool m1,.slice m2 m3 m4]) (Dt.det k fun r x=>B r (g x)).1∧ZC wr (.agg #[.bool m5,.slice m6 m7 m8]) (Dt.det k fun r x=>B r (g x)).2 ∧
  St w (ls w.heap.size 24 1 (.slice o_O n c_O) n (rs.map (·.v))::ls w.heap.size 3 1 (.slice o9 k c9) k xs::bx p_b2 #[.bool m1,.slice m2 m3 m4,.bool m5,.slice m6 m7 m8] 45::bx p_b1 #[.bool false,.slice none 0 0,.bool false,.slice none 0 0] 45::([]++rs.map (Rw.e w.heap.size))) wr)
 case atStart=>exact⟨0,0,at2 A,at2 A,id,false,rs_O,none,0,[],_,_,_,_,_,_,_,_,rfl,rfl,rfl,by omega,HST,hl_O,d_O,m1,m2,hs⟩
 case round =>
 clear d_O m1 m2 hs
 obtain⟨c,k,B,F,g,odd,rs,o9,c9,xs,m1,m5,m2,m6,m3,m4,m7,m8,rfl,rfl,rfl,hcW,HE,hrl,hd,z5,z6,hs⟩:=hrel
 have HO := ‹∀(a':Act) (w':World),Handed _ _ a' w'→_›
 obtain⟨g1,hg1⟩:∃g,gk=g:=⟨_,rfl⟩
 have hkn:=HE.out.kn
 have hkc:=HE.out.kc
 obtain⟨V,hV⟩:∃V,(Dt.det k fun r x=>B r (g x))=V:=⟨_,rfl⟩
 have HV:=hide hV
 have LV:=hide (show zl L V by rw[←hV];exact HE.out.lastbd HB.out hL1)
 have hsg1:=(sgz_le odd).1
 have hsg2:=(sgz_le odd).2
 rw[hV] at z5 z6
 clear hV
 obtain⟨lx,hlx⟩:=bd_ex (mkM n W F)
 have hMC:=hide ((MCin (bs:=_::_::_::([]++rs.map (Rw.e w.heap.size))) hs rfl (fun r hr=>by simp only[List.nil_append,List.mem_cons];exact .inr (.inr (.inr (List.mem_map_of_mem hr)))) hrl hd).mn hlx)
 by_cases hc:c<W
 ·by_cases hk2:k<n
  ·have t1:((k:Int)<(n:Int))=True:=eq_true (by omega)
   have t2:((c:Int)<(W:Int))=True:=eq_true (by omega)
   have HC:=hide hc
   have HK2:=hide hk2
   clear hlx
   refine zk fun K8 hK8 => ?_
   refine zk fun K9 hK9=>rg [0,1,2,3,4,5,6,7,8,9,10] ?_
   refine xmm ?_
   refine sq ?_
   intro K hK
   go_big_op
   go_fit (rCols_any hMC.out len_mkM (wd_mkM2 HN0.out))
   rintro e w_7 ⟨rfl,hb_7⟩
   replace hs:=hs.bl hb_7
   refine hK _ _ rfl trivial ?_
   clear hK K
   refine xrm ?_
   refine xmr ?_
   refine xmr ?_
   refine sr ?_
   refine sr (ze (hK9 _ _ ?_))
   refine ct ?_
   refine wp_skip ?_
   refine hK8 _ _ ?_
   refine zk fun K10 hK10 => ?_
   refine wp_block ?_
   refine zk fun K11 hK11=>rg [0,1,2] ?_
   refine xmr ?_
   refine sm (ze (hK11 _ _ ?_))
   refine zk fun K12 hK12=>rg [0,1] ?_
   refine sm ?_
   refine sm (ze (hK12 _ _ ?_))
   refine zk fun K13 hK13 => ?_
   refine wp_block ?_
   have k0_1:=kb hb_7
   replace hd:=hd.k k0_1
   replace z5:=z5.k k0_1
   replace z6:=z6.k k0_1
   have hd8:=hs.2.1
   go_loopg [12] (n - k) (fun kz s12 wr=>∃p:Nat,s12 = .int .i64 (p:Int)∧p+kz=n∧k≤p∧Hid (∀r,k≤r→r<p→F r c=(0,0))∧RD wr rs (mkM n W F)∧ZC wr (.agg #[.bool m1,.slice m2 m3 m4]) V.1∧ZC wr (.agg #[.bool m5,.slice m6 m7 m8]) V.2 ∧
    St w (ls w.heap.size 24 1 (.slice o_O n c_O) n (rs.map (·.v))::ls w.heap.size 3 1 (.slice o9 k c9) k xs::bx p_b2 #[.bool m1,.slice m2 m3 m4,.bool m5,.slice m6 m7 m8] 45::bx p_b1 #[.bool false,.slice none 0 0,.bool false,.slice none 0 0] 45::([]++rs.map (Rw.e w.heap.size))) wr)
   case atStart=>exact⟨k,rfl,by omega,Nat.le_refl _,hide (fun r h1 h2=>absurd h1 (by omega)),hd,z5,z6,hs⟩
   case round =>
   clear z5 z6 hd hs
   obtain⟨p,rfl,hpn,hkp,HZ,hd,z5,z6,hs⟩:=hrel
   by_cases hp:p<n
   ·have HP:=hide hp
    have t3:((p:Int)<(n:Int))=True:=eq_true (by omega)
    obtain⟨r1,gr,cr,ys,r2,er,hr1,hrv,hx,hs⟩:=hs.row (bs:=_::_::_::[]) hd (p:=p) (K:=W) (by rw[len_mkM];exact hp) (by rw[mkM_row hp];simp) (by omega)
    have ER:=hide er
    clear er
    have LO:Lst wr w.heap.size 24 1 (.slice o_O n c_O) n _:=hs.1.2.1.1
    obtain⟨gO,curO,rfl,xO,hcO⟩:=LO.box (by omega)
    have eO:=hcO _ _ hrv
    have LR:Lst wr w.heap.size 45 4 (.slice (some ⟨gr,0,none⟩) W cr) W ys:=hs.1.1.1
    obtain⟨gr',curR,eR,xR,hcR⟩:=LR.box (by omega)
    simp only[Option.some.injEq,Addr.mk.injEq,and_true] at eR
    obtain rfl:gr=gr':=eR
    rw[mkM_row hp] at hx
    obtain⟨a1,a2,a3,a4,a5,a6,a7,a8,ee1,ee2,ee3,ee4,x1,x2⟩:=hx.els c (by simpa using HC.out)
    rw[show ((List.range W).map (F p))[c]'(by simpa using HC.out)=F p c by simp] at x1 x2
    replace ee1:=hcR _ _ ee1
    replace ee2:=hcR _ _ ee2
    replace ee3:=hcR _ _ ee3
    replace ee4:=hcR _ _ ee4
    have LB:=hide (show zl L (F p c) by
     rw[HE.out.tab p hkp hp c nl HC.out]
     exact EInv.bd HB.out HE.out.pm (fun x hx=>by have:=(HE.out.mono x hx).1;omega) hp HE.out.kn HC.out)
    replace x1:=x1.zn LB.out.1
    replace x2:=x2.zn LB.out.2
    have HPP:=hide (show (F p c=(0,0))=((F p c).1=0∧(F p c).2=0) by rw[Prod.ext_iff])
    obtain⟨P,hP⟩:∃P,F p c=P:=⟨_,rfl⟩
    have HPE:=hide hP
    rw[hP] at x1 x2 HPP LB
    have HRV:=hide hrv
    clear LO hcO LR hcR hx hP hrv
    by_cases h0:P.1=0∧P.2=0
    ·have HD:=hide (decide_eq_true h0)
     have HY:=hide (HPE.out.trans (Eq.mpr HPP.out h0))
     clear h0
     refine zk fun K14 hK14 => ?_
     refine zk fun K15 hK15=>rg [0,1,2,3,4,5,6,7,8,9,10,11,12,13] ?_
     refine xmm ?_
     refine xrr ?_
     refine xmm ?_
     refine xmr ?_
     refine sq ?_
     refine .r1 (xO.cell _ eO) ?_
     refine xmr ?_
     refine sq ?_
     refine .r4 ⟨xR.cell _ ee1,xR.cell _ ee2,xR.cell _ ee3,xR.cell _ ee4⟩ ?_
     refine sq ?_
     intro K hK
     go_big_op
     go_fit (rgNull_any (.mk' x1 x2) (by omega) (by omega))
     rintro e w_9 ⟨rfl,hb_9⟩
     replace xO:=xO.bl hb_9;replace xR:=xR.bl hb_9;replace hs:=hs.bl hb_9
     rw[HD.out]
     refine hK _ _ rfl trivial ?_
     clear hK K
     refine sr (ze (hK15 _ _ ?_))
     refine ct ?_
     refine wp_skip ?_
     refine hK14 _ _ ?_
     refine wp_block ?_
     refine rg [0,1,2] ?_
     refine xmr ?_
     refine sm ?_
     apply wpSq_end
     have k0_1:=kb hb_9
     replace hd:=hd.k k0_1
     replace z5:=z5.k k0_1
     replace z6:=z6.k k0_1
     refine ‹∀(a':Act) (w':World),Handed _ _ a' w'→_› _ _ ?_
     have e9:=ER.out
     subst e9
     have hs:=hs.unrow (bs:=_::_::_::[])
     go_roundg (gk - 1)
     case rel=>exact⟨p+1,by rfl,by omega,by omega,hide (fun r h1 h2=>by
      rcases Nat.lt_or_ge r p with h3 | h3
      ·exact HZ.out r h1 h3
      ·obtain rfl:r=p:=by omega
       exact HY.out),hd,z5,z6,hs⟩
     case measure=>omega
    ·have HD:=hide (decide_eq_false h0)
     have HNZ:=hide (show F p c≠(0,0) from fun c=>h0 (Eq.mp HPP.out (HPE.out.symm.trans c)))
     clear h0
     refine zk fun K14 hK14 => ?_
     refine zk fun K15 hK15=>rg [0,1,2,3,4,5,6,7,8,9,10,11,12,13] ?_
     refine xmm ?_
     refine xrr ?_
     refine xmm ?_
     refine xmr ?_
     refine sq ?_
     refine .r1 (xO.cell _ eO) ?_
     refine xmr ?_
     refine sq ?_
     refine .r4 ⟨xR.cell _ ee1,xR.cell _ ee2,xR.cell _ ee3,xR.cell _ ee4⟩ ?_
     refine sq ?_
     intro K hK
     go_big_op
     go_fit (rgNull_any (.mk' x1 x2) (by omega) (by omega))
     rintro e w_9 ⟨rfl,hb_9⟩
     replace xO:=xO.bl hb_9;replace xR:=xR.bl hb_9;replace hs:=hs.bl hb_9
     rw[HD.out]
     refine hK _ _ rfl trivial ?_
     clear hK K
     refine sr (ze (hK15 _ _ ?_))
     refine cf ?_
     refine wp_exit ?_
     refine hK13 _ _ ?_
     refine zk fun K16 hK16 => ?_
     refine zk fun K17 hK17=>rg [0,1,2,3] ?_
     refine xmm ?_
     refine sr ?_
     refine sr (ze (hK17 _ _ ?_))
     have t4:((p:Int)==(n:Int))=false:=beq_eq_false_iff_ne.2 (by have:=HP.out;omega)
     refine cf ?_
     refine wp_skip ?_
     refine hK16 _ _ ?_
     refine zk fun K18 hK18 => ?_
     refine zk fun K19 hK19=>rg [0,1,2] ?_
     refine xmm ?_
     refine sr (ze (hK19 _ _ ?_))
     have k0_1:=kb hb_9
     replace hd:=hd.k k0_1
     replace z5:=z5.k k0_1
     replace z6:=z6.k k0_1
     have e9:=ER.out
     subst e9
     have hs:=hs.unrow (bs:=_::_::_::[])
     have hmid:=HE.out.mid HC.out hkp HP.out HNZ.out
     have hdk:=HE.out.dk (c:=c) hkp
     have hrl2:=hide hrl
     clear hrl HRV
     obtain⟨rs,hrs⟩:∃rs,r1++(⟨.slice (some ⟨gr,0,none⟩) W cr,W,ys⟩:Rw)::r2=rs:=⟨_,rfl⟩
     rw[hrs] at hs hd hrl2
     clear hrs
     by_cases hpk:p=k
     ·have t5:((p:Int) != (k:Int))=false:=by rw[hpk];simp
      have HMM:=hide (show (mkM n W F)=mkM n W (fun r q=>F (swr p k r) q) from mkM_eq rfl rfl fun r _ q _=>by rw[hpk,swr_self])
      have hz2:=hide (show sgz odd=sgz (odd != decide (p≠k)) by rw[decide_eq_false (fun c=>c hpk)];cases odd <;> rfl)
      rw[HMM.out] at hd
      clear hpk HMM
      refine cf ?_
      refine wp_skip ?_
      refine hK18 _ _ ?_
      refine zk fun K20 hK20 => ?_
      refine zk fun K21 hK21=>rg [0,1,2] ?_
      refine xmr ?_
      refine sm (ze (hK21 _ _ ?_))
      refine wp_block ?_
      obtain⟨B2,F2,g2,odd2,hM2,hd2',hdk2,hz3⟩:∃B2 F2 g2 odd2,EMid n W (at2 A) c k B2 F2 g2 odd2∧RD w_9 rs (mkM n W F2)∧(Dt.det k fun r x=>B2 r (g2 x))=V∧(sgz odd)=sgz odd2:=⟨_,_,_,_,hmid,hd,hdk.trans HV.out,hz2.out⟩
      have HM:=hide hM2
      have HDK:=hide hdk2
      have HZ2:=hide hz3
      clear hmid hd hdk hz2 hM2 hdk2 hz3
      have hd:=hd2'
      clear hd2'
      have HNV:=hide (show gN V.1 V.2≠0 from fun c=>HM.out.dne (HDK.out.trans (Prod.ext (gN_zero.1 c).1 (gN_zero.1 c).2)))
      have HG2:=hide (show ∀x,x<k→g2 x<W from fun x hx=>by have:=(HM.out.mono x hx).1;have:=HC.out;omega)
      have hd10:=hs.2.1
      go_loopg [13] (n - (k+1)) (fun kz s13 wr=>∃(i:Nat) (rs:List Rw),s13 = .int .i64 (i:Int)∧i+kz=n∧k+1≤i∧rs.length=n∧RD wr rs (mkM n W (Gel k c B2 g2 F2 i (c+1)))∧ZC wr (.agg #[.bool m1,.slice m2 m3 m4]) V.1∧ZC wr (.agg #[.bool m5,.slice m6 m7 m8]) V.2∧St w (ls w.heap.size 24 1 (.slice (some ⟨gO,0,none⟩) n c_O) n (rs.map (·.v))::ls w.heap.size 3 1 (.slice o9 k c9) k xs::bx p_b2 #[.bool m1,.slice m2 m3 m4,.bool m5,.slice m6 m7 m8] 45::bx p_b1 #[.bool false,.slice none 0 0,.bool false,.slice none 0 0] 45::([]++rs.map (Rw.e w.heap.size))) wr)
      case atStart=>exact⟨k+1,rs,by rfl,by have:=HK2.out;omega,Nat.le_refl _,hrl2.out,by rw[←Gel_0];exact hd,z5,z6,hs⟩
      case round =>
      clear z5 z6 hd x1 x2 hs
      obtain⟨i,rs,rfl,hin,hki,hrl,hd,z5,z6,hs⟩:=hrel
      have HO3 := ‹∀(a':Act) (w':World),Handed _ _ a' w'→_›
      obtain⟨g3,hg3⟩:∃g,gk=g:=⟨_,rfl⟩
      by_cases hi:i<n
      ·have HI:=hide hi
       have t6:((i:Int)<(n:Int))=True:=eq_true (by omega)
       refine zk fun K22 hK22 => ?_
       refine zk fun K23 hK23=>rg [0,1,2,3] ?_
       refine xmm ?_
       refine sr ?_
       refine sr (ze (hK23 _ _ ?_))
       refine ct ?_
       refine wp_skip ?_
       refine hK22 _ _ ?_
       refine zk fun K24 hK24 => ?_
       refine wp_block ?_
       refine zk fun K25 hK25 => ?_
       refine zk fun K26 hK26=>rg [0,1,2] ?_
       refine xmr ?_
       refine sm (ze (hK26 _ _ ?_))
       refine wp_block ?_
       have hd11:=hs.2.1
       go_loopg [14] (W - (c+1)) (fun kz s14 wr=>∃(j:Nat) (rs:List Rw),s14 = .int .i64 (j:Int)∧j+kz=W∧c+1≤j∧rs.length=n∧RD wr rs (mkM n W (Gel k c B2 g2 F2 i j))∧ZC wr (.agg #[.bool m1,.slice m2 m3 m4]) V.1∧ZC wr (.agg #[.bool m5,.slice m6 m7 m8]) V.2∧St w (ls w.heap.size 24 1 (.slice (some ⟨gO,0,none⟩) n c_O) n (rs.map (·.v))::ls w.heap.size 3 1 (.slice o9 k c9) k xs::bx p_b2 #[.bool m1,.slice m2 m3 m4,.bool m5,.slice m6 m7 m8] 45::bx p_b1 #[.bool false,.slice none 0 0,.bool false,.slice none 0 0] 45::([]++rs.map (Rw.e w.heap.size))) wr)
       case atStart=>exact⟨c+1,rs,by rfl,by have:=HC.out;omega,Nat.le_refl _,hrl,hd,z5,z6,hs⟩
       case round =>
       clear hrl
       clear z5 z6 hd hs
       obtain⟨j,rs,rfl,hjW,hcj,hrl,hd,z5,z6,hs⟩:=hrel
       have Lz5:=hide LV.out.1
       have Lz6:=hide LV.out.2
       by_cases hj:j<W
       ·have HJ:=hide hj
        have t7:((j:Int)<(W:Int))=True:=eq_true (by omega)
        obtain⟨a,gp,cp,xp,b,gq,cq,xq,r2,rfl,hab,hvp,hvq,hxp,hxq,hs⟩:=hs.rows2 (bs:=ls w.heap.size 3 1 (.slice o9 k c9) k xs::bx p_b2 #[.bool m1,.slice m2 m3 m4,.bool m5,.slice m6 m7 m8] 45::bx p_b1 #[.bool false,.slice none 0 0,.bool false,.slice none 0 0] 45::[]) hd (p:=k) (q:=i) (K:=W) (by omega) (by rw[len_mkM];exact hi) (by rw[mkM_row HK2.out];simp) (by rw[mkM_row HI.out];simp) (by omega)
        have LO:Lst wr w.heap.size 24 1 (.slice (some ⟨gO,0,none⟩) n c_O) n _:=hs.1.2.2.1.1
        obtain⟨gO',curO,eO',xO,hcO⟩:=LO.box (by omega)
        simp only[Option.some.injEq,Addr.mk.injEq,and_true] at eO'
        obtain rfl:gO=gO':=eO'
        have eK:=hcO _ _ hvp
        have eI:=hcO _ _ hvq
        have LQ:Lst wr w.heap.size 45 4 (.slice (some ⟨gq,0,none⟩) W cq) W xq:=hs.1.1.1
        obtain⟨gq',curQ,eQ,xQ,hcQ⟩:=LQ.box (by omega)
        simp only[Option.some.injEq,Addr.mk.injEq,and_true] at eQ
        obtain rfl:gq=gq':=eQ
        have LPr:Lst wr w.heap.size 45 4 (.slice (some ⟨gp,0,none⟩) W cp) W xp:=hs.1.2.1.1
        obtain⟨gp',curP,eP,xP,hcP⟩:=LPr.box (by omega)
        simp only[Option.some.injEq,Addr.mk.injEq,and_true] at eP
        obtain rfl:gp=gp':=eP
        have hxq2:=hxq
        rw[mkM_row HI.out] at hxq2
        rw[mkM_row HK2.out] at hxp
        obtain⟨a1,a2,a3,a4,a5,a6,a7,a8,ee1,ee2,ee3,ee4,x1,x2⟩:=hxq2.els j (by simpa using hj)
        obtain⟨b1,b2,b3,b4,b5,b6,b7,b8,ee5,ee6,ee7,ee8,y1,y2⟩:=hxq2.els c (by simpa using HC.out)
        obtain⟨d1,d2,d3,d4,d5,d6,d7,d8,ee9,ee10,ee11,ee12,y3,y4⟩:=hxp.els j (by simpa using hj)
        obtain⟨f1',f2',f3',f4',f5',f6',f7',f8',ee13,ee14,ee15,ee16,y5,y6⟩:=hxp.els c (by simpa using HC.out)
        rw[show ((List.range W).map (Gel k c B2 g2 F2 i j i))[j]'(by simpa using hj)=F2 i j by simp[Gel_here]] at x1 x2
        rw[show ((List.range W).map (Gel k c B2 g2 F2 i j i))[c]'(by simpa using HC.out)=F2 i c by simp[Gel_c]] at y1 y2
        rw[show ((List.range W).map (Gel k c B2 g2 F2 i j k))[j]'(by simpa using hj)=F2 k j by simp[Gel_up]] at y3 y4
        rw[show ((List.range W).map (Gel k c B2 g2 F2 i j k))[c]'(by simpa using HC.out)=F2 k c by simp[Gel_up]] at y5 y6
        have EE:=hide (HM.out.div (i:=i) (j:=j) (by omega) HI.out (by omega) hj)
        have LX:zl L (F2 i j):=by rw[HM.out.tab i (by omega) HI.out j (by omega) hj];exact EInv.bd HB.out HM.out.pm HG2.out HI.out (Nat.le_of_lt HK2.out) hj
        have LY:zl L (F2 i c):=by rw[HM.out.tab i (by omega) HI.out c nl HC.out];exact EInv.bd HB.out HM.out.pm HG2.out HI.out (Nat.le_of_lt HK2.out) HC.out
        have LU:zl L (F2 k j):=by rw[HM.out.tab k nl HK2.out j (by omega) hj];exact EInv.bd HB.out HM.out.pm HG2.out HK2.out (Nat.le_of_lt HK2.out) hj
        have LQ2:zl L (F2 k c):=by rw[HM.out.tab k nl HK2.out c nl HC.out];exact EInv.bd HB.out HM.out.pm HG2.out HK2.out (Nat.le_of_lt HK2.out) HC.out
        replace x1:=x1.zn LX.1
        replace x2:=x2.zn LX.2
        replace y1:=y1.zn LY.1
        replace y2:=y2.zn LY.2
        replace y3:=y3.zn LU.1
        replace y4:=y4.zn LU.2
        replace y5:=y5.zn LQ2.1
        replace y6:=y6.zn LQ2.2
        replace ee1:=hcQ _ _ ee1
        replace ee2:=hcQ _ _ ee2
        replace ee3:=hcQ _ _ ee3
        replace ee4:=hcQ _ _ ee4
        replace ee5:=hcQ _ _ ee5
        replace ee6:=hcQ _ _ ee6
        replace ee7:=hcQ _ _ ee7
        replace ee8:=hcQ _ _ ee8
        replace ee9:=hcP _ _ ee9
        replace ee10:=hcP _ _ ee10
        replace ee11:=hcP _ _ ee11
        replace ee12:=hcP _ _ ee12
        replace ee13:=hcP _ _ ee13
        replace ee14:=hcP _ _ ee14
        replace ee15:=hcP _ _ ee15
        replace ee16:=hcP _ _ ee16
        have HT:=hide (Gel_step (k:=k) (c:=c) (A:=B2) (g:=g2) (F:=F2) (i:=i) (j:=j) (by omega) (by omega))
        obtain⟨X,hX⟩:∃X,F2 i j=X:=⟨_,rfl⟩
        obtain⟨Y,hY⟩:∃Y,F2 i c=Y:=⟨_,rfl⟩
        obtain⟨U,hU⟩:∃U,F2 k j=U:=⟨_,rfl⟩
        obtain⟨P9,hP9⟩:∃P9,F2 k c=P9:=⟨_,rfl⟩
        obtain⟨Z,hZ⟩:∃Z,Dt.Dg (k+1) B2 g2 i j=Z:=⟨_,rfl⟩
        have E3:=EE.out
        rw[hX,hY,hU,hP9,HDK.out,hZ] at E3
        rw[hX] at x1 x2 LX
        rw[hY] at y1 y2 LY
        rw[hU] at y3 y4 LU
        rw[hP9] at y5 y6 LQ2
        have HTS:=HT.out
        rw[hZ] at HTS
        have HS:=hide HTS
        have E1:=hide (show X.1*P9.1 - X.2*P9.2 - (Y.1*U.1 - Y.2*U.2)=(mP V Z).1 from congrArg Prod.fst E3)
        have E2:=hide (show X.1*P9.2+X.2*P9.1 - (Y.1*U.2+Y.2*U.1)=(mP V Z).2 from congrArg Prod.snd E3)
        have LM:=hide (show zl (L+L+1) (mP X P9) from zl_mP LX LQ2)
        have LN:=hide (show zl (L+L+1) (mP Y U) from zl_mP LY LU)
        have LZ:=hide (show zl (L+L+2) (mP V Z) by rw[←E3];exact zl_sPx LM.out LN.out)
        clear LO hcO hvp hvq LQ hcQ hxq2 LPr hcP hxp hX hY hU hP9 hZ EE HT E3 LX LY LU LQ2 HTS
        refine zk fun K27 hK27 => ?_
        refine zk fun K28 hK28=>rg [0,1,2,3,4,5,6] ?_
        refine xmm ?_
        refine xmr ?_
        refine sq ?_
        refine .r1 (xO.cell _ eI) ?_
        refine sr ?_
        refine sr (ze (hK28 _ _ ?_))
        refine ct ?_
        refine wp_skip ?_
        refine hK27 _ _ ?_
        refine zk fun K29 hK29 => ?_
        refine wp_block ?_
        refine zk fun K30 hK30 => ?_
        refine wp_region_f4 [(0,false),(1,false),(2,false),(3,false),(4,false),(5,false),(6,false),(7,false),(8,false),(9,false),(10,false),(11,false),(12,false),(13,false),(15,false),(16,false),(17,false),(18,false),(19,false),(20,false),(21,false),(22,false),(23,false),(24,false),(25,false),(26,false),(27,false),(28,false),(14,true),(29,true),(30,true)] [32] [31] (fun j=>(.cells #[.bool false,.slice none 0 0,.bool false,.slice none 0 0] 45)) [99,99,99,0,99,99,1,99,99,99,0,99,99,2,99,99,99,99,0,99,99,1,99,99,99,0,99,99,2,99,99,99,99] [] (.c xO (.c xQ (.c xP .n))) (fm fn) fun w_12 n12 => ?_
        replace xO:=xO.bl n12;replace xQ:=xQ.bl n12;replace xP:=xP.bl n12;replace hs:=hs.bl n12
        have hlB:=hs.lt;have hkB:=hs.k
        refine fmv ?_
        refine fmv ?_
        refine f0 ?_
        apply wpFl_ld rfl rfl;(case h1=>intro w' hC K hK;have c0:=Bs.cell hC (i) eI;go_big_op;exact hK);iterate 4 kernel_rfl
        refine fmv ?_
        refine f0 ?_
        apply wpFl_ld rfl rfl;(case h1=>intro w' hC K hK;have c0:=Bs.cell hC ((j*4)) ee1;have c1:=Bs.cell hC ((j*4)+1) ee2;have c2:=Bs.cell hC ((j*4)+2) ee3;have c3:=Bs.cell hC ((j*4)+3) ee4;go_big_op;exact hK);iterate 4 kernel_rfl
        refine fmv ?_
        refine fmv ?_
        refine f0 ?_
        apply wpFl_ld rfl rfl;(case h1=>intro w' hC K hK;have c0:=Bs.cell hC (k) eK;go_big_op;exact hK);iterate 4 kernel_rfl
        refine fmv ?_
        refine f0 ?_
        apply wpFl_ld rfl rfl;(case h1=>intro w' hC K hK;have c0:=Bs.cell hC ((c*4)) ee13;have c1:=Bs.cell hC ((c*4)+1) ee14;have c2:=Bs.cell hC ((c*4)+2) ee15;have c3:=Bs.cell hC ((c*4)+3) ee16;go_big_op;exact hK);iterate 4 kernel_rfl
        refine fmv ?_
        refine fmv ?_
        refine f0 ?_
        apply wpFl_ld rfl rfl;(case h1=>intro w' hC K hK;have c0:=Bs.cell hC (i) eI;go_big_op;exact hK);iterate 4 kernel_rfl
        refine fmv ?_
        refine f0 ?_
        apply wpFl_ld rfl rfl;(case h1=>intro w' hC K hK;have c0:=Bs.cell hC ((c*4)) ee5;have c1:=Bs.cell hC ((c*4)+1) ee6;have c2:=Bs.cell hC ((c*4)+2) ee7;have c3:=Bs.cell hC ((c*4)+3) ee8;go_big_op;exact hK);iterate 4 kernel_rfl
        refine fmv ?_
        refine fmv ?_
        refine f0 ?_
        apply wpFl_ld rfl rfl;(case h1=>intro w' hC K hK;have c0:=Bs.cell hC (k) eK;go_big_op;exact hK);iterate 4 kernel_rfl
        refine fmv ?_
        refine f0 ?_
        apply wpFl_ld rfl rfl;(case h1=>intro w' hC K hK;have c0:=Bs.cell hC ((j*4)) ee9;have c1:=Bs.cell hC ((j*4)+1) ee10;have c2:=Bs.cell hC ((j*4)+2) ee11;have c3:=Bs.cell hC ((j*4)+3) ee12;go_big_op;exact hK);iterate 4 kernel_rfl
        refine fl fun w_13 n13 => ?_
        replace xO:=xO.bl n13;replace xQ:=xQ.bl n13;replace xP:=xP.bl n13;replace hs:=hs.bl n13
        intro K hK
        have k0_2:=(kb n12).b n13
        replace x1:=x1.k k0_2
        replace x2:=x2.k k0_2
        replace y5:=y5.k k0_2
        replace y6:=y6.k k0_2
        go_big_op
        go_fit (rgMul_any (.mk' x1 x2) (.mk' y5 y6) HL4.out HL4.out HL4.out HL4.out)
        rintro e w_14 ⟨_,rfl,⟨n_fa,o_fa,k_fa,c_fa,n_fb,o_fb,k_fb,c_fb,rfl,f1,f2⟩,hb_14⟩
        replace xO:=xO.bl hb_14;replace xQ:=xQ.bl hb_14;replace xP:=xP.bl hb_14;replace hs:=hs.bl hb_14
        have Lf1:=hide (f1.lenOf (LM.out.1))
        have Lf2:=hide (f2.lenOf (LM.out.2))
        refine hK _ _ rfl ⟨hb_14,(ai xO (ai xQ (ai xP trivial)))⟩ ?_
        clear hK K
        refine fl fun w_15 n15 => ?_
        replace xO:=xO.bl n15;replace xQ:=xQ.bl n15;replace xP:=xP.bl n15;replace hs:=hs.bl n15
        intro K hK
        have k0_4:=(k0_2.b hb_14).b n15
        replace y1:=y1.k k0_4
        replace y2:=y2.k k0_4
        replace y3:=y3.k k0_4
        replace y4:=y4.k k0_4
        go_big_op
        go_fit (rgMul_any (.mk' y1 y2) (.mk' y3 y4) HL4.out HL4.out HL4.out HL4.out)
        rintro e w_16 ⟨_,rfl,⟨n_ga,o_ga,k_ga,c_ga,n_gb,o_gb,k_gb,c_gb,rfl,g1,g2⟩,hb_16⟩
        replace xO:=xO.bl hb_16;replace xQ:=xQ.bl hb_16;replace xP:=xP.bl hb_16;replace hs:=hs.bl hb_16
        have Lg1:=hide (g1.lenOf (LN.out.1))
        have Lg2:=hide (g2.lenOf (LN.out.2))
        refine hK _ _ rfl ⟨hb_16,(ai xO (ai xQ (ai xP trivial)))⟩ ?_
        clear hK K
        refine fl fun w_17 n17 => ?_
        replace xO:=xO.bl n17;replace xQ:=xQ.bl n17;replace xP:=xP.bl n17;replace hs:=hs.bl n17
        intro K hK
        have k3_6:=((kb n15).b hb_16).b n17
        replace f1:=f1.k k3_6
        replace f2:=f2.k k3_6
        have k5_6:=kb n17
        replace g1:=g1.k k5_6
        replace g2:=g2.k k5_6
        go_big_op
        go_fit (rgSub_any (.mk' (f1.zn Lf1.out) (f2.zn Lf2.out)) (.mk' (g1.zn Lg1.out) (g2.zn Lg2.out)) HL5.out HL5.out HL5.out HL5.out)
        rintro e w_18 ⟨_,rfl,⟨n_sa,o_sa,k_sa,c_sa,n_sb,o_sb,k_sb,c_sb,rfl,s1,s2⟩,hb_18⟩
        replace xO:=xO.bl hb_18;replace xQ:=xQ.bl hb_18;replace xP:=xP.bl hb_18;replace hs:=hs.bl hb_18
        rw[E1.out] at s1
        rw[E2.out] at s2
        refine hK _ _ rfl ⟨hb_18,(ai xO (ai xQ (ai xP trivial)))⟩ ?_
        clear hK K
        refine e1 hs hlB hkB ?_;clear hs hlB hkB;intro w_19 p_b3 hs n19 kb_b3
        replace xO:=xO.bl n19;replace xQ:=xQ.bl n19;replace xP:=xP.bl n19
        refine tl ?_
        refine .s4o hs.g0 (fun _=>hs.u0 kb_b3) ?_ (e:=fun _ hs hO=>(ai (xO.frame hO (hs.ne 3 0)) (ai (xQ.frame hO (hs.ne 1 0)) (ai (xP.frame hO (hs.ne 2 0)) trivial))));clear hs;intro w_20 hs hd20 ho20
        replace xO:=xO.frame ho20 (hs.ne 3 0);replace xQ:=xQ.frame ho20 (hs.ne 1 0);replace xP:=xP.frame ho20 (hs.ne 2 0)
        apply wpTail_end
        refine hK30 _ _ ?_
        refine zk fun K31 hK31=>rg [0,1,2,3,4,5,6,7,8] ?_
        refine sq ?_
        refine .r4 hs.g0.f4 ?_
        refine sq ?_
        refine .r4 hs.g5.f4 ?_
        refine sq ?_
        intro K hK
        have k7_9:=(kb n19).o hd20 ho20
        replace s1:=s1.k k7_9
        replace s2:=s2.k k7_9
        have k0_9:=((((k0_4.b hb_16).b n17).b hb_18).b n19).o hd20 ho20
        replace z5:=z5.k k0_9
        replace z6:=z6.k k0_9
        go_big_op
        go_fit (rgExact_div (q:=V) (z:=Z) (.mk' (s1.zn LZ.out.1) (s2.zn LZ.out.2)) (.mk' (z5.zn Lz5.out) (z6.zn Lz6.out)) HL6.out HL6.out HL7.out HL7.out HNV.out)
        rintro e w_21 ⟨_,rfl,⟨n_ta,o_ta,k_ta,c_ta,n_tb,o_tb,k_tb,c_tb,rfl,t1,t2⟩,hb_21⟩
        replace xO:=xO.bl hb_21;replace xQ:=xQ.bl hb_21;replace xP:=xP.bl hb_21;replace hs:=hs.bl hb_21
        refine hK _ _ rfl trivial ?_
        clear hK K
        refine xmr ?_
        refine sr ?_
        refine sq ?_
        refine .al hs ?_;clear hs;intro p_b4 w_22 hs n22 kb_b4
        replace xO:=xO.bl n22;replace xQ:=xQ.bl n22;replace xP:=xP.bl n22
        refine sq ?_
        refine .s4 hs.g0 (fun _=>hs.u0 kb_b4) ?_;clear hs;intro w_23 hs hd23 ho23
        replace xO:=xO.frame ho23 (hs.ne 4 0);replace xQ:=xQ.frame ho23 (hs.ne 2 0);replace xP:=xP.frame ho23 (hs.ne 3 0)
        refine sm (ze (hK31 _ _ ?_))
        refine wp_region_f4 [(0,false),(1,false),(2,false),(3,false),(4,false),(5,false),(6,false)] [7] [] (fun _=>default) [99,99,99,0,99,1,99,99] [] (.c xO (.c hs.g0 .n)) fn fun w_24 n24 => ?_
        replace xO:=xO.bl n24;replace xQ:=xQ.bl n24;replace xP:=xP.bl n24;replace hs:=hs.bl n24
        refine fmv ?_
        refine fmv ?_
        refine f0 ?_
        apply wpFl_ld rfl rfl;(case h1=>intro w' hC K hK;have c0:=Bs.cell hC (i) eI;go_big_op;exact hK);iterate 4 kernel_rfl
        refine fmv ?_
        refine f4 ?_
        refine f0 ?_
        refine e0 hs ?_;clear hs;intro w_25 hs n25
        replace xO:=xO.bl n25;replace xQ:=xQ.bl n25;replace xP:=xP.bl n25
        refine tl ?_
        refine .i4 2 hs (j:=j) (by exact HJ.out) ?_ (e:=fun _ hB hO=>(ai (xO.frame hO (hs.ne 4 2)) (ai (hs.g0.frame hO (hs.ne 0 2)) trivial)));clear hs;intro w_26 hs kp26 hd26 ho26 hw26;simp only[List.set_cons_succ,List.set_cons_zero] at hs
        clear xO
        clear xQ
        clear xP
        apply wpTail_end
        refine hK29 _ _ ?_
        refine rg [0,1,2] ?_
        refine xmr ?_
        refine sm ?_
        apply wpSq_end
        have k0_15:=(((((k0_9.b hb_21).b n22).o hd23 ho23).b n24).b n25).t kp26
        replace hd:=hd.k k0_15
        replace hxq:=hxq.k k0_15
        have k10_15:=((((kb n22).o hd23 ho23).b n24).b n25).t kp26
        replace t1:=t1.k k10_15
        replace t2:=t2.k k10_15
        have k9_15:=(((((kb hb_21).b n22).o hd23 ho23).b n24).b n25).t kp26
        replace z5:=z5.k k9_15
        replace z6:=z6.k k9_15
        refine ‹∀(a':Act) (w':World),Handed _ _ a' w'→_› _ _ ?_
        have hs:=(hs.sub (.cons _ (.cons _ (List.Sublist.refl _)))).unrows2 (bs:=ls w.heap.size 3 1 (.slice o9 k c9) k xs::bx p_b2 #[.bool m1,.slice m2 m3 m4,.bool m5,.slice m6 m7 m8] 45::bx p_b1 #[.bool false,.slice none 0 0,.bool false,.slice none 0 0] 45::[])
        rw[mkM_row HI.out] at hxq
        have hd:=RD.set' (r1:=a++(⟨.slice (some ⟨gp,0,none⟩) W cp,W,xp⟩:Rw)::b) (v:=.slice (some ⟨gq,0,none⟩) W cq) (n:=W) (by simp) (GD.put t1 t2 hxq (q:=j) (by simpa using HJ.out)) (by simpa using hd) hab
        rw[show ((Z.1,Z.2):Int × Int)=Z from rfl,mkM_set HI.out,HS.out] at hd
        go_roundg (gk - 1)
        case rel=>exact⟨j+1,_,by rfl,by omega,by omega,by simpa using hrl,by simpa using hd,z5,z6,hs⟩
        case measure=>omega
       ·obtain rfl:W=j:=by omega
        have HX:=hide hj
        have t7:((W:Int)<(W:Int))=False:=eq_false (by omega)
        have h0W:0<W:=by have:=HC.out;omega
        obtain⟨r1,gq,cq,xq,r2,rfl,hr1,hvq,hxq,hs⟩:=hs.row (bs:=ls w.heap.size 3 1 (.slice o9 k c9) k xs::bx p_b2 #[.bool m1,.slice m2 m3 m4,.bool m5,.slice m6 m7 m8] 45::bx p_b1 #[.bool false,.slice none 0 0,.bool false,.slice none 0 0] 45::[]) hd (p:=i) (K:=W) (by rw[len_mkM];exact HI.out) (by rw[mkM_row HI.out];simp) h0W
        have LO:Lst wr w.heap.size 24 1 (.slice (some ⟨gO,0,none⟩) n c_O) n _:=hs.1.2.1.1
        obtain⟨gO',curO,eO',xO,hcO⟩:=LO.box (by have:=HI.out;omega)
        simp only[Option.some.injEq,Addr.mk.injEq,and_true] at eO'
        obtain rfl:gO=gO':=eO'
        have eI:=hcO _ _ hvq
        clear LO hcO hvq
        refine zk fun K27 hK27 => ?_
        refine zk fun K28 hK28=>rg [0,1,2,3,4,5,6] ?_
        refine xmm ?_
        refine xmr ?_
        refine sq ?_
        refine .r1 (xO.cell _ eI) ?_
        refine sr ?_
        refine sr (ze (hK28 _ _ ?_))
        refine cf ?_
        refine wp_exit ?_
        refine hK25 _ _ ?_
        refine wp_region_f4 [(0,false),(1,false),(2,false),(3,false),(4,false),(5,true),(6,false)] [7] [] (fun _=>default) [99,99,99,0,99,99,99,99] [] (.c xO .n) fn fun w_12 n12 => ?_
        replace xO:=xO.bl n12;replace hs:=hs.bl n12
        refine fmv ?_
        refine fmv ?_
        refine f0 ?_
        apply wpFl_ld rfl rfl;(case h1=>intro w' hC K hK;have c0:=Bs.cell hC (i) eI;go_big_op;exact hK);iterate 4 kernel_rfl
        refine fmv ?_
        refine fl fun w_13 n13 => ?_
        replace xO:=xO.bl n13;replace hs:=hs.bl n13
        intro K hK
        go_big_op
        go_fit (rgI_any 0 0 _ (by decide) (by decide) (by decide) (by decide))
        rintro e w_14 ⟨_,rfl,⟨n_oa,o_oa,k_oa,c_oa,n_ob,o_ob,k_ob,c_ob,rfl,o1,o2⟩,hb_14⟩
        replace xO:=xO.bl hb_14;replace hs:=hs.bl hb_14
        refine hK _ _ rfl ⟨hb_14,(ai xO trivial)⟩ ?_
        clear hK K
        refine f0 ?_
        refine e0 hs ?_;clear hs;intro w_15 hs n15
        replace xO:=xO.bl n15
        refine tl ?_
        refine .i4 0 hs (j:=c) (by exact HC.out) ?_ (e:=fun _ hB hO=>(ai (xO.frame hO (hs.ne 1 0)) trivial));clear hs;intro w_16 hs kp16 hd16 ho16 hw16;simp only[List.set_cons_zero] at hs
        clear xO
        apply wpTail_end
        refine hK24 _ _ ?_
        refine rg [0,1,2] ?_
        refine xmr ?_
        refine sm ?_
        apply wpSq_end
        have k0_5:=((((kb n12).b n13).b hb_14).b n15).t kp16
        replace hd:=hd.k k0_5
        replace hxq:=hxq.k k0_5
        have k3_5:=(kb n15).t kp16
        replace o1:=o1.k k3_5
        replace o2:=o2.k k3_5
        replace z5:=z5.k k0_5
        replace z6:=z6.k k0_5
        refine HO3 _ _ ?_
        have hs:=hs.unrow (bs:=ls w.heap.size 3 1 (.slice o9 k c9) k xs::bx p_b2 #[.bool m1,.slice m2 m3 m4,.bool m5,.slice m6 m7 m8] 45::bx p_b1 #[.bool false,.slice none 0 0,.bool false,.slice none 0 0] 45::[])
        rw[mkM_row HI.out] at hxq
        have hd:=RD.set' (v:=.slice (some ⟨gq,0,none⟩) W cq) (n:=W) (by simp) (GD.put o1 o2 hxq (q:=c) (by simpa using HC.out)) hd hr1
        rw[mkM_set HI.out,Gel_row (by omega)] at hd
        go_roundg (g3 - 1)
        case rel=>exact⟨i+1,_,by rfl,by omega,by omega,by simpa using hrl,hd,z5,z6,hs⟩
        case measure=>omega
      ·obtain rfl:n=i:=by omega
       have HX:=hide hi
       have t6:((n:Int)<(n:Int))=False:=eq_false (by omega)
       obtain⟨r1,gp,cp,xp,r2,rfl,hr1,hvp,hxp,hs⟩:=hs.row (bs:=ls w.heap.size 3 1 (.slice o9 k c9) k xs::bx p_b2 #[.bool m1,.slice m2 m3 m4,.bool m5,.slice m6 m7 m8] 45::bx p_b1 #[.bool false,.slice none 0 0,.bool false,.slice none 0 0] 45::[]) hd (p:=k) (K:=W) (by rw[len_mkM];exact HK2.out) (by rw[mkM_row HK2.out];simp) (by have:=HC.out;omega)
       have LO:Lst wr w.heap.size 24 1 (.slice (some ⟨gO,0,none⟩) n c_O) n _:=hs.1.2.1.1
       obtain⟨gO',curO,eO',xO,hcO⟩:=LO.box (by have:=HK2.out;omega)
       simp only[Option.some.injEq,Addr.mk.injEq,and_true] at eO'
       obtain rfl:gO=gO':=eO'
       have eK:=hcO _ _ hvp
       have LPr:Lst wr w.heap.size 45 4 (.slice (some ⟨gp,0,none⟩) W cp) W xp:=hs.1.1.1
       obtain⟨gp',curP,eP,xP,hcP⟩:=LPr.box (by have:=HC.out;omega)
       simp only[Option.some.injEq,Addr.mk.injEq,and_true] at eP
       obtain rfl:gp=gp':=eP
       rw[mkM_row HK2.out] at hxp
       obtain⟨f1',f2',f3',f4',f5',f6',f7',f8',ee13,ee14,ee15,ee16,y5,y6⟩:=hxp.els c (by simpa using HC.out)
       rw[show ((List.range W).map (Gel k c B2 g2 F2 n (c+1) k))[c]'(by simpa using HC.out)=F2 k c by simp[Gel_up]] at y5 y6
       replace ee13:=hcP _ _ ee13
       replace ee14:=hcP _ _ ee14
       replace ee15:=hcP _ _ ee15
       replace ee16:=hcP _ _ ee16
       rw[←HM.out.last] at y5 y6
       obtain⟨V2,hV2⟩:∃V2,(Dt.det (k+1) fun r x=>B2 r (g2 x))=V2:=⟨_,rfl⟩
       have HV2:=hide hV2
       rw[hV2] at y5 y6
       have hk64:k≤64:=by have:=HK2.out;omega
       clear LO hcO hvp LPr hcP hxp hV2
       refine zk fun K22 hK22 => ?_
       refine zk fun K23 hK23=>rg [0,1,2,3] ?_
       refine xmm ?_
       refine sr ?_
       refine sr (ze (hK23 _ _ ?_))
       refine cf ?_
       refine wp_exit ?_
       refine hK20 _ _ ?_
       refine zk fun K24 hK24=>rg [0,1,2,3,4,5,6,7] ?_
       refine xmm ?_
       refine sr ?_
       refine sq ?_
       refine .r1 (xO.cell _ eK) ?_
       refine xmr ?_
       refine sq ?_
       refine .r4 ⟨xP.cell _ ee13,xP.cell _ ee14,xP.cell _ ee15,xP.cell _ ee16⟩ ?_
       refine sq ?_
       refine .s4 hs.g3 (fun _=>hs.u3 kb_b2) ?_;clear hs;intro w_11 hs hd11 ho11
       replace xO:=xO.frame ho11 (hs.ne 1 3);replace xP:=xP.frame ho11 (hs.ne 0 3)
       refine ze (hK24 _ _ ?_)
       refine rg [0,1,2,3,4] ?_
       refine xmm ?_
       refine sq ?_
       refine .al hs ?_;clear hs;intro p_b3 w_12 hs n12 kb_b3
       replace xO:=xO.bl n12;replace xP:=xP.bl n12
       refine sq ?_
       refine .ap 3 hs hs.g0 ?_;clear hs;intro o_L_13 c_L_13 w_13 hs kp13 hw13;simp only[List.set_cons_succ,List.set_cons_zero] at hs
       clear xO
       clear xP
       refine sm (ze (hK10 _ _ ?_))
       refine rg [0,1,2] ?_
       refine xmr ?_
       refine sm ?_
       apply wpSq_end
       have k0_3:=((ko hd11 ho11).b n12).t kp13
       replace hd:=hd.k k0_3
       replace y5:=y5.k k0_3
       replace y6:=y6.k k0_3
       refine HO _ _ ?_
       have hs:=(hs.sub (.cons _ (List.Sublist.refl _))).unrow (bs:=_::_::_::[])
       rw[←HV2.out] at y5 y6
       go_roundg (g1 - 1)
       case rel=>exact⟨c+1,k+1,B2,Gel k c B2 g2 F2 n (c+1),g2,odd2,_,_,_,_,_,_,_,_,_,_,_,_,by rfl,by rfl,congrArg (Value.int .i64) HZ2.out,by omega,hide HM.out.next,hrl,hd,y5,y6,hs⟩
       case measure=>omega
     ·have t5:((p:Int) != (k:Int))=true:=bne_iff_ne.2 (by omega)
      have hz2:=hide (show -sgz odd=sgz (odd != decide (p≠k)) by rw[decide_eq_true hpk];cases odd <;> rfl)
      have LO:Lst w_9 w.heap.size 24 1 (.slice (some ⟨gO,0,none⟩) n c_O) n _:=hs.1.1.1
      obtain⟨gO',curO,eO',xO,hcO⟩:=LO.box (by have:=HP.out;omega)
      simp only[Option.some.injEq,Addr.mk.injEq,and_true] at eO'
      obtain rfl:gO=gO':=eO'
      obtain⟨op,cp,hvp⟩:=hs.rowv (bs:=_::_::_::[]) hd (p:=p) (K:=W) (by rw[len_mkM];exact HP.out) (by rw[mkM_row HP.out];simp)
      obtain⟨ok,ck,hvk⟩:=hs.rowv (bs:=_::_::_::[]) hd (p:=k) (K:=W) (by rw[len_mkM];exact HK2.out) (by rw[mkM_row HK2.out];simp)
      have eP:=hcO _ _ hvp
      have eK:=hcO _ _ hvk
      clear LO hcO hpk
      refine ct ?_
      refine zk fun K20 hK20 => ?_
      refine wp_region_f4 [(0,false),(1,false),(2,false),(3,false),(4,false),(5,false),(6,false),(7,false),(8,false),(9,false),(10,false),(11,false),(12,false)] [13,14,15] [] (fun _=>default) [99,99,99,99,99,99,99,0,99,99,99,0,99,99,99,99] [(13,0),(14,0),(15,0)] (.c xO .n) fn fun w_10 n10 => ?_
      replace xO:=xO.bl n10;replace hs:=hs.bl n10
      refine fmv ?_
      refine fmv ?_
      refine fmv ?_
      refine fmv ?_
      refine fmv ?_
      refine fmv ?_
      refine f0 ?_
      apply wpFl_ld rfl rfl;(case h1=>intro w' hC K hK;have c0:=Bs.cell hC (k) eK;go_big_op;exact hK);iterate 4 kernel_rfl
      refine fmv ?_
      refine fmv ?_
      refine f0 ?_
      apply wpFl_ld rfl rfl;(case h1=>intro w' hC K hK;have c0:=Bs.cell hC (p) eP;go_big_op;exact hK);iterate 4 kernel_rfl
      refine f0 ?_
      refine e0 hs ?_;clear hs;intro w_11 hs n11
      replace xO:=xO.bl n11
      refine tl ?_
      refine .i1 0 hs (j:=p) (by exact HP.out) ?_ (e:=fun _ hB hO=>(ai trivial trivial));clear hs;intro w_12 hs kp12 hd12 ho12 hw12;simp only[List.set_cons_zero] at hs
      clear xO
      refine tl ?_
      refine .r0 ?_ (e:=(ai trivial trivial))
      refine tl ?_
      refine .i1 0 hs (j:=k) (by exact HK2.out) ?_ (e:=fun _ hB hO=>(ai trivial trivial));clear hs;intro w_13 hs kp13 hd13 ho13 hw13;simp only[List.set_cons_zero] at hs
      apply wpTail_end
      refine hK20 _ _ ?_
      refine rg [0,1,2] ?_
      refine xmr ?_
      refine sm (ze (hK18 _ _ ?_))
      refine zk fun K21 hK21 => ?_
      refine zk fun K22 hK22=>rg [0,1,2] ?_
      refine xmr ?_
      refine sm (ze (hK22 _ _ ?_))
      refine wp_block ?_
      have k1_5:=(((kb n10).b n11).t kp12).t kp13
      replace hd:=hd.k k1_5
      replace z5:=z5.k k1_5
      replace z6:=z6.k k1_5
      obtain⟨rs2,q1,q2,q3,q4⟩:=RD.swap hd HP.out HK2.out hvp hvk
      have hs:=hs.swap (bs:=_::_::_::[]) q2 q3
      replace hrl2:=hide (q1.trans hrl2.out)
      clear hd hvp hvk q1 q2 q3
      have hd:=q4
      clear q4
      obtain⟨B2,F2,g2,odd2,hM2,hd2',hdk2,hz3⟩:∃B2 F2 g2 odd2,EMid n W (at2 A) c k B2 F2 g2 odd2∧RD w_13 rs2 (mkM n W F2)∧(Dt.det k fun r x=>B2 r (g2 x))=V∧(-sgz odd)=sgz odd2:=⟨_,_,_,_,hmid,hd,hdk.trans HV.out,hz2.out⟩
      have HM:=hide hM2
      have HDK:=hide hdk2
      have HZ2:=hide hz3
      clear hmid hd hdk hz2 hM2 hdk2 hz3
      have hd:=hd2'
      clear hd2'
      have HNV:=hide (show gN V.1 V.2≠0 from fun c=>HM.out.dne (HDK.out.trans (Prod.ext (gN_zero.1 c).1 (gN_zero.1 c).2)))
      have HG2:=hide (show ∀x,x<k→g2 x<W from fun x hx=>by have:=(HM.out.mono x hx).1;have:=HC.out;omega)
      have hd14:=hs.2.1
      go_loopg [13] (n - (k+1)) (fun kz s13 wr=>∃(i:Nat) (rs:List Rw),s13 = .int .i64 (i:Int)∧i+kz=n∧k+1≤i∧rs.length=n∧RD wr rs (mkM n W (Gel k c B2 g2 F2 i (c+1)))∧ZC wr (.agg #[.bool m1,.slice m2 m3 m4]) V.1∧ZC wr (.agg #[.bool m5,.slice m6 m7 m8]) V.2∧St w (ls w.heap.size 24 1 (.slice (some ⟨gO,0,none⟩) n c_O) n (rs.map (·.v))::ls w.heap.size 3 1 (.slice o9 k c9) k xs::bx p_b2 #[.bool m1,.slice m2 m3 m4,.bool m5,.slice m6 m7 m8] 45::bx p_b1 #[.bool false,.slice none 0 0,.bool false,.slice none 0 0] 45::([]++rs.map (Rw.e w.heap.size))) wr)
      case atStart=>exact⟨k+1,rs2,by rfl,by have:=HK2.out;omega,Nat.le_refl _,hrl2.out,by rw[←Gel_0];exact hd,z5,z6,hs⟩
      case round =>
      clear z5 z6 hd x1 x2 hs
      obtain⟨i,rs,rfl,hin,hki,hrl,hd,z5,z6,hs⟩:=hrel
      have HO3 := ‹∀(a':Act) (w':World),Handed _ _ a' w'→_›
      obtain⟨g3,hg3⟩:∃g,gk=g:=⟨_,rfl⟩
      by_cases hi:i<n
      ·have HI:=hide hi
       have t6:((i:Int)<(n:Int))=True:=eq_true (by omega)
       refine zk fun K23 hK23 => ?_
       refine zk fun K24 hK24=>rg [0,1,2,3] ?_
       refine xmm ?_
       refine sr ?_
       refine sr (ze (hK24 _ _ ?_))
       refine ct ?_
       refine wp_skip ?_
       refine hK23 _ _ ?_
       refine zk fun K25 hK25 => ?_
       refine wp_block ?_
       refine zk fun K26 hK26 => ?_
       refine zk fun K27 hK27=>rg [0,1,2] ?_
       refine xmr ?_
       refine sm (ze (hK27 _ _ ?_))
       refine wp_block ?_
       have hd15:=hs.2.1
       go_loopg [14] (W - (c+1)) (fun kz s14 wr=>∃(j:Nat) (rs:List Rw),s14 = .int .i64 (j:Int)∧j+kz=W∧c+1≤j∧rs.length=n∧RD wr rs (mkM n W (Gel k c B2 g2 F2 i j))∧ZC wr (.agg #[.bool m1,.slice m2 m3 m4]) V.1∧ZC wr (.agg #[.bool m5,.slice m6 m7 m8]) V.2∧St w (ls w.heap.size 24 1 (.slice (some ⟨gO,0,none⟩) n c_O) n (rs.map (·.v))::ls w.heap.size 3 1 (.slice o9 k c9) k xs::bx p_b2 #[.bool m1,.slice m2 m3 m4,.bool m5,.slice m6 m7 m8] 45::bx p_b1 #[.bool false,.slice none 0 0,.bool false,.slice none 0 0] 45::([]++rs.map (Rw.e w.heap.size))) wr)
       case atStart=>exact⟨c+1,rs,by rfl,by have:=HC.out;omega,Nat.le_refl _,hrl,hd,z5,z6,hs⟩
       case round =>
       clear hrl
       clear z5 z6 hd hs
       obtain⟨j,rs,rfl,hjW,hcj,hrl,hd,z5,z6,hs⟩:=hrel
       have Lz5:=hide LV.out.1
       have Lz6:=hide LV.out.2
       by_cases hj:j<W
       ·have HJ:=hide hj
        have t7:((j:Int)<(W:Int))=True:=eq_true (by omega)
        obtain⟨a,gp,cp,xp,b,gq,cq,xq,r2,rfl,hab,hvp,hvq,hxp,hxq,hs⟩:=hs.rows2 (bs:=ls w.heap.size 3 1 (.slice o9 k c9) k xs::bx p_b2 #[.bool m1,.slice m2 m3 m4,.bool m5,.slice m6 m7 m8] 45::bx p_b1 #[.bool false,.slice none 0 0,.bool false,.slice none 0 0] 45::[]) hd (p:=k) (q:=i) (K:=W) (by omega) (by rw[len_mkM];exact hi) (by rw[mkM_row HK2.out];simp) (by rw[mkM_row HI.out];simp) (by omega)
        have LO:Lst wr w.heap.size 24 1 (.slice (some ⟨gO,0,none⟩) n c_O) n _:=hs.1.2.2.1.1
        obtain⟨gO',curO,eO',xO,hcO⟩:=LO.box (by omega)
        simp only[Option.some.injEq,Addr.mk.injEq,and_true] at eO'
        obtain rfl:gO=gO':=eO'
        have eK:=hcO _ _ hvp
        have eI:=hcO _ _ hvq
        have LQ:Lst wr w.heap.size 45 4 (.slice (some ⟨gq,0,none⟩) W cq) W xq:=hs.1.1.1
        obtain⟨gq',curQ,eQ,xQ,hcQ⟩:=LQ.box (by omega)
        simp only[Option.some.injEq,Addr.mk.injEq,and_true] at eQ
        obtain rfl:gq=gq':=eQ
        have LPr:Lst wr w.heap.size 45 4 (.slice (some ⟨gp,0,none⟩) W cp) W xp:=hs.1.2.1.1
        obtain⟨gp',curP,eP,xP,hcP⟩:=LPr.box (by omega)
        simp only[Option.some.injEq,Addr.mk.injEq,and_true] at eP
        obtain rfl:gp=gp':=eP
        have hxq2:=hxq
        rw[mkM_row HI.out] at hxq2
        rw[mkM_row HK2.out] at hxp
        obtain⟨a1,a2,a3,a4,a5,a6,a7,a8,ee1,ee2,ee3,ee4,x1,x2⟩:=hxq2.els j (by simpa using hj)
        obtain⟨b1,b2,b3,b4,b5,b6,b7,b8,ee5,ee6,ee7,ee8,y1,y2⟩:=hxq2.els c (by simpa using HC.out)
        obtain⟨d1,d2,d3,d4,d5,d6,d7,d8,ee9,ee10,ee11,ee12,y3,y4⟩:=hxp.els j (by simpa using hj)
        obtain⟨f1',f2',f3',f4',f5',f6',f7',f8',ee13,ee14,ee15,ee16,y5,y6⟩:=hxp.els c (by simpa using HC.out)
        rw[show ((List.range W).map (Gel k c B2 g2 F2 i j i))[j]'(by simpa using hj)=F2 i j by simp[Gel_here]] at x1 x2
        rw[show ((List.range W).map (Gel k c B2 g2 F2 i j i))[c]'(by simpa using HC.out)=F2 i c by simp[Gel_c]] at y1 y2
        rw[show ((List.range W).map (Gel k c B2 g2 F2 i j k))[j]'(by simpa using hj)=F2 k j by simp[Gel_up]] at y3 y4
        rw[show ((List.range W).map (Gel k c B2 g2 F2 i j k))[c]'(by simpa using HC.out)=F2 k c by simp[Gel_up]] at y5 y6
        have EE:=hide (HM.out.div (i:=i) (j:=j) (by omega) HI.out (by omega) hj)
        have LX:zl L (F2 i j):=by rw[HM.out.tab i (by omega) HI.out j (by omega) hj];exact EInv.bd HB.out HM.out.pm HG2.out HI.out (Nat.le_of_lt HK2.out) hj
        have LY:zl L (F2 i c):=by rw[HM.out.tab i (by omega) HI.out c nl HC.out];exact EInv.bd HB.out HM.out.pm HG2.out HI.out (Nat.le_of_lt HK2.out) HC.out
        have LU:zl L (F2 k j):=by rw[HM.out.tab k nl HK2.out j (by omega) hj];exact EInv.bd HB.out HM.out.pm HG2.out HK2.out (Nat.le_of_lt HK2.out) hj
        have LQ2:zl L (F2 k c):=by rw[HM.out.tab k nl HK2.out c nl HC.out];exact EInv.bd HB.out HM.out.pm HG2.out HK2.out (Nat.le_of_lt HK2.out) HC.out
        replace x1:=x1.zn LX.1
        replace x2:=x2.zn LX.2
        replace y1:=y1.zn LY.1
        replace y2:=y2.zn LY.2
        replace y3:=y3.zn LU.1
        replace y4:=y4.zn LU.2
        replace y5:=y5.zn LQ2.1
        replace y6:=y6.zn LQ2.2
        replace ee1:=hcQ _ _ ee1
        replace ee2:=hcQ _ _ ee2
        replace ee3:=hcQ _ _ ee3
        replace ee4:=hcQ _ _ ee4
        replace ee5:=hcQ _ _ ee5
        replace ee6:=hcQ _ _ ee6
        replace ee7:=hcQ _ _ ee7
        replace ee8:=hcQ _ _ ee8
        replace ee9:=hcP _ _ ee9
        replace ee10:=hcP _ _ ee10
        replace ee11:=hcP _ _ ee11
        replace ee12:=hcP _ _ ee12
        replace ee13:=hcP _ _ ee13
        replace ee14:=hcP _ _ ee14
        replace ee15:=hcP _ _ ee15
        replace ee16:=hcP _ _ ee16
        have HT:=hide (Gel_step (k:=k) (c:=c) (A:=B2) (g:=g2) (F:=F2) (i:=i) (j:=j) (by omega) (by omega))
        obtain⟨X,hX⟩:∃X,F2 i j=X:=⟨_,rfl⟩
        obtain⟨Y,hY⟩:∃Y,F2 i c=Y:=⟨_,rfl⟩
        obtain⟨U,hU⟩:∃U,F2 k j=U:=⟨_,rfl⟩
        obtain⟨P9,hP9⟩:∃P9,F2 k c=P9:=⟨_,rfl⟩
        obtain⟨Z,hZ⟩:∃Z,Dt.Dg (k+1) B2 g2 i j=Z:=⟨_,rfl⟩
        have E3:=EE.out
        rw[hX,hY,hU,hP9,HDK.out,hZ] at E3
        rw[hX] at x1 x2 LX
        rw[hY] at y1 y2 LY
        rw[hU] at y3 y4 LU
        rw[hP9] at y5 y6 LQ2
        have HTS:=HT.out
        rw[hZ] at HTS
        have HS:=hide HTS
        have E1:=hide (show X.1*P9.1 - X.2*P9.2 - (Y.1*U.1 - Y.2*U.2)=(mP V Z).1 from congrArg Prod.fst E3)
        have E2:=hide (show X.1*P9.2+X.2*P9.1 - (Y.1*U.2+Y.2*U.1)=(mP V Z).2 from congrArg Prod.snd E3)
        have LM:=hide (show zl (L+L+1) (mP X P9) from zl_mP LX LQ2)
        have LN:=hide (show zl (L+L+1) (mP Y U) from zl_mP LY LU)
        have LZ:=hide (show zl (L+L+2) (mP V Z) by rw[←E3];exact zl_sPx LM.out LN.out)
        clear LO hcO hvp hvq LQ hcQ hxq2 LPr hcP hxp hX hY hU hP9 hZ EE HT E3 LX LY LU LQ2 HTS
        refine zk fun K28 hK28 => ?_
        refine zk fun K29 hK29=>rg [0,1,2,3,4,5,6] ?_
        refine xmm ?_
        refine xmr ?_
        refine sq ?_
        refine .r1 (xO.cell _ eI) ?_
        refine sr ?_
        refine sr (ze (hK29 _ _ ?_))
        refine ct ?_
        refine wp_skip ?_
        refine hK28 _ _ ?_
        refine zk fun K30 hK30 => ?_
        refine wp_block ?_
        refine zk fun K31 hK31 => ?_
        refine wp_region_f4 [(0,false),(1,false),(2,false),(3,false),(4,false),(5,false),(6,false),(7,false),(8,false),(9,false),(10,false),(11,false),(12,false),(13,false),(15,false),(16,false),(17,false),(18,false),(19,false),(20,false),(21,false),(22,false),(23,false),(24,false),(25,false),(26,false),(27,false),(28,false),(14,true),(29,true),(30,true)] [32] [31] (fun j=>(.cells #[.bool false,.slice none 0 0,.bool false,.slice none 0 0] 45)) [99,99,99,0,99,99,1,99,99,99,0,99,99,2,99,99,99,99,0,99,99,1,99,99,99,0,99,99,2,99,99,99,99] [] (.c xO (.c xQ (.c xP .n))) (fm fn) fun w_16 n16 => ?_
        replace xO:=xO.bl n16;replace xQ:=xQ.bl n16;replace xP:=xP.bl n16;replace hs:=hs.bl n16
        have hlB:=hs.lt;have hkB:=hs.k
        refine fmv ?_
        refine fmv ?_
        refine f0 ?_
        apply wpFl_ld rfl rfl;(case h1=>intro w' hC K hK;have c0:=Bs.cell hC (i) eI;go_big_op;exact hK);iterate 4 kernel_rfl
        refine fmv ?_
        refine f0 ?_
        apply wpFl_ld rfl rfl;(case h1=>intro w' hC K hK;have c0:=Bs.cell hC ((j*4)) ee1;have c1:=Bs.cell hC ((j*4)+1) ee2;have c2:=Bs.cell hC ((j*4)+2) ee3;have c3:=Bs.cell hC ((j*4)+3) ee4;go_big_op;exact hK);iterate 4 kernel_rfl
        refine fmv ?_
        refine fmv ?_
        refine f0 ?_
        apply wpFl_ld rfl rfl;(case h1=>intro w' hC K hK;have c0:=Bs.cell hC (k) eK;go_big_op;exact hK);iterate 4 kernel_rfl
        refine fmv ?_
        refine f0 ?_
        apply wpFl_ld rfl rfl;(case h1=>intro w' hC K hK;have c0:=Bs.cell hC ((c*4)) ee13;have c1:=Bs.cell hC ((c*4)+1) ee14;have c2:=Bs.cell hC ((c*4)+2) ee15;have c3:=Bs.cell hC ((c*4)+3) ee16;go_big_op;exact hK);iterate 4 kernel_rfl
        refine fmv ?_
        refine fmv ?_
        refine f0 ?_
        apply wpFl_ld rfl rfl;(case h1=>intro w' hC K hK;have c0:=Bs.cell hC (i) eI;go_big_op;exact hK);iterate 4 kernel_rfl
        refine fmv ?_
        refine f0 ?_
        apply wpFl_ld rfl rfl;(case h1=>intro w' hC K hK;have c0:=Bs.cell hC ((c*4)) ee5;have c1:=Bs.cell hC ((c*4)+1) ee6;have c2:=Bs.cell hC ((c*4)+2) ee7;have c3:=Bs.cell hC ((c*4)+3) ee8;go_big_op;exact hK);iterate 4 kernel_rfl
        refine fmv ?_
        refine fmv ?_
        refine f0 ?_
        apply wpFl_ld rfl rfl;(case h1=>intro w' hC K hK;have c0:=Bs.cell hC (k) eK;go_big_op;exact hK);iterate 4 kernel_rfl
        refine fmv ?_
        refine f0 ?_
        apply wpFl_ld rfl rfl;(case h1=>intro w' hC K hK;have c0:=Bs.cell hC ((j*4)) ee9;have c1:=Bs.cell hC ((j*4)+1) ee10;have c2:=Bs.cell hC ((j*4)+2) ee11;have c3:=Bs.cell hC ((j*4)+3) ee12;go_big_op;exact hK);iterate 4 kernel_rfl
        refine fl fun w_17 n17 => ?_
        replace xO:=xO.bl n17;replace xQ:=xQ.bl n17;replace xP:=xP.bl n17;replace hs:=hs.bl n17
        intro K hK
        have k0_2:=(kb n16).b n17
        replace x1:=x1.k k0_2
        replace x2:=x2.k k0_2
        replace y5:=y5.k k0_2
        replace y6:=y6.k k0_2
        go_big_op
        go_fit (rgMul_any (.mk' x1 x2) (.mk' y5 y6) HL4.out HL4.out HL4.out HL4.out)
        rintro e w_18 ⟨_,rfl,⟨n_fa,o_fa,k_fa,c_fa,n_fb,o_fb,k_fb,c_fb,rfl,f1,f2⟩,hb_18⟩
        replace xO:=xO.bl hb_18;replace xQ:=xQ.bl hb_18;replace xP:=xP.bl hb_18;replace hs:=hs.bl hb_18
        have Lf1:=hide (f1.lenOf (LM.out.1))
        have Lf2:=hide (f2.lenOf (LM.out.2))
        refine hK _ _ rfl ⟨hb_18,(ai xO (ai xQ (ai xP trivial)))⟩ ?_
        clear hK K
        refine fl fun w_19 n19 => ?_
        replace xO:=xO.bl n19;replace xQ:=xQ.bl n19;replace xP:=xP.bl n19;replace hs:=hs.bl n19
        intro K hK
        have k0_4:=(k0_2.b hb_18).b n19
        replace y1:=y1.k k0_4
        replace y2:=y2.k k0_4
        replace y3:=y3.k k0_4
        replace y4:=y4.k k0_4
        go_big_op
        go_fit (rgMul_any (.mk' y1 y2) (.mk' y3 y4) HL4.out HL4.out HL4.out HL4.out)
        rintro e w_20 ⟨_,rfl,⟨n_ga,o_ga,k_ga,c_ga,n_gb,o_gb,k_gb,c_gb,rfl,g1,g2⟩,hb_20⟩
        replace xO:=xO.bl hb_20;replace xQ:=xQ.bl hb_20;replace xP:=xP.bl hb_20;replace hs:=hs.bl hb_20
        have Lg1:=hide (g1.lenOf (LN.out.1))
        have Lg2:=hide (g2.lenOf (LN.out.2))
        refine hK _ _ rfl ⟨hb_20,(ai xO (ai xQ (ai xP trivial)))⟩ ?_
        clear hK K
        refine fl fun w_21 n21 => ?_
        replace xO:=xO.bl n21;replace xQ:=xQ.bl n21;replace xP:=xP.bl n21;replace hs:=hs.bl n21
        intro K hK
        have k3_6:=((kb n19).b hb_20).b n21
        replace f1:=f1.k k3_6
        replace f2:=f2.k k3_6
        have k5_6:=kb n21
        replace g1:=g1.k k5_6
        replace g2:=g2.k k5_6
        go_big_op
        go_fit (rgSub_any (.mk' (f1.zn Lf1.out) (f2.zn Lf2.out)) (.mk' (g1.zn Lg1.out) (g2.zn Lg2.out)) HL5.out HL5.out HL5.out HL5.out)
        rintro e w_22 ⟨_,rfl,⟨n_sa,o_sa,k_sa,c_sa,n_sb,o_sb,k_sb,c_sb,rfl,s1,s2⟩,hb_22⟩
        replace xO:=xO.bl hb_22;replace xQ:=xQ.bl hb_22;replace xP:=xP.bl hb_22;replace hs:=hs.bl hb_22
        rw[E1.out] at s1
        rw[E2.out] at s2
        refine hK _ _ rfl ⟨hb_22,(ai xO (ai xQ (ai xP trivial)))⟩ ?_
        clear hK K
        refine e1 hs hlB hkB ?_;clear hs hlB hkB;intro w_23 p_b3 hs n23 kb_b3
        replace xO:=xO.bl n23;replace xQ:=xQ.bl n23;replace xP:=xP.bl n23
        refine tl ?_
        refine .s4o hs.g0 (fun _=>hs.u0 kb_b3) ?_ (e:=fun _ hs hO=>(ai (xO.frame hO (hs.ne 3 0)) (ai (xQ.frame hO (hs.ne 1 0)) (ai (xP.frame hO (hs.ne 2 0)) trivial))));clear hs;intro w_24 hs hd24 ho24
        replace xO:=xO.frame ho24 (hs.ne 3 0);replace xQ:=xQ.frame ho24 (hs.ne 1 0);replace xP:=xP.frame ho24 (hs.ne 2 0)
        apply wpTail_end
        refine hK31 _ _ ?_
        refine zk fun K32 hK32=>rg [0,1,2,3,4,5,6,7,8] ?_
        refine sq ?_
        refine .r4 hs.g0.f4 ?_
        refine sq ?_
        refine .r4 hs.g5.f4 ?_
        refine sq ?_
        intro K hK
        have k7_9:=(kb n23).o hd24 ho24
        replace s1:=s1.k k7_9
        replace s2:=s2.k k7_9
        have k0_9:=((((k0_4.b hb_20).b n21).b hb_22).b n23).o hd24 ho24
        replace z5:=z5.k k0_9
        replace z6:=z6.k k0_9
        go_big_op
        go_fit (rgExact_div (q:=V) (z:=Z) (.mk' (s1.zn LZ.out.1) (s2.zn LZ.out.2)) (.mk' (z5.zn Lz5.out) (z6.zn Lz6.out)) HL6.out HL6.out HL7.out HL7.out HNV.out)
        rintro e w_25 ⟨_,rfl,⟨n_ta,o_ta,k_ta,c_ta,n_tb,o_tb,k_tb,c_tb,rfl,t1,t2⟩,hb_25⟩
        replace xO:=xO.bl hb_25;replace xQ:=xQ.bl hb_25;replace xP:=xP.bl hb_25;replace hs:=hs.bl hb_25
        refine hK _ _ rfl trivial ?_
        clear hK K
        refine xmr ?_
        refine sr ?_
        refine sq ?_
        refine .al hs ?_;clear hs;intro p_b4 w_26 hs n26 kb_b4
        replace xO:=xO.bl n26;replace xQ:=xQ.bl n26;replace xP:=xP.bl n26
        refine sq ?_
        refine .s4 hs.g0 (fun _=>hs.u0 kb_b4) ?_;clear hs;intro w_27 hs hd27 ho27
        replace xO:=xO.frame ho27 (hs.ne 4 0);replace xQ:=xQ.frame ho27 (hs.ne 2 0);replace xP:=xP.frame ho27 (hs.ne 3 0)
        refine sm (ze (hK32 _ _ ?_))
        refine wp_region_f4 [(0,false),(1,false),(2,false),(3,false),(4,false),(5,false),(6,false)] [7] [] (fun _=>default) [99,99,99,0,99,1,99,99] [] (.c xO (.c hs.g0 .n)) fn fun w_28 n28 => ?_
        replace xO:=xO.bl n28;replace xQ:=xQ.bl n28;replace xP:=xP.bl n28;replace hs:=hs.bl n28
        refine fmv ?_
        refine fmv ?_
        refine f0 ?_
        apply wpFl_ld rfl rfl;(case h1=>intro w' hC K hK;have c0:=Bs.cell hC (i) eI;go_big_op;exact hK);iterate 4 kernel_rfl
        refine fmv ?_
        refine f4 ?_
        refine f0 ?_
        refine e0 hs ?_;clear hs;intro w_29 hs n29
        replace xO:=xO.bl n29;replace xQ:=xQ.bl n29;replace xP:=xP.bl n29
        refine tl ?_
        refine .i4 2 hs (j:=j) (by exact HJ.out) ?_ (e:=fun _ hB hO=>(ai (xO.frame hO (hs.ne 4 2)) (ai (hs.g0.frame hO (hs.ne 0 2)) trivial)));clear hs;intro w_30 hs kp30 hd30 ho30 hw30;simp only[List.set_cons_succ,List.set_cons_zero] at hs
        clear xO
        clear xQ
        clear xP
        apply wpTail_end
        refine hK30 _ _ ?_
        refine rg [0,1,2] ?_
        refine xmr ?_
        refine sm ?_
        apply wpSq_end
        have k0_15:=(((((k0_9.b hb_25).b n26).o hd27 ho27).b n28).b n29).t kp30
        replace hd:=hd.k k0_15
        replace hxq:=hxq.k k0_15
        have k10_15:=((((kb n26).o hd27 ho27).b n28).b n29).t kp30
        replace t1:=t1.k k10_15
        replace t2:=t2.k k10_15
        have k9_15:=(((((kb hb_25).b n26).o hd27 ho27).b n28).b n29).t kp30
        replace z5:=z5.k k9_15
        replace z6:=z6.k k9_15
        refine ‹∀(a':Act) (w':World),Handed _ _ a' w'→_› _ _ ?_
        have hs:=(hs.sub (.cons _ (.cons _ (List.Sublist.refl _)))).unrows2 (bs:=ls w.heap.size 3 1 (.slice o9 k c9) k xs::bx p_b2 #[.bool m1,.slice m2 m3 m4,.bool m5,.slice m6 m7 m8] 45::bx p_b1 #[.bool false,.slice none 0 0,.bool false,.slice none 0 0] 45::[])
        rw[mkM_row HI.out] at hxq
        have hd:=RD.set' (r1:=a++(⟨.slice (some ⟨gp,0,none⟩) W cp,W,xp⟩:Rw)::b) (v:=.slice (some ⟨gq,0,none⟩) W cq) (n:=W) (by simp) (GD.put t1 t2 hxq (q:=j) (by simpa using HJ.out)) (by simpa using hd) hab
        rw[show ((Z.1,Z.2):Int × Int)=Z from rfl,mkM_set HI.out,HS.out] at hd
        go_roundg (gk - 1)
        case rel=>exact⟨j+1,_,by rfl,by omega,by omega,by simpa using hrl,by simpa using hd,z5,z6,hs⟩
        case measure=>omega
       ·obtain rfl:W=j:=by omega
        have HX:=hide hj
        have t7:((W:Int)<(W:Int))=False:=eq_false (by omega)
        have h0W:0<W:=by have:=HC.out;omega
        obtain⟨r1,gq,cq,xq,r2,rfl,hr1,hvq,hxq,hs⟩:=hs.row (bs:=ls w.heap.size 3 1 (.slice o9 k c9) k xs::bx p_b2 #[.bool m1,.slice m2 m3 m4,.bool m5,.slice m6 m7 m8] 45::bx p_b1 #[.bool false,.slice none 0 0,.bool false,.slice none 0 0] 45::[]) hd (p:=i) (K:=W) (by rw[len_mkM];exact HI.out) (by rw[mkM_row HI.out];simp) h0W
        have LO:Lst wr w.heap.size 24 1 (.slice (some ⟨gO,0,none⟩) n c_O) n _:=hs.1.2.1.1
        obtain⟨gO',curO,eO',xO,hcO⟩:=LO.box (by have:=HI.out;omega)
        simp only[Option.some.injEq,Addr.mk.injEq,and_true] at eO'
        obtain rfl:gO=gO':=eO'
        have eI:=hcO _ _ hvq
        clear LO hcO hvq
        refine zk fun K28 hK28 => ?_
        refine zk fun K29 hK29=>rg [0,1,2,3,4,5,6] ?_
        refine xmm ?_
        refine xmr ?_
        refine sq ?_
        refine .r1 (xO.cell _ eI) ?_
        refine sr ?_
        refine sr (ze (hK29 _ _ ?_))
        refine cf ?_
        refine wp_exit ?_
        refine hK26 _ _ ?_
        refine wp_region_f4 [(0,false),(1,false),(2,false),(3,false),(4,false),(5,true),(6,false)] [7] [] (fun _=>default) [99,99,99,0,99,99,99,99] [] (.c xO .n) fn fun w_16 n16 => ?_
        replace xO:=xO.bl n16;replace hs:=hs.bl n16
        refine fmv ?_
        refine fmv ?_
        refine f0 ?_
        apply wpFl_ld rfl rfl;(case h1=>intro w' hC K hK;have c0:=Bs.cell hC (i) eI;go_big_op;exact hK);iterate 4 kernel_rfl
        refine fmv ?_
        refine fl fun w_17 n17 => ?_
        replace xO:=xO.bl n17;replace hs:=hs.bl n17
        intro K hK
        go_big_op
        go_fit (rgI_any 0 0 _ (by decide) (by decide) (by decide) (by decide))
        rintro e w_18 ⟨_,rfl,⟨n_oa,o_oa,k_oa,c_oa,n_ob,o_ob,k_ob,c_ob,rfl,o1,o2⟩,hb_18⟩
        replace xO:=xO.bl hb_18;replace hs:=hs.bl hb_18
        refine hK _ _ rfl ⟨hb_18,(ai xO trivial)⟩ ?_
        clear hK K
        refine f0 ?_
        refine e0 hs ?_;clear hs;intro w_19 hs n19
        replace xO:=xO.bl n19
        refine tl ?_
        refine .i4 0 hs (j:=c) (by exact HC.out) ?_ (e:=fun _ hB hO=>(ai (xO.frame hO (hs.ne 1 0)) trivial));clear hs;intro w_20 hs kp20 hd20 ho20 hw20;simp only[List.set_cons_zero] at hs
        clear xO
        apply wpTail_end
        refine hK25 _ _ ?_
        refine rg [0,1,2] ?_
        refine xmr ?_
        refine sm ?_
        apply wpSq_end
        have k0_5:=((((kb n16).b n17).b hb_18).b n19).t kp20
        replace hd:=hd.k k0_5
        replace hxq:=hxq.k k0_5
        have k3_5:=(kb n19).t kp20
        replace o1:=o1.k k3_5
        replace o2:=o2.k k3_5
        replace z5:=z5.k k0_5
        replace z6:=z6.k k0_5
        refine HO3 _ _ ?_
        have hs:=hs.unrow (bs:=ls w.heap.size 3 1 (.slice o9 k c9) k xs::bx p_b2 #[.bool m1,.slice m2 m3 m4,.bool m5,.slice m6 m7 m8] 45::bx p_b1 #[.bool false,.slice none 0 0,.bool false,.slice none 0 0] 45::[])
        rw[mkM_row HI.out] at hxq
        have hd:=RD.set' (v:=.slice (some ⟨gq,0,none⟩) W cq) (n:=W) (by simp) (GD.put o1 o2 hxq (q:=c) (by simpa using HC.out)) hd hr1
        rw[mkM_set HI.out,Gel_row (by omega)] at hd
        go_roundg (g3 - 1)
        case rel=>exact⟨i+1,_,by rfl,by omega,by omega,by simpa using hrl,hd,z5,z6,hs⟩
        case measure=>omega
      ·obtain rfl:n=i:=by omega
       have HX:=hide hi
       have t6:((n:Int)<(n:Int))=False:=eq_false (by omega)
       obtain⟨r1,gp,cp,xp,r2,rfl,hr1,hvp,hxp,hs⟩:=hs.row (bs:=ls w.heap.size 3 1 (.slice o9 k c9) k xs::bx p_b2 #[.bool m1,.slice m2 m3 m4,.bool m5,.slice m6 m7 m8] 45::bx p_b1 #[.bool false,.slice none 0 0,.bool false,.slice none 0 0] 45::[]) hd (p:=k) (K:=W) (by rw[len_mkM];exact HK2.out) (by rw[mkM_row HK2.out];simp) (by have:=HC.out;omega)
       have LO:Lst wr w.heap.size 24 1 (.slice (some ⟨gO,0,none⟩) n c_O) n _:=hs.1.2.1.1
       obtain⟨gO',curO,eO',xO,hcO⟩:=LO.box (by have:=HK2.out;omega)
       simp only[Option.some.injEq,Addr.mk.injEq,and_true] at eO'
       obtain rfl:gO=gO':=eO'
       have eK:=hcO _ _ hvp
       have LPr:Lst wr w.heap.size 45 4 (.slice (some ⟨gp,0,none⟩) W cp) W xp:=hs.1.1.1
       obtain⟨gp',curP,eP,xP,hcP⟩:=LPr.box (by have:=HC.out;omega)
       simp only[Option.some.injEq,Addr.mk.injEq,and_true] at eP
       obtain rfl:gp=gp':=eP
       rw[mkM_row HK2.out] at hxp
       obtain⟨f1',f2',f3',f4',f5',f6',f7',f8',ee13,ee14,ee15,ee16,y5,y6⟩:=hxp.els c (by simpa using HC.out)
       rw[show ((List.range W).map (Gel k c B2 g2 F2 n (c+1) k))[c]'(by simpa using HC.out)=F2 k c by simp[Gel_up]] at y5 y6
       replace ee13:=hcP _ _ ee13
       replace ee14:=hcP _ _ ee14
       replace ee15:=hcP _ _ ee15
       replace ee16:=hcP _ _ ee16
       rw[←HM.out.last] at y5 y6
       obtain⟨V2,hV2⟩:∃V2,(Dt.det (k+1) fun r x=>B2 r (g2 x))=V2:=⟨_,rfl⟩
       have HV2:=hide hV2
       rw[hV2] at y5 y6
       have hk64:k≤64:=by have:=HK2.out;omega
       clear LO hcO hvp LPr hcP hxp hV2
       refine zk fun K23 hK23 => ?_
       refine zk fun K24 hK24=>rg [0,1,2,3] ?_
       refine xmm ?_
       refine sr ?_
       refine sr (ze (hK24 _ _ ?_))
       refine cf ?_
       refine wp_exit ?_
       refine hK21 _ _ ?_
       refine zk fun K25 hK25=>rg [0,1,2,3,4,5,6,7] ?_
       refine xmm ?_
       refine sr ?_
       refine sq ?_
       refine .r1 (xO.cell _ eK) ?_
       refine xmr ?_
       refine sq ?_
       refine .r4 ⟨xP.cell _ ee13,xP.cell _ ee14,xP.cell _ ee15,xP.cell _ ee16⟩ ?_
       refine sq ?_
       refine .s4 hs.g3 (fun _=>hs.u3 kb_b2) ?_;clear hs;intro w_15 hs hd15 ho15
       replace xO:=xO.frame ho15 (hs.ne 1 3);replace xP:=xP.frame ho15 (hs.ne 0 3)
       refine ze (hK25 _ _ ?_)
       refine rg [0,1,2,3,4] ?_
       refine xmm ?_
       refine sq ?_
       refine .al hs ?_;clear hs;intro p_b3 w_16 hs n16 kb_b3
       replace xO:=xO.bl n16;replace xP:=xP.bl n16
       refine sq ?_
       refine .ap 3 hs hs.g0 ?_;clear hs;intro o_L_17 c_L_17 w_17 hs kp17 hw17;simp only[List.set_cons_succ,List.set_cons_zero] at hs
       clear xO
       clear xP
       refine sm (ze (hK10 _ _ ?_))
       refine rg [0,1,2] ?_
       refine xmr ?_
       refine sm ?_
       apply wpSq_end
       have k0_3:=((ko hd15 ho15).b n16).t kp17
       replace hd:=hd.k k0_3
       replace y5:=y5.k k0_3
       replace y6:=y6.k k0_3
       refine HO _ _ ?_
       have hs:=(hs.sub (.cons _ (List.Sublist.refl _))).unrow (bs:=_::_::_::[])
       rw[←HV2.out] at y5 y6
       go_roundg (g1 - 1)
       case rel=>exact⟨c+1,k+1,B2,Gel k c B2 g2 F2 n (c+1),g2,odd2,_,_,_,_,_,_,_,_,_,_,_,_,by rfl,by rfl,congrArg (Value.int .i64) HZ2.out,by omega,hide HM.out.next,hrl,hd,y5,y6,hs⟩
       case measure=>omega
   ·obtain rfl:p=n:=by omega
    have HX:=hide hp
    have t4:((p:Int)==(p:Int))=true:=by simp
    have HZE:=hide (HE.out.skip HC.out (fun r h1 h2=>HZ.out r h1 h2))
    refine zk fun K14 hK14 => ?_
    refine zk fun K15 hK15=>rg [0,1,2,3,4,5,6,7,8,9,10,11,12,13] ?_
    refine xmm ?_
    refine xrr ?_
    refine sm ?_
    refine sk ?_
    refine sk ?_
    refine sk ?_
    refine sk ?_
    refine sk ?_
    refine sk ?_
    refine sk ?_
    refine sk ?_
    refine sr (ze (hK15 _ _ ?_))
    refine cf ?_
    refine wp_exit ?_
    refine hK13 _ _ ?_
    refine zk fun K16 hK16 => ?_
    refine zk fun K17 hK17=>rg [0,1,2,3] ?_
    refine xmm ?_
    refine sr ?_
    refine sr (ze (hK17 _ _ ?_))
    refine ct ?_
    refine wp_exit ?_
    refine hK10 _ _ ?_
    refine rg [0,1,2] ?_
    refine xmr ?_
    refine sm ?_
    apply wpSq_end
    refine HO _ _ ?_
    rw[←HV.out] at z5 z6
    go_roundg (g1 - 1)
    case rel=>exact⟨c+1,k,B,F,g,odd,rs,o9,c9,xs,m1,m5,m2,m6,m3,m4,m7,m8,by rfl,rfl,rfl,by omega,HZE,hrl,hd,z5,z6,hs⟩
    case measure=>omega
  ·have hkn2:k=n:=by omega
   have t1:((k:Int)<(n:Int))=False:=eq_false (by omega)
   have t2:((c:Int)<(W:Int))=True:=eq_true (by omega)
   have HRK:=hide (HE.out.rk (.inr hkn2))
   have HDE:=hide (show n=W→k=n→Dt.det n (at2 A)=mP V (sgz odd,0) from fun e1 e2=>by
    subst e2
    have h9:=HE.out
    rw[←e1] at h9
    rw[h9.det rfl,HV.out,sgz_mul])
   clear hlx
   refine zk fun K8 hK8 => ?_
   refine zk fun K9 hK9=>rg [0,1,2,3,4,5,6,7,8,9,10] ?_
   refine xmm ?_
   refine sq ?_
   intro K hK
   go_big_op
   go_fit (rCols_any hMC.out len_mkM (wd_mkM2 HN0.out))
   rintro e w_7 ⟨rfl,hb_7⟩
   replace hs:=hs.bl hb_7
   refine hK _ _ rfl trivial ?_
   clear hK K
   refine xrm ?_
   refine xmr ?_
   refine xmr ?_
   refine sr ?_
   refine sr (ze (hK9 _ _ ?_))
   refine cf ?_
   refine wp_exit ?_
   refine hK6 _ _ ?_
   refine zk fun K10 hK10 => ?_
   refine wp_region_f4 [(0,false),(1,false),(2,false),(3,false),(4,false),(5,false)] [6,7] [] (fun _=>default) [99,99,0,99,99,99,99,99] [] (.c hs.g2 .n) fn fun w_8 n8 => ?_
   replace hs:=hs.bl n8
   refine fmv ?_
   refine fmv ?_
   refine f4 ?_
   refine fmv ?_
   refine fmv ?_
   refine fmv ?_
   refine e0 hs ?_;clear hs;intro w_9 hs n9
   refine tl ?_
   refine .s4 hs.g3 (fun _=>hs.u3 kb_b1) ?_ (e:=fun _ hs=>(ai hs.g2 trivial));clear hs;intro w_10 hs hd10 ho10
   refine tl ?_
   refine .mv ?_ (e:=(ai hs.g2 trivial))
   apply wpTail_end
   refine hK10 _ _ ?_
   refine wp_ret ?_
   have k0_4:=(((kb hb_7).b n8).b n9).o hd10 ho10
   replace z5:=z5.k k0_4
   replace z6:=z6.k k0_4
   try dsimp only [Exit.then,Exit.inBlock]
   obtain⟨r0_0,r0_1,r0_2,r0_3⟩:=hs.g3.f4
   refine bodyPost_ret (v:=(.tuple #[(.slice o_O n c_O),(.slice o9 k c9),(.agg #[.bool m1,.slice m2 m3 m4,.bool m5,.slice m6 m7 m8]),(.int .i64 (sgz odd))])) (by simp[results,Tryz.results75,go_sem,r0_0,r0_1,r0_2,r0_3]) rfl ?_
   exact⟨_,_,_,_,k,sgz odd,V,rfl,.mk' z5 z6,LV.out,sgz_pm odd,hkn,HRK.out,HDE.out,hs.b⟩
 ·obtain rfl:c=W:=by omega
  have t2:((c:Int)<(c:Int))=False:=eq_false (by omega)
  have HRK:=hide (HE.out.rk (.inl rfl))
  have HDE:=hide (show n=c→k=n→Dt.det n (at2 A)=mP V (sgz odd,0) from fun e1 e2=>by
   have h9:=HE.out
   rw[←e1] at h9
   rw[h9.det e2,HV.out,sgz_mul])
  clear hlx
  refine zk fun K8 hK8 => ?_
  refine zk fun K9 hK9=>rg [0,1,2,3,4,5,6,7,8,9,10] ?_
  refine xmm ?_
  refine sq ?_
  intro K hK
  go_big_op
  go_fit (rCols_any hMC.out len_mkM (wd_mkM2 HN0.out))
  rintro e w_7 ⟨rfl,hb_7⟩
  replace hs:=hs.bl hb_7
  refine hK _ _ rfl trivial ?_
  clear hK K
  refine xrm ?_
  refine sk ?_
  refine sk ?_
  refine sk ?_
  refine sk ?_
  refine sk ?_
  refine sr (ze (hK9 _ _ ?_))
  refine cf ?_
  refine wp_exit ?_
  refine hK6 _ _ ?_
  refine zk fun K10 hK10 => ?_
  refine wp_region_f4 [(0,false),(1,false),(2,false),(3,false),(4,false),(5,false)] [6,7] [] (fun _=>default) [99,99,0,99,99,99,99,99] [] (.c hs.g2 .n) fn fun w_8 n8 => ?_
  replace hs:=hs.bl n8
  refine fmv ?_
  refine fmv ?_
  refine f4 ?_
  refine fmv ?_
  refine fmv ?_
  refine fmv ?_
  refine e0 hs ?_;clear hs;intro w_9 hs n9
  refine tl ?_
  refine .s4 hs.g3 (fun _=>hs.u3 kb_b1) ?_ (e:=fun _ hs=>(ai hs.g2 trivial));clear hs;intro w_10 hs hd10 ho10
  refine tl ?_
  refine .mv ?_ (e:=(ai hs.g2 trivial))
  apply wpTail_end
  refine hK10 _ _ ?_
  refine wp_ret ?_
  have k0_4:=(((kb hb_7).b n8).b n9).o hd10 ho10
  replace z5:=z5.k k0_4
  replace z6:=z6.k k0_4
  try dsimp only [Exit.then,Exit.inBlock]
  obtain⟨r0_0,r0_1,r0_2,r0_3⟩:=hs.g3.f4
  refine bodyPost_ret (v:=(.tuple #[(.slice o_O n c_O),(.slice o9 k c9),(.agg #[.bool m1,.slice m2 m3 m4,.bool m5,.slice m6 m7 m8]),(.int .i64 (sgz odd))])) (by simp[results,Tryz.results75,go_sem,r0_0,r0_1,r0_2,r0_3]) rfl ?_
  exact⟨_,_,_,_,k,sgz odd,V,rfl,.mk' z5 z6,LV.out,sgz_pm odd,hkn,HRK.out,HDE.out,hs.b⟩
end
section
variable {w:World} {la n W L ca r:Nat} {oa:Option Addr} {A:List (List (Int × Int))}
theorem relim_rk (ha:MN la w oa A) (hna:A.length=n) (h:gd A) (hk:wd A=W) (hB:MinB n W L (at2 A)) (hL:L≤3300000) (hL1:1≤L) (hla:la≤20000000) (hr:Dt.Rk n W (at2 A) r) :
  Calls Tryz.prog 75 #[.slice oa n ca] w fun e w'=>∃(o9:Option Addr) (c9:Nat) (z:Int) (p:Int × Int) (v1 v3:Value),e = .returned (.tuple #[v1,.slice o9 r c9,v3,.int .i64 z])∧(z=1∨z = -1)∧r≤n∧(n=W→r=n→Dt.det n (at2 A)=mP p (z,0))∧zl L p∧PC w' v3 p.1 p.2∧Below w.heap.size w w' :=
 Calls.mono (relim_any (ca:=ca) ha hna h hk hB hL hL1 hla) fun e w' ⟨v1,o9,c9,v3,k,z,p,h1,h2,h3,h4,h8,h5,h6,h7⟩=>by
  obtain rfl:=Dt.Rk.eq noz one_ne h5 hr
  exact⟨o9,c9,z,p,v1,v3,h1,h4,h8,h6,h3,h2,h7⟩
theorem rRank_any (ha:MN la w oa A) (hna:A.length=n) (h:gd A) (hk:wd A=W) (hB:MinB n W L (at2 A)) (hL:L≤3300000) (hL1:1≤L) (hla:la≤20000000) (hr:Dt.Rk n W (at2 A) r) :
  Calls Tryz.prog 73 #[.slice oa n ca] w fun e w'=>e = .returned (.int .i64 (r:Int))∧Below w.heap.size w w':=by
 have HA:=hide ha
 have H:=hide h
 have HK:=hide hk
 have HB:=hide hB
 have HR:=hide hr
 clear ha h hk hB hr
 go_enter Tryz.func73,Tryz.ntmps73
 have hs:=St.nil w
 refine zk fun K1 hK1=>rg [0] ?_
 refine sm (ze (hK1 _ _ ?_))
 refine zk fun K2 hK2=>rg [0,1,2,3,4,5,6,7,8,9,10,11] ?_
 refine sm ?_
 refine sq ?_
 intro K hK
 have hb:=hs.b
 go_big_op
 go_fit (relim_rk (HA.out.bl stab_n hb) hna H.out HK.out HB.out hL hL1 hla HR.out)
 rintro e w_1 ⟨o9,c9,z,p,v,_,rfl,hz,hrn,hp,hlp,⟨n_fa,o_fa,k_fa,c_fa,n_fb,o_fb,k_fb,c_fb,rfl,f1,f2⟩,hb_1⟩
 clear hb
 replace hs:=hs.bl hb_1
 refine hK _ _ rfl trivial ?_
 clear hK K
 refine xmr ?_
 refine xrr ?_
 refine sr ?_
 refine sq ?_
 refine .al hs ?_;clear hs;intro p_b1 w_2 hs n2 kb_b1
 refine xmm ?_
 refine sq ?_
 refine .s4 hs.g0 (fun _=>hs.u0 kb_b1) ?_;clear hs;intro w_3 hs hd3 ho3
 refine sm (ze (hK2 _ _ ?_))
 refine zk fun K3 hK3=>rg [0,1,2] ?_
 refine xmr ?_
 refine sm (ze (hK3 _ _ ?_))
 refine wp_ret ?_
 try dsimp only [Exit.then,Exit.inBlock]
 refine bodyPost_ret (v:=(.int .i64 (r:Int))) (by simp[results,Tryz.results73,go_sem]) rfl ?_
 exact⟨rfl,hs.b⟩
theorem rk_le {R:Type} [Lean.Grind.CommRing R] {h w r:Nat} {A:Nat→Nat→R} (hr:Dt.Rk h w A r):r≤h:=by
 obtain⟨f,g,hfg,hne,_⟩:=hr
 exact Nat.le_of_not_lt fun c=>hne (Dt.minor_big (h:=h) c fun i hi=>(hfg i hi).1)
theorem rDet_any (ha:MN la w oa A) (hna:A.length=n) (h:gd A) (hk:wd A=n) (hB:MinB n n L (at2 A)) (hL:L≤3300000) (hL1:1≤L) (hla:la≤20000000) (hr:Dt.Rk n n (at2 A) r) :
  Calls Tryz.prog 31 #[.slice oa n ca] w fun e w'=>∃v,e = .returned v∧PC w' v (Dt.det n (at2 A)).1 (Dt.det n (at2 A)).2∧Below w.heap.size w w':=by
 have HA:=hide ha
 have H:=hide h
 have HK:=hide hk
 have HB:=hide hB
 have HR:=hide hr
 have hn64:n≤64:=by have:=h.1;omega
 have hrn:=rk_le hr
 clear ha h hk hB hr
 by_cases hlt:r<n
 ·have t1:((r:Int)<(n:Int))=True:=eq_true (by omega)
  have E0:=hide (Dt.Rk.det0 noz one_ne HR.out hlt)
  go_enter Tryz.func31,Tryz.ntmps31
  have hs:=St.nil w
  refine zk fun K1 hK1=>rg [0] ?_
  refine sq ?_
  refine .al hs ?_;clear hs;intro p_b1 w_1 hs n1 kb_b1
  refine ze (hK1 _ _ ?_)
  refine zk fun K2 hK2=>rg [0,1,2,3,4,5,6,7,8,9,10,11] ?_
  refine sm ?_
  refine sq ?_
  intro K hK
  have hb:=hs.b
  go_big_op
  go_fit (relim_rk (HA.out.bl stab_n hb) hna H.out HK.out HB.out hL hL1 hla HR.out)
  rintro e w_2 ⟨o9,c9,z,p,v,_,rfl,hz,hrn,hp,hlp,⟨n_fa,o_fa,k_fa,c_fa,n_fb,o_fb,k_fb,c_fb,rfl,f1,f2⟩,hb_2⟩
  clear hb
  replace hs:=hs.bl hb_2
  refine hK _ _ rfl trivial ?_
  clear hK K
  refine xmr ?_
  refine xrr ?_
  refine sr ?_
  refine sq ?_
  refine .al hs ?_;clear hs;intro p_b2 w_3 hs n3 kb_b2
  refine xmm ?_
  refine sq ?_
  refine .s4 hs.g0 (fun _=>hs.u0 kb_b2) ?_;clear hs;intro w_4 hs hd4 ho4
  refine sm (ze (hK2 _ _ ?_))
  refine zk fun K3 hK3 => ?_
  refine zk fun K4 hK4=>rg [0,1,2,3,4] ?_
  refine xmr ?_
  refine xmr ?_
  refine sr (ze (hK4 _ _ ?_))
  refine ct ?_
  refine zk fun K5 hK5=>rg [0,1] ?_
  refine sq ?_
  intro K hK
  go_big_op
  go_fit (rgI_any 0 0 _ (by decide) (by decide) (by decide) (by decide))
  rintro e w_5 ⟨_,rfl,⟨n_ga,o_ga,k_ga,c_ga,n_gb,o_gb,k_gb,c_gb,rfl,g1,g2⟩,hb_5⟩
  replace hs:=hs.bl hb_5
  refine hK _ _ rfl trivial ?_
  clear hK K
  refine sq ?_
  refine .s4 hs.g1 (fun _=>hs.u1 kb_b1) ?_;clear hs;intro w_6 hs hd6 ho6
  refine ze (hK5 _ _ ?_)
  refine wp_ret ?_
  have k5_6:=ko hd6 ho6
  replace g1:=g1.k k5_6
  replace g2:=g2.k k5_6
  try dsimp only [Exit.then,Exit.inBlock]
  obtain⟨r0_0,r0_1,r0_2,r0_3⟩:=hs.g1.f4
  refine bodyPost_ret (v:=(.agg #[.bool n_ga,.slice o_ga k_ga c_ga,.bool n_gb,.slice o_gb k_gb c_gb])) (by simp[results,Tryz.results31,go_sem,r0_0,r0_1,r0_2,r0_3]) rfl ?_
  exact⟨_,rfl,.mk' (by rw[E0.out];exact g1) (by rw[E0.out];exact g2),hs.b⟩
 ·obtain rfl:r=n:=by omega
  have t1:((r:Int)<(r:Int))=False:=eq_false (by omega)
  have HL4:=hide (show L≤40000000 by omega)
  go_enter Tryz.func31,Tryz.ntmps31
  have hs:=St.nil w
  refine zk fun K1 hK1=>rg [0] ?_
  refine sq ?_
  refine .al hs ?_;clear hs;intro p_b1 w_1 hs n1 kb_b1
  refine ze (hK1 _ _ ?_)
  refine zk fun K2 hK2=>rg [0,1,2,3,4,5,6,7,8,9,10,11] ?_
  refine sm ?_
  refine sq ?_
  intro K hK
  have hb:=hs.b
  go_big_op
  go_fit (relim_rk (HA.out.bl stab_n hb) hna H.out HK.out HB.out hL hL1 hla HR.out)
  rintro e w_2 ⟨o9,c9,z,p,v,_,rfl,hz,hrn,hp,hlp,⟨n_fa,o_fa,k_fa,c_fa,n_fb,o_fb,k_fb,c_fb,rfl,f1,f2⟩,hb_2⟩
  clear hb
  replace hs:=hs.bl hb_2
  have Lf1:=hide (f1.lenOf (hlp.1))
  have Lf2:=hide (f2.lenOf (hlp.2))
  refine hK _ _ rfl trivial ?_
  clear hK K
  refine xmr ?_
  refine xrr ?_
  refine sr ?_
  refine sq ?_
  refine .al hs ?_;clear hs;intro p_b2 w_3 hs n3 kb_b2
  refine xmm ?_
  refine sq ?_
  refine .s4 hs.g0 (fun _=>hs.u0 kb_b2) ?_;clear hs;intro w_4 hs hd4 ho4
  refine sm (ze (hK2 _ _ ?_))
  refine zk fun K3 hK3 => ?_
  refine zk fun K4 hK4=>rg [0,1,2,3,4] ?_
  refine xmr ?_
  refine xmr ?_
  refine sr (ze (hK4 _ _ ?_))
  refine cf ?_
  refine wp_skip ?_
  refine hK3 _ _ ?_
  refine zk fun K5 hK5 => ?_
  refine wp_region_f4 [(0,false),(1,false),(2,true),(3,true)] [4] [] (fun _=>default) [0,99,99,99,99] [] (.c hs.g0 .n) fn fun w_5 n5 => ?_
  replace hs:=hs.bl n5
  refine f4 ?_
  refine fmv ?_
  refine fl fun w_6 n6 => ?_
  replace hs:=hs.bl n6
  intro K hK
  go_big_op
  go_fit (rgI_any z 0 _ (by omega) (by omega) (by decide) (by decide))
  rintro e w_7 ⟨_,rfl,⟨n_ia,o_ia,k_ia,c_ia,n_ib,o_ib,k_ib,c_ib,rfl,i1,i2⟩,hb_7⟩
  replace hs:=hs.bl hb_7
  have Li1:=hide (i1.lenOf (zlen_small8 (z:=z) (by omega)))
  have Li2:=hide (i2.lenOf (zlen_small8 (z:=0) (by decide)))
  refine hK _ _ rfl ⟨hb_7,(ai hs.g0 trivial)⟩ ?_
  clear hK K
  refine fl fun w_8 n8 => ?_
  replace hs:=hs.bl n8
  intro K hK
  have k2_8:=(((((kb n3).o hd4 ho4).b n5).b n6).b hb_7).b n8
  replace f1:=f1.k k2_8
  replace f2:=f2.k k2_8
  have k7_8:=kb n8
  replace i1:=i1.k k7_8
  replace i2:=i2.k k7_8
  go_big_op
  go_fit (rgMul_any (.mk' (f1.zn Lf1.out) (f2.zn Lf2.out)) (.mk' (i1.zn Li1.out) (i2.zn Li2.out)) HL4.out HL4.out (by decide) (by decide))
  rintro e w_9 ⟨_,rfl,⟨n_ga,o_ga,k_ga,c_ga,n_gb,o_gb,k_gb,c_gb,rfl,g1,g2⟩,hb_9⟩
  replace hs:=hs.bl hb_9
  refine hK _ _ rfl ⟨hb_9,(ai hs.g0 trivial)⟩ ?_
  clear hK K
  refine e0 hs ?_;clear hs;intro w_10 hs n10
  refine tl ?_
  refine .s4 hs.g1 (fun _=>hs.u1 kb_b1) ?_ (e:=fun _ hs=>(ai hs.g0 trivial));clear hs;intro w_11 hs hd11 ho11
  apply wpTail_end
  refine hK5 _ _ ?_
  refine wp_ret ?_
  have k9_11:=(kb n10).o hd11 ho11
  replace g1:=g1.k k9_11
  replace g2:=g2.k k9_11
  try dsimp only [Exit.then,Exit.inBlock]
  obtain⟨r0_0,r0_1,r0_2,r0_3⟩:=hs.g1.f4
  refine bodyPost_ret (v:=(.agg #[.bool n_ga,.slice o_ga k_ga c_ga,.bool n_gb,.slice o_gb k_gb c_gb])) (by simp[results,Tryz.results31,go_sem,r0_0,r0_1,r0_2,r0_3]) rfl ?_
  exact⟨_,rfl,.mk' (by rw[hp rfl rfl];exact g1) (by rw[hp rfl rfl];exact g2),hs.b⟩
end
set_option linter.unusedSimpArgs false
theorem MinB.part {n L k:Nat} {G:Nat→Nat→Int × Int} (h:MinB n n L G) (hk:k≤n):MinB k k L (at2 (mkM k k G)):=by
 intro s f g hfg hi
 rw[Dt.det_congr (B:=fun i j=>G (f i) (g j)) fun i hi j hj=>at2_mkM (hfg i hi).1 (hfg j hj).2]
 exact h s f g (fun r hr=>⟨by have:=(hfg r hr).1;omega,by have:=(hfg r hr).2;omega⟩) hi
theorem MinB.bd {n L k:Nat} {G:Nat→Nat→Int × Int} (h:MinB n n L G) (hk:k≤n):BdM L (mkM k k G):=fun r hr p hp=>by
 obtain⟨i,hi,rfl⟩:=List.mem_map.1 hr
 obtain⟨j,hj,rfl⟩:=List.mem_map.1 hp
 have:=h.D 0 i (by have:=List.mem_range.1 hi;omega) j (by have:=List.mem_range.1 hj;omega)
 rw[Dt.D_0] at this
 exact this
theorem adjE_even {n i j m:Nat} {M:Nat→Nat→Int × Int} (hm:n - 1=m) (h:(i+j)%2=0):Dt.det m (fun r c=>M (Dt.skip j r) (Dt.skip i c))=adjE n M i j:=by
 unfold adjE Dt.sg;rw[if_pos h,hm];grind
theorem adjE_odd {n i j m:Nat} {M:Nat→Nat→Int × Int} (hm:n - 1=m) (h:(i+j)%2=1):(-(Dt.det m (fun r c=>M (Dt.skip j r) (Dt.skip i c))).1,-(Dt.det m (fun r c=>M (Dt.skip j r) (Dt.skip i c))).2)=adjE n M i j:=by
 unfold adjE Dt.sg;rw[if_neg (by omega),hm]
 show - Dt.det m (fun r c=>M (Dt.skip j r) (Dt.skip i c))=_
 grind
theorem MinB.cut {n m L i j:Nat} {M:Nat→Nat→Int × Int} (h:MinB n n L M) (hm:n - 1=m):MinB m m L (at2 (mkM m m fun r c=>M (Dt.skip j r) (Dt.skip i c))):=by
 intro s f g hfg hi
 have e:Dt.det s (fun a b=>at2 (mkM m m fun r c=>M (Dt.skip j r) (Dt.skip i c)) (f a) (g b))=Dt.det s fun a b=>M (Dt.skip j (f a)) (Dt.skip i (g b)):=Dt.det_congr fun a ha b hb=>at2_mkM (F:=fun r c=>M (Dt.skip j r) (Dt.skip i c)) (hfg a ha).1 (hfg b hb).2
 rw[e]
 exact h s (fun a=>Dt.skip j (f a)) (fun b=>Dt.skip i (g b)) (fun r hr=>⟨by have:=(hfg r hr).1;unfold Dt.skip;split <;> omega,by have:=(hfg r hr).2;unfold Dt.skip;split <;> omega⟩) fun r q h1 h2 h3=>hi r q h1 h2 (by
  unfold Dt.skip at h3;split at h3 <;> split at h3 <;> omega)
section
variable {w:World} {l n cm L m:Nat} {om:Option Addr} {M:List (List (Int × Int))}
theorem rNew_sq {q:Int} (hq:q=(m:Int)) (hm:m≤1000000) :
  Calls Tryz.prog 74 #[.int .i64 q,.int .i64 q] w fun e w'=>∃o c rs,e = .returned (.slice o m c)∧rs.length=m∧St w (Mx w.heap.size (.slice o m c) rs) w'∧RD w' rs (mkM m m fun _ _=>(0,0))∧Below w.heap.size w w':=by
 subst hq;exact rNew_any hm hm
set_option maxHeartbeats 8000000 in
set_option maxRecDepth 20000 in
theorem rAdjg_any (hm:MN l w om M) (hn:M.length=n) (h:gd M) (hk:wd M=n) (hB:MinB n n L (at2 M)) (hL:L≤3300000) (hL1:1≤L) (hl1:l≤9000000) :
  Calls Tryz.prog 32 #[.slice om n cm] w fun e w'=>∃o c rs,e = .returned (.slice o n c)∧rs.length=n∧St w (Mx w.heap.size (.slice o n c) rs) w'∧RD w' rs (mkM n n (adjE n (at2 M)))∧Below w.heap.size w w':=by
 have HM:=hide hm
 have HB:=hide hB
 have HL:=hide (show ∀i,i<n→(rw_ M i).length=n from fun i hi=>by rw[gd_row h (by omega)];exact hk)
 have HBM:=hide hm.bd
 have hn64:n≤64:=by have:=h.1;omega
 obtain⟨G,hG⟩:∃G,G=adjE n (at2 M):=⟨_,rfl⟩
 rw[←hG]
 have HG:=hide hG
 obtain⟨m,hm1⟩:∃m,n - 1=m:=⟨_,rfl⟩
 have HM1:=hide hm1
 have hmn:0<n→n=m+1:=by omega
 have HMN:=hide hmn
 have hm64:m≤64:=by omega
 clear hm h hk hB hG hm1 hmn
 go_enter Tryz.func32,Tryz.ntmps32
 have hs:=St.nil w
 refine zk fun K1 hK1=>rg [0] ?_
 refine sm (ze (hK1 _ _ ?_))
 refine zk fun K2 hK2=>rg [0,1,2] ?_
 refine xmr ?_
 refine sm (ze (hK2 _ _ ?_))
 refine zk fun K3 hK3=>rg [0,1,2,3] ?_
 refine xmm ?_
 refine sq ?_
 intro K hK
 go_big_op
 go_fit (rNew_any (r:=n) (k:=n) (by omega) (by omega))
 rintro e w_1 ⟨o_O,c_O,rs_O,rfl,hl_O,hs_O,d_O,hb_1⟩
 replace hs:=hs.mx hl_O hs_O;simp only[List.nil_append] at hs
 refine hK _ _ rfl trivial ?_
 clear hK K
 refine sm (ze (hK3 _ _ ?_))
 refine zk fun K4 hK4 => ?_
 refine zk fun K5 hK5=>rg [0] ?_
 refine sm (ze (hK5 _ _ ?_))
 refine wp_block ?_
 have hd2:=hs.2.1
 go_loopg [5] n (fun kz s5 wr=>∃(i:Nat) (rs:List Rw),s5 = .int .i64 (i:Int)∧i+kz=n∧rs.length=n∧RD wr rs (mkM n n (fi G i 0))∧St w (ls w.heap.size 24 1 (.slice o_O n c_O) n (rs.map (·.v))::(rs.map (Rw.e w.heap.size))) wr)
 case atStart=>exact⟨0,rs_O,rfl,by omega,hl_O,by rw[←fi_0];exact d_O,hs⟩
 case round =>
 clear d_O hs
 obtain⟨i,rs,rfl,hin,hrl,hd,hs⟩:=hrel
 have HO := ‹∀(a':Act) (w':World),Handed _ _ a' w'→_›
 obtain⟨g1,hg1⟩:∃g,gk=g:=⟨_,rfl⟩
 by_cases hi:i<n
 ·have HI:=hide hi
  have hnm:n=m+1:=HMN.out (by omega)
  have t1:((i:Int)<(n:Int))=True:=eq_true (by omega)
  refine zk fun K6 hK6 => ?_
  refine zk fun K7 hK7=>rg [0,1,2] ?_
  refine xmm ?_
  refine sr (ze (hK7 _ _ ?_))
  refine ct ?_
  refine wp_skip ?_
  refine hK6 _ _ ?_
  refine zk fun K8 hK8 => ?_
  refine wp_block ?_
  refine zk fun K9 hK9=>rg [0] ?_
  refine sm (ze (hK9 _ _ ?_))
  refine wp_block ?_
  have hd3:=hs.2.1
  go_loopg [6] n (fun kz s6 wr=>∃(j:Nat) (rs:List Rw),s6 = .int .i64 (j:Int)∧j+kz=n∧rs.length=n∧RD wr rs (mkM n n (fi G i j))∧St w (ls w.heap.size 24 1 (.slice o_O n c_O) n (rs.map (·.v))::(rs.map (Rw.e w.heap.size))) wr)
  case atStart=>exact⟨0,rs,rfl,by omega,hrl,hd,hs⟩
  case round =>
  clear hrl
  clear hd hs
  obtain⟨j,rs,rfl,hjn,hrl,hd,hs⟩:=hrel
  have HO2 := ‹∀(a':Act) (w':World),Handed _ _ a' w'→_›
  obtain⟨g2,hg2⟩:∃g,gk=g:=⟨_,rfl⟩
  by_cases hj:j<n
  ·have HJ:=hide hj
   have t2:((j:Int)<(n:Int))=True:=eq_true (by omega)
   obtain⟨H,hH⟩:∃H:Nat→Nat→Int × Int,H=fun r c=>at2 M (Dt.skip j r) (Dt.skip i c):=⟨_,rfl⟩
   have HH:=hide hH
   clear hH
   refine zk fun K10 hK10 => ?_
   refine zk fun K11 hK11=>rg [0,1,2] ?_
   refine xmm ?_
   refine sr (ze (hK11 _ _ ?_))
   refine ct ?_
   refine wp_skip ?_
   refine hK10 _ _ ?_
   refine zk fun K12 hK12 => ?_
   refine wp_block ?_
   refine zk fun K13 hK13=>rg [0,1,2,3,4,5] ?_
   refine xmr ?_
   refine xmr ?_
   refine sq ?_
   intro K hK
   go_big_op
   go_fit (rNew_sq (m:=m) (by omega) (by omega))
   rintro e w_4 ⟨o_P,c_P,rs_P,rfl,hl_P,hs_P,d_P,hb_4⟩
   replace hs:=hs.mx hl_P hs_P;simp only[List.cons_append,List.nil_append] at hs
   refine hK _ _ rfl trivial ?_
   clear hK K
   refine sm (ze (hK13 _ _ ?_))
   refine zk fun K14 hK14 => ?_
   refine zk fun K15 hK15=>rg [0] ?_
   refine sm (ze (hK15 _ _ ?_))
   refine wp_block ?_
   have hdP:RL l w_4 rs_P (mkM m m (fi H 0 0)):=by rw[←fi_0];exact RL.of d_P (bdM_mk fun i _ j _=>zl_0 _)
   have k0_1:=kb hb_4
   replace hd:=hd.k k0_1
   have hd5:=hs.2.1
   go_loopg [8] m (fun kz s8 wr=>∃(r:Nat) (ts:List Rw),s8 = .int .i64 (r:Int)∧r+kz=m∧ts.length=m∧RL l wr ts (mkM m m (fi H r 0))∧RD wr rs (mkM n n (fi G i j))∧St w (ls w.heap.size 24 1 (.slice o_P m c_P) m (ts.map (·.v))::((ls w.heap.size 24 1 (.slice o_O n c_O) n (rs.map (·.v))::rs.map (Rw.e w.heap.size))++ts.map (Rw.e w.heap.size))) wr)
   case atStart=>exact⟨0,rs_P,rfl,by omega,hl_P,hdP,hd,hs⟩
   case round =>
   clear hd d_P hs
   obtain⟨r,ts,rfl,hrm,htl,hdP,hd,hs⟩:=hrel
   have HO3 := ‹∀(a':Act) (w':World),Handed _ _ a' w'→_›
   obtain⟨g3,hg3⟩:∃g,gk=g:=⟨_,rfl⟩
   by_cases hr:r<m
   ·have HR:=hide hr
    have t3:((r:Int)<(n:Int) - 1)=True:=eq_true (by omega)
    refine zk fun K16 hK16 => ?_
    refine zk fun K17 hK17=>rg [0,1,2,3] ?_
    refine xmm ?_
    refine sr ?_
    refine sr (ze (hK17 _ _ ?_))
    refine ct ?_
    refine wp_skip ?_
    refine hK16 _ _ ?_
    refine zk fun K18 hK18 => ?_
    refine wp_block ?_
    refine zk fun K19 hK19=>rg [0] ?_
    refine sm (ze (hK19 _ _ ?_))
    refine wp_block ?_
    have hd6:=hs.2.1
    go_loopg [9] m (fun kz s9 wr=>∃(c:Nat) (ts:List Rw),s9 = .int .i64 (c:Int)∧c+kz=m∧ts.length=m∧RL l wr ts (mkM m m (fi H r c))∧RD wr rs (mkM n n (fi G i j))∧St w (ls w.heap.size 24 1 (.slice o_P m c_P) m (ts.map (·.v))::((ls w.heap.size 24 1 (.slice o_O n c_O) n (rs.map (·.v))::rs.map (Rw.e w.heap.size))++ts.map (Rw.e w.heap.size))) wr)
    case atStart=>exact⟨0,ts,rfl,by omega,htl,hdP,hd,hs⟩
    case round =>
    clear htl
    clear hd hdP hs
    obtain⟨c,ts,rfl,hcm,htl,hdP,hd,hs⟩:=hrel
    by_cases hc:c<m
    ·have HC:=hide hc
     have t4:((c:Int)<(n:Int) - 1)=True:=eq_true (by omega)
     obtain⟨r1,gr,cr,ys,r2,er,hr1,hrv,hx,hs⟩:=hs.rowL (bs:=ls w.heap.size 24 1 (.slice o_O n c_O) n (rs.map (·.v))::rs.map (Rw.e w.heap.size)) hdP (p:=r) (K:=m) (by rw[len_mkM];exact HR.out) (by rw[mkM_row HR.out];simp) (by omega)
     subst er
     have LO:Lst wr w.heap.size 24 1 (.slice o_P m c_P) m _:=hs.1.2.1.1
     obtain⟨gP,curP,rfl,xP,hcP⟩:=LO.box (by omega)
     have eP:=hcP _ _ hrv
     clear LO hcP hrv
     by_cases ha:r<j
     ·have HY:=hide (show Dt.skip j r=r by unfold Dt.skip;rw[if_pos ha])
      have t6:((j:Int)≤(r:Int))=False:=eq_false (by omega)
      clear ha
      by_cases hb9:c<i
      ·have HX:=hide (show Dt.skip i c=c by unfold Dt.skip;rw[if_pos hb9])
       have t7:((i:Int)≤(c:Int))=False:=eq_false (by omega)
       clear hb9
       obtain⟨gM,offM,curM,tyM,fzM,g2',off2,cur2,ty2,fz2,ci,a1,a2,a3,a4,a5,a6,a7,a8,rfl,xM,eM,x2,e1,e2,e3,e4,z1,z2⟩:=HM.out.op (i:=r) (j:=c) (by omega) (by rw[HL.out _ (by omega)];omega)
       rw[HL.out _ (by omega)] at eM
       have HHE:=hide (show H r c=at2 M r c by rw[HH.out];simp only[];rw[HY.out,HX.out])
       have xMz:=xM
       have lt_kM:=xM.lt
       replace xM:=xM.bl hs.b
       have x2z:=x2
       have lt_kRM:=x2.lt
       replace x2:=x2.bl hs.b
       replace z1:ZN wr (.agg #[.bool a1,.slice a2 a3 a4]) (H r c).1 l:=by rw[HHE.out];exact z1.bl hs.b
       replace z2:ZN wr (.agg #[.bool a5,.slice a6 a7 a8]) (H r c).2 l:=by rw[HHE.out];exact z2.bl hs.b
       refine zk fun K20 hK20 => ?_
       refine zk fun K21 hK21=>rg [0,1,2,3] ?_
       refine xmm ?_
       refine sr ?_
       refine sr (ze (hK21 _ _ ?_))
       refine ct ?_
       refine wp_skip ?_
       refine hK20 _ _ ?_
       refine zk fun K22 hK22 => ?_
       refine wp_block ?_
       refine zk fun K23 hK23=>rg [0,1] ?_
       refine sm ?_
       refine sm (ze (hK23 _ _ ?_))
       refine zk fun K24 hK24=>rg [0,1] ?_
       refine sm ?_
       refine sm (ze (hK24 _ _ ?_))
       refine zk fun K25 hK25 => ?_
       refine zk fun K26 hK26=>rg [0,1,2] ?_
       refine xmm ?_
       refine sr (ze (hK26 _ _ ?_))
       refine cf ?_
       refine wp_skip ?_
       refine hK25 _ _ ?_
       refine zk fun K27 hK27 => ?_
       refine zk fun K28 hK28=>rg [0,1,2] ?_
       refine xmm ?_
       refine sr (ze (hK28 _ _ ?_))
       refine cf ?_
       refine wp_skip ?_
       refine hK27 _ _ ?_
       refine wp_region_f4 [(0,false),(1,false),(2,false),(3,false),(4,false),(5,false),(6,false),(7,false),(8,false),(9,false),(10,false),(11,false),(12,false)] [13] [] (fun _=>default) [99,99,99,0,99,99,99,99,1,99,99,2,99,99] [] (.c xP (.c xM (.c x2 .n))) fn fun w_7 n7 => ?_
       replace xM:=xM.bl n7;replace x2:=x2.bl n7;replace xP:=xP.bl n7;replace hs:=hs.bl n7
       refine fmv ?_
       refine fmv ?_
       refine f0 ?_
       apply wpFl_ld rfl rfl;(case h1=>intro w' hC K hK;have c0:=Bs.cell hC (r) eP;go_big_op;exact hK);iterate 4 kernel_rfl
       refine fmv ?_
       refine fmv ?_
       refine fmv ?_
       refine f0 ?_
       apply wpFl_ld rfl rfl;(case h1=>intro w' hC K hK;have c0:=Bs.cell hC ((offM+r)) eM;go_big_op;exact hK);iterate 4 kernel_rfl
       refine fmv ?_
       refine f0 ?_
       apply wpFl_ld rfl rfl;(case h1=>intro w' hC K hK;have c0:=Bs.cell hC ((off2+c*4)) e1;have c1:=Bs.cell hC ((off2+c*4)+1) e2;have c2:=Bs.cell hC ((off2+c*4)+2) e3;have c3:=Bs.cell hC ((off2+c*4)+3) e4;go_big_op;exact hK);iterate 4 kernel_rfl
       refine f0 ?_
       refine e0 hs ?_;clear hs;intro w_8 hs n8
       replace xM:=xM.bl n8;replace x2:=x2.bl n8;replace xP:=xP.bl n8
       refine tl ?_
       refine .i4 0 hs (j:=c) (by exact HC.out) ?_ (e:=fun _ hB hO=>(ai (xP.frame hO (hs.ne 1 0)) (ai (xMz.bl hB) (ai (x2z.bl hB) trivial))));clear hs;intro w_9 hs kp9 hd9 ho9 hw9;simp only[List.set_cons_zero] at hs
       replace xM:=xM.lo lt_kM hw9
       replace x2:=x2.lo lt_kRM hw9
       clear xP
       apply wpTail_end
       refine hK22 _ _ ?_
       refine rg [0,1,2] ?_
       refine xmr ?_
       refine sm ?_
       apply wpSq_end
       have k0_3:=((kb n7).b n8).t kp9
       replace hd:=hd.k k0_3
       replace hdP:=hdP.k k0_3
       replace hx:=hx.k k0_3
       replace z1:=z1.k k0_3
       replace z2:=z2.k k0_3
       refine ‹∀(a':Act) (w':World),Handed _ _ a' w'→_› _ _ ?_
       have hs:=hs.unrow (bs:=ls w.heap.size 24 1 (.slice o_O n c_O) n (rs.map (·.v))::rs.map (Rw.e w.heap.size))
       go_roundg (gk - 1)
       case rel=>exact⟨c+1,_,by rfl,by omega,by simpa using htl,RL.fi hdP hr1 HR.out HC.out hx z1 z2,hd,hs⟩
       case measure=>omega
      ·have HX:=hide (show Dt.skip i c=(c+1) by unfold Dt.skip;rw[if_neg (by omega)])
       have t7:((i:Int)≤(c:Int))=True:=eq_true (by omega)
       clear hb9
       obtain⟨gM,offM,curM,tyM,fzM,g2',off2,cur2,ty2,fz2,ci,a1,a2,a3,a4,a5,a6,a7,a8,rfl,xM,eM,x2,e1,e2,e3,e4,z1,z2⟩:=HM.out.op (i:=r) (j:=(c+1)) (by omega) (by rw[HL.out _ (by omega)];omega)
       rw[HL.out _ (by omega)] at eM
       have HHE:=hide (show H r c=at2 M r (c+1) by rw[HH.out];simp only[];rw[HY.out,HX.out])
       have xMz:=xM
       have lt_kM:=xM.lt
       replace xM:=xM.bl hs.b
       have x2z:=x2
       have lt_kRM:=x2.lt
       replace x2:=x2.bl hs.b
       replace z1:ZN wr (.agg #[.bool a1,.slice a2 a3 a4]) (H r c).1 l:=by rw[HHE.out];exact z1.bl hs.b
       replace z2:ZN wr (.agg #[.bool a5,.slice a6 a7 a8]) (H r c).2 l:=by rw[HHE.out];exact z2.bl hs.b
       refine zk fun K20 hK20 => ?_
       refine zk fun K21 hK21=>rg [0,1,2,3] ?_
       refine xmm ?_
       refine sr ?_
       refine sr (ze (hK21 _ _ ?_))
       refine ct ?_
       refine wp_skip ?_
       refine hK20 _ _ ?_
       refine zk fun K22 hK22 => ?_
       refine wp_block ?_
       refine zk fun K23 hK23=>rg [0,1] ?_
       refine sm ?_
       refine sm (ze (hK23 _ _ ?_))
       refine zk fun K24 hK24=>rg [0,1] ?_
       refine sm ?_
       refine sm (ze (hK24 _ _ ?_))
       refine zk fun K25 hK25 => ?_
       refine zk fun K26 hK26=>rg [0,1,2] ?_
       refine xmm ?_
       refine sr (ze (hK26 _ _ ?_))
       refine cf ?_
       refine wp_skip ?_
       refine hK25 _ _ ?_
       refine zk fun K27 hK27 => ?_
       refine zk fun K28 hK28=>rg [0,1,2] ?_
       refine xmm ?_
       refine sr (ze (hK28 _ _ ?_))
       refine ct ?_
       refine rg [0,1,2] ?_
       refine xmr ?_
       refine sm (ze (hK27 _ _ ?_))
       refine wp_region_f4 [(0,false),(1,false),(2,false),(3,false),(4,false),(5,false),(6,false),(7,false),(8,false),(9,false),(10,false),(11,false),(12,false)] [13] [] (fun _=>default) [99,99,99,0,99,99,99,99,1,99,99,2,99,99] [] (.c xP (.c xM (.c x2 .n))) fn fun w_7 n7 => ?_
       replace xM:=xM.bl n7;replace x2:=x2.bl n7;replace xP:=xP.bl n7;replace hs:=hs.bl n7
       refine fmv ?_
       refine fmv ?_
       refine f0 ?_
       apply wpFl_ld rfl rfl;(case h1=>intro w' hC K hK;have c0:=Bs.cell hC (r) eP;go_big_op;exact hK);iterate 4 kernel_rfl
       refine fmv ?_
       refine fmv ?_
       refine fmv ?_
       refine f0 ?_
       apply wpFl_ld rfl rfl;(case h1=>intro w' hC K hK;have c0:=Bs.cell hC ((offM+r)) eM;go_big_op;exact hK);iterate 4 kernel_rfl
       refine fmv ?_
       refine f0 ?_
       apply wpFl_ld rfl rfl;(case h1=>intro w' hC K hK;have c0:=Bs.cell hC ((off2+(c+1)*4)) e1;have c1:=Bs.cell hC ((off2+(c+1)*4)+1) e2;have c2:=Bs.cell hC ((off2+(c+1)*4)+2) e3;have c3:=Bs.cell hC ((off2+(c+1)*4)+3) e4;go_big_op;exact hK);iterate 4 kernel_rfl
       refine f0 ?_
       refine e0 hs ?_;clear hs;intro w_8 hs n8
       replace xM:=xM.bl n8;replace x2:=x2.bl n8;replace xP:=xP.bl n8
       refine tl ?_
       refine .i4 0 hs (j:=c) (by exact HC.out) ?_ (e:=fun _ hB hO=>(ai (xP.frame hO (hs.ne 1 0)) (ai (xMz.bl hB) (ai (x2z.bl hB) trivial))));clear hs;intro w_9 hs kp9 hd9 ho9 hw9;simp only[List.set_cons_zero] at hs
       replace xM:=xM.lo lt_kM hw9
       replace x2:=x2.lo lt_kRM hw9
       clear xP
       apply wpTail_end
       refine hK22 _ _ ?_
       refine rg [0,1,2] ?_
       refine xmr ?_
       refine sm ?_
       apply wpSq_end
       have k0_3:=((kb n7).b n8).t kp9
       replace hd:=hd.k k0_3
       replace hdP:=hdP.k k0_3
       replace hx:=hx.k k0_3
       replace z1:=z1.k k0_3
       replace z2:=z2.k k0_3
       refine ‹∀(a':Act) (w':World),Handed _ _ a' w'→_› _ _ ?_
       have hs:=hs.unrow (bs:=ls w.heap.size 24 1 (.slice o_O n c_O) n (rs.map (·.v))::rs.map (Rw.e w.heap.size))
       go_roundg (gk - 1)
       case rel=>exact⟨c+1,_,by rfl,by omega,by simpa using htl,RL.fi hdP hr1 HR.out HC.out hx z1 z2,hd,hs⟩
       case measure=>omega
     ·have HY:=hide (show Dt.skip j r=(r+1) by unfold Dt.skip;rw[if_neg (by omega)])
      have t6:((j:Int)≤(r:Int))=True:=eq_true (by omega)
      clear ha
      by_cases hb9:c<i
      ·have HX:=hide (show Dt.skip i c=c by unfold Dt.skip;rw[if_pos hb9])
       have t7:((i:Int)≤(c:Int))=False:=eq_false (by omega)
       clear hb9
       obtain⟨gM,offM,curM,tyM,fzM,g2',off2,cur2,ty2,fz2,ci,a1,a2,a3,a4,a5,a6,a7,a8,rfl,xM,eM,x2,e1,e2,e3,e4,z1,z2⟩:=HM.out.op (i:=(r+1)) (j:=c) (by omega) (by rw[HL.out _ (by omega)];omega)
       rw[HL.out _ (by omega)] at eM
       have HHE:=hide (show H r c=at2 M (r+1) c by rw[HH.out];simp only[];rw[HY.out,HX.out])
       have xMz:=xM
       have lt_kM:=xM.lt
       replace xM:=xM.bl hs.b
       have x2z:=x2
       have lt_kRM:=x2.lt
       replace x2:=x2.bl hs.b
       replace z1:ZN wr (.agg #[.bool a1,.slice a2 a3 a4]) (H r c).1 l:=by rw[HHE.out];exact z1.bl hs.b
       replace z2:ZN wr (.agg #[.bool a5,.slice a6 a7 a8]) (H r c).2 l:=by rw[HHE.out];exact z2.bl hs.b
       refine zk fun K20 hK20 => ?_
       refine zk fun K21 hK21=>rg [0,1,2,3] ?_
       refine xmm ?_
       refine sr ?_
       refine sr (ze (hK21 _ _ ?_))
       refine ct ?_
       refine wp_skip ?_
       refine hK20 _ _ ?_
       refine zk fun K22 hK22 => ?_
       refine wp_block ?_
       refine zk fun K23 hK23=>rg [0,1] ?_
       refine sm ?_
       refine sm (ze (hK23 _ _ ?_))
       refine zk fun K24 hK24=>rg [0,1] ?_
       refine sm ?_
       refine sm (ze (hK24 _ _ ?_))
       refine zk fun K25 hK25 => ?_
       refine zk fun K26 hK26=>rg [0,1,2] ?_
       refine xmm ?_
       refine sr (ze (hK26 _ _ ?_))
       refine ct ?_
       refine rg [0,1,2] ?_
       refine xmr ?_
       refine sm (ze (hK25 _ _ ?_))
       refine zk fun K27 hK27 => ?_
       refine zk fun K28 hK28=>rg [0,1,2] ?_
       refine xmm ?_
       refine sr (ze (hK28 _ _ ?_))
       refine cf ?_
       refine wp_skip ?_
       refine hK27 _ _ ?_
       refine wp_region_f4 [(0,false),(1,false),(2,false),(3,false),(4,false),(5,false),(6,false),(7,false),(8,false),(9,false),(10,false),(11,false),(12,false)] [13] [] (fun _=>default) [99,99,99,0,99,99,99,99,1,99,99,2,99,99] [] (.c xP (.c xM (.c x2 .n))) fn fun w_7 n7 => ?_
       replace xM:=xM.bl n7;replace x2:=x2.bl n7;replace xP:=xP.bl n7;replace hs:=hs.bl n7
       refine fmv ?_
       refine fmv ?_
       refine f0 ?_
       apply wpFl_ld rfl rfl;(case h1=>intro w' hC K hK;have c0:=Bs.cell hC (r) eP;go_big_op;exact hK);iterate 4 kernel_rfl
       refine fmv ?_
       refine fmv ?_
       refine fmv ?_
       refine f0 ?_
       apply wpFl_ld rfl rfl;(case h1=>intro w' hC K hK;have c0:=Bs.cell hC ((offM+(r+1))) eM;go_big_op;exact hK);iterate 4 kernel_rfl
       refine fmv ?_
       refine f0 ?_
       apply wpFl_ld rfl rfl;(case h1=>intro w' hC K hK;have c0:=Bs.cell hC ((off2+c*4)) e1;have c1:=Bs.cell hC ((off2+c*4)+1) e2;have c2:=Bs.cell hC ((off2+c*4)+2) e3;have c3:=Bs.cell hC ((off2+c*4)+3) e4;go_big_op;exact hK);iterate 4 kernel_rfl
       refine f0 ?_
       refine e0 hs ?_;clear hs;intro w_8 hs n8
       replace xM:=xM.bl n8;replace x2:=x2.bl n8;replace xP:=xP.bl n8
       refine tl ?_
       refine .i4 0 hs (j:=c) (by exact HC.out) ?_ (e:=fun _ hB hO=>(ai (xP.frame hO (hs.ne 1 0)) (ai (xMz.bl hB) (ai (x2z.bl hB) trivial))));clear hs;intro w_9 hs kp9 hd9 ho9 hw9;simp only[List.set_cons_zero] at hs
       replace xM:=xM.lo lt_kM hw9
       replace x2:=x2.lo lt_kRM hw9
       clear xP
       apply wpTail_end
       refine hK22 _ _ ?_
       refine rg [0,1,2] ?_
       refine xmr ?_
       refine sm ?_
       apply wpSq_end
       have k0_3:=((kb n7).b n8).t kp9
       replace hd:=hd.k k0_3
       replace hdP:=hdP.k k0_3
       replace hx:=hx.k k0_3
       replace z1:=z1.k k0_3
       replace z2:=z2.k k0_3
       refine ‹∀(a':Act) (w':World),Handed _ _ a' w'→_› _ _ ?_
       have hs:=hs.unrow (bs:=ls w.heap.size 24 1 (.slice o_O n c_O) n (rs.map (·.v))::rs.map (Rw.e w.heap.size))
       go_roundg (gk - 1)
       case rel=>exact⟨c+1,_,by rfl,by omega,by simpa using htl,RL.fi hdP hr1 HR.out HC.out hx z1 z2,hd,hs⟩
       case measure=>omega
      ·have HX:=hide (show Dt.skip i c=(c+1) by unfold Dt.skip;rw[if_neg (by omega)])
       have t7:((i:Int)≤(c:Int))=True:=eq_true (by omega)
       clear hb9
       obtain⟨gM,offM,curM,tyM,fzM,g2',off2,cur2,ty2,fz2,ci,a1,a2,a3,a4,a5,a6,a7,a8,rfl,xM,eM,x2,e1,e2,e3,e4,z1,z2⟩:=HM.out.op (i:=(r+1)) (j:=(c+1)) (by omega) (by rw[HL.out _ (by omega)];omega)
       rw[HL.out _ (by omega)] at eM
       have HHE:=hide (show H r c=at2 M (r+1) (c+1) by rw[HH.out];simp only[];rw[HY.out,HX.out])
       have xMz:=xM
       have lt_kM:=xM.lt
       replace xM:=xM.bl hs.b
       have x2z:=x2
       have lt_kRM:=x2.lt
       replace x2:=x2.bl hs.b
       replace z1:ZN wr (.agg #[.bool a1,.slice a2 a3 a4]) (H r c).1 l:=by rw[HHE.out];exact z1.bl hs.b
       replace z2:ZN wr (.agg #[.bool a5,.slice a6 a7 a8]) (H r c).2 l:=by rw[HHE.out];exact z2.bl hs.b
       refine zk fun K20 hK20 => ?_
       refine zk fun K21 hK21=>rg [0,1,2,3] ?_
       refine xmm ?_
       refine sr ?_
       refine sr (ze (hK21 _ _ ?_))
       refine ct ?_
       refine wp_skip ?_
       refine hK20 _ _ ?_
       refine zk fun K22 hK22 => ?_
       refine wp_block ?_
       refine zk fun K23 hK23=>rg [0,1] ?_
       refine sm ?_
       refine sm (ze (hK23 _ _ ?_))
       refine zk fun K24 hK24=>rg [0,1] ?_
       refine sm ?_
       refine sm (ze (hK24 _ _ ?_))
       refine zk fun K25 hK25 => ?_
       refine zk fun K26 hK26=>rg [0,1,2] ?_
       refine xmm ?_
       refine sr (ze (hK26 _ _ ?_))
       refine ct ?_
       refine rg [0,1,2] ?_
       refine xmr ?_
       refine sm (ze (hK25 _ _ ?_))
       refine zk fun K27 hK27 => ?_
       refine zk fun K28 hK28=>rg [0,1,2] ?_
       refine xmm ?_
       refine sr (ze (hK28 _ _ ?_))
       refine ct ?_
       refine rg [0,1,2] ?_
       refine xmr ?_
       refine sm (ze (hK27 _ _ ?_))
       refine wp_region_f4 [(0,false),(1,false),(2,false),(3,false),(4,false),(5,false),(6,false),(7,false),(8,false),(9,false),(10,false),(11,false),(12,false)] [13] [] (fun _=>default) [99,99,99,0,99,99,99,99,1,99,99,2,99,99] [] (.c xP (.c xM (.c x2 .n))) fn fun w_7 n7 => ?_
       replace xM:=xM.bl n7;replace x2:=x2.bl n7;replace xP:=xP.bl n7;replace hs:=hs.bl n7
       refine fmv ?_
       refine fmv ?_
       refine f0 ?_
       apply wpFl_ld rfl rfl;(case h1=>intro w' hC K hK;have c0:=Bs.cell hC (r) eP;go_big_op;exact hK);iterate 4 kernel_rfl
       refine fmv ?_
       refine fmv ?_
       refine fmv ?_
       refine f0 ?_
       apply wpFl_ld rfl rfl;(case h1=>intro w' hC K hK;have c0:=Bs.cell hC ((offM+(r+1))) eM;go_big_op;exact hK);iterate 4 kernel_rfl
       refine fmv ?_
       refine f0 ?_
       apply wpFl_ld rfl rfl;(case h1=>intro w' hC K hK;have c0:=Bs.cell hC ((off2+(c+1)*4)) e1;have c1:=Bs.cell hC ((off2+(c+1)*4)+1) e2;have c2:=Bs.cell hC ((off2+(c+1)*4)+2) e3;have c3:=Bs.cell hC ((off2+(c+1)*4)+3) e4;go_big_op;exact hK);iterate 4 kernel_rfl
       refine f0 ?_
       refine e0 hs ?_;clear hs;intro w_8 hs n8
       replace xM:=xM.bl n8;replace x2:=x2.bl n8;replace xP:=xP.bl n8
       refine tl ?_
       refine .i4 0 hs (j:=c) (by exact HC.out) ?_ (e:=fun _ hB hO=>(ai (xP.frame hO (hs.ne 1 0)) (ai (xMz.bl hB) (ai (x2z.bl hB) trivial))));clear hs;intro w_9 hs kp9 hd9 ho9 hw9;simp only[List.set_cons_zero] at hs
       replace xM:=xM.lo lt_kM hw9
       replace x2:=x2.lo lt_kRM hw9
       clear xP
       apply wpTail_end
       refine hK22 _ _ ?_
       refine rg [0,1,2] ?_
       refine xmr ?_
       refine sm ?_
       apply wpSq_end
       have k0_3:=((kb n7).b n8).t kp9
       replace hd:=hd.k k0_3
       replace hdP:=hdP.k k0_3
       replace hx:=hx.k k0_3
       replace z1:=z1.k k0_3
       replace z2:=z2.k k0_3
       refine ‹∀(a':Act) (w':World),Handed _ _ a' w'→_› _ _ ?_
       have hs:=hs.unrow (bs:=ls w.heap.size 24 1 (.slice o_O n c_O) n (rs.map (·.v))::rs.map (Rw.e w.heap.size))
       go_roundg (gk - 1)
       case rel=>exact⟨c+1,_,by rfl,by omega,by simpa using htl,RL.fi hdP hr1 HR.out HC.out hx z1 z2,hd,hs⟩
       case measure=>omega
    ·obtain rfl:c=m:=by omega
     have HC:=hide hc
     have t4:((c:Int)<(n:Int) - 1)=False:=eq_false (by omega)
     refine zk fun K20 hK20 => ?_
     refine zk fun K21 hK21=>rg [0,1,2,3] ?_
     refine xmm ?_
     refine sr ?_
     refine sr (ze (hK21 _ _ ?_))
     refine cf ?_
     refine wp_exit ?_
     refine hK18 _ _ ?_
     refine rg [0,1,2] ?_
     refine xmr ?_
     refine sm ?_
     apply wpSq_end
     refine HO3 _ _ ?_
     go_roundg (g3 - 1)
     case rel=>exact⟨r+1,ts,by rfl,by omega,htl,by rw[←fi_row];exact hdP,hd,hs⟩
     case measure=>omega
   ·obtain rfl:r=m:=by omega
    have HR:=hide hr
    have t3:((r:Int)<(n:Int) - 1)=False:=eq_false (by omega)
    rw[fi_end] at hdP
    have hs:=hs.perm (cs:=ls w.heap.size 24 1 (.slice o_O n c_O) n (rs.map (·.v))::((ls w.heap.size 24 1 (.slice o_P r c_P) r (ts.map (·.v))::ts.map (Rw.e w.heap.size))++rs.map (Rw.e w.heap.size))) ((List.Perm.swap _ _ _).trans (List.Perm.cons _ (List.Perm.cons _ List.perm_append_comm)))
    obtain⟨r1,gr,cr,ys,r2,er,hr1,hrv,hx,hs⟩:=hs.row (bs:=ls w.heap.size 24 1 (.slice o_P r c_P) r (ts.map (·.v))::ts.map (Rw.e w.heap.size)) hd (p:=i) (K:=n) (by rw[len_mkM];exact HI.out) (by rw[mkM_row HI.out];simp) (by omega)
    subst er
    obtain⟨q,hq⟩:=Dt.rk_exists one_ne r r (at2 (mkM r r H))
    have HRK:=hide hq
    have hDE:=hide (show Dt.det r (at2 (mkM r r H))=Dt.det r H from Dt.det_congr fun p hp q hq=>at2_mkM hp hq)
    have hPT:=hide (show MinB r r L (at2 (mkM r r H)) by rw[HH.out];exact HB.out.cut HM1.out)
    have hGD:=hide (show gd (mkM r r H) from gd_mkM (by omega) (by omega))
    have hWD:=hide (show wd (mkM r r H)=r from wd_mkM (by omega))
    have LD:=hide (show zl L (Dt.det r H) by rw[←hDE.out];exact hPT.out r id id (fun r hr=>⟨hr,hr⟩) (fun r q h _=>by simp only[id];omega))
    clear hq
    by_cases hev:(i+j)%2=0
    ·have t5:(((i:Int)+(j:Int)).tmod 2==1)=false:=beq_eq_false_iff_ne.2 (by rw[Int.tmod_eq_emod_of_nonneg (by omega)];omega)
     have HE:=hide (show Dt.det r H=G i j by rw[HH.out,HG.out];exact adjE_even HM1.out hev)
     clear hev
     refine zk fun K16 hK16 => ?_
     refine zk fun K17 hK17=>rg [0,1,2,3] ?_
     refine xmm ?_
     refine sr ?_
     refine sr (ze (hK17 _ _ ?_))
     refine cf ?_
     refine wp_exit ?_
     refine hK14 _ _ ?_
     refine zk fun K18 hK18=>rg [0,1,2,3] ?_
     refine sm ?_
     refine sq ?_
     intro K hK
     go_big_op
     go_fit (rDet_any (MNof (c:=c_P) hs (by simp) rfl (fun r hr↦by simp[List.mem_map_of_mem hr]) htl hdP) len_mkM hGD.out hWD.out hPT.out hL hL1 (by omega) HRK.out)
     rintro e w_6 ⟨_,rfl,⟨n_da,o_da,k_da,c_da,n_db,o_db,k_db,c_db,rfl,d1,d2⟩,hb_6⟩
     replace hs:=hs.bl hb_6
     rw[hDE.out] at d1 d2
     refine hK _ _ rfl trivial ?_
     clear hK K
     refine sq ?_
     refine .al hs ?_;clear hs;intro p_b1 w_7 hs n7 kb_b1
     refine sq ?_
     refine .s4 hs.g0 (fun _=>hs.u0 kb_b1) ?_;clear hs;intro w_8 hs hd8 ho8
     refine ze (hK18 _ _ ?_)
     refine zk fun K19 hK19 => ?_
     refine zk fun K20 hK20=>rg [0,1,2,3,4] ?_
     have LO:Lst w_8 w.heap.size 24 1 (.slice o_O n c_O) n _:=hs.1.2.2.1.1
     obtain⟨gO',curO,eO',xO,hcO⟩:=LO.box (by omega)
     subst eO'
     have eO:=hcO _ _ hrv
     refine xmm ?_
     refine xrr ?_
     refine sr (ze (hK20 _ _ ?_))
     refine cf ?_
     refine wp_skip ?_
     refine hK19 _ _ ?_
     refine wp_region_f4 [(0,false),(1,false),(2,false),(3,false),(4,false),(5,false),(6,true),(7,false)] [8] [] (fun _=>default) [99,99,99,0,99,1,99,99,99] [] (.c xO (.c hs.g0 .n)) fn fun w_9 n9 => ?_
     replace xO:=xO.bl n9;replace hs:=hs.bl n9
     refine fmv ?_
     refine fmv ?_
     refine f0 ?_
     apply wpFl_ld rfl rfl;(case h1=>intro w' hC K hK;have c0:=Bs.cell hC (i) eO;go_big_op;exact hK);iterate 4 kernel_rfl
     refine fmv ?_
     refine f4 ?_
     refine fl fun w_10 n10 => ?_
     replace xO:=xO.bl n10;replace hs:=hs.bl n10
     intro K hK
     have k1_5:=(((kb n7).o hd8 ho8).b n9).b n10
     replace d1:=d1.k k1_5
     replace d2:=d2.k k1_5
     go_big_op
     go_fit (rgCanonical_any (.mk' (d1.zn LD.out.1) (d2.zn LD.out.2)) (by omega) (by omega))
     rintro e w_11 ⟨_,rfl,⟨n_qa,o_qa,k_qa,c_qa,n_qb,o_qb,k_qb,c_qb,rfl,q1,q2⟩,hb_11⟩
     replace xO:=xO.bl hb_11;replace hs:=hs.bl hb_11
     refine hK _ _ rfl ⟨hb_11,(ai xO (ai hs.g0 trivial))⟩ ?_
     clear hK K
     refine f0 ?_
     refine e0 hs ?_;clear hs;intro w_12 hs n12
     replace xO:=xO.bl n12
     refine tl ?_
     refine .i4 1 hs (j:=j) (by exact HJ.out) ?_ (e:=fun _ hB hO=>(ai (xO.frame hO (hs.ne 2 1)) (ai (hs.g0.frame hO (hs.ne 0 1)) trivial)));clear hs;intro w_13 hs kp13 hd13 ho13 hw13;simp only[List.set_cons_succ,List.set_cons_zero] at hs
     clear xO
     apply wpTail_end
     refine hK12 _ _ ?_
     refine rg [0,1,2] ?_
     refine xmr ?_
     refine sm ?_
     apply wpSq_end
     have k0_8:=(((((((kb hb_6).b n7).o hd8 ho8).b n9).b n10).b hb_11).b n12).t kp13
     replace hd:=hd.k k0_8
     replace hx:=hx.k k0_8
     have k6_8:=(kb n12).t kp13
     replace q1:=q1.k k6_8
     replace q2:=q2.k k6_8
     refine HO2 _ _ ?_
     have hs:=(hs.sub (.cons _ (List.Sublist.refl _))).unrow (bs:=ls w.heap.size 24 1 (.slice o_P r c_P) r (ts.map (·.v))::ts.map (Rw.e w.heap.size))
     have hs:=hs.sub (show List.Sublist (_::(r1++_::r2).map (Rw.e w.heap.size)) _ from .cons_cons _ (.cons _ (List.sublist_append_right _ _)))
     go_roundg (g2 - 1)
     case rel=>exact⟨j+1,_,by rfl,by omega,by simpa using hrl,RD.fi hd hr1 HI.out HJ.out hx (by rw[←HE.out];exact q1) (by rw[←HE.out];exact q2),hs⟩
     case measure=>omega
    ·have t5:(((i:Int)+(j:Int)).tmod 2==1)=true:=beq_iff_eq.2 (by rw[Int.tmod_eq_emod_of_nonneg (by omega)];omega)
     have HE:=hide (show (-(Dt.det r H).1,-(Dt.det r H).2)=G i j by rw[HH.out,HG.out];exact adjE_odd HM1.out (by omega))
     clear hev
     refine zk fun K16 hK16 => ?_
     refine zk fun K17 hK17=>rg [0,1,2,3] ?_
     refine xmm ?_
     refine sr ?_
     refine sr (ze (hK17 _ _ ?_))
     refine cf ?_
     refine wp_exit ?_
     refine hK14 _ _ ?_
     refine zk fun K18 hK18=>rg [0,1,2,3] ?_
     refine sm ?_
     refine sq ?_
     intro K hK
     go_big_op
     go_fit (rDet_any (MNof (c:=c_P) hs (by simp) rfl (fun r hr↦by simp[List.mem_map_of_mem hr]) htl hdP) len_mkM hGD.out hWD.out hPT.out hL hL1 (by omega) HRK.out)
     rintro e w_6 ⟨_,rfl,⟨n_da,o_da,k_da,c_da,n_db,o_db,k_db,c_db,rfl,d1,d2⟩,hb_6⟩
     replace hs:=hs.bl hb_6
     rw[hDE.out] at d1 d2
     refine hK _ _ rfl trivial ?_
     clear hK K
     refine sq ?_
     refine .al hs ?_;clear hs;intro p_b1 w_7 hs n7 kb_b1
     refine sq ?_
     refine .s4 hs.g0 (fun _=>hs.u0 kb_b1) ?_;clear hs;intro w_8 hs hd8 ho8
     refine ze (hK18 _ _ ?_)
     refine zk fun K19 hK19 => ?_
     refine zk fun K20 hK20=>rg [0,1,2,3,4] ?_
     refine xmm ?_
     refine xrr ?_
     refine sr (ze (hK20 _ _ ?_))
     refine ct ?_
     refine rg [0,1,2] ?_
     refine sq ?_
     refine .r4 hs.g0.f4 ?_
     refine sq ?_
     intro K hK
     have k1_3:=(kb n7).o hd8 ho8
     replace d1:=d1.k k1_3
     replace d2:=d2.k k1_3
     go_big_op
     go_fit (rgNeg_any (.mk' (d1.zn LD.out.1) (d2.zn LD.out.2)) (by omega) (by omega))
     rintro e w_9 ⟨_,rfl,⟨n_e9a,o_e9a,k_e9a,c_e9a,n_e9b,o_e9b,k_e9b,c_e9b,rfl,e91,e92⟩,hb_9⟩
     replace hs:=hs.bl hb_9
     have Le91:=hide (e91.lenOf (zlen_neg LD.out.1))
     have Le92:=hide (e92.lenOf (zlen_neg LD.out.2))
     refine hK _ _ rfl trivial ?_
     clear hK K
     have LO:Lst w_9 w.heap.size 24 1 (.slice o_O n c_O) n _:=hs.1.2.2.1.1
     obtain⟨gO',curO,eO',xO,hcO⟩:=LO.box (by omega)
     subst eO'
     have eO:=hcO _ _ hrv
     refine sq ?_
     refine .s4 hs.g0 (fun _=>hs.u0 kb_b1) ?_;clear hs;intro w_10 hs hd10 ho10
     replace xO:=xO.frame ho10 (hs.ne 2 0)
     refine ze (hK19 _ _ ?_)
     refine wp_region_f4 [(0,false),(1,false),(2,false),(3,false),(4,false),(5,false),(6,true),(7,false)] [8] [] (fun _=>default) [99,99,99,0,99,1,99,99,99] [] (.c xO (.c hs.g0 .n)) fn fun w_11 n11 => ?_
     replace xO:=xO.bl n11;replace hs:=hs.bl n11
     refine fmv ?_
     refine fmv ?_
     refine f0 ?_
     apply wpFl_ld rfl rfl;(case h1=>intro w' hC K hK;have c0:=Bs.cell hC (i) eO;go_big_op;exact hK);iterate 4 kernel_rfl
     refine fmv ?_
     refine f4 ?_
     refine fl fun w_12 n12 => ?_
     replace xO:=xO.bl n12;replace hs:=hs.bl n12
     intro K hK
     have k4_7:=((ko hd10 ho10).b n11).b n12
     replace e91:=e91.k k4_7
     replace e92:=e92.k k4_7
     go_big_op
     go_fit (rgCanonical_any (.mk' (e91.zn Le91.out) (e92.zn Le92.out)) (by omega) (by omega))
     rintro e w_13 ⟨_,rfl,⟨n_qa,o_qa,k_qa,c_qa,n_qb,o_qb,k_qb,c_qb,rfl,q1,q2⟩,hb_13⟩
     replace xO:=xO.bl hb_13;replace hs:=hs.bl hb_13
     refine hK _ _ rfl ⟨hb_13,(ai xO (ai hs.g0 trivial))⟩ ?_
     clear hK K
     refine f0 ?_
     refine e0 hs ?_;clear hs;intro w_14 hs n14
     replace xO:=xO.bl n14
     refine tl ?_
     refine .i4 1 hs (j:=j) (by exact HJ.out) ?_ (e:=fun _ hB hO=>(ai (xO.frame hO (hs.ne 2 1)) (ai (hs.g0.frame hO (hs.ne 0 1)) trivial)));clear hs;intro w_15 hs kp15 hd15 ho15 hw15;simp only[List.set_cons_succ,List.set_cons_zero] at hs
     clear xO
     apply wpTail_end
     refine hK12 _ _ ?_
     refine rg [0,1,2] ?_
     refine xmr ?_
     refine sm ?_
     apply wpSq_end
     have k0_10:=(((((((((kb hb_6).b n7).o hd8 ho8).b hb_9).o hd10 ho10).b n11).b n12).b hb_13).b n14).t kp15
     replace hd:=hd.k k0_10
     replace hx:=hx.k k0_10
     have k8_10:=(kb n14).t kp15
     replace q1:=q1.k k8_10
     replace q2:=q2.k k8_10
     refine HO2 _ _ ?_
     have hs:=(hs.sub (.cons _ (List.Sublist.refl _))).unrow (bs:=ls w.heap.size 24 1 (.slice o_P r c_P) r (ts.map (·.v))::ts.map (Rw.e w.heap.size))
     have hs:=hs.sub (show List.Sublist (_::(r1++_::r2).map (Rw.e w.heap.size)) _ from .cons_cons _ (.cons _ (List.sublist_append_right _ _)))
     go_roundg (g2 - 1)
     case rel=>exact⟨j+1,_,by rfl,by omega,by simpa using hrl,RD.fi hd hr1 HI.out HJ.out hx (by rw[←HE.out];exact q1) (by rw[←HE.out];exact q2),hs⟩
     case measure=>omega
  ·obtain rfl:j=n:=by omega
   have HJ:=hide hj
   have t2:((j:Int)<(j:Int))=False:=eq_false (by omega)
   refine zk fun K10 hK10 => ?_
   refine zk fun K11 hK11=>rg [0,1,2] ?_
   refine xmm ?_
   refine sr (ze (hK11 _ _ ?_))
   refine cf ?_
   refine wp_exit ?_
   refine hK8 _ _ ?_
   refine rg [0,1,2] ?_
   refine xmr ?_
   refine sm ?_
   apply wpSq_end
   refine HO _ _ ?_
   go_roundg (g1 - 1)
   case rel=>exact⟨i+1,rs,by rfl,by omega,hrl,by rw[←fi_row];exact hd,hs⟩
   case measure=>omega
 ·have HAE:=hide (show i=n by omega)
  have HI:=hide hi
  have t1:((i:Int)<(n:Int))=False:=eq_false (by omega)
  refine zk fun K6 hK6 => ?_
  refine zk fun K7 hK7=>rg [0,1,2] ?_
  refine xmm ?_
  refine sr (ze (hK7 _ _ ?_))
  refine cf ?_
  refine wp_exit ?_
  refine hK4 _ _ ?_
  refine zk fun K8 hK8=>rg [0,1] ?_
  refine sm ?_
  refine sm (ze (hK8 _ _ ?_))
  refine wp_ret ?_
  have hd2:=hd
  rw[HAE.out,fi_end] at hd2
  try dsimp only [Exit.then,Exit.inBlock]
  refine bodyPost_ret (v:=(.slice o_O n c_O)) (by simp[results,Tryz.results32,go_sem]) rfl ?_
  exact⟨_,_,rs,rfl,hrl,(by unfold Mx;rw[hrl];exact hs),hd2,hs.b⟩
end
end Go.Proofs.YthmolpepinolkaaGreat
