/- zint's reference: Twice, Zero, Floor. -/
import Derived.Test.YthmolpepinolkaaGreatZ8
import Derived.Test.YthmolpepinolkaaGreatR17
namespace Go.Proofs.YthmolpepinolkaaGreat
open Go.RowKit Dig
set_option maxHeartbeats 4000000
set_option maxRecDepth 20000
theorem sign_bne {x y:Int} {na nb:Bool} {xs ys:List Nat} {s:Int} {d:Bool} (hx:zv na xs=x) (hy:zv nb ys=y) (hd:x.sign*y.sign=s) (h:(s=1∧d=false)∨(s = -1∧d=true):=by simp):(na != nb)=d:=by
 have key:∀ {z:Int} {n:Bool} {l:List Nat},zv n l=z→z.sign=0∨z.sign=if n then -1 else 1:=by
  intro z n l h
  rcases Int.lt_trichotomy z 0 with h1 | h1 | h1
  ·right;rw[Int.sign_eq_neg_one_of_neg h1];unfold zv at h;cases n
   ·simp at h;omega
   ·rfl
  ·left;rw[h1];rfl
  ·right;rw[Int.sign_eq_one_of_pos h1];unfold zv at h;cases n
   ·rfl
   ·simp at h;omega
 rcases key hx with e1 | e1 <;> rcases key hy with e2 | e2 <;> rw[e1,e2] at hd <;> rcases h with ⟨rfl,rfl⟩ | ⟨rfl,rfl⟩ <;> revert hd <;> cases na <;> cases nb <;> simp
theorem rfloor_even {w:World} {va vb:Value} {x y:Int} {l m:Nat} (ha:ZN w va x l) (hb':ZN w vb y m) (hl:l≤100000000) (hm:m≤100000000) (h0:y≠0) (hr:x.fmod y=0) :
  Calls Tryz.prog 162 #[va,vb] w fun e w'=>∃v1 v2,e = .returned (.tuple #[v1,v2])∧ZC w' v1 (x.fdiv y)∧ZC w' v2 (x.fmod y)∧Below w.heap.size w w':=by
 have Lx:=ha.len
 have Ly:=hb'.len
 have LQ:=hide (fdiv_len h0 Lx)
 have LM:=hide (zlen_mul LQ.out Ly)
 have ER:=hide (show x - x.fdiv y*y=x.fmod y by have:=fmod_eq x y;omega)
 obtain⟨na,oa,ca,xs,rfl,hca,hx,hzx,hxl⟩:=ha.open_
 obtain⟨nb,ob,cb,ys,rfl,hcb,hy,hzy,hyl⟩:=hb'.open_
 have hv:val ys≠0:=fun h=>h0 (by rw[←hzy];exact zv_zero.2 h)
 have hm0:val xs%val ys=0:=(fmod_zero hzx hzy h0).1 hr
 have HN:=hide (show (dig (val xs%val ys)).length=0 by rw[hm0];exact List.length_eq_zero_iff.2 (dig_eq_nil.2 rfl))
 have LD:=hide (show (dig (val xs/val ys)).length≤l from Nat.le_trans (dig_length_le (Nat.lt_of_le_of_lt (Nat.div_le_self _ _) (val_lt hx.ok))) hxl)
 have H0:=hide hv
 have hbn:(!(na==nb))=(na != nb):=rfl
 have E1:=hide (show (if (na != nb)=true then -((val (dig (val xs/val ys)):Nat):Int) else ((val (dig (val xs/val ys)):Nat):Int))=x.fdiv y by rw[val_dig,←hzx,←hzy,(floor_plain (na:=na) (nb:=nb) hv (.inl hm0)).1];rfl)
 clear hzx hzy hv hr h0 hm0 Lx Ly
 go_enter Tryz.func162,Tryz.ntmps162
 have hb:=Below.refl w.heap.size w
 have hp:=Bk.new w na (.slice oa xs.length ca)
 replace ha:=ha.alloc (.cells #[.bool na,(.slice oa xs.length ca)] 37)
 replace hb':=hb'.alloc (.cells #[.bool na,(.slice oa xs.length ca)] 37)
 replace hx:=hx.alloc (.cells #[.bool na,(.slice oa xs.length ca)] 37)
 replace hy:=hy.alloc (.cells #[.bool na,(.slice oa xs.length ca)] 37)
 replace hb:=hb.alloc hb.size (.cells #[.bool na,(.slice oa xs.length ca)] 37)
 have hq:=Bk.new (w.alloc (.cells #[.bool na,(.slice oa xs.length ca)] 37)) nb (.slice ob ys.length cb)
 simp only[Bk.size_alloc] at hq
 replace ha:=ha.alloc (.cells #[.bool nb,(.slice ob ys.length cb)] 37)
 replace hb':=hb'.alloc (.cells #[.bool nb,(.slice ob ys.length cb)] 37)
 replace hx:=hx.alloc (.cells #[.bool nb,(.slice ob ys.length cb)] 37)
 replace hy:=hy.alloc (.cells #[.bool nb,(.slice ob ys.length cb)] 37)
 replace hp:=hp.alloc (.cells #[.bool nb,(.slice ob ys.length cb)] 37)
 replace hb:=hb.alloc hb.size (.cells #[.bool nb,(.slice ob ys.length cb)] 37)
 have hz1:=Bk.new ((w.alloc (.cells #[.bool na,(.slice oa xs.length ca)] 37)).alloc (.cells #[.bool nb,(.slice ob ys.length cb)] 37)) false (.slice none 0 0)
 simp only[Bk.size_alloc] at hz1
 replace ha:=ha.alloc (.cells #[.bool false,(.slice none 0 0)] 37)
 replace hb':=hb'.alloc (.cells #[.bool false,(.slice none 0 0)] 37)
 replace hx:=hx.alloc (.cells #[.bool false,(.slice none 0 0)] 37)
 replace hy:=hy.alloc (.cells #[.bool false,(.slice none 0 0)] 37)
 replace hp:=hp.alloc (.cells #[.bool false,(.slice none 0 0)] 37)
 replace hq:=hq.alloc (.cells #[.bool false,(.slice none 0 0)] 37)
 replace hb:=hb.alloc hb.size (.cells #[.bool false,(.slice none 0 0)] 37)
 have hz2:=Bk.new (((w.alloc (.cells #[.bool na,(.slice oa xs.length ca)] 37)).alloc (.cells #[.bool nb,(.slice ob ys.length cb)] 37)).alloc (.cells #[.bool false,(.slice none 0 0)] 37)) false (.slice none 0 0)
 simp only[Bk.size_alloc] at hz2
 replace ha:=ha.alloc (.cells #[.bool false,(.slice none 0 0)] 37)
 replace hb':=hb'.alloc (.cells #[.bool false,(.slice none 0 0)] 37)
 replace hx:=hx.alloc (.cells #[.bool false,(.slice none 0 0)] 37)
 replace hy:=hy.alloc (.cells #[.bool false,(.slice none 0 0)] 37)
 replace hp:=hp.alloc (.cells #[.bool false,(.slice none 0 0)] 37)
 replace hq:=hq.alloc (.cells #[.bool false,(.slice none 0 0)] 37)
 replace hz1:=hz1.alloc (.cells #[.bool false,(.slice none 0 0)] 37)
 replace hb:=hb.alloc hb.size (.cells #[.bool false,(.slice none 0 0)] 37)
 have f_hp:=hp.facts
 have f_hq:=hq.facts
 go_wp2_with fail
 refine(rdivMod_rd' hx hy H0.out (by omega) (by omega)).mono ?_
 rintro e w_1 ⟨s1,s2,rfl,h1,h2,hb_1⟩
 replace ha:=ha.below hb_1 nl
 replace hb':=hb'.below hb_1 nl
 replace hx:=hx.below hb_1 nl
 replace hy:=hy.below hb_1 nl
 replace hp:=hp.below hb_1 nl
 replace hq:=hq.below hb_1 nl
 replace hz1:=hz1.below hb_1 nl
 replace hz2:=hz2.below hb_1 nl
 replace hb:=tmm hb hb_1
 clear hb_1
 clear f_hp f_hq
 obtain⟨o2,c2,rfl,hc2,_⟩:=h2
 rw[HN.out]
 have f_hp:=hp.facts
 have f_hq:=hq.facts
 go_wp2_with fail
 refine(make_any (na != nb) _ h1 (by have:=LD.out;omega) E1.out).mono ?_
 rintro e w_2 ⟨v3,rfl,g3,hb_2⟩
 replace ha:=ha.below hb_2 nl
 replace hb':=hb'.below hb_2 nl
 replace hx:=hx.below hb_2 nl
 replace hy:=hy.below hb_2 nl
 replace hp:=hp.below hb_2 nl
 replace hq:=hq.below hb_2 nl
 replace hz1:=hz1.below hb_2 nl
 replace hz2:=hz2.below hb_2 nl
 replace h1:=h1.below hb_2 nl
 replace hb:=tmm hb hb_2
 clear hb_2
 replace g3:=g3.rd
 clear h1
 clear f_hp f_hq
 have kb_hz3:=hb.size
 have ne_hp_hz3:w.heap.size≠w_2.heap.size:=by have:=hp.lt;(try simp only[Bk.size_alloc] at this);omega
 have ne_hq_hz3:w.heap.size+1≠w_2.heap.size:=by have:=hq.lt;(try simp only[Bk.size_alloc] at this);omega
 have ne_hz1_hz3:w.heap.size+1+1≠w_2.heap.size:=by have:=hz1.lt;(try simp only[Bk.size_alloc] at this);omega
 have ne_hz2_hz3:w.heap.size+1+1+1≠w_2.heap.size:=by have:=hz2.lt;(try simp only[Bk.size_alloc] at this);omega
 have hz3:=Bk.new w_2 false (.slice none 0 0)
 replace ha:=ha.alloc (.cells #[.bool false,(.slice none 0 0)] 37)
 replace hb':=hb'.alloc (.cells #[.bool false,(.slice none 0 0)] 37)
 replace hx:=hx.alloc (.cells #[.bool false,(.slice none 0 0)] 37)
 replace hy:=hy.alloc (.cells #[.bool false,(.slice none 0 0)] 37)
 replace hp:=hp.alloc (.cells #[.bool false,(.slice none 0 0)] 37)
 replace hq:=hq.alloc (.cells #[.bool false,(.slice none 0 0)] 37)
 replace hz1:=hz1.alloc (.cells #[.bool false,(.slice none 0 0)] 37)
 replace hz2:=hz2.alloc (.cells #[.bool false,(.slice none 0 0)] 37)
 replace g3:=g3.alloc (.cells #[.bool false,(.slice none 0 0)] 37)
 replace hb:=hb.alloc hb.size (.cells #[.bool false,(.slice none 0 0)] 37)
 obtain⟨w_3,hw_3⟩:∃v,(w_2.alloc (.cells #[.bool false,(.slice none 0 0)] 37))=v:=⟨_,rfl⟩
 rw[hw_3] at ha hb' hx hy hp hq hz1 hz2 g3 hz3 hb
 obtain⟨sb_hz3,o_hz3,n_hz3,c_hz3,rfl⟩:=g3.open2
 have f_hz3:=hz3.facts
 have ho:=Bk.only w_3 (w_2.heap.size) sb_hz3 (.slice o_hz3 n_hz3 c_hz3)
 have hbx_:=hz3.bx
 replace ha:=ha.frame hbx_ ho
 replace hb':=hb'.frame hbx_ ho
 replace hx:=hx.frame hbx_ ho
 replace hy:=hy.frame hbx_ ho
 replace hp:=hp.frame ho (by first | assumption | (apply Ne.symm;assumption) | (simp;done) | omega)
 replace hq:=hq.frame ho (by first | assumption | (apply Ne.symm;assumption) | (simp;done) | omega)
 replace hz1:=hz1.frame ho (by first | assumption | (apply Ne.symm;assumption) | (simp;done) | omega)
 replace hz2:=hz2.frame ho (by first | assumption | (apply Ne.symm;assumption) | (simp;done) | omega)
 replace g3:=g3.frame hbx_ ho
 replace hz3:=hz3.store sb_hz3 (.slice o_hz3 n_hz3 c_hz3)
 replace hb:=(hb.setCell (p:=⟨w_2.heap.size,0,none⟩) (show w.heap.size≤w_2.heap.size by first | assumption | (simp;done) | omega) (.bool sb_hz3)).setCell (p:=⟨w_2.heap.size,1,none⟩) (show w.heap.size≤w_2.heap.size by first | assumption | (simp;done) | omega) (.slice o_hz3 n_hz3 c_hz3)
 clear ho hbx_
 obtain⟨w_4,hw_4⟩:∃v,((w_3.setCell ⟨w_2.heap.size,0,none⟩ (.bool sb_hz3)).setCell ⟨w_2.heap.size,1,none⟩ (.slice o_hz3 n_hz3 c_hz3))=v:=⟨_,rfl⟩
 rw[hw_4] at ha hb' hx hy hp hq hz1 hz2 g3 hz3 hb
 replace ha:=ha.drew
 replace hb':=hb'.drew
 replace hx:=hx.drew
 replace hy:=hy.drew
 replace hp:=hp.drew
 replace hq:=hq.drew
 replace hz1:=hz1.drew
 replace hz2:=hz2.drew
 replace g3:=g3.drew
 replace hz3:=hz3.drew
 replace hb:=hb.drew
 go_wp2_with fail
 refine wp_region_pl [(0,false),(1,true),(2,false),(3,false),(4,false),(6,false),(5,true),(7,true),(8,false),(9,false),(10,false)] (fun w'=>w'.cell? ⟨w.heap.size,0,none⟩=some (.bool na)∧w'.cell? ⟨w.heap.size,1,none⟩=some (.slice oa xs.length ca)∧w'.cell? ⟨w.heap.size+1,0,none⟩=some (.bool nb)∧w'.cell? ⟨w.heap.size+1,1,none⟩=some (.slice ob ys.length cb)∧w'.cell? ⟨w.heap.size+1+1,0,none⟩=some (.bool false)∧w'.cell? ⟨w.heap.size+1+1,1,none⟩=some (.slice none 0 0)∧w'.cell? ⟨w.heap.size+1+1+1,0,none⟩=some (.bool false)∧w'.cell? ⟨w.heap.size+1+1+1,1,none⟩=some (.slice none 0 0)∧w'.cell? ⟨w_2.heap.size,0,none⟩=some (.bool sb_hz3)∧w'.cell? ⟨w_2.heap.size,1,none⟩=some (.slice o_hz3 n_hz3 c_hz3)) (by kernel_rfl) (by kernel_rfl) (by kernel_rfl) (by kernel_rfl) ⟨hp.facts.1,hp.facts.2.1,hq.facts.1,hq.facts.2.1,hz1.facts.1,hz1.facts.2.1,hz2.facts.1,hz2.facts.2.1,hz3.facts.1,hz3.facts.2.1⟩ ?_
 apply wpPl_ld
 case hi=>rfl
 case h1=>intro w' hC K hK;obtain⟨c0,c1,c2,c3,c4,c5,c6,c7,c8,c9⟩:=hC;(first | go_big_move | go_big_op);exact hK
 case hw=>kernel_rfl
 case hv=>kernel_rfl
 case hb=>kernel_rfl
 case hp=>kernel_rfl
 apply wpPl_call
 case hi=>rfl
 case hw=>kernel_rfl
 case h =>
 intro K hK
 go_big_op
 refine hK _ _ rfl ⟨hp.facts.1,hp.facts.2.1,hq.facts.1,hq.facts.2.1,hz1.facts.1,hz1.facts.2.1,hz2.facts.1,hz2.facts.2.1,hz3.facts.1,hz3.facts.2.1⟩ ?_
 clear hK K
 apply wpPl_ld
 case hi=>rfl
 case h1=>intro w' hC K hK;obtain⟨c0,c1,c2,c3,c4,c5,c6,c7,c8,c9⟩:=hC;(first | go_big_move | go_big_op);exact hK
 case hw=>kernel_rfl
 case hv=>kernel_rfl
 case hb=>kernel_rfl
 case hp=>kernel_rfl
 apply wpPl_ld
 case hi=>rfl
 case h1=>intro w' hC K hK;obtain⟨c0,c1,c2,c3,c4,c5,c6,c7,c8,c9⟩:=hC;(first | go_big_move | go_big_op);exact hK
 case hw=>kernel_rfl
 case hv=>kernel_rfl
 case hb=>kernel_rfl
 case hp=>kernel_rfl
 apply wpPl_skip
 case hi=>rfl
 case hw=>kernel_rfl
 case hp=>unfold Act.put;simp only[List.setIfInBounds_toArray,List.set_cons_succ,List.set_cons_zero];rfl
 apply wpPl_skip
 case hi=>rfl
 case hw=>kernel_rfl
 case hp=>unfold Act.put;simp only[List.setIfInBounds_toArray,List.set_cons_succ,List.set_cons_zero];rfl
 apply wpPl_skipc
 case hi=>rfl
 case hw=>kernel_rfl
 case hp=>unfold Act.put;simp only[List.setIfInBounds_toArray,List.set_cons_succ,List.set_cons_zero];rfl
 apply wpPl_skipc
 case hi=>rfl
 case hw=>kernel_rfl
 case hp=>unfold Act.put;simp only[List.setIfInBounds_toArray,List.set_cons_succ,List.set_cons_zero];rfl
 apply wpPl_skip
 case hi=>rfl
 case hw=>kernel_rfl
 case hp=>unfold Act.put;simp only[List.setIfInBounds_toArray,List.set_cons_succ,List.set_cons_zero];rfl
 apply wpPl_skip
 case hi=>rfl
 case hw=>kernel_rfl
 case hp=>unfold Act.put;simp only[List.setIfInBounds_toArray,List.set_cons_succ,List.set_cons_zero];rfl
 apply wpPl_ld
 case hi=>rfl
 case h1=>intro w' hC K hK;obtain⟨c0,c1,c2,c3,c4,c5,c6,c7,c8,c9⟩:=hC;(first | go_big_move | go_big_op);exact hK
 case hw=>kernel_rfl
 case hv=>kernel_rfl
 case hb=>kernel_rfl
 case hp=>kernel_rfl
 apply wpPl_end
 replace ha:=ha.drew
 replace hb':=hb'.drew
 replace hx:=hx.drew
 replace hy:=hy.drew
 replace hp:=hp.drew
 replace hq:=hq.drew
 replace hz1:=hz1.drew
 replace hz2:=hz2.drew
 replace g3:=g3.drew
 replace hz3:=hz3.drew
 replace hb:=hb.drew
 have lt_hp:=hp.lt
 have lt_hq:=hq.lt
 have lt_hz1:=hz1.lt
 have lt_hz2:=hz2.lt
 have lt_hz3:=hz3.lt
 have kb0:=hb.size
 go_wp2_with fail
 refine wp_region_fl [(0,false),(1,false),(2,false),(3,false),(4,true),(5,true)] [6,7] [] (fun _=>obZ) [2,0,2,1,99,99,99,99] [] (fun w'=>w'.cell? ⟨w.heap.size,0,none⟩=some (.bool na)∧w'.cell? ⟨w.heap.size,1,none⟩=some (.slice oa xs.length ca)∧w'.cell? ⟨w.heap.size+1,0,none⟩=some (.bool nb)∧w'.cell? ⟨w.heap.size+1,1,none⟩=some (.slice ob ys.length cb)∧w'.cell? ⟨w_2.heap.size,0,none⟩=some (.bool sb_hz3)∧w'.cell? ⟨w_2.heap.size,1,none⟩=some (.slice o_hz3 n_hz3 c_hz3)) [fun w'=>w'.cell? ⟨w.heap.size,0,none⟩=some (.bool na)∧w'.cell? ⟨w.heap.size,1,none⟩=some (.slice oa xs.length ca),fun w'=>w'.cell? ⟨w.heap.size+1,0,none⟩=some (.bool nb)∧w'.cell? ⟨w.heap.size+1,1,none⟩=some (.slice ob ys.length cb),fun w'=>w'.cell? ⟨w_2.heap.size,0,none⟩=some (.bool sb_hz3)∧w'.cell? ⟨w_2.heap.size,1,none⟩=some (.slice o_hz3 n_hz3 c_hz3)] (by kernel_rfl) (by kernel_rfl) (by kernel_rfl) (by kernel_rfl) (by kernel_rfl) (by kernel_rfl) (by kernel_rfl) (by kernel_rfl) (by decide) (by intro j hj;cases hj) (by intro w' o hC;obtain⟨c0,c1,c2,c3,c4,c5⟩:=hC;exact⟨cell_alloc c0 o,cell_alloc c1 o,cell_alloc c2 o,cell_alloc c3 o,cell_alloc c4 o,cell_alloc c5 o⟩) (by intro w' hC G hG;obtain⟨c0,c1,c2,c3,c4,c5⟩:=hC;simp only[List.mem_cons,List.not_mem_nil,or_false] at hG;rcases hG with rfl | rfl | rfl <;> first | exact⟨c0,c1⟩ | exact⟨c2,c3⟩ | exact⟨c4,c5⟩) ⟨hp.facts.1,hp.facts.2.1,hq.facts.1,hq.facts.2.1,hz3.facts.1,hz3.facts.2.1⟩ ?_
 apply wpFl_ld
 case hG=>rfl
 case hi=>rfl
 case h1=>intro w' hC K hK;obtain⟨c0,c1⟩:=hC;(first | go_big_move | go_big_op);exact hK
 case hw=>kernel_rfl
 case hv=>kernel_rfl
 case hb=>kernel_rfl
 case hp=>kernel_rfl
 apply wpFl_ld
 case hG=>rfl
 case hi=>rfl
 case h1=>intro w' hC K hK;obtain⟨c0,c1⟩:=hC;(first | go_big_move | go_big_op);exact hK
 case hw=>kernel_rfl
 case hv=>kernel_rfl
 case hb=>kernel_rfl
 case hp=>kernel_rfl
 apply wpFl_ld
 case hG=>rfl
 case hi=>rfl
 case h1=>intro w' hC K hK;obtain⟨c0,c1⟩:=hC;(first | go_big_move | go_big_op);exact hK
 case hw=>kernel_rfl
 case hv=>kernel_rfl
 case hb=>kernel_rfl
 case hp=>kernel_rfl
 apply wpFl_ld
 case hG=>rfl
 case hi=>rfl
 case h1=>intro w' hC K hK;obtain⟨c0,c1⟩:=hC;(first | go_big_move | go_big_op);exact hK
 case hw=>kernel_rfl
 case hv=>kernel_rfl
 case hb=>kernel_rfl
 case hp=>kernel_rfl
 apply wpFl_call
 case hi=>rfl
 case hw=>kernel_rfl
 case h =>
 intro w_5 hn hC
 clear hC
 replace ha:=ha.below hn nl
 replace hb':=hb'.below hn nl
 replace hx:=hx.below hn nl
 replace hy:=hy.below hn nl
 replace hp:=hp.below hn nl
 replace hq:=hq.below hn nl
 replace hz1:=hz1.below hn nl
 replace hz2:=hz2.below hn nl
 replace g3:=g3.below hn nl
 replace hz3:=hz3.below hn nl
 replace hb:=tmm hb hn
 clear hn
 intro K hK
 have kb_6:=hb.size
 go_big_op
 go_fit (rzmul_any (g3.zn LQ.out) hb' (by omega) (by omega))
 rintro e w_6 ⟨v4,rfl,g4,hb_6⟩
 replace ha:=ha.below hb_6 nl
 replace hb':=hb'.below hb_6 nl
 replace hx:=hx.below hb_6 nl
 replace hy:=hy.below hb_6 nl
 replace hp:=hp.below hb_6 nl
 replace hq:=hq.below hb_6 nl
 replace hz1:=hz1.below hb_6 nl
 replace hz2:=hz2.below hb_6 nl
 replace g3:=g3.below hb_6 nl
 replace hz3:=hz3.below hb_6 nl
 replace hb:=tmm hb hb_6
 refine hK _ _ rfl hb_6 ⟨hp.facts.1,hp.facts.2.1,hq.facts.1,hq.facts.2.1,hz3.facts.1,hz3.facts.2.1⟩ ?_
 clear hK K hb_6
 replace g4:=g4.rd
 apply wpFl_call
 case hi=>rfl
 case hw=>kernel_rfl
 case h =>
 intro w_7 hn hC
 clear hC
 replace ha:=ha.below hn nl
 replace hb':=hb'.below hn nl
 replace hx:=hx.below hn nl
 replace hy:=hy.below hn nl
 replace hp:=hp.below hn nl
 replace hq:=hq.below hn nl
 replace hz1:=hz1.below hn nl
 replace hz2:=hz2.below hn nl
 replace g3:=g3.below hn nl
 replace hz3:=hz3.below hn nl
 replace g4:=g4.below hn nl
 replace hb:=tmm hb hn
 clear hn
 intro K hK
 have kb_8:=hb.size
 go_big_op
 go_fit (rzsub_any ha (g4.zn LM.out) (by omega) (by omega))
 rintro e w_8 ⟨v5,rfl,g5,hb_8⟩
 replace ha:=ha.below hb_8 nl
 replace hb':=hb'.below hb_8 nl
 replace hx:=hx.below hb_8 nl
 replace hy:=hy.below hb_8 nl
 replace hp:=hp.below hb_8 nl
 replace hq:=hq.below hb_8 nl
 replace hz1:=hz1.below hb_8 nl
 replace hz2:=hz2.below hb_8 nl
 replace g3:=g3.below hb_8 nl
 replace hz3:=hz3.below hb_8 nl
 replace g4:=g4.below hb_8 nl
 replace hb:=tmm hb hb_8
 refine hK _ _ rfl hb_8 ⟨hp.facts.1,hp.facts.2.1,hq.facts.1,hq.facts.2.1,hz3.facts.1,hz3.facts.2.1⟩ ?_
 clear hK K hb_8
 replace g5:=g5.rd
 rw[ER.out] at g5
 apply wpFl_end
 case ha=>intro pt;simp only[putF];rfl
 case h =>
 intro w_9 pt hn hC hF hD
 clear hC
 replace ha:=ha.below hn nl
 replace hb':=hb'.below hn nl
 replace hx:=hx.below hn nl
 replace hy:=hy.below hn nl
 replace hp:=hp.below hn nl
 replace hq:=hq.below hn nl
 replace hz1:=hz1.below hn nl
 replace hz2:=hz2.below hn nl
 replace g3:=g3.below hn nl
 replace hz3:=hz3.below hn nl
 replace g4:=g4.below hn nl
 replace g5:=g5.below hn nl
 replace hb:=tmm hb hn
 clear hn
 clear hF hD
 clear lt_hp
 clear lt_hq
 clear lt_hz1
 clear lt_hz2
 clear lt_hz3
 clear kb0
 apply wpTail_call
 case hi=>rfl
 case hw=>kernel_rfl
 case h =>
 intro K hK
 have c9_:=hz1.facts
 go_big_op
 have ho:=Bk.only w_9 (w.heap.size+1+1) sb_hz3 (.slice o_hz3 n_hz3 c_hz3)
 have hbx_:=hz1.bx
 replace ha:=ha.frame hbx_ ho
 replace hb':=hb'.frame hbx_ ho
 replace hx:=hx.frame hbx_ ho
 replace hy:=hy.frame hbx_ ho
 replace hp:=hp.frame ho (by first | assumption | (apply Ne.symm;assumption) | (simp;done) | omega)
 replace hq:=hq.frame ho (by first | assumption | (apply Ne.symm;assumption) | (simp;done) | omega)
 replace hz2:=hz2.frame ho (by first | assumption | (apply Ne.symm;assumption) | (simp;done) | omega)
 replace g3:=g3.frame hbx_ ho
 replace hz3:=hz3.frame ho (by first | assumption | (apply Ne.symm;assumption) | (simp;done) | omega)
 replace g4:=g4.frame hbx_ ho
 replace g5:=g5.frame hbx_ ho
 replace hz1:=hz1.store sb_hz3 (.slice o_hz3 n_hz3 c_hz3)
 replace hb:=(hb.setCell (p:=⟨w.heap.size+1+1,0,none⟩) (show w.heap.size≤w.heap.size+1+1 by first | assumption | (simp;done) | omega) (.bool sb_hz3)).setCell (p:=⟨w.heap.size+1+1,1,none⟩) (show w.heap.size≤w.heap.size+1+1 by first | assumption | (simp;done) | omega) (.slice o_hz3 n_hz3 c_hz3)
 refine hK _ _ rfl (ai (ai hp.facts.1 hp.facts.2.1) (ai (ai hq.facts.1 hq.facts.2.1) (ai (ai hz3.facts.1 hz3.facts.2.1) trivial))) ?_
 clear hK K hbx_ ho c9_
 obtain⟨sb_hz2,o_hz2,n_hz2,c_hz2,rfl⟩:=g5.open2
 apply wpTail_call
 case hi=>rfl
 case hw=>kernel_rfl
 case h =>
 intro K hK
 have c9_:=hz2.facts
 go_big_op
 have ho:=Bk.only ((w_9.setCell ⟨w.heap.size+1+1,0,none⟩ (.bool sb_hz3)).setCell ⟨w.heap.size+1+1,1,none⟩ (.slice o_hz3 n_hz3 c_hz3)) (w.heap.size+1+1+1) sb_hz2 (.slice o_hz2 n_hz2 c_hz2)
 have hbx_:=hz2.bx
 replace ha:=ha.frame hbx_ ho
 replace hb':=hb'.frame hbx_ ho
 replace hx:=hx.frame hbx_ ho
 replace hy:=hy.frame hbx_ ho
 replace hp:=hp.frame ho (by first | assumption | (apply Ne.symm;assumption) | (simp;done) | omega)
 replace hq:=hq.frame ho (by first | assumption | (apply Ne.symm;assumption) | (simp;done) | omega)
 replace hz1:=hz1.frame ho (by first | assumption | (apply Ne.symm;assumption) | (simp;done) | omega)
 replace g3:=g3.frame hbx_ ho
 replace hz3:=hz3.frame ho (by first | assumption | (apply Ne.symm;assumption) | (simp;done) | omega)
 replace g4:=g4.frame hbx_ ho
 replace g5:=g5.frame hbx_ ho
 replace hz2:=hz2.store sb_hz2 (.slice o_hz2 n_hz2 c_hz2)
 replace hb:=(hb.setCell (p:=⟨w.heap.size+1+1+1,0,none⟩) (show w.heap.size≤w.heap.size+1+1+1 by first | assumption | (simp;done) | omega) (.bool sb_hz2)).setCell (p:=⟨w.heap.size+1+1+1,1,none⟩) (show w.heap.size≤w.heap.size+1+1+1 by first | assumption | (simp;done) | omega) (.slice o_hz2 n_hz2 c_hz2)
 refine hK _ _ rfl (ai (ai hp.facts.1 hp.facts.2.1) (ai (ai hq.facts.1 hq.facts.2.1) (ai (ai hz3.facts.1 hz3.facts.2.1) trivial))) ?_
 clear hK K hbx_ ho c9_
 apply wpTail_end
 have f1:=hz1.facts
 have f2:=hz2.facts
 go_wp2
 refine bodyPost_ret (v:=.tuple #[.agg #[.bool sb_hz3,.slice o_hz3 n_hz3 c_hz3],.agg #[.bool sb_hz2,.slice o_hz2 n_hz2 c_hz2]]) (by simp[results,Tryz.results162,go_sem,f1.1,f1.2.1,f2.1,f2.2.1]) rfl ?_
 exact⟨_,_,rfl,g3,g5,hb⟩
theorem rfloor_same {w:World} {va vb:Value} {x y:Int} {l m:Nat} (ha:ZN w va x l) (hb':ZN w vb y m) (hl:l≤100000000) (hm:m≤100000000) (h0:y≠0) (hr:x.fmod y≠0) (hd:x.sign*y.sign=1) :
  Calls Tryz.prog 162 #[va,vb] w fun e w'=>∃v1 v2,e = .returned (.tuple #[v1,v2])∧ZC w' v1 (x.fdiv y)∧ZC w' v2 (x.fmod y)∧Below w.heap.size w w':=by
 have Lx:=ha.len
 have Ly:=hb'.len
 have LQ:=hide (fdiv_len h0 Lx)
 have LM:=hide (zlen_mul LQ.out Ly)
 have ER:=hide (show x - x.fdiv y*y=x.fmod y by have:=fmod_eq x y;omega)
 obtain⟨na,oa,ca,xs,rfl,hca,hx,hzx,hxl⟩:=ha.open_
 obtain⟨nb,ob,cb,ys,rfl,hcb,hy,hzy,hyl⟩:=hb'.open_
 have hv:val ys≠0:=fun h=>h0 (by rw[←hzy];exact zv_zero.2 h)
 have hm0:val xs%val ys≠0:=fun h=>hr ((fmod_zero hzx hzy h0).2 h)
 obtain⟨n,hn⟩:∃n,(dig (val xs%val ys)).length=n:=⟨_,rfl⟩
 have HNn:=hide hn
 have hn0:0<n:=by rw[←hn,List.length_pos_iff];exact fun h=>hm0 (dig_eq_nil.1 h)
 have hn1:(n==0)=false:=by rw[beq_eq_false_iff_ne];omega
 have LD:=hide (show (dig (val xs/val ys)).length≤l from Nat.le_trans (dig_length_le (Nat.lt_of_le_of_lt (Nat.div_le_self _ _) (val_lt hx.ok))) hxl)
 have H0:=hide hv
 have hdd:(na != nb)=false:=sign_bne hzx hzy hd
 have hbn:(!(na==nb))=false:=hdd
 have hbn2:(na==nb)=true:=by revert hdd;cases na <;> cases nb <;> decide
 have E1:=hide (show (if false=true then -((val (dig (val xs/val ys)):Nat):Int) else ((val (dig (val xs/val ys)):Nat):Int))=x.fdiv y by rw[val_dig,←hzx,←hzy,(floor_plain (na:=na) (nb:=nb) (xs:=xs) hv (.inr hdd)).1];unfold fq;rw[hdd])
 obtain⟨S,hS⟩:∃S,x.sign=S:=⟨_,rfl⟩
 obtain⟨T,hT⟩:∃T,y.sign=T:=⟨_,rfl⟩
 have hw1:IntKind.i64.wrap (S*T)=1:=by rw[←hS,←hT,hd];decide
 have HST:=hide (ai hS hT)
 clear hzx hzy hv hr h0 hm0 Lx Ly hS hT hd hdd hn
 go_enter Tryz.func162,Tryz.ntmps162
 have hb:=Below.refl w.heap.size w
 have hp:=Bk.new w na (.slice oa xs.length ca)
 replace ha:=ha.alloc (.cells #[.bool na,(.slice oa xs.length ca)] 37)
 replace hb':=hb'.alloc (.cells #[.bool na,(.slice oa xs.length ca)] 37)
 replace hx:=hx.alloc (.cells #[.bool na,(.slice oa xs.length ca)] 37)
 replace hy:=hy.alloc (.cells #[.bool na,(.slice oa xs.length ca)] 37)
 replace hb:=hb.alloc hb.size (.cells #[.bool na,(.slice oa xs.length ca)] 37)
 have hq:=Bk.new (w.alloc (.cells #[.bool na,(.slice oa xs.length ca)] 37)) nb (.slice ob ys.length cb)
 simp only[Bk.size_alloc] at hq
 replace ha:=ha.alloc (.cells #[.bool nb,(.slice ob ys.length cb)] 37)
 replace hb':=hb'.alloc (.cells #[.bool nb,(.slice ob ys.length cb)] 37)
 replace hx:=hx.alloc (.cells #[.bool nb,(.slice ob ys.length cb)] 37)
 replace hy:=hy.alloc (.cells #[.bool nb,(.slice ob ys.length cb)] 37)
 replace hp:=hp.alloc (.cells #[.bool nb,(.slice ob ys.length cb)] 37)
 replace hb:=hb.alloc hb.size (.cells #[.bool nb,(.slice ob ys.length cb)] 37)
 have hz1:=Bk.new ((w.alloc (.cells #[.bool na,(.slice oa xs.length ca)] 37)).alloc (.cells #[.bool nb,(.slice ob ys.length cb)] 37)) false (.slice none 0 0)
 simp only[Bk.size_alloc] at hz1
 replace ha:=ha.alloc (.cells #[.bool false,(.slice none 0 0)] 37)
 replace hb':=hb'.alloc (.cells #[.bool false,(.slice none 0 0)] 37)
 replace hx:=hx.alloc (.cells #[.bool false,(.slice none 0 0)] 37)
 replace hy:=hy.alloc (.cells #[.bool false,(.slice none 0 0)] 37)
 replace hp:=hp.alloc (.cells #[.bool false,(.slice none 0 0)] 37)
 replace hq:=hq.alloc (.cells #[.bool false,(.slice none 0 0)] 37)
 replace hb:=hb.alloc hb.size (.cells #[.bool false,(.slice none 0 0)] 37)
 have hz2:=Bk.new (((w.alloc (.cells #[.bool na,(.slice oa xs.length ca)] 37)).alloc (.cells #[.bool nb,(.slice ob ys.length cb)] 37)).alloc (.cells #[.bool false,(.slice none 0 0)] 37)) false (.slice none 0 0)
 simp only[Bk.size_alloc] at hz2
 replace ha:=ha.alloc (.cells #[.bool false,(.slice none 0 0)] 37)
 replace hb':=hb'.alloc (.cells #[.bool false,(.slice none 0 0)] 37)
 replace hx:=hx.alloc (.cells #[.bool false,(.slice none 0 0)] 37)
 replace hy:=hy.alloc (.cells #[.bool false,(.slice none 0 0)] 37)
 replace hp:=hp.alloc (.cells #[.bool false,(.slice none 0 0)] 37)
 replace hq:=hq.alloc (.cells #[.bool false,(.slice none 0 0)] 37)
 replace hz1:=hz1.alloc (.cells #[.bool false,(.slice none 0 0)] 37)
 replace hb:=hb.alloc hb.size (.cells #[.bool false,(.slice none 0 0)] 37)
 have f_hp:=hp.facts
 have f_hq:=hq.facts
 go_wp2_with fail
 refine(rdivMod_rd' hx hy H0.out (by omega) (by omega)).mono ?_
 rintro e w_1 ⟨s1,s2,rfl,h1,h2,hb_1⟩
 replace ha:=ha.below hb_1 nl
 replace hb':=hb'.below hb_1 nl
 replace hx:=hx.below hb_1 nl
 replace hy:=hy.below hb_1 nl
 replace hp:=hp.below hb_1 nl
 replace hq:=hq.below hb_1 nl
 replace hz1:=hz1.below hb_1 nl
 replace hz2:=hz2.below hb_1 nl
 replace hb:=tmm hb hb_1
 clear hb_1
 clear f_hp f_hq
 obtain⟨o2,c2,rfl,hc2,_⟩:=h2
 rw[HNn.out]
 have f_hp:=hp.facts
 have f_hq:=hq.facts
 go_wp2_with fail
 refine(make_any false _ h1 (by have:=LD.out;omega) E1.out).mono ?_
 rintro e w_2 ⟨v3,rfl,g3,hb_2⟩
 replace ha:=ha.below hb_2 nl
 replace hb':=hb'.below hb_2 nl
 replace hx:=hx.below hb_2 nl
 replace hy:=hy.below hb_2 nl
 replace hp:=hp.below hb_2 nl
 replace hq:=hq.below hb_2 nl
 replace hz1:=hz1.below hb_2 nl
 replace hz2:=hz2.below hb_2 nl
 replace h1:=h1.below hb_2 nl
 replace hb:=tmm hb hb_2
 clear hb_2
 replace g3:=g3.rd
 clear h1
 clear f_hp f_hq
 have kb_hz3:=hb.size
 have ne_hp_hz3:w.heap.size≠w_2.heap.size:=by have:=hp.lt;(try simp only[Bk.size_alloc] at this);omega
 have ne_hq_hz3:w.heap.size+1≠w_2.heap.size:=by have:=hq.lt;(try simp only[Bk.size_alloc] at this);omega
 have ne_hz1_hz3:w.heap.size+1+1≠w_2.heap.size:=by have:=hz1.lt;(try simp only[Bk.size_alloc] at this);omega
 have ne_hz2_hz3:w.heap.size+1+1+1≠w_2.heap.size:=by have:=hz2.lt;(try simp only[Bk.size_alloc] at this);omega
 have hz3:=Bk.new w_2 false (.slice none 0 0)
 replace ha:=ha.alloc (.cells #[.bool false,(.slice none 0 0)] 37)
 replace hb':=hb'.alloc (.cells #[.bool false,(.slice none 0 0)] 37)
 replace hx:=hx.alloc (.cells #[.bool false,(.slice none 0 0)] 37)
 replace hy:=hy.alloc (.cells #[.bool false,(.slice none 0 0)] 37)
 replace hp:=hp.alloc (.cells #[.bool false,(.slice none 0 0)] 37)
 replace hq:=hq.alloc (.cells #[.bool false,(.slice none 0 0)] 37)
 replace hz1:=hz1.alloc (.cells #[.bool false,(.slice none 0 0)] 37)
 replace hz2:=hz2.alloc (.cells #[.bool false,(.slice none 0 0)] 37)
 replace g3:=g3.alloc (.cells #[.bool false,(.slice none 0 0)] 37)
 replace hb:=hb.alloc hb.size (.cells #[.bool false,(.slice none 0 0)] 37)
 obtain⟨w_3,hw_3⟩:∃v,(w_2.alloc (.cells #[.bool false,(.slice none 0 0)] 37))=v:=⟨_,rfl⟩
 rw[hw_3] at ha hb' hx hy hp hq hz1 hz2 g3 hz3 hb
 obtain⟨sb_hz3,o_hz3,n_hz3,c_hz3,rfl⟩:=g3.open2
 have f_hz3:=hz3.facts
 have ho:=Bk.only w_3 (w_2.heap.size) sb_hz3 (.slice o_hz3 n_hz3 c_hz3)
 have hbx_:=hz3.bx
 replace ha:=ha.frame hbx_ ho
 replace hb':=hb'.frame hbx_ ho
 replace hx:=hx.frame hbx_ ho
 replace hy:=hy.frame hbx_ ho
 replace hp:=hp.frame ho (by first | assumption | (apply Ne.symm;assumption) | (simp;done) | omega)
 replace hq:=hq.frame ho (by first | assumption | (apply Ne.symm;assumption) | (simp;done) | omega)
 replace hz1:=hz1.frame ho (by first | assumption | (apply Ne.symm;assumption) | (simp;done) | omega)
 replace hz2:=hz2.frame ho (by first | assumption | (apply Ne.symm;assumption) | (simp;done) | omega)
 replace g3:=g3.frame hbx_ ho
 replace hz3:=hz3.store sb_hz3 (.slice o_hz3 n_hz3 c_hz3)
 replace hb:=(hb.setCell (p:=⟨w_2.heap.size,0,none⟩) (show w.heap.size≤w_2.heap.size by first | assumption | (simp;done) | omega) (.bool sb_hz3)).setCell (p:=⟨w_2.heap.size,1,none⟩) (show w.heap.size≤w_2.heap.size by first | assumption | (simp;done) | omega) (.slice o_hz3 n_hz3 c_hz3)
 clear ho hbx_
 obtain⟨w_4,hw_4⟩:∃v,((w_3.setCell ⟨w_2.heap.size,0,none⟩ (.bool sb_hz3)).setCell ⟨w_2.heap.size,1,none⟩ (.slice o_hz3 n_hz3 c_hz3))=v:=⟨_,rfl⟩
 rw[hw_4] at ha hb' hx hy hp hq hz1 hz2 g3 hz3 hb
 replace ha:=ha.drew
 replace hb':=hb'.drew
 replace hx:=hx.drew
 replace hy:=hy.drew
 replace hp:=hp.drew
 replace hq:=hq.drew
 replace hz1:=hz1.drew
 replace hz2:=hz2.drew
 replace g3:=g3.drew
 replace hz3:=hz3.drew
 replace hb:=hb.drew
 go_wp2_with fail
 refine wp_region_pl [(0,false),(1,true),(2,false),(3,false),(4,false),(6,false),(5,true),(7,true),(8,false),(9,false),(10,false)] (fun w'=>w'.cell? ⟨w.heap.size,0,none⟩=some (.bool na)∧w'.cell? ⟨w.heap.size,1,none⟩=some (.slice oa xs.length ca)∧w'.cell? ⟨w.heap.size+1,0,none⟩=some (.bool nb)∧w'.cell? ⟨w.heap.size+1,1,none⟩=some (.slice ob ys.length cb)∧w'.cell? ⟨w.heap.size+1+1,0,none⟩=some (.bool false)∧w'.cell? ⟨w.heap.size+1+1,1,none⟩=some (.slice none 0 0)∧w'.cell? ⟨w.heap.size+1+1+1,0,none⟩=some (.bool false)∧w'.cell? ⟨w.heap.size+1+1+1,1,none⟩=some (.slice none 0 0)∧w'.cell? ⟨w_2.heap.size,0,none⟩=some (.bool sb_hz3)∧w'.cell? ⟨w_2.heap.size,1,none⟩=some (.slice o_hz3 n_hz3 c_hz3)) (by kernel_rfl) (by kernel_rfl) (by kernel_rfl) (by kernel_rfl) ⟨hp.facts.1,hp.facts.2.1,hq.facts.1,hq.facts.2.1,hz1.facts.1,hz1.facts.2.1,hz2.facts.1,hz2.facts.2.1,hz3.facts.1,hz3.facts.2.1⟩ ?_
 apply wpPl_ld
 case hi=>rfl
 case h1=>intro w' hC K hK;obtain⟨c0,c1,c2,c3,c4,c5,c6,c7,c8,c9⟩:=hC;(first | go_big_move | go_big_op);exact hK
 case hw=>kernel_rfl
 case hv=>kernel_rfl
 case hb=>kernel_rfl
 case hp=>kernel_rfl
 apply wpPl_call
 case hi=>rfl
 case hw=>kernel_rfl
 case h =>
 intro K hK
 go_big_op
 refine hK _ _ rfl ⟨hp.facts.1,hp.facts.2.1,hq.facts.1,hq.facts.2.1,hz1.facts.1,hz1.facts.2.1,hz2.facts.1,hz2.facts.2.1,hz3.facts.1,hz3.facts.2.1⟩ ?_
 clear hK K
 apply wpPl_ld
 case hi=>rfl
 case h1=>intro w' hC K hK;obtain⟨c0,c1,c2,c3,c4,c5,c6,c7,c8,c9⟩:=hC;(first | go_big_move | go_big_op);exact hK
 case hw=>kernel_rfl
 case hv=>kernel_rfl
 case hb=>kernel_rfl
 case hp=>kernel_rfl
 apply wpPl_ld
 case hi=>rfl
 case h1=>intro w' hC K hK;obtain⟨c0,c1,c2,c3,c4,c5,c6,c7,c8,c9⟩:=hC;(first | go_big_move | go_big_op);exact hK
 case hw=>kernel_rfl
 case hv=>kernel_rfl
 case hb=>kernel_rfl
 case hp=>kernel_rfl
 apply wpPl_ld
 case hi=>rfl
 case h1=>intro w' hC K hK;obtain⟨c0,c1,c2,c3,c4,c5,c6,c7,c8,c9⟩:=hC;(first | go_big_move | go_big_op);exact hK
 case hw=>kernel_rfl
 case hv=>kernel_rfl
 case hb=>kernel_rfl
 case hp=>kernel_rfl
 apply wpPl_ld
 case hi=>rfl
 case h1=>intro w' hC K hK;obtain⟨c0,c1,c2,c3,c4,c5,c6,c7,c8,c9⟩:=hC;(first | go_big_move | go_big_op);exact hK
 case hw=>kernel_rfl
 case hv=>kernel_rfl
 case hb=>kernel_rfl
 case hp=>kernel_rfl
 apply wpPl_call
 case hi=>rfl
 case hw=>kernel_rfl
 case h =>
 intro K hK
 have kb_5:=hb.size
 go_big_op
 go_fit (rzsign_any ha (by omega))
 rintro e w_5 ⟨rfl,hb_5⟩
 replace ha:=ha.below hb_5 nl
 replace hb':=hb'.below hb_5 nl
 replace hx:=hx.below hb_5 nl
 replace hy:=hy.below hb_5 nl
 replace hp:=hp.below hb_5 nl
 replace hq:=hq.below hb_5 nl
 replace hz1:=hz1.below hb_5 nl
 replace hz2:=hz2.below hb_5 nl
 replace g3:=g3.below hb_5 nl
 replace hz3:=hz3.below hb_5 nl
 replace hb:=tmm hb hb_5
 refine hK _ _ rfl ⟨hp.facts.1,hp.facts.2.1,hq.facts.1,hq.facts.2.1,hz1.facts.1,hz1.facts.2.1,hz2.facts.1,hz2.facts.2.1,hz3.facts.1,hz3.facts.2.1⟩ ?_
 clear hK K hb_5
 rw[HST.out.1]
 apply wpPl_call
 case hi=>rfl
 case hw=>kernel_rfl
 case h =>
 intro K hK
 have kb_6:=hb.size
 go_big_op
 go_fit (rzsign_any hb' (by omega))
 rintro e w_6 ⟨rfl,hb_6⟩
 replace ha:=ha.below hb_6 nl
 replace hb':=hb'.below hb_6 nl
 replace hx:=hx.below hb_6 nl
 replace hy:=hy.below hb_6 nl
 replace hp:=hp.below hb_6 nl
 replace hq:=hq.below hb_6 nl
 replace hz1:=hz1.below hb_6 nl
 replace hz2:=hz2.below hb_6 nl
 replace g3:=g3.below hb_6 nl
 replace hz3:=hz3.below hb_6 nl
 replace hb:=tmm hb hb_6
 refine hK _ _ rfl ⟨hp.facts.1,hp.facts.2.1,hq.facts.1,hq.facts.2.1,hz1.facts.1,hz1.facts.2.1,hz2.facts.1,hz2.facts.2.1,hz3.facts.1,hz3.facts.2.1⟩ ?_
 clear hK K hb_6
 rw[HST.out.2]
 apply wpPl_ld
 case hi=>rfl
 case h1=>intro w' hC K hK;obtain⟨c0,c1,c2,c3,c4,c5,c6,c7,c8,c9⟩:=hC;(first | go_big_move | go_big_op);exact hK
 case hw=>kernel_rfl
 case hv=>kernel_rfl
 case hb=>kernel_rfl
 case hp=>kernel_rfl
 apply wpPl_ld
 case hi=>rfl
 case h1=>intro w' hC K hK;obtain⟨c0,c1,c2,c3,c4,c5,c6,c7,c8,c9⟩:=hC;(first | go_big_move | go_big_op);exact hK
 case hw=>kernel_rfl
 case hv=>kernel_rfl
 case hb=>kernel_rfl
 case hp=>kernel_rfl
 apply wpPl_ld
 case hi=>rfl
 case h1=>intro w' hC K hK;obtain⟨c0,c1,c2,c3,c4,c5,c6,c7,c8,c9⟩:=hC;(first | go_big_move | go_big_op);exact hK
 case hw=>kernel_rfl
 case hv=>kernel_rfl
 case hb=>kernel_rfl
 case hp=>kernel_rfl
 apply wpPl_end
 replace ha:=ha.drew
 replace hb':=hb'.drew
 replace hx:=hx.drew
 replace hy:=hy.drew
 replace hp:=hp.drew
 replace hq:=hq.drew
 replace hz1:=hz1.drew
 replace hz2:=hz2.drew
 replace g3:=g3.drew
 replace hz3:=hz3.drew
 replace hb:=hb.drew
 have lt_hp:=hp.lt
 have lt_hq:=hq.lt
 have lt_hz1:=hz1.lt
 have lt_hz2:=hz2.lt
 have lt_hz3:=hz3.lt
 have kb0:=hb.size
 go_wp2_with fail
 refine wp_region_fl [(0,false),(1,false),(2,false),(3,false),(4,true),(5,true)] [6,7] [] (fun _=>obZ) [2,0,2,1,99,99,99,99] [] (fun w'=>w'.cell? ⟨w.heap.size,0,none⟩=some (.bool na)∧w'.cell? ⟨w.heap.size,1,none⟩=some (.slice oa xs.length ca)∧w'.cell? ⟨w.heap.size+1,0,none⟩=some (.bool nb)∧w'.cell? ⟨w.heap.size+1,1,none⟩=some (.slice ob ys.length cb)∧w'.cell? ⟨w_2.heap.size,0,none⟩=some (.bool sb_hz3)∧w'.cell? ⟨w_2.heap.size,1,none⟩=some (.slice o_hz3 n_hz3 c_hz3)) [fun w'=>w'.cell? ⟨w.heap.size,0,none⟩=some (.bool na)∧w'.cell? ⟨w.heap.size,1,none⟩=some (.slice oa xs.length ca),fun w'=>w'.cell? ⟨w.heap.size+1,0,none⟩=some (.bool nb)∧w'.cell? ⟨w.heap.size+1,1,none⟩=some (.slice ob ys.length cb),fun w'=>w'.cell? ⟨w_2.heap.size,0,none⟩=some (.bool sb_hz3)∧w'.cell? ⟨w_2.heap.size,1,none⟩=some (.slice o_hz3 n_hz3 c_hz3)] (by kernel_rfl) (by kernel_rfl) (by kernel_rfl) (by kernel_rfl) (by kernel_rfl) (by kernel_rfl) (by kernel_rfl) (by kernel_rfl) (by decide) (by intro j hj;cases hj) (by intro w' o hC;obtain⟨c0,c1,c2,c3,c4,c5⟩:=hC;exact⟨cell_alloc c0 o,cell_alloc c1 o,cell_alloc c2 o,cell_alloc c3 o,cell_alloc c4 o,cell_alloc c5 o⟩) (by intro w' hC G hG;obtain⟨c0,c1,c2,c3,c4,c5⟩:=hC;simp only[List.mem_cons,List.not_mem_nil,or_false] at hG;rcases hG with rfl | rfl | rfl <;> first | exact⟨c0,c1⟩ | exact⟨c2,c3⟩ | exact⟨c4,c5⟩) ⟨hp.facts.1,hp.facts.2.1,hq.facts.1,hq.facts.2.1,hz3.facts.1,hz3.facts.2.1⟩ ?_
 apply wpFl_ld
 case hG=>rfl
 case hi=>rfl
 case h1=>intro w' hC K hK;obtain⟨c0,c1⟩:=hC;(first | go_big_move | go_big_op);exact hK
 case hw=>kernel_rfl
 case hv=>kernel_rfl
 case hb=>kernel_rfl
 case hp=>kernel_rfl
 apply wpFl_ld
 case hG=>rfl
 case hi=>rfl
 case h1=>intro w' hC K hK;obtain⟨c0,c1⟩:=hC;(first | go_big_move | go_big_op);exact hK
 case hw=>kernel_rfl
 case hv=>kernel_rfl
 case hb=>kernel_rfl
 case hp=>kernel_rfl
 apply wpFl_ld
 case hG=>rfl
 case hi=>rfl
 case h1=>intro w' hC K hK;obtain⟨c0,c1⟩:=hC;(first | go_big_move | go_big_op);exact hK
 case hw=>kernel_rfl
 case hv=>kernel_rfl
 case hb=>kernel_rfl
 case hp=>kernel_rfl
 apply wpFl_ld
 case hG=>rfl
 case hi=>rfl
 case h1=>intro w' hC K hK;obtain⟨c0,c1⟩:=hC;(first | go_big_move | go_big_op);exact hK
 case hw=>kernel_rfl
 case hv=>kernel_rfl
 case hb=>kernel_rfl
 case hp=>kernel_rfl
 apply wpFl_call
 case hi=>rfl
 case hw=>kernel_rfl
 case h =>
 intro w_7 hn hC
 clear hC
 replace ha:=ha.below hn nl
 replace hb':=hb'.below hn nl
 replace hx:=hx.below hn nl
 replace hy:=hy.below hn nl
 replace hp:=hp.below hn nl
 replace hq:=hq.below hn nl
 replace hz1:=hz1.below hn nl
 replace hz2:=hz2.below hn nl
 replace g3:=g3.below hn nl
 replace hz3:=hz3.below hn nl
 replace hb:=tmm hb hn
 clear hn
 intro K hK
 have kb_8:=hb.size
 go_big_op
 go_fit (rzmul_any (g3.zn LQ.out) hb' (by omega) (by omega))
 rintro e w_8 ⟨v4,rfl,g4,hb_8⟩
 replace ha:=ha.below hb_8 nl
 replace hb':=hb'.below hb_8 nl
 replace hx:=hx.below hb_8 nl
 replace hy:=hy.below hb_8 nl
 replace hp:=hp.below hb_8 nl
 replace hq:=hq.below hb_8 nl
 replace hz1:=hz1.below hb_8 nl
 replace hz2:=hz2.below hb_8 nl
 replace g3:=g3.below hb_8 nl
 replace hz3:=hz3.below hb_8 nl
 replace hb:=tmm hb hb_8
 refine hK _ _ rfl hb_8 ⟨hp.facts.1,hp.facts.2.1,hq.facts.1,hq.facts.2.1,hz3.facts.1,hz3.facts.2.1⟩ ?_
 clear hK K hb_8
 replace g4:=g4.rd
 apply wpFl_call
 case hi=>rfl
 case hw=>kernel_rfl
 case h =>
 intro w_9 hn hC
 clear hC
 replace ha:=ha.below hn nl
 replace hb':=hb'.below hn nl
 replace hx:=hx.below hn nl
 replace hy:=hy.below hn nl
 replace hp:=hp.below hn nl
 replace hq:=hq.below hn nl
 replace hz1:=hz1.below hn nl
 replace hz2:=hz2.below hn nl
 replace g3:=g3.below hn nl
 replace hz3:=hz3.below hn nl
 replace g4:=g4.below hn nl
 replace hb:=tmm hb hn
 clear hn
 intro K hK
 have kb_10:=hb.size
 go_big_op
 go_fit (rzsub_any ha (g4.zn LM.out) (by omega) (by omega))
 rintro e w_10 ⟨v5,rfl,g5,hb_10⟩
 replace ha:=ha.below hb_10 nl
 replace hb':=hb'.below hb_10 nl
 replace hx:=hx.below hb_10 nl
 replace hy:=hy.below hb_10 nl
 replace hp:=hp.below hb_10 nl
 replace hq:=hq.below hb_10 nl
 replace hz1:=hz1.below hb_10 nl
 replace hz2:=hz2.below hb_10 nl
 replace g3:=g3.below hb_10 nl
 replace hz3:=hz3.below hb_10 nl
 replace g4:=g4.below hb_10 nl
 replace hb:=tmm hb hb_10
 refine hK _ _ rfl hb_10 ⟨hp.facts.1,hp.facts.2.1,hq.facts.1,hq.facts.2.1,hz3.facts.1,hz3.facts.2.1⟩ ?_
 clear hK K hb_10
 replace g5:=g5.rd
 rw[ER.out] at g5
 apply wpFl_end
 case ha=>intro pt;simp only[putF];rfl
 case h =>
 intro w_11 pt hn hC hF hD
 clear hC
 replace ha:=ha.below hn nl
 replace hb':=hb'.below hn nl
 replace hx:=hx.below hn nl
 replace hy:=hy.below hn nl
 replace hp:=hp.below hn nl
 replace hq:=hq.below hn nl
 replace hz1:=hz1.below hn nl
 replace hz2:=hz2.below hn nl
 replace g3:=g3.below hn nl
 replace hz3:=hz3.below hn nl
 replace g4:=g4.below hn nl
 replace g5:=g5.below hn nl
 replace hb:=tmm hb hn
 clear hn
 clear hF hD
 clear lt_hp
 clear lt_hq
 clear lt_hz1
 clear lt_hz2
 clear lt_hz3
 clear kb0
 apply wpTail_call
 case hi=>rfl
 case hw=>kernel_rfl
 case h =>
 intro K hK
 have c9_:=hz1.facts
 go_big_op
 have ho:=Bk.only w_11 (w.heap.size+1+1) sb_hz3 (.slice o_hz3 n_hz3 c_hz3)
 have hbx_:=hz1.bx
 replace ha:=ha.frame hbx_ ho
 replace hb':=hb'.frame hbx_ ho
 replace hx:=hx.frame hbx_ ho
 replace hy:=hy.frame hbx_ ho
 replace hp:=hp.frame ho (by first | assumption | (apply Ne.symm;assumption) | (simp;done) | omega)
 replace hq:=hq.frame ho (by first | assumption | (apply Ne.symm;assumption) | (simp;done) | omega)
 replace hz2:=hz2.frame ho (by first | assumption | (apply Ne.symm;assumption) | (simp;done) | omega)
 replace g3:=g3.frame hbx_ ho
 replace hz3:=hz3.frame ho (by first | assumption | (apply Ne.symm;assumption) | (simp;done) | omega)
 replace g4:=g4.frame hbx_ ho
 replace g5:=g5.frame hbx_ ho
 replace hz1:=hz1.store sb_hz3 (.slice o_hz3 n_hz3 c_hz3)
 replace hb:=(hb.setCell (p:=⟨w.heap.size+1+1,0,none⟩) (show w.heap.size≤w.heap.size+1+1 by first | assumption | (simp;done) | omega) (.bool sb_hz3)).setCell (p:=⟨w.heap.size+1+1,1,none⟩) (show w.heap.size≤w.heap.size+1+1 by first | assumption | (simp;done) | omega) (.slice o_hz3 n_hz3 c_hz3)
 refine hK _ _ rfl (ai (ai hp.facts.1 hp.facts.2.1) (ai (ai hq.facts.1 hq.facts.2.1) (ai (ai hz3.facts.1 hz3.facts.2.1) trivial))) ?_
 clear hK K hbx_ ho c9_
 obtain⟨sb_hz2,o_hz2,n_hz2,c_hz2,rfl⟩:=g5.open2
 apply wpTail_call
 case hi=>rfl
 case hw=>kernel_rfl
 case h =>
 intro K hK
 have c9_:=hz2.facts
 go_big_op
 have ho:=Bk.only ((w_11.setCell ⟨w.heap.size+1+1,0,none⟩ (.bool sb_hz3)).setCell ⟨w.heap.size+1+1,1,none⟩ (.slice o_hz3 n_hz3 c_hz3)) (w.heap.size+1+1+1) sb_hz2 (.slice o_hz2 n_hz2 c_hz2)
 have hbx_:=hz2.bx
 replace ha:=ha.frame hbx_ ho
 replace hb':=hb'.frame hbx_ ho
 replace hx:=hx.frame hbx_ ho
 replace hy:=hy.frame hbx_ ho
 replace hp:=hp.frame ho (by first | assumption | (apply Ne.symm;assumption) | (simp;done) | omega)
 replace hq:=hq.frame ho (by first | assumption | (apply Ne.symm;assumption) | (simp;done) | omega)
 replace hz1:=hz1.frame ho (by first | assumption | (apply Ne.symm;assumption) | (simp;done) | omega)
 replace g3:=g3.frame hbx_ ho
 replace hz3:=hz3.frame ho (by first | assumption | (apply Ne.symm;assumption) | (simp;done) | omega)
 replace g4:=g4.frame hbx_ ho
 replace g5:=g5.frame hbx_ ho
 replace hz2:=hz2.store sb_hz2 (.slice o_hz2 n_hz2 c_hz2)
 replace hb:=(hb.setCell (p:=⟨w.heap.size+1+1+1,0,none⟩) (show w.heap.size≤w.heap.size+1+1+1 by first | assumption | (simp;done) | omega) (.bool sb_hz2)).setCell (p:=⟨w.heap.size+1+1+1,1,none⟩) (show w.heap.size≤w.heap.size+1+1+1 by first | assumption | (simp;done) | omega) (.slice o_hz2 n_hz2 c_hz2)
 refine hK _ _ rfl (ai (ai hp.facts.1 hp.facts.2.1) (ai (ai hq.facts.1 hq.facts.2.1) (ai (ai hz3.facts.1 hz3.facts.2.1) trivial))) ?_
 clear hK K hbx_ ho c9_
 apply wpTail_end
 have f1:=hz1.facts
 have f2:=hz2.facts
 go_wp2
 refine bodyPost_ret (v:=.tuple #[.agg #[.bool sb_hz3,.slice o_hz3 n_hz3 c_hz3],.agg #[.bool sb_hz2,.slice o_hz2 n_hz2 c_hz2]]) (by simp[results,Tryz.results162,go_sem,f1.1,f1.2.1,f2.1,f2.2.1]) rfl ?_
 exact⟨_,_,rfl,g3,g5,hb⟩
theorem rfloor_diff {w:World} {va vb:Value} {x y:Int} {l m:Nat} (ha:ZN w va x l) (hb':ZN w vb y m) (hl:l≤100000000) (hm:m≤100000000) (h0:y≠0) (hr:x.fmod y≠0) (hd:x.sign*y.sign = -1) :
  Calls Tryz.prog 162 #[va,vb] w fun e w'=>∃v1 v2,e = .returned (.tuple #[v1,v2])∧ZC w' v1 (x.fdiv y)∧ZC w' v2 (x.fmod y)∧Below w.heap.size w w':=by
 have Lx:=ha.len
 have Ly:=hb'.len
 have LQ:=hide (fdiv_len h0 Lx)
 have LM:=hide (zlen_mul LQ.out Ly)
 have ER:=hide (show x - x.fdiv y*y=x.fmod y by have:=fmod_eq x y;omega)
 obtain⟨na,oa,ca,xs,rfl,hca,hx,hzx,hxl⟩:=ha.open_
 obtain⟨nb,ob,cb,ys,rfl,hcb,hy,hzy,hyl⟩:=hb'.open_
 have hv:val ys≠0:=fun h=>h0 (by rw[←hzy];exact zv_zero.2 h)
 have hm0:val xs%val ys≠0:=fun h=>hr ((fmod_zero hzx hzy h0).2 h)
 obtain⟨n,hn⟩:∃n,(dig (val xs%val ys)).length=n:=⟨_,rfl⟩
 have HNn:=hide hn
 have hn0:0<n:=by rw[←hn,List.length_pos_iff];exact fun h=>hm0 (dig_eq_nil.1 h)
 have hn1:(n==0)=false:=by rw[beq_eq_false_iff_ne];omega
 have LD:=hide (show (dig (val xs/val ys)).length≤l from Nat.le_trans (dig_length_le (Nat.lt_of_le_of_lt (Nat.div_le_self _ _) (val_lt hx.ok))) hxl)
 have H0:=hide hv
 have hdd:(na != nb)=true:=sign_bne hzx hzy hd
 have hbn:(!(na==nb))=true:=hdd
 have hbn2:(na==nb)=false:=by revert hdd;cases na <;> cases nb <;> decide
 have E1:=hide (show (if true=true then -((val (dig (val xs/val ys)):Nat):Int) else ((val (dig (val xs/val ys)):Nat):Int))=x.fdiv y+1 by rw[val_dig,←hzx,←hzy,(floor_turned (na:=na) (nb:=nb) hv hm0 hdd).1];unfold fq;rw[hdd];simp only[if_true];omega)
 have EQ:=hide (show x.fdiv y+1 - 1=x.fdiv y by omega)
 have LQ1:=hide (show (dig (x.fdiv y+1).natAbs).length≤l+1 from len_succ (m:=(x.fdiv y).natAbs) (by omega) LQ.out)
 have L1:=hide (show (dig (1:Int).natAbs).length≤2 from zlen_i 1 (by decide) (by decide))
 obtain⟨S,hS⟩:∃S,x.sign=S:=⟨_,rfl⟩
 obtain⟨T,hT⟩:∃T,y.sign=T:=⟨_,rfl⟩
 have hw1:IntKind.i64.wrap (S*T) = -1:=by rw[←hS,←hT,hd];decide
 have HST:=hide (ai hS hT)
 clear hzx hzy hv hr h0 hm0 Lx Ly hS hT hd hdd hn
 go_enter Tryz.func162,Tryz.ntmps162
 have hb:=Below.refl w.heap.size w
 have hp:=Bk.new w na (.slice oa xs.length ca)
 replace ha:=ha.alloc (.cells #[.bool na,(.slice oa xs.length ca)] 37)
 replace hb':=hb'.alloc (.cells #[.bool na,(.slice oa xs.length ca)] 37)
 replace hx:=hx.alloc (.cells #[.bool na,(.slice oa xs.length ca)] 37)
 replace hy:=hy.alloc (.cells #[.bool na,(.slice oa xs.length ca)] 37)
 replace hb:=hb.alloc hb.size (.cells #[.bool na,(.slice oa xs.length ca)] 37)
 have hq:=Bk.new (w.alloc (.cells #[.bool na,(.slice oa xs.length ca)] 37)) nb (.slice ob ys.length cb)
 simp only[Bk.size_alloc] at hq
 replace ha:=ha.alloc (.cells #[.bool nb,(.slice ob ys.length cb)] 37)
 replace hb':=hb'.alloc (.cells #[.bool nb,(.slice ob ys.length cb)] 37)
 replace hx:=hx.alloc (.cells #[.bool nb,(.slice ob ys.length cb)] 37)
 replace hy:=hy.alloc (.cells #[.bool nb,(.slice ob ys.length cb)] 37)
 replace hp:=hp.alloc (.cells #[.bool nb,(.slice ob ys.length cb)] 37)
 replace hb:=hb.alloc hb.size (.cells #[.bool nb,(.slice ob ys.length cb)] 37)
 have hz1:=Bk.new ((w.alloc (.cells #[.bool na,(.slice oa xs.length ca)] 37)).alloc (.cells #[.bool nb,(.slice ob ys.length cb)] 37)) false (.slice none 0 0)
 simp only[Bk.size_alloc] at hz1
 replace ha:=ha.alloc (.cells #[.bool false,(.slice none 0 0)] 37)
 replace hb':=hb'.alloc (.cells #[.bool false,(.slice none 0 0)] 37)
 replace hx:=hx.alloc (.cells #[.bool false,(.slice none 0 0)] 37)
 replace hy:=hy.alloc (.cells #[.bool false,(.slice none 0 0)] 37)
 replace hp:=hp.alloc (.cells #[.bool false,(.slice none 0 0)] 37)
 replace hq:=hq.alloc (.cells #[.bool false,(.slice none 0 0)] 37)
 replace hb:=hb.alloc hb.size (.cells #[.bool false,(.slice none 0 0)] 37)
 have hz2:=Bk.new (((w.alloc (.cells #[.bool na,(.slice oa xs.length ca)] 37)).alloc (.cells #[.bool nb,(.slice ob ys.length cb)] 37)).alloc (.cells #[.bool false,(.slice none 0 0)] 37)) false (.slice none 0 0)
 simp only[Bk.size_alloc] at hz2
 replace ha:=ha.alloc (.cells #[.bool false,(.slice none 0 0)] 37)
 replace hb':=hb'.alloc (.cells #[.bool false,(.slice none 0 0)] 37)
 replace hx:=hx.alloc (.cells #[.bool false,(.slice none 0 0)] 37)
 replace hy:=hy.alloc (.cells #[.bool false,(.slice none 0 0)] 37)
 replace hp:=hp.alloc (.cells #[.bool false,(.slice none 0 0)] 37)
 replace hq:=hq.alloc (.cells #[.bool false,(.slice none 0 0)] 37)
 replace hz1:=hz1.alloc (.cells #[.bool false,(.slice none 0 0)] 37)
 replace hb:=hb.alloc hb.size (.cells #[.bool false,(.slice none 0 0)] 37)
 have f_hp:=hp.facts
 have f_hq:=hq.facts
 go_wp2_with fail
 refine(rdivMod_rd' hx hy H0.out (by omega) (by omega)).mono ?_
 rintro e w_1 ⟨s1,s2,rfl,h1,h2,hb_1⟩
 replace ha:=ha.below hb_1 nl
 replace hb':=hb'.below hb_1 nl
 replace hx:=hx.below hb_1 nl
 replace hy:=hy.below hb_1 nl
 replace hp:=hp.below hb_1 nl
 replace hq:=hq.below hb_1 nl
 replace hz1:=hz1.below hb_1 nl
 replace hz2:=hz2.below hb_1 nl
 replace hb:=tmm hb hb_1
 clear hb_1
 clear f_hp f_hq
 obtain⟨o2,c2,rfl,hc2,_⟩:=h2
 rw[HNn.out]
 have f_hp:=hp.facts
 have f_hq:=hq.facts
 go_wp2_with fail
 refine(make_any true _ h1 (by have:=LD.out;omega) E1.out).mono ?_
 rintro e w_2 ⟨v3,rfl,g3,hb_2⟩
 replace ha:=ha.below hb_2 nl
 replace hb':=hb'.below hb_2 nl
 replace hx:=hx.below hb_2 nl
 replace hy:=hy.below hb_2 nl
 replace hp:=hp.below hb_2 nl
 replace hq:=hq.below hb_2 nl
 replace hz1:=hz1.below hb_2 nl
 replace hz2:=hz2.below hb_2 nl
 replace h1:=h1.below hb_2 nl
 replace hb:=tmm hb hb_2
 clear hb_2
 replace g3:=g3.rd
 clear h1
 clear f_hp f_hq
 have kb_hz3:=hb.size
 have ne_hp_hz3:w.heap.size≠w_2.heap.size:=by have:=hp.lt;(try simp only[Bk.size_alloc] at this);omega
 have ne_hq_hz3:w.heap.size+1≠w_2.heap.size:=by have:=hq.lt;(try simp only[Bk.size_alloc] at this);omega
 have ne_hz1_hz3:w.heap.size+1+1≠w_2.heap.size:=by have:=hz1.lt;(try simp only[Bk.size_alloc] at this);omega
 have ne_hz2_hz3:w.heap.size+1+1+1≠w_2.heap.size:=by have:=hz2.lt;(try simp only[Bk.size_alloc] at this);omega
 have hz3:=Bk.new w_2 false (.slice none 0 0)
 replace ha:=ha.alloc (.cells #[.bool false,(.slice none 0 0)] 37)
 replace hb':=hb'.alloc (.cells #[.bool false,(.slice none 0 0)] 37)
 replace hx:=hx.alloc (.cells #[.bool false,(.slice none 0 0)] 37)
 replace hy:=hy.alloc (.cells #[.bool false,(.slice none 0 0)] 37)
 replace hp:=hp.alloc (.cells #[.bool false,(.slice none 0 0)] 37)
 replace hq:=hq.alloc (.cells #[.bool false,(.slice none 0 0)] 37)
 replace hz1:=hz1.alloc (.cells #[.bool false,(.slice none 0 0)] 37)
 replace hz2:=hz2.alloc (.cells #[.bool false,(.slice none 0 0)] 37)
 replace g3:=g3.alloc (.cells #[.bool false,(.slice none 0 0)] 37)
 replace hb:=hb.alloc hb.size (.cells #[.bool false,(.slice none 0 0)] 37)
 obtain⟨w_3,hw_3⟩:∃v,(w_2.alloc (.cells #[.bool false,(.slice none 0 0)] 37))=v:=⟨_,rfl⟩
 rw[hw_3] at ha hb' hx hy hp hq hz1 hz2 g3 hz3 hb
 obtain⟨sb_hz3,o_hz3,n_hz3,c_hz3,rfl⟩:=g3.open2
 have f_hz3:=hz3.facts
 have ho:=Bk.only w_3 (w_2.heap.size) sb_hz3 (.slice o_hz3 n_hz3 c_hz3)
 have hbx_:=hz3.bx
 replace ha:=ha.frame hbx_ ho
 replace hb':=hb'.frame hbx_ ho
 replace hx:=hx.frame hbx_ ho
 replace hy:=hy.frame hbx_ ho
 replace hp:=hp.frame ho (by first | assumption | (apply Ne.symm;assumption) | (simp;done) | omega)
 replace hq:=hq.frame ho (by first | assumption | (apply Ne.symm;assumption) | (simp;done) | omega)
 replace hz1:=hz1.frame ho (by first | assumption | (apply Ne.symm;assumption) | (simp;done) | omega)
 replace hz2:=hz2.frame ho (by first | assumption | (apply Ne.symm;assumption) | (simp;done) | omega)
 replace g3:=g3.frame hbx_ ho
 replace hz3:=hz3.store sb_hz3 (.slice o_hz3 n_hz3 c_hz3)
 replace hb:=(hb.setCell (p:=⟨w_2.heap.size,0,none⟩) (show w.heap.size≤w_2.heap.size by first | assumption | (simp;done) | omega) (.bool sb_hz3)).setCell (p:=⟨w_2.heap.size,1,none⟩) (show w.heap.size≤w_2.heap.size by first | assumption | (simp;done) | omega) (.slice o_hz3 n_hz3 c_hz3)
 clear ho hbx_
 obtain⟨w_4,hw_4⟩:∃v,((w_3.setCell ⟨w_2.heap.size,0,none⟩ (.bool sb_hz3)).setCell ⟨w_2.heap.size,1,none⟩ (.slice o_hz3 n_hz3 c_hz3))=v:=⟨_,rfl⟩
 rw[hw_4] at ha hb' hx hy hp hq hz1 hz2 g3 hz3 hb
 replace ha:=ha.drew
 replace hb':=hb'.drew
 replace hx:=hx.drew
 replace hy:=hy.drew
 replace hp:=hp.drew
 replace hq:=hq.drew
 replace hz1:=hz1.drew
 replace hz2:=hz2.drew
 replace g3:=g3.drew
 replace hz3:=hz3.drew
 replace hb:=hb.drew
 go_wp2_with fail
 refine wp_region_pl [(0,false),(1,true),(2,false),(3,false),(4,false),(6,false),(5,true),(7,true),(8,false),(9,false),(10,false)] (fun w'=>w'.cell? ⟨w.heap.size,0,none⟩=some (.bool na)∧w'.cell? ⟨w.heap.size,1,none⟩=some (.slice oa xs.length ca)∧w'.cell? ⟨w.heap.size+1,0,none⟩=some (.bool nb)∧w'.cell? ⟨w.heap.size+1,1,none⟩=some (.slice ob ys.length cb)∧w'.cell? ⟨w.heap.size+1+1,0,none⟩=some (.bool false)∧w'.cell? ⟨w.heap.size+1+1,1,none⟩=some (.slice none 0 0)∧w'.cell? ⟨w.heap.size+1+1+1,0,none⟩=some (.bool false)∧w'.cell? ⟨w.heap.size+1+1+1,1,none⟩=some (.slice none 0 0)∧w'.cell? ⟨w_2.heap.size,0,none⟩=some (.bool sb_hz3)∧w'.cell? ⟨w_2.heap.size,1,none⟩=some (.slice o_hz3 n_hz3 c_hz3)) (by kernel_rfl) (by kernel_rfl) (by kernel_rfl) (by kernel_rfl) ⟨hp.facts.1,hp.facts.2.1,hq.facts.1,hq.facts.2.1,hz1.facts.1,hz1.facts.2.1,hz2.facts.1,hz2.facts.2.1,hz3.facts.1,hz3.facts.2.1⟩ ?_
 apply wpPl_ld
 case hi=>rfl
 case h1=>intro w' hC K hK;obtain⟨c0,c1,c2,c3,c4,c5,c6,c7,c8,c9⟩:=hC;(first | go_big_move | go_big_op);exact hK
 case hw=>kernel_rfl
 case hv=>kernel_rfl
 case hb=>kernel_rfl
 case hp=>kernel_rfl
 apply wpPl_call
 case hi=>rfl
 case hw=>kernel_rfl
 case h =>
 intro K hK
 go_big_op
 refine hK _ _ rfl ⟨hp.facts.1,hp.facts.2.1,hq.facts.1,hq.facts.2.1,hz1.facts.1,hz1.facts.2.1,hz2.facts.1,hz2.facts.2.1,hz3.facts.1,hz3.facts.2.1⟩ ?_
 clear hK K
 apply wpPl_ld
 case hi=>rfl
 case h1=>intro w' hC K hK;obtain⟨c0,c1,c2,c3,c4,c5,c6,c7,c8,c9⟩:=hC;(first | go_big_move | go_big_op);exact hK
 case hw=>kernel_rfl
 case hv=>kernel_rfl
 case hb=>kernel_rfl
 case hp=>kernel_rfl
 apply wpPl_ld
 case hi=>rfl
 case h1=>intro w' hC K hK;obtain⟨c0,c1,c2,c3,c4,c5,c6,c7,c8,c9⟩:=hC;(first | go_big_move | go_big_op);exact hK
 case hw=>kernel_rfl
 case hv=>kernel_rfl
 case hb=>kernel_rfl
 case hp=>kernel_rfl
 apply wpPl_ld
 case hi=>rfl
 case h1=>intro w' hC K hK;obtain⟨c0,c1,c2,c3,c4,c5,c6,c7,c8,c9⟩:=hC;(first | go_big_move | go_big_op);exact hK
 case hw=>kernel_rfl
 case hv=>kernel_rfl
 case hb=>kernel_rfl
 case hp=>kernel_rfl
 apply wpPl_ld
 case hi=>rfl
 case h1=>intro w' hC K hK;obtain⟨c0,c1,c2,c3,c4,c5,c6,c7,c8,c9⟩:=hC;(first | go_big_move | go_big_op);exact hK
 case hw=>kernel_rfl
 case hv=>kernel_rfl
 case hb=>kernel_rfl
 case hp=>kernel_rfl
 apply wpPl_call
 case hi=>rfl
 case hw=>kernel_rfl
 case h =>
 intro K hK
 have kb_5:=hb.size
 go_big_op
 go_fit (rzsign_any ha (by omega))
 rintro e w_5 ⟨rfl,hb_5⟩
 replace ha:=ha.below hb_5 nl
 replace hb':=hb'.below hb_5 nl
 replace hx:=hx.below hb_5 nl
 replace hy:=hy.below hb_5 nl
 replace hp:=hp.below hb_5 nl
 replace hq:=hq.below hb_5 nl
 replace hz1:=hz1.below hb_5 nl
 replace hz2:=hz2.below hb_5 nl
 replace g3:=g3.below hb_5 nl
 replace hz3:=hz3.below hb_5 nl
 replace hb:=tmm hb hb_5
 refine hK _ _ rfl ⟨hp.facts.1,hp.facts.2.1,hq.facts.1,hq.facts.2.1,hz1.facts.1,hz1.facts.2.1,hz2.facts.1,hz2.facts.2.1,hz3.facts.1,hz3.facts.2.1⟩ ?_
 clear hK K hb_5
 rw[HST.out.1]
 apply wpPl_call
 case hi=>rfl
 case hw=>kernel_rfl
 case h =>
 intro K hK
 have kb_6:=hb.size
 go_big_op
 go_fit (rzsign_any hb' (by omega))
 rintro e w_6 ⟨rfl,hb_6⟩
 replace ha:=ha.below hb_6 nl
 replace hb':=hb'.below hb_6 nl
 replace hx:=hx.below hb_6 nl
 replace hy:=hy.below hb_6 nl
 replace hp:=hp.below hb_6 nl
 replace hq:=hq.below hb_6 nl
 replace hz1:=hz1.below hb_6 nl
 replace hz2:=hz2.below hb_6 nl
 replace g3:=g3.below hb_6 nl
 replace hz3:=hz3.below hb_6 nl
 replace hb:=tmm hb hb_6
 refine hK _ _ rfl ⟨hp.facts.1,hp.facts.2.1,hq.facts.1,hq.facts.2.1,hz1.facts.1,hz1.facts.2.1,hz2.facts.1,hz2.facts.2.1,hz3.facts.1,hz3.facts.2.1⟩ ?_
 clear hK K hb_6
 rw[HST.out.2]
 apply wpPl_ld
 case hi=>rfl
 case h1=>intro w' hC K hK;obtain⟨c0,c1,c2,c3,c4,c5,c6,c7,c8,c9⟩:=hC;(first | go_big_move | go_big_op);exact hK
 case hw=>kernel_rfl
 case hv=>kernel_rfl
 case hb=>kernel_rfl
 case hp=>kernel_rfl
 apply wpPl_ld
 case hi=>rfl
 case h1=>intro w' hC K hK;obtain⟨c0,c1,c2,c3,c4,c5,c6,c7,c8,c9⟩:=hC;(first | go_big_move | go_big_op);exact hK
 case hw=>kernel_rfl
 case hv=>kernel_rfl
 case hb=>kernel_rfl
 case hp=>kernel_rfl
 apply wpPl_ld
 case hi=>rfl
 case h1=>intro w' hC K hK;obtain⟨c0,c1,c2,c3,c4,c5,c6,c7,c8,c9⟩:=hC;(first | go_big_move | go_big_op);exact hK
 case hw=>kernel_rfl
 case hv=>kernel_rfl
 case hb=>kernel_rfl
 case hp=>kernel_rfl
 apply wpPl_end
 replace ha:=ha.drew
 replace hb':=hb'.drew
 replace hx:=hx.drew
 replace hy:=hy.drew
 replace hp:=hp.drew
 replace hq:=hq.drew
 replace hz1:=hz1.drew
 replace hz2:=hz2.drew
 replace g3:=g3.drew
 replace hz3:=hz3.drew
 replace hb:=hb.drew
 have lt_hp:=hp.lt
 have lt_hq:=hq.lt
 have lt_hz1:=hz1.lt
 have lt_hz2:=hz2.lt
 have lt_hz3:=hz3.lt
 have kb0:=hb.size
 go_wp2_with fail
 refine wp_region_fl [(0,false),(1,true),(2,true)] [3] [] (fun _=>obZ) [0,99,99,99] [(3,0)] (fun w'=>w'.cell? ⟨w_2.heap.size,0,none⟩=some (.bool sb_hz3)∧w'.cell? ⟨w_2.heap.size,1,none⟩=some (.slice o_hz3 n_hz3 c_hz3)) [fun w'=>w'.cell? ⟨w_2.heap.size,0,none⟩=some (.bool sb_hz3)∧w'.cell? ⟨w_2.heap.size,1,none⟩=some (.slice o_hz3 n_hz3 c_hz3)] (by kernel_rfl) (by kernel_rfl) (by kernel_rfl) (by kernel_rfl) (by kernel_rfl) (by kernel_rfl) (by kernel_rfl) (by kernel_rfl) (by decide) (by intro j hj;cases hj) (by intro w' o hC;obtain⟨c0,c1⟩:=hC;exact⟨cell_alloc c0 o,cell_alloc c1 o⟩) (by intro w' hC G hG;obtain⟨c0,c1⟩:=hC;simp only[List.mem_cons,List.not_mem_nil,or_false] at hG;rcases hG with rfl <;> first | exact⟨c0,c1⟩) ⟨hz3.facts.1,hz3.facts.2.1⟩ ?_
 apply wpFl_ld
 case hG=>rfl
 case hi=>rfl
 case h1=>intro w' hC K hK;obtain⟨c0,c1⟩:=hC;(first | go_big_move | go_big_op);exact hK
 case hw=>kernel_rfl
 case hv=>kernel_rfl
 case hb=>kernel_rfl
 case hp=>kernel_rfl
 apply wpFl_call
 case hi=>rfl
 case hw=>kernel_rfl
 case h =>
 intro w_7 hn hC
 clear hC
 replace ha:=ha.below hn nl
 replace hb':=hb'.below hn nl
 replace hx:=hx.below hn nl
 replace hy:=hy.below hn nl
 replace hp:=hp.below hn nl
 replace hq:=hq.below hn nl
 replace hz1:=hz1.below hn nl
 replace hz2:=hz2.below hn nl
 replace g3:=g3.below hn nl
 replace hz3:=hz3.below hn nl
 replace hb:=tmm hb hn
 clear hn
 intro K hK
 have kb_8:=hb.size
 go_big_op
 go_fit (ri_any (1:Int) _ (by decide) (by decide))
 rintro e w_8 ⟨v6,rfl,g6,hb_8⟩
 replace ha:=ha.below hb_8 nl
 replace hb':=hb'.below hb_8 nl
 replace hx:=hx.below hb_8 nl
 replace hy:=hy.below hb_8 nl
 replace hp:=hp.below hb_8 nl
 replace hq:=hq.below hb_8 nl
 replace hz1:=hz1.below hb_8 nl
 replace hz2:=hz2.below hb_8 nl
 replace g3:=g3.below hb_8 nl
 replace hz3:=hz3.below hb_8 nl
 replace hb:=tmm hb hb_8
 refine hK _ _ rfl hb_8 ⟨hz3.facts.1,hz3.facts.2.1⟩ ?_
 clear hK K hb_8
 replace g6:=g6.rd
 apply wpFl_call
 case hi=>rfl
 case hw=>kernel_rfl
 case h =>
 intro w_9 hn hC
 clear hC
 replace ha:=ha.below hn nl
 replace hb':=hb'.below hn nl
 replace hx:=hx.below hn nl
 replace hy:=hy.below hn nl
 replace hp:=hp.below hn nl
 replace hq:=hq.below hn nl
 replace hz1:=hz1.below hn nl
 replace hz2:=hz2.below hn nl
 replace g3:=g3.below hn nl
 replace hz3:=hz3.below hn nl
 replace g6:=g6.below hn nl
 replace hb:=tmm hb hn
 clear hn
 intro K hK
 have kb_10:=hb.size
 go_big_op
 go_fit (rzsub_any (g3.zn LQ1.out) (g6.zn L1.out) (by omega) (by omega))
 rintro e w_10 ⟨v7,rfl,g7,hb_10⟩
 replace ha:=ha.below hb_10 nl
 replace hb':=hb'.below hb_10 nl
 replace hx:=hx.below hb_10 nl
 replace hy:=hy.below hb_10 nl
 replace hp:=hp.below hb_10 nl
 replace hq:=hq.below hb_10 nl
 replace hz1:=hz1.below hb_10 nl
 replace hz2:=hz2.below hb_10 nl
 replace g3:=g3.below hb_10 nl
 replace hz3:=hz3.below hb_10 nl
 replace g6:=g6.below hb_10 nl
 replace hb:=tmm hb hb_10
 refine hK _ _ rfl hb_10 ⟨hz3.facts.1,hz3.facts.2.1⟩ ?_
 clear hK K hb_10
 replace g7:=g7.rd
 rw[EQ.out] at g7
 clear g6
 apply wpFl_end
 case ha=>intro pt;simp only[putF];rfl
 case h =>
 intro w_11 pt hn hC hF hD
 clear hC
 replace ha:=ha.below hn nl
 replace hb':=hb'.below hn nl
 replace hx:=hx.below hn nl
 replace hy:=hy.below hn nl
 replace hp:=hp.below hn nl
 replace hq:=hq.below hn nl
 replace hz1:=hz1.below hn nl
 replace hz2:=hz2.below hn nl
 replace g3:=g3.below hn nl
 replace hz3:=hz3.below hn nl
 replace g7:=g7.below hn nl
 replace hb:=tmm hb hn
 clear hn
 clear hF hD
 clear lt_hp
 clear lt_hq
 clear lt_hz1
 clear lt_hz2
 clear lt_hz3
 clear kb0
 obtain⟨sb_hz3,o_hz3,n_hz3,c_hz3,rfl⟩:=g7.open2
 apply wpTail_call
 case hi=>rfl
 case hw=>kernel_rfl
 case h =>
 intro K hK
 have c9_:=hz3.facts
 go_big_op
 have ho:=Bk.only w_11 (w_2.heap.size) sb_hz3 (.slice o_hz3 n_hz3 c_hz3)
 have hbx_:=hz3.bx
 replace ha:=ha.frame hbx_ ho
 replace hb':=hb'.frame hbx_ ho
 replace hx:=hx.frame hbx_ ho
 replace hy:=hy.frame hbx_ ho
 replace hp:=hp.frame ho (by first | assumption | (apply Ne.symm;assumption) | (simp;done) | omega)
 replace hq:=hq.frame ho (by first | assumption | (apply Ne.symm;assumption) | (simp;done) | omega)
 replace hz1:=hz1.frame ho (by first | assumption | (apply Ne.symm;assumption) | (simp;done) | omega)
 replace hz2:=hz2.frame ho (by first | assumption | (apply Ne.symm;assumption) | (simp;done) | omega)
 replace g3:=g3.frame hbx_ ho
 replace g7:=g7.frame hbx_ ho
 replace hz3:=hz3.store sb_hz3 (.slice o_hz3 n_hz3 c_hz3)
 replace hb:=(hb.setCell (p:=⟨w_2.heap.size,0,none⟩) (show w.heap.size≤w_2.heap.size by first | assumption | (simp;done) | omega) (.bool sb_hz3)).setCell (p:=⟨w_2.heap.size,1,none⟩) (show w.heap.size≤w_2.heap.size by first | assumption | (simp;done) | omega) (.slice o_hz3 n_hz3 c_hz3)
 refine hK _ _ rfl (ai trivial trivial) ?_
 clear hK K hbx_ ho c9_
 apply wpTail_end
 replace ha:=ha.drew
 replace hb':=hb'.drew
 replace hx:=hx.drew
 replace hy:=hy.drew
 replace hp:=hp.drew
 replace hq:=hq.drew
 replace hz1:=hz1.drew
 replace hz2:=hz2.drew
 replace g3:=g3.drew
 replace hz3:=hz3.drew
 replace g7:=g7.drew
 replace hb:=hb.drew
 have lt_hp:=hp.lt
 have lt_hq:=hq.lt
 have lt_hz1:=hz1.lt
 have lt_hz2:=hz2.lt
 have lt_hz3:=hz3.lt
 have kb0:=hb.size
 go_wp2_with fail
 refine wp_region_fl [(0,false),(1,false),(2,false),(3,false),(4,true),(5,true)] [6,7] [] (fun _=>obZ) [2,0,2,1,99,99,99,99] [] (fun w'=>w'.cell? ⟨w.heap.size,0,none⟩=some (.bool na)∧w'.cell? ⟨w.heap.size,1,none⟩=some (.slice oa xs.length ca)∧w'.cell? ⟨w.heap.size+1,0,none⟩=some (.bool nb)∧w'.cell? ⟨w.heap.size+1,1,none⟩=some (.slice ob ys.length cb)∧w'.cell? ⟨w_2.heap.size,0,none⟩=some (.bool sb_hz3)∧w'.cell? ⟨w_2.heap.size,1,none⟩=some (.slice o_hz3 n_hz3 c_hz3)) [fun w'=>w'.cell? ⟨w.heap.size,0,none⟩=some (.bool na)∧w'.cell? ⟨w.heap.size,1,none⟩=some (.slice oa xs.length ca),fun w'=>w'.cell? ⟨w.heap.size+1,0,none⟩=some (.bool nb)∧w'.cell? ⟨w.heap.size+1,1,none⟩=some (.slice ob ys.length cb),fun w'=>w'.cell? ⟨w_2.heap.size,0,none⟩=some (.bool sb_hz3)∧w'.cell? ⟨w_2.heap.size,1,none⟩=some (.slice o_hz3 n_hz3 c_hz3)] (by kernel_rfl) (by kernel_rfl) (by kernel_rfl) (by kernel_rfl) (by kernel_rfl) (by kernel_rfl) (by kernel_rfl) (by kernel_rfl) (by decide) (by intro j hj;cases hj) (by intro w' o hC;obtain⟨c0,c1,c2,c3,c4,c5⟩:=hC;exact⟨cell_alloc c0 o,cell_alloc c1 o,cell_alloc c2 o,cell_alloc c3 o,cell_alloc c4 o,cell_alloc c5 o⟩) (by intro w' hC G hG;obtain⟨c0,c1,c2,c3,c4,c5⟩:=hC;simp only[List.mem_cons,List.not_mem_nil,or_false] at hG;rcases hG with rfl | rfl | rfl <;> first | exact⟨c0,c1⟩ | exact⟨c2,c3⟩ | exact⟨c4,c5⟩) ⟨hp.facts.1,hp.facts.2.1,hq.facts.1,hq.facts.2.1,hz3.facts.1,hz3.facts.2.1⟩ ?_
 apply wpFl_ld
 case hG=>rfl
 case hi=>rfl
 case h1=>intro w' hC K hK;obtain⟨c0,c1⟩:=hC;(first | go_big_move | go_big_op);exact hK
 case hw=>kernel_rfl
 case hv=>kernel_rfl
 case hb=>kernel_rfl
 case hp=>kernel_rfl
 apply wpFl_ld
 case hG=>rfl
 case hi=>rfl
 case h1=>intro w' hC K hK;obtain⟨c0,c1⟩:=hC;(first | go_big_move | go_big_op);exact hK
 case hw=>kernel_rfl
 case hv=>kernel_rfl
 case hb=>kernel_rfl
 case hp=>kernel_rfl
 apply wpFl_ld
 case hG=>rfl
 case hi=>rfl
 case h1=>intro w' hC K hK;obtain⟨c0,c1⟩:=hC;(first | go_big_move | go_big_op);exact hK
 case hw=>kernel_rfl
 case hv=>kernel_rfl
 case hb=>kernel_rfl
 case hp=>kernel_rfl
 apply wpFl_ld
 case hG=>rfl
 case hi=>rfl
 case h1=>intro w' hC K hK;obtain⟨c0,c1⟩:=hC;(first | go_big_move | go_big_op);exact hK
 case hw=>kernel_rfl
 case hv=>kernel_rfl
 case hb=>kernel_rfl
 case hp=>kernel_rfl
 apply wpFl_call
 case hi=>rfl
 case hw=>kernel_rfl
 case h =>
 intro w_12 hn hC
 clear hC
 replace ha:=ha.below hn nl
 replace hb':=hb'.below hn nl
 replace hx:=hx.below hn nl
 replace hy:=hy.below hn nl
 replace hp:=hp.below hn nl
 replace hq:=hq.below hn nl
 replace hz1:=hz1.below hn nl
 replace hz2:=hz2.below hn nl
 replace g3:=g3.below hn nl
 replace hz3:=hz3.below hn nl
 replace g7:=g7.below hn nl
 replace hb:=tmm hb hn
 clear hn
 intro K hK
 have kb_13:=hb.size
 go_big_op
 go_fit (rzmul_any (g7.zn LQ.out) hb' (by omega) (by omega))
 rintro e w_13 ⟨v4,rfl,g4,hb_13⟩
 replace ha:=ha.below hb_13 nl
 replace hb':=hb'.below hb_13 nl
 replace hx:=hx.below hb_13 nl
 replace hy:=hy.below hb_13 nl
 replace hp:=hp.below hb_13 nl
 replace hq:=hq.below hb_13 nl
 replace hz1:=hz1.below hb_13 nl
 replace hz2:=hz2.below hb_13 nl
 replace g3:=g3.below hb_13 nl
 replace hz3:=hz3.below hb_13 nl
 replace g7:=g7.below hb_13 nl
 replace hb:=tmm hb hb_13
 refine hK _ _ rfl hb_13 ⟨hp.facts.1,hp.facts.2.1,hq.facts.1,hq.facts.2.1,hz3.facts.1,hz3.facts.2.1⟩ ?_
 clear hK K hb_13
 replace g4:=g4.rd
 apply wpFl_call
 case hi=>rfl
 case hw=>kernel_rfl
 case h =>
 intro w_14 hn hC
 clear hC
 replace ha:=ha.below hn nl
 replace hb':=hb'.below hn nl
 replace hx:=hx.below hn nl
 replace hy:=hy.below hn nl
 replace hp:=hp.below hn nl
 replace hq:=hq.below hn nl
 replace hz1:=hz1.below hn nl
 replace hz2:=hz2.below hn nl
 replace g3:=g3.below hn nl
 replace hz3:=hz3.below hn nl
 replace g7:=g7.below hn nl
 replace g4:=g4.below hn nl
 replace hb:=tmm hb hn
 clear hn
 intro K hK
 have kb_15:=hb.size
 go_big_op
 go_fit (rzsub_any ha (g4.zn LM.out) (by omega) (by omega))
 rintro e w_15 ⟨v5,rfl,g5,hb_15⟩
 replace ha:=ha.below hb_15 nl
 replace hb':=hb'.below hb_15 nl
 replace hx:=hx.below hb_15 nl
 replace hy:=hy.below hb_15 nl
 replace hp:=hp.below hb_15 nl
 replace hq:=hq.below hb_15 nl
 replace hz1:=hz1.below hb_15 nl
 replace hz2:=hz2.below hb_15 nl
 replace g3:=g3.below hb_15 nl
 replace hz3:=hz3.below hb_15 nl
 replace g7:=g7.below hb_15 nl
 replace g4:=g4.below hb_15 nl
 replace hb:=tmm hb hb_15
 refine hK _ _ rfl hb_15 ⟨hp.facts.1,hp.facts.2.1,hq.facts.1,hq.facts.2.1,hz3.facts.1,hz3.facts.2.1⟩ ?_
 clear hK K hb_15
 replace g5:=g5.rd
 rw[ER.out] at g5
 apply wpFl_end
 case ha=>intro pt;simp only[putF];rfl
 case h =>
 intro w_16 pt hn hC hF hD
 clear hC
 replace ha:=ha.below hn nl
 replace hb':=hb'.below hn nl
 replace hx:=hx.below hn nl
 replace hy:=hy.below hn nl
 replace hp:=hp.below hn nl
 replace hq:=hq.below hn nl
 replace hz1:=hz1.below hn nl
 replace hz2:=hz2.below hn nl
 replace g3:=g3.below hn nl
 replace hz3:=hz3.below hn nl
 replace g7:=g7.below hn nl
 replace g4:=g4.below hn nl
 replace g5:=g5.below hn nl
 replace hb:=tmm hb hn
 clear hn
 clear hF hD
 clear lt_hp
 clear lt_hq
 clear lt_hz1
 clear lt_hz2
 clear lt_hz3
 clear kb0
 apply wpTail_call
 case hi=>rfl
 case hw=>kernel_rfl
 case h =>
 intro K hK
 have c9_:=hz1.facts
 go_big_op
 have ho:=Bk.only w_16 (w.heap.size+1+1) sb_hz3 (.slice o_hz3 n_hz3 c_hz3)
 have hbx_:=hz1.bx
 replace ha:=ha.frame hbx_ ho
 replace hb':=hb'.frame hbx_ ho
 replace hx:=hx.frame hbx_ ho
 replace hy:=hy.frame hbx_ ho
 replace hp:=hp.frame ho (by first | assumption | (apply Ne.symm;assumption) | (simp;done) | omega)
 replace hq:=hq.frame ho (by first | assumption | (apply Ne.symm;assumption) | (simp;done) | omega)
 replace hz2:=hz2.frame ho (by first | assumption | (apply Ne.symm;assumption) | (simp;done) | omega)
 replace g3:=g3.frame hbx_ ho
 replace hz3:=hz3.frame ho (by first | assumption | (apply Ne.symm;assumption) | (simp;done) | omega)
 replace g7:=g7.frame hbx_ ho
 replace g4:=g4.frame hbx_ ho
 replace g5:=g5.frame hbx_ ho
 replace hz1:=hz1.store sb_hz3 (.slice o_hz3 n_hz3 c_hz3)
 replace hb:=(hb.setCell (p:=⟨w.heap.size+1+1,0,none⟩) (show w.heap.size≤w.heap.size+1+1 by first | assumption | (simp;done) | omega) (.bool sb_hz3)).setCell (p:=⟨w.heap.size+1+1,1,none⟩) (show w.heap.size≤w.heap.size+1+1 by first | assumption | (simp;done) | omega) (.slice o_hz3 n_hz3 c_hz3)
 refine hK _ _ rfl (ai (ai hp.facts.1 hp.facts.2.1) (ai (ai hq.facts.1 hq.facts.2.1) (ai (ai hz3.facts.1 hz3.facts.2.1) trivial))) ?_
 clear hK K hbx_ ho c9_
 obtain⟨sb_hz2,o_hz2,n_hz2,c_hz2,rfl⟩:=g5.open2
 apply wpTail_call
 case hi=>rfl
 case hw=>kernel_rfl
 case h =>
 intro K hK
 have c9_:=hz2.facts
 go_big_op
 have ho:=Bk.only ((w_16.setCell ⟨w.heap.size+1+1,0,none⟩ (.bool sb_hz3)).setCell ⟨w.heap.size+1+1,1,none⟩ (.slice o_hz3 n_hz3 c_hz3)) (w.heap.size+1+1+1) sb_hz2 (.slice o_hz2 n_hz2 c_hz2)
 have hbx_:=hz2.bx
 replace ha:=ha.frame hbx_ ho
 replace hb':=hb'.frame hbx_ ho
 replace hx:=hx.frame hbx_ ho
 replace hy:=hy.frame hbx_ ho
 replace hp:=hp.frame ho (by first | assumption | (apply Ne.symm;assumption) | (simp;done) | omega)
 replace hq:=hq.frame ho (by first | assumption | (apply Ne.symm;assumption) | (simp;done) | omega)
 replace hz1:=hz1.frame ho (by first | assumption | (apply Ne.symm;assumption) | (simp;done) | omega)
 replace g3:=g3.frame hbx_ ho
 replace hz3:=hz3.frame ho (by first | assumption | (apply Ne.symm;assumption) | (simp;done) | omega)
 replace g7:=g7.frame hbx_ ho
 replace g4:=g4.frame hbx_ ho
 replace g5:=g5.frame hbx_ ho
 replace hz2:=hz2.store sb_hz2 (.slice o_hz2 n_hz2 c_hz2)
 replace hb:=(hb.setCell (p:=⟨w.heap.size+1+1+1,0,none⟩) (show w.heap.size≤w.heap.size+1+1+1 by first | assumption | (simp;done) | omega) (.bool sb_hz2)).setCell (p:=⟨w.heap.size+1+1+1,1,none⟩) (show w.heap.size≤w.heap.size+1+1+1 by first | assumption | (simp;done) | omega) (.slice o_hz2 n_hz2 c_hz2)
 refine hK _ _ rfl (ai (ai hp.facts.1 hp.facts.2.1) (ai (ai hq.facts.1 hq.facts.2.1) (ai (ai hz3.facts.1 hz3.facts.2.1) trivial))) ?_
 clear hK K hbx_ ho c9_
 apply wpTail_end
 have f1:=hz1.facts
 have f2:=hz2.facts
 go_wp2
 refine bodyPost_ret (v:=.tuple #[.agg #[.bool sb_hz3,.slice o_hz3 n_hz3 c_hz3],.agg #[.bool sb_hz2,.slice o_hz2 n_hz2 c_hz2]]) (by simp[results,Tryz.results162,go_sem,f1.1,f1.2.1,f2.1,f2.2.1]) rfl ?_
 exact⟨_,_,rfl,g7,g5,hb⟩
theorem rfloor_any {w:World} {va vb:Value} {x y:Int} {l m:Nat} (ha:ZN w va x l) (hb':ZN w vb y m) (hl:l≤90000000) (hm:m≤90000000) (h0:y≠0) :
  Calls Tryz.prog 162 #[va,vb] w fun e w'=>∃v1 v2,e = .returned (.tuple #[v1,v2])∧ZC w' v1 (x.fdiv y)∧ZC w' v2 (x.fmod y)∧Below w.heap.size w w':=by
 by_cases hr:x.fmod y=0
 ·exact rfloor_even ha hb' (by omega) (by omega) h0 hr
 ·have hx0:x≠0:=fun h=>hr (by rw[h];exact Int.zero_fmod y)
  have:x.sign*y.sign=1∨x.sign*y.sign = -1:=by
   rcases Int.lt_or_gt_of_ne hx0 with h1 | h1 <;> rcases Int.lt_or_gt_of_ne h0 with h2 | h2
   ·left;rw[Int.sign_eq_neg_one_of_neg h1,Int.sign_eq_neg_one_of_neg h2];rfl
   ·right;rw[Int.sign_eq_neg_one_of_neg h1,Int.sign_eq_one_of_pos h2];rfl
   ·right;rw[Int.sign_eq_one_of_pos h1,Int.sign_eq_neg_one_of_neg h2];rfl
   ·left;rw[Int.sign_eq_one_of_pos h1,Int.sign_eq_one_of_pos h2];rfl
  rcases this with h | h
  ·exact rfloor_same ha hb' (by omega) (by omega) h0 hr h
  ·exact rfloor_diff ha hb' (by omega) (by omega) h0 hr h
end Go.Proofs.YthmolpepinolkaaGreat
