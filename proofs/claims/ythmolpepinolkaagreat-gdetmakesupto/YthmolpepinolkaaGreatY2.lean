/- zint's reference: Neg, Abs, Norm, Mul, Add. -/
import Derived.Test.YthmolpepinolkaaGreatZ5ToY1
namespace Go.Proofs.YthmolpepinolkaaGreat
open Go.RowKit Dig
set_option maxHeartbeats 1000000
set_option maxRecDepth 20000
theorem rneg_any {w:World} {v:Value} {z:Int} {l:Nat} (h:ZN w v z l) (hl:l≤1000000000) :
  Calls Tryz.prog 126 #[v] w fun e w'=>∃v',e = .returned v'∧ZW w' w.heap.size v' (-z)∧Below w.heap.size w w':=by
 obtain⟨neg,oa,cap,xs,rfl,hcap,hr,hz',hxl⟩:=h.open_
 have HZZ:=hide (show (if (!neg)=true then -(val xs:Int) else (val xs:Int)) = -z by rw[zv_not,hz'])
 clear h hz'
 go_enter Tryz.func126,Tryz.ntmps126
 have hb:=Below.refl w.heap.size w
 have hp:=Bk.new w neg (.slice oa xs.length cap)
 replace hr:=hr.alloc (.cells #[.bool neg,(.slice oa xs.length cap)] 37)
 replace hb:=hb.alloc hb.size (.cells #[.bool neg,(.slice oa xs.length cap)] 37)
 have hz:=Bk.new (w.alloc (.cells #[.bool neg,(.slice oa xs.length cap)] 37)) false (.slice none 0 0)
 simp only[Bk.size_alloc] at hz
 replace hr:=hr.alloc (.cells #[.bool false,(.slice none 0 0)] 37)
 replace hp:=hp.alloc (.cells #[.bool false,(.slice none 0 0)] 37)
 replace hb:=hb.alloc hb.size (.cells #[.bool false,(.slice none 0 0)] 37)
 have c0:=hp.facts
 go_wp2_with fail
 refine(make_any (!neg) (-z) hr (by omega) HZZ.out).mono ?_
 rintro e w_1 ⟨v',rfl,hv,hb_1⟩
 replace hr:=hr.below hb_1 nl
 replace hp:=hp.below hb_1 nl
 replace hz:=hz.below hb_1 nl
 replace hb:=tmm hb hb_1
 clear hb_1
 obtain⟨sb,o5,n5,c5,rfl⟩:=hv.open2
 have c9:=hz.facts
 have d:=(hz.store sb (.slice o5 n5 c5)).facts
 go_wp2
 refine bodyPost_ret (v:=.agg #[.bool sb,.slice o5 n5 c5]) (by simp[results,Tryz.results126,go_sem,d.1,d.2.1]) rfl ?_
 exact⟨_,rfl,(hv.only (Bk.only _ _ _ _) (by first | assumption | (simp;done) | omega | (simp;omega))).mono (by first | assumption | (simp;omega) | omega),(hb.setCell (by simp <;> omega) _).setCell (by simp <;> omega) _⟩
theorem rnorm_any {w:World} {v:Value} {z:Int} {l:Nat} (h:ZN w v z l) (hl:l≤1000000000) :
  Calls Tryz.prog 113 #[v] w fun e w'=>∃v',e = .returned v'∧ZW w' w.heap.size v' z∧Below w.heap.size w w':=by
 obtain⟨neg,oa,cap,xs,rfl,hcap,hr,hz',hxl⟩:=h.open_
 have HZZ:=hide (show (if neg=true then -(val xs:Int) else (val xs:Int))=z by exact hz')
 clear h hz'
 go_enter Tryz.func113,Tryz.ntmps113
 have hb:=Below.refl w.heap.size w
 have hp:=Bk.new w neg (.slice oa xs.length cap)
 replace hr:=hr.alloc (.cells #[.bool neg,(.slice oa xs.length cap)] 37)
 replace hb:=hb.alloc hb.size (.cells #[.bool neg,(.slice oa xs.length cap)] 37)
 have hz:=Bk.new (w.alloc (.cells #[.bool neg,(.slice oa xs.length cap)] 37)) false (.slice none 0 0)
 simp only[Bk.size_alloc] at hz
 replace hr:=hr.alloc (.cells #[.bool false,(.slice none 0 0)] 37)
 replace hp:=hp.alloc (.cells #[.bool false,(.slice none 0 0)] 37)
 replace hb:=hb.alloc hb.size (.cells #[.bool false,(.slice none 0 0)] 37)
 have c0:=hp.facts
 go_wp2_with fail
 refine(make_any neg z hr (by omega) HZZ.out).mono ?_
 rintro e w_1 ⟨v',rfl,hv,hb_1⟩
 replace hr:=hr.below hb_1 nl
 replace hp:=hp.below hb_1 nl
 replace hz:=hz.below hb_1 nl
 replace hb:=tmm hb hb_1
 clear hb_1
 obtain⟨sb,o5,n5,c5,rfl⟩:=hv.open2
 have c9:=hz.facts
 have d:=(hz.store sb (.slice o5 n5 c5)).facts
 go_wp2
 refine bodyPost_ret (v:=.agg #[.bool sb,.slice o5 n5 c5]) (by simp[results,Tryz.results113,go_sem,d.1,d.2.1]) rfl ?_
 exact⟨_,rfl,(hv.only (Bk.only _ _ _ _) (by first | assumption | (simp;done) | omega | (simp;omega))).mono (by first | assumption | (simp;omega) | omega),(hb.setCell (by simp <;> omega) _).setCell (by simp <;> omega) _⟩
theorem zmul_dig_length (xs ys:List Nat) (okx:OK xs) (oky:OK ys):(dig (val xs*val ys)).length≤xs.length+ys.length:=by
 apply dig_length_le
 rw[pw_add]
 exact Nat.mul_lt_mul'' (val_lt okx) (val_lt oky)
theorem zmul_rr {w:World} {va vb:Value} {xs ys:List Nat} (hx:Rd w va xs) (hy:Rd w vb ys) (hxl:xs.length≤100000000000) (hyl:ys.length≤100000000000) :
  Calls Tryz.prog 129 #[va,vb] w fun e w'=>∃v,e = .returned v∧Rd w' v (dig (val xs*val ys))∧Below w.heap.size w w':=by
 obtain⟨oa,ca,rfl,hca,okx,hcx⟩:=hx
 obtain⟨ob,cb,rfl,hcb,oky,hcy⟩:=hy
 exact rmul_any oa ob ca cb xs ys w (by omega) (by omega) okx oky hcx hcy
theorem rzmul_any {w:World} {va vb:Value} {x y:Int} {l m:Nat} (ha:ZN w va x l) (hb':ZN w vb y m) (hl:l≤100000000) (hm:m≤100000000) :
  Calls Tryz.prog 84 #[va,vb] w fun e w'=>∃v',e = .returned v'∧ZW w' w.heap.size v' (x*y)∧Below w.heap.size w w':=by
 obtain⟨na,oa,ca,xs,rfl,hca,hx,hzx,hxl⟩:=ha.open_
 obtain⟨nb,ob,cb,ys,rfl,hcb,hy,hzy,hyl⟩:=hb'.open_
 have HZ:=hide (show (if (na != nb)=true then -((val (dig (val xs*val ys)):Nat):Int) else ((val (dig (val xs*val ys)):Nat):Int))=x*y by
  rw[←hzx,←hzy,val_dig];unfold zv
  cases na <;> cases nb <;> simp[Int.neg_mul,Int.mul_neg])
 have hdl:(dig (val xs*val ys)).length≤1000000000:=Nat.le_trans (zmul_dig_length xs ys hx.ok hy.ok) (by omega)
 clear ha hb' hzx hzy
 have hbn:(!(na==nb))=(na != nb):=rfl
 go_enter Tryz.func84,Tryz.ntmps84
 have hb:=Below.refl w.heap.size w
 have hp:=Bk.new w na (.slice oa xs.length ca)
 replace hx:=hx.alloc (.cells #[.bool na,(.slice oa xs.length ca)] 37)
 replace hy:=hy.alloc (.cells #[.bool na,(.slice oa xs.length ca)] 37)
 replace hb:=hb.alloc hb.size (.cells #[.bool na,(.slice oa xs.length ca)] 37)
 have hq:=Bk.new (w.alloc (.cells #[.bool na,(.slice oa xs.length ca)] 37)) nb (.slice ob ys.length cb)
 simp only[Bk.size_alloc] at hq
 replace hx:=hx.alloc (.cells #[.bool nb,(.slice ob ys.length cb)] 37)
 replace hy:=hy.alloc (.cells #[.bool nb,(.slice ob ys.length cb)] 37)
 replace hp:=hp.alloc (.cells #[.bool nb,(.slice ob ys.length cb)] 37)
 replace hb:=hb.alloc hb.size (.cells #[.bool nb,(.slice ob ys.length cb)] 37)
 have hz:=Bk.new ((w.alloc (.cells #[.bool na,(.slice oa xs.length ca)] 37)).alloc (.cells #[.bool nb,(.slice ob ys.length cb)] 37)) false (.slice none 0 0)
 simp only[Bk.size_alloc] at hz
 replace hx:=hx.alloc (.cells #[.bool false,(.slice none 0 0)] 37)
 replace hy:=hy.alloc (.cells #[.bool false,(.slice none 0 0)] 37)
 replace hp:=hp.alloc (.cells #[.bool false,(.slice none 0 0)] 37)
 replace hq:=hq.alloc (.cells #[.bool false,(.slice none 0 0)] 37)
 replace hb:=hb.alloc hb.size (.cells #[.bool false,(.slice none 0 0)] 37)
 replace hx:=hx.drew
 replace hy:=hy.drew
 replace hp:=hp.drew
 replace hq:=hq.drew
 replace hz:=hz.drew
 replace hb:=hb.drew
 go_wp2_with fail
 refine wp_region_lx (fun w'=>w'.cell? ⟨w.heap.size,0,none⟩=some (.bool na)∧w'.cell? ⟨w.heap.size,1,none⟩=some (.slice oa xs.length ca)∧w'.cell? ⟨w.heap.size+1,0,none⟩=some (.bool nb)∧w'.cell? ⟨w.heap.size+1,1,none⟩=some (.slice ob ys.length cb)) (by kernel_rfl) (by kernel_rfl) ⟨hp.facts.1,hp.facts.2.1,hq.facts.1,hq.facts.2.1⟩ ?_
 apply wpLx_st 0
 case hi=>rfl
 case h=>intro w' hC;obtain⟨c0,c1,c2,c3⟩:=hC;go_simp;rfl
 case hw=>rfl
 case hf=>kernel_rfl
 case hr=>kernel_rfl
 apply wpLx_st 1
 case hi=>rfl
 case h=>intro w' hC;obtain⟨c0,c1,c2,c3⟩:=hC;go_simp;rfl
 case hw=>rfl
 case hf=>kernel_rfl
 case hr=>kernel_rfl
 apply wpLx_st 2
 case hi=>rfl
 case h=>intro w' hC;obtain⟨c0,c1,c2,c3⟩:=hC;go_simp;rfl
 case hw=>rfl
 case hf=>kernel_rfl
 case hr=>kernel_rfl
 apply wpLx_st 3
 case hi=>rfl
 case h=>intro w' hC;obtain⟨c0,c1,c2,c3⟩:=hC;go_simp;rfl
 case hw=>rfl
 case hf=>kernel_rfl
 case hr=>kernel_rfl
 apply wpLx_st 4
 case hi=>rfl
 case h=>intro w' hC;obtain⟨c0,c1,c2,c3⟩:=hC;go_simp;rfl
 case hw=>rfl
 case hf=>kernel_rfl
 case hr=>kernel_rfl
 apply wpLx_st 5
 case hi=>rfl
 case h=>intro w' hC;obtain⟨c0,c1,c2,c3⟩:=hC;go_simp;rfl
 case hw=>rfl
 case hf=>kernel_rfl
 case hr=>kernel_rfl
 apply wpLx_st 6
 case hi=>rfl
 case h=>intro w' hC;obtain⟨c0,c1,c2,c3⟩:=hC;go_simp;rfl
 case hw=>rfl
 case hf=>kernel_rfl
 case hr=>kernel_rfl
 apply wpLx_st 7
 case hi=>rfl
 case h=>intro w' hC;obtain⟨c0,c1,c2,c3⟩:=hC;go_simp;rfl
 case hw=>rfl
 case hf=>kernel_rfl
 case hr=>kernel_rfl
 apply wpLx_st 8
 case hi=>rfl
 case h=>intro w' hC;obtain⟨c0,c1,c2,c3⟩:=hC;go_simp;rfl
 case hw=>rfl
 case hf=>kernel_rfl
 case hr=>kernel_rfl
 apply wpLx_call 9
 case hi=>rfl
 case hw=>rfl
 case hr=>kernel_rfl
 case h =>
 intro K hK
 unfold Calm
 go_simp
 have kz_1:=hz.lt
 have kb_1:=hb.size
 go_fit (zmul_rr hx hy (by omega) (by omega))
 rintro e w_1 ⟨s,rfl,hs,hb_1⟩
 replace hx:=hx.below hb_1 nl
 replace hy:=hy.below hb_1 nl
 replace hp:=hp.below hb_1 nl
 replace hq:=hq.below hb_1 nl
 replace hz:=hz.below hb_1 nl
 replace hb:=tmm hb hb_1
 clear hb_1
 refine⟨_,rfl,hK _ _ ⟨hp.facts.1,hp.facts.2.1,hq.facts.1,hq.facts.2.1⟩ ?_⟩
 clear hK K
 apply wpLx_call 10
 case hi=>rfl
 case hw=>rfl
 case hr=>kernel_rfl
 case h =>
 intro K hK
 unfold Calm
 go_simp
 have kz_2:=hz.lt
 have kb_2:=hb.size
 go_fit (make_any (na != nb) (x*y) hs hdl HZ.out)
 rintro e w_2 ⟨v',rfl,hv,hb_2⟩
 replace hx:=hx.below hb_2 nl
 replace hy:=hy.below hb_2 nl
 replace hp:=hp.below hb_2 nl
 replace hq:=hq.below hb_2 nl
 replace hz:=hz.below hb_2 nl
 replace hs:=hs.below hb_2 nl
 replace hb:=tmm hb hb_2
 clear hb_2
 refine⟨_,rfl,hK _ _ ⟨hp.facts.1,hp.facts.2.1,hq.facts.1,hq.facts.2.1⟩ ?_⟩
 clear hK K
 obtain⟨sb,o5,n5,c5,rfl⟩:=hv.open2
 apply wpLx_call 11
 case hi=>rfl
 case hw=>rfl
 case hr=>kernel_rfl
 case h =>
 intro K hK
 unfold Calm
 have c9:=hz.facts
 go_simp
 have ho:=Bk.only w_2 (w.heap.size+1+1) sb (.slice o5 n5 c5)
 replace hp:=hp.frame ho (by first | assumption | (apply Ne.symm;assumption) | (simp;done) | omega)
 replace hq:=hq.frame ho (by first | assumption | (apply Ne.symm;assumption) | (simp;done) | omega)
 have d:=(hz.store sb (.slice o5 n5 c5)).facts
 refine hK _ _ ⟨hp.facts.1,hp.facts.2.1,hq.facts.1,hq.facts.2.1⟩ ?_
 clear hK K
 apply wpLx_nil
 case hr=>kernel_rfl
 case h =>
 go_wp2
 refine bodyPost_ret (v:=.agg #[.bool sb,.slice o5 n5 c5]) (by simp[results,Tryz.results84,go_sem,d.1,d.2.1]) rfl ?_
 exact⟨_,rfl,(hv.only (Bk.only _ _ _ _) (by first | assumption | (simp;done) | omega | (simp;omega))).mono (by first | assumption | (simp;omega) | omega),(hb.setCell (by simp <;> omega) _).setCell (by simp <;> omega) _⟩
end Go.Proofs.YthmolpepinolkaaGreat
