/- The reference's Equal. -/
import Derived.Test.YthmolpepinolkaaGreatRtToI7
namespace Go.Proofs.YthmolpepinolkaaGreat
open Go Go.RowKit Dig
set_option linter.unusedVariables false
section
variable {w:World} {va vb:Value} {x y u v:Int} {l m k n la lb na nb ca cb:Nat} {oa ob:Option Addr} {A B:List (List (Int × Int))}
set_option maxHeartbeats 4000000 in
set_option maxRecDepth 20000 in
theorem rgEqual8 (ha:PN w va x l y m) (hq:PN w vb u k v n) (hl:l≤40000000) (hm:m≤40000000) (hk:k≤40000000) (hn:n≤40000000) :
  Calls Tryz.prog 35 #[va,vb] w fun e w'=>e = .returned (.bool (decide (x=u∧y=v)))∧Below w.heap.size w w':=by
 obtain⟨D,hD⟩:∃D,decide (x=u∧y=v)=D:=⟨_,rfl⟩
 have HD:=hide (show decide (x - u=0∧y - v=0)=D by rw[←hD];congr 1;rw[eq_iff_iff];omega)
 rw[hD]
 clear hD
 obtain⟨n_0a,o_0a,k_0a,c_0a,n_0b,o_0b,k_0b,c_0b,rfl,ha1,ha2⟩:=ha
 obtain⟨n_1a,o_1a,k_1a,c_1a,n_1b,o_1b,k_1b,c_1b,rfl,hq1,hq2⟩:=hq
 go_enter Tryz.func35,Tryz.ntmps35
 have hs:=St.nil w
 refine zk fun K1 hK1=>rg [0,1,2] ?_
 refine sq ?_
 refine .al hs ?_;clear hs;intro p_b1 w_1 hs n1 kb_b1
 refine sq ?_
 refine .al hs ?_;clear hs;intro p_b2 w_2 hs n2 kb_b2
 refine sm (ze (hK1 _ _ ?_))
 refine zk fun K2 hK2=>rg [0,1,2,3,4] ?_
 refine sq ?_
 refine .r4 hs.g1.f4 ?_
 refine sq ?_
 refine .r4 hs.g0.f4 ?_
 refine sq ?_
 intro K hK
 have k0_2:=(kb n1).b n2
 replace ha1:=ha1.k k0_2
 replace ha2:=ha2.k k0_2
 replace hq1:=hq1.k k0_2
 replace hq2:=hq2.k k0_2
 go_big_op
 go_fit (rgSub_any (PN.mk' ha1 ha2) (PN.mk' hq1 hq2) (by omega) (by omega) (by omega) (by omega) )
 rintro e w_3 ⟨_,rfl,⟨n_ga,o_ga,k_ga,c_ga,n_gb,o_gb,k_gb,c_gb,rfl,g1,g2⟩,hb_3⟩
 replace hs:=hs.bl hb_3
 have Lg1:=hide (g1.lenOf (zlen_sub (ha1.len) (hq1.len)))
 have Lg2:=hide (g2.lenOf (zlen_sub (ha2.len) (hq2.len)))
 refine hK _ _ rfl trivial ?_
 clear hK K
 refine sq ?_
 intro K hK
 go_big_op
 go_fit (rgNull_any (.mk' (g1.zn Lg1.out) (g2.zn Lg2.out)) (by omega) (by omega))
 rintro e w_4 ⟨rfl,hb_4⟩
 replace hs:=hs.bl hb_4
 rw[HD.out]
 refine hK _ _ rfl trivial ?_
 clear hK K
 refine sm (ze (hK2 _ _ ?_))
 refine wp_ret ?_
 try dsimp only [Exit.then,Exit.inBlock]
 refine bodyPost_ret (v:=(.bool D)) (by simp[results,Tryz.results35,go_sem]) rfl ?_
 have hb:=hs.b
 exact⟨rfl,hb⟩
end
set_option maxHeartbeats 4000000
set_option maxRecDepth 20000
set_option linter.unusedSimpArgs false
theorem zl_sg {L n:Nat} {p:Int × Int} (h:zl L p):zl L (Dt.sg n*p):=by
 have e:(Dt.sg n:Int × Int)=1∨(Dt.sg n:Int × Int) = -1:=by
  unfold Dt.sg;split
  ·exact .inl rfl
  ·exact .inr rfl
 rcases e with e | e
 ·rw[e,show (1:Int × Int)*p=p by grind];exact h
 ·rw[e,show (-1:Int × Int)*p = -p by grind];exact⟨Nat.le_trans (Nat.le_of_eq (by show (dig (-p.1).natAbs).length=_;rw[Int.natAbs_neg])) h.1,Nat.le_trans (Nat.le_of_eq (by show (dig (-p.2).natAbs).length=_;rw[Int.natAbs_neg])) h.2⟩
theorem adjE_cong {n i j:Nat} {F G:Nat→Nat→Int × Int} (h:∀i,i<n→∀j,j<n→F i j=G i j) (hi:i<n) (hj:j<n):adjE n F i j=adjE n G i j:=by
 unfold adjE
 rw[Dt.det_congr fun r hr c hc=>h _ (by unfold Dt.skip;split <;> omega) _ (by unfold Dt.skip;split <;> omega)]
theorem rw_yR {n k:Nat} {M:Nat→Nat→Int × Int} {v:Nat→Int × Int}:rwT ((List.range n).map (rS k M v)) (mkM n n (adjE n (gG k M))) n n=(List.range n).map (yR n k M v):=by
 unfold rwT
 refine List.map_congr_left fun j hj => ?_
 have hj:=List.mem_range.1 hj
 unfold yR
 rw[sm_sumP]
 exact Dt.sm_congr fun q hq=>by rw[at1_map hq,at2_mkM hq hj,mP_eq]
theorem rw_sum {n k:Nat} {A:List (List (Int × Int))} {v:Nat→Int × Int} {Y:Nat→Int × Int}:rwT ((List.range n).map Y) A n k=(List.range k).map fun c=>Dt.sm n fun i=>Y i*at2 A i c:=by
 unfold rwT
 refine List.map_congr_left fun j hj => ?_
 rw[sm_sumP]
 exact Dt.sm_congr fun q hq=>by rw[at1_map hq,mP_eq]
def RSolP (n k K:Nat) (M:Nat→Nat→Int × Int) (v:Nat→Int × Int) (e:Ending) (w':World):Prop :=
 ((¬ ∀c,c<K→(Dt.sm n fun i=>yR n K M v i*M i c)=v c*Dt.det n (gG K M))∧e = .returned (.tuple #[.slice none 0 0,.int .i64 10])) ∨
 ((∀c,c<K→(Dt.sm n fun i=>yR n K M v i*M i c)=v c*Dt.det n (gG K M))∧∃o c,e = .returned (.tuple #[.slice o n c,.int .i64 0])∧LQ w' o ((List.range n).map fun i=>qC (yR n K M v i) (Dt.det n (gG K M))))
section
variable {w:World} {la lv n k m L L1 ca cv r:Nat} {oa ov:Option Addr} {A:List (List (Int × Int))} {V:List (Int × Int)}
theorem rIndep_is (ha:MN la w oa A) (hna:A.length=n) (h:gd A) (hk:wd A=k) (hB:MinB n k L (at2 A)) (hL:L≤3300000) (hL1:1≤L) (hla:la≤20000000) (hr:Dt.Rk n k (at2 A) r) :
  Calls Tryz.prog 29 #[.slice oa n ca] w fun e w'=>e = .returned (.bool (decide (r=n)))∧Below w.heap.size w w':=by
 have HA:=hide ha
 have H:=hide h
 have HK:=hide hk
 have HB:=hide hB
 have HR:=hide hr
 have E:=hide (show ((r:Int)==(n:Int))=decide (r=n) by by_cases h:r=n <;> simp[h];omega)
 clear ha h hk hB hr
 go_enter Tryz.func29,Tryz.ntmps29
 have hs:=St.nil w
 refine zk fun K1 hK1=>rg [0] ?_
 refine sm (ze (hK1 _ _ ?_))
 refine zk fun K2 hK2=>rg [0,1,2,3,4,5] ?_
 refine sm ?_
 refine sq ?_
 intro K hK
 have hb:=hs.b
 go_big_op
 go_fit (rRank_any (HA.out.bl stab_n hb) hna H.out HK.out HB.out hL hL1 hla HR.out)
 rintro e w_1 ⟨rfl,hb_1⟩
 clear hb
 replace hs:=hs.bl hb_1
 refine hK _ _ rfl trivial ?_
 clear hK K
 refine xmr ?_
 refine sr ?_
 refine sm (ze (hK2 _ _ ?_))
 refine wp_ret ?_
 try dsimp only [Exit.then,Exit.inBlock]
 refine bodyPost_ret (v:=(.bool ((r:Int)==(n:Int)))) (by simp[results,Tryz.results29,go_sem]) rfl ?_
 exact⟨by rw[E.out],hs.b⟩
theorem rSolve_dep (ha:MN la w oa A) (hna:A.length=n) (h:gd A) (hk:wd A=k) (hB:MinB n k L (at2 A)) (hL:L≤3300000) (hL1:1≤L) (hla:la≤20000000) (hr:Dt.Rk n k (at2 A) r) (hrn:r<n) :
  Calls Tryz.prog 9 #[.slice oa n ca,.slice ov m cv] w fun e w'=>e = .returned (.tuple #[.slice none 0 0,.int .i64 3])∧Below w.heap.size w w':=by
 have HA:=hide ha
 have H:=hide h
 have HK:=hide hk
 have HB:=hide hB
 have HR:=hide hr
 have ER:=hide (decide_eq_false (show ¬r=n by omega))
 clear ha h hk hB hr
 go_enter Tryz.func9,Tryz.ntmps9
 have hs:=St.nil w
 refine zk fun K1 hK1=>rg [0,1] ?_
 refine sm ?_
 refine sm (ze (hK1 _ _ ?_))
 refine zk fun K2 hK2 => ?_
 refine zk fun K3 hK3=>rg [0,1,2] ?_
 refine sm ?_
 refine sq ?_
 intro K hK
 have hb:=hs.b
 go_big_op
 go_fit (rIndep_is (HA.out.bl stab_n hb) hna H.out HK.out HB.out hL hL1 hla HR.out)
 rintro e w_1 ⟨rfl,hb_1⟩
 clear hb
 replace hs:=hs.bl hb_1
 rw[ER.out]
 refine hK _ _ rfl trivial ?_
 clear hK K
 refine sr (ze (hK3 _ _ ?_))
 refine ct ?_
 refine zk fun K4 hK4=>rg [0,1] ?_
 refine sm ?_
 refine sm (ze (hK4 _ _ ?_))
 refine wp_ret ?_
 try dsimp only [Exit.then,Exit.inBlock]
 refine bodyPost_ret (v:=(.tuple #[(.slice none 0 0),(.int .i64 3)])) (by simp[results,Tryz.results9,go_sem]) rfl ?_
 exact⟨rfl,hs.b⟩
end
section
variable {w:World} {la lv n k m L L1 ca cv r:Nat} {oa ov:Option Addr} {A:List (List (Int × Int))} {V:List (Int × Int)}
set_option maxHeartbeats 8000000 in
set_option maxRecDepth 20000 in
theorem rSolve_any (ha:MN la w oa A) (hna:A.length=n) (h:gd A) (hk:wd A=k) (hv:SN lv w ov V) (hnv:V.length=m) (hKk:0<n→m=k) (hml:m≤1100000) (hB:MinB n k L1 (at2 A)) (hL1:L1≤3300000) (hL11:1≤L1)
  (hBG:MinB n n L (gG m (at2 A))) (hL:L≤2200000) (hL0:1≤L) (hla:la≤1100000) (hlv:lv≤1100000) (hr:Dt.Rk n k (at2 A) n) (hdt:Dt.det n (gG m (at2 A))≠0) :
  Calls Tryz.prog 9 #[.slice oa n ca,.slice ov m cv] w fun e w'=>RSolP n k m (at2 A) (at1 V) e w'∧Below w.heap.size w w':=by
 have HA:=hide ha
 have HV:=hide hv
 have H:=hide h
 have HK:=hide hk
 have HB:=hide hB
 have HR:=hide hr
 have hn64:n≤64:=by have:=h.1;omega
 have hk64:k≤64:=by have:=h.2.1;omega
 have HLR:=hide (show ∀i,i<n→(rw_ A i).length=m from fun i hi=>by rw[gd_row h (by omega)];exact hk.trans (hKk (by omega)).symm)
 have HDT:=hide hdt
 have HKK:=hide hKk
 have ER:=hide (decide_eq_true (show n=n from rfl))
 obtain⟨G0,hG0⟩:∃G0,G0=gG m (at2 A):=⟨_,rfl⟩
 obtain⟨AJ,hAJ⟩:∃AJ,AJ=adjE n (gG m (at2 A)):=⟨_,rfl⟩
 obtain⟨D,hD⟩:∃D,Dt.det n (gG m (at2 A))=D:=⟨_,rfl⟩
 have LD:zl L D:=by rw[←hD];exact hBG n id id (fun r hr=>⟨hr,hr⟩) (fun r q h1 h2 h3=>by simp only[id] at h3;omega)
 have LD1:=hide LD.1
 have LD2:=hide LD.2
 have HAJB:=hide (show BdM L (mkM n n AJ) from bdM_mk fun i hi j hj=>by
  rw[hAJ];unfold adjE
  have h9:=hBG (n - 1) (Dt.skip j) (Dt.skip i) (fun r hr=>⟨by unfold Dt.skip;split <;> omega,by unfold Dt.skip;split <;> omega⟩) (fun r q h1 h2 h3=>by unfold Dt.skip at h3;split at h3 <;> split at h3 <;> omega)
  exact zl_sg h9)
 rw[hD] at HDT
 have hmz:=hml
 have HP0:=hide (show ¬(D.1=0∧D.2=0) from fun c=>HDT.out (Prod.ext c.1 c.2))
 have HG0:=hide hG0
 have HAJ:=hide hAJ
 have HD:=hide hD
 rw[←hG0] at hBG
 have HGB:=hide (hBG.bd nl)
 have hDE:=hide (show Dt.det n (at2 (mkM n n G0))=D from by rw[←hD,←hG0];exact Dt.det_congr fun p hp q hq=>at2_mkM hp hq)
 have hPT:=hide (hBG.part nl)
 have hGD:=hide (show gd (mkM n n G0) from gd_mkM hn64 hn64)
 have hWD:=hide (show wd (mkM n n G0)=n from wd_mkM (by omega))
 have hJD:=hide (show gd (mkM n n AJ) from gd_mkM hn64 hn64)
 have hJW:=hide (show wd (mkM n n AJ)=n from wd_mkM (by omega))
 have EJ:=hide (show mkM n n (adjE n (at2 (mkM n n G0)))=mkM n n AJ from mkM_eq rfl rfl fun i hi j hj=>by
  rw[hAJ,←hG0];exact adjE_cong (fun a ha b hb=>at2_mkM ha hb) hi hj)
 obtain⟨r2,hr2⟩:=Dt.rk_exists one_ne n n (at2 (mkM n n G0))
 have HR2:=hide hr2
 obtain⟨RS,hRS⟩:∃RS,RS=rS m (at2 A) (at1 V):=⟨_,rfl⟩
 obtain⟨Y,hY⟩:∃Y,Y=yR n m (at2 A) (at1 V):=⟨_,rfl⟩
 have HRS:=hide hRS
 have HYE:=hide hY
 have HRB:=hide (show Bd (la+lv+1+m) ((List.range n).map RS) from fun p hp=>by
  obtain⟨j,_,rfl⟩:=List.mem_map.1 hp
  rw[hRS,Nat.add_comm la lv]
  exact zl_sum fun c _=>zl_mP hv.bd.at1 (zl_cP (at2_bd ha.bd)))
 have EY:=hide (show rwT ((List.range n).map RS) (mkM n n AJ) n n=(List.range n).map Y from by rw[hRS,hAJ,hY];exact rw_yR)
 have HYB:=hide (show Bd ((la+lv+1+m)+L+1+n) ((List.range n).map Y) from by rw[←EY.out];exact rwT_bd HRB.out HAJB.out)
 have ES:=hide (rw_sum (n:=n) (k:=m) (A:=A) (v:=at1 V) (Y:=Y))
 have HSB:=hide (show Bd (((la+lv+1+m)+L+1+n)+la+1+n) ((List.range m).map fun c=>Dt.sm n fun i=>Y i*at2 A i c) from by rw[←ES.out];exact rwT_bd HYB.out ha.bd)
 have EG:=hide (show mkM n n (fun i j=>sumP k fun q=>mP (at2 A i q) (cP (at2 A j q)))=mkM n n G0 from mkM_eq rfl rfl fun i hi j hj=>by rw[hG0,hKk (by omega)];rfl)
 clear hKk hdt ha hv h hk hB hr hBG hG0 hAJ hD LD hr2 hRS hY
 go_enter Tryz.func9,Tryz.ntmps9
 have hs:=St.nil w
 refine zk fun K1 hK1=>rg [0,1] ?_
 refine sm ?_
 refine sm (ze (hK1 _ _ ?_))
 refine zk fun K2 hK2 => ?_
 refine zk fun K3 hK3=>rg [0,1,2] ?_
 refine sm ?_
 refine sq ?_
 intro K hK
 have hb:=hs.b
 go_big_op
 go_fit (rIndep_is (HA.out.bl stab_n hb) hna H.out HK.out HB.out hL1 hL11 (by omega) HR.out)
 rintro e w_1 ⟨rfl,hb_1⟩
 clear hb
 replace hs:=hs.bl hb_1
 rw[ER.out]
 refine hK _ _ rfl trivial ?_
 clear hK K
 refine sr (ze (hK3 _ _ ?_))
 refine cf ?_
 refine wp_skip ?_
 refine hK2 _ _ ?_
 refine zk fun K4 hK4=>rg [0,1,2] ?_
 refine sm ?_
 refine sq ?_
 intro K hK
 have hb:=hs.b
 go_big_op
 go_fit (rGram_any (HA.out.bl stab_n hb) hna H.out HK.out (by omega))
 rintro e w_2 ⟨o_G,c_G,rs_G,rfl,hl_G,hs_G,d_G,hb_2⟩
 clear hb
 replace hs:=hs.mx hl_G hs_G;simp only[List.nil_append] at hs
 rw[EG.out] at d_G
 refine hK _ _ rfl trivial ?_
 clear hK K
 refine sm (ze (hK4 _ _ ?_))
 refine zk fun K5 hK5=>rg [0,1,2,3] ?_
 refine sm ?_
 refine sq ?_
 intro K hK
 go_big_op
 go_fit (rDet_any ((MCof (c:=c_G) hs (by simp) rfl (fun r hr↦by simp[List.mem_map_of_mem hr]) hl_G d_G).mn HGB.out) len_mkM hGD.out hWD.out hPT.out (by omega) hL0 (by omega) HR2.out)
 rintro e w_3 ⟨_,rfl,⟨n_da,o_da,k_da,c_da,n_db,o_db,k_db,c_db,rfl,d1,d2⟩,hb_3⟩
 replace hs:=hs.bl hb_3
 rw[hDE.out] at d1 d2
 refine hK _ _ rfl trivial ?_
 clear hK K
 refine sq ?_
 refine .al hs ?_;clear hs;intro p_b1 w_4 hs n4 kb_b1
 refine sq ?_
 refine .s4 hs.g0 (fun _=>hs.u0 kb_b1) ?_;clear hs;intro w_5 hs hd5 ho5
 refine ze (hK5 _ _ ?_)
 refine zk fun K6 hK6=>rg [0,1,2] ?_
 refine sm ?_
 refine sq ?_
 intro K hK
 have k2_5:=((kb hb_3).b n4).o hd5 ho5
 replace d_G:=d_G.k k2_5
 go_big_op
 go_fit (rAdjg_any ((MCof (c:=c_G) hs (by simp) rfl (fun r hr↦by simp[List.mem_map_of_mem hr]) hl_G d_G).mn HGB.out) len_mkM hGD.out hWD.out hPT.out (by omega) hL0 (by omega))
 rintro e w_6 ⟨o_J,c_J,rs_J,rfl,hl_J,hs_J,d_J,hb_6⟩
 replace hs:=hs.mx hl_J hs_J;simp only[List.cons_append,List.nil_append] at hs
 rw[EJ.out] at d_J
 refine hK _ _ rfl trivial ?_
 clear hK K
 refine sm (ze (hK6 _ _ ?_))
 refine zk fun K7 hK7=>rg [0] ?_
 refine sm (ze (hK7 _ _ ?_))
 refine zk fun K8 hK8 => ?_
 refine zk fun K9 hK9=>rg [0] ?_
 refine sm (ze (hK9 _ _ ?_))
 refine wp_block ?_
 have k3_6:=((kb n4).o hd5 ho5).b hb_6
 replace d1:=d1.k k3_6
 replace d2:=d2.k k3_6
 have hs:=hs.l0 45 4
 have hd7:=hs.2.1
 go_loopg [9,10] n (fun kz s9 s10 wr=>∃(a:Nat) (o9:Option Addr) (c9:Nat) (xs:List Value),s10 = .int .i64 (a:Int)∧s9 = .slice o9 a c9∧a+kz=n∧GD wr xs ((List.range a).map RS)∧RD wr rs_J (mkM n n AJ)∧ZC wr (.agg #[.bool n_da,.slice o_da k_da c_da]) D.1∧ZC wr (.agg #[.bool n_db,.slice o_db k_db c_db]) D.2∧St w (ls w.heap.size 45 4 (.slice o9 a c9) a xs::bx p_b1 #[.bool n_da,.slice o_da k_da c_da,.bool n_db,.slice o_db k_db c_db] 45::ls w.heap.size 24 1 (.slice o_J n c_J) n (rs_J.map (·.v))::([]++rs_J.map (Rw.e w.heap.size))) wr)
 case atStart=>exact⟨0,none,0,[],rfl,rfl,by omega,GD.nil _,d_J,d1,d2,(hs.sub (.cons_cons _ (.cons_cons _ (.cons_cons _ (.cons _ (List.sublist_append_right _ _)))))).perm (List.Perm.cons _ (List.Perm.swap _ _ _))⟩
 case round =>
 clear d_G d1 d2 d_J hs
 obtain⟨a,o9,c9,xs,rfl,rfl,hak,hL9,hdJ,d1,d2,hs⟩:=hrel
 have HO := ‹∀(a':Act) (w':World),Handed _ _ a' w'→_›
 obtain⟨g1,hg1⟩:∃g,gk=g:=⟨_,rfl⟩
 by_cases ha:a<n
 ·have HAN:=hide ha
  obtain⟨g2,off2,cur2,ty2,fz2,oi,ci,rfl,x2,e5,s2⟩:=HA.out.row (i:=a) (by omega)
  rw[HLR.out a ha] at e5
  have HS2:=hide s2
  have HK2:=hide (HLR.out a ha)
  have HRE:=hide (show (sumP m fun i=>mP (at1 V i) (cP (at1 (rw_ A a) i)))=RS a by rw[HRS.out];rfl)
  have x2z:=x2
  have lt_kA:=x2.lt
  replace x2:=x2.bl hs.b
  clear s2
  refine zk fun K10 hK10 => ?_
  refine zk fun K11 hK11=>rg [0,1,2,3] ?_
  refine xmm ?_
  refine sr ?_
  refine sr (ze (hK11 _ _ ?_))
  refine ct ?_
  refine wp_skip ?_
  refine hK10 _ _ ?_
  refine zk fun K12 hK12 => ?_
  refine wp_block ?_
  refine rg [0,1,2,3,4,5,6,7,8,9] ?_
  refine xmm ?_
  refine xmm ?_
  refine sr ?_
  refine sq ?_
  refine .r1 (x2.cell _ e5) ?_
  refine sq ?_
  intro K hK
  go_big_op
  go_fit (rDot_any (HV.out.bl stab_n hs.b) (HS2.out.bl stab_n hs.b) hnv HK2.out (by omega) (by omega) (by omega))
  rintro e w_8 ⟨_,rfl,⟨n_pa,o_pa,k_pa,c_pa,n_pb,o_pb,k_pb,c_pb,rfl,p1,p2⟩,hb_8⟩
  replace x2:=x2.bl hb_8;replace hs:=hs.bl hb_8
  rw[HRE.out] at p1 p2
  refine hK _ _ rfl trivial ?_
  clear hK K
  refine sq ?_
  refine .al hs ?_;clear hs;intro p_b2 w_9 hs n9 kb_b2
  replace x2:=x2.bl n9
  refine sq ?_
  have k0_2:=(kb hb_8).b n9
  replace hL9:=hL9.k k0_2
  have k1_2:=kb n9
  replace p1:=p1.k k1_2
  replace p2:=p2.k k1_2
  replace hL9:=hL9.snoc (.mk' p1 p2)
  refine .ap 1 hs hs.g0 ?_;clear hs;intro o_L_10 c_L_10 w_10 hs kp10 hw10;simp only[List.set_cons_succ,List.set_cons_zero] at hs
  replace x2:=x2.lo lt_kA hw10
  refine sm (ze (hK12 _ _ ?_))
  refine rg [0,1,2] ?_
  refine xmr ?_
  refine sm ?_
  apply wpSq_end
  have k2_3:=kp10
  replace hL9:=hL9.k k2_3
  have k0_3:=k0_2.t kp10
  replace hdJ:=hdJ.k k0_3
  replace d1:=d1.k k0_3
  replace d2:=d2.k k0_3
  refine ‹∀(a':Act) (w':World),Handed _ _ a' w'→_› _ _ ?_
  go_roundg (gk - 1)
  case rel=>exact⟨a+1,_,_,_,by rfl,by rfl,by omega,by rw[List.range_succ,List.map_append];exact hL9,hdJ,d1,d2,hs.sub (.cons _ (List.Sublist.refl _))⟩
  case measure=>omega
 ·have HX:=hide ha
  obtain rfl:n=a:=by omega
  refine zk fun K10 hK10 => ?_
  refine zk fun K11 hK11=>rg [0,1,2,3] ?_
  refine xmm ?_
  refine sr ?_
  refine sr (ze (hK11 _ _ ?_))
  refine cf ?_
  refine wp_exit ?_
  refine hK8 _ _ ?_
  refine zk fun K12 hK12=>rg [0,1,2,3,4,5] ?_
  refine xmm ?_
  refine xmr ?_
  refine sq ?_
  intro K hK
  go_big_op
  go_fit (rTimes_any (l:=la+lv+1+m) (m:=L) ((Lst.sc hs.1.1.1 hL9).2.sn HRB.out) ((MCof (c:=c_J) hs (by simp) rfl (fun r hr↦by simp[List.mem_map_of_mem hr]) hl_J hdJ).mn HAJB.out) (by simp) len_mkM hJD.out hJW.out (by omega) (by omega))
  rintro e w_8 ⟨o_y,c_y,xs_y,rfl,L_y,d_y,hb_8⟩
  replace hs:=hs.la hb_8 L_y
  rw[EY.out] at d_y
  refine hK _ _ rfl trivial ?_
  clear hK K
  refine sm (ze (hK12 _ _ ?_))
  refine zk fun K13 hK13=>rg [0,1,2,3,4,5] ?_
  refine xmm ?_
  refine xmr ?_
  refine sq ?_
  intro K hK
  go_big_op
  go_fit (rTimesG_any (l:=(la+lv+1+m)+L+1+n) (m:=la) ((Lst.sc hs.1.1.1 d_y).2.sn HYB.out) (HA.out.bl stab_n hs.b) (by simp) hna H.out (fun c↦(HK.out.trans (HKK.out c).symm)) (by omega) (by omega) (by omega))
  rintro e w_9 ⟨o_z,c_z,xs_z,rfl,L_z,d_z,hb_9⟩
  replace hs:=hs.la hb_9 L_z
  rw[ES.out] at d_z
  refine hK _ _ rfl trivial ?_
  clear hK K
  refine sm (ze (hK13 _ _ ?_))
  refine zk fun K14 hK14 => ?_
  refine zk fun K15 hK15=>rg [0] ?_
  refine sm (ze (hK15 _ _ ?_))
  refine wp_block ?_
  have k1_2:=kb hb_9
  replace d_y:=d_y.k k1_2
  have k0_2:=(kb hb_8).b hb_9
  replace d1:=d1.k k0_2
  replace d2:=d2.k k0_2
  have hd10:=hs.2.1
  go_loopg [13] m (fun kz s13 wr=>∃j:Nat,s13 = .int .i64 (j:Int)∧j+kz=m∧Hid (∀c,c<j→(Dt.sm n fun i=>Y i*at2 A i c)=at1 V c*D)∧GD wr xs_z ((List.range m).map fun c=>Dt.sm n fun i=>Y i*at2 A i c)∧GD wr xs_y ((List.range n).map Y)∧ZC wr (.agg #[.bool n_da,.slice o_da k_da c_da]) D.1∧ZC wr (.agg #[.bool n_db,.slice o_db k_db c_db]) D.2∧St w (ls w.heap.size 45 4 (.slice o_z m c_z) m xs_z::ls w.heap.size 45 4 (.slice o_y n c_y) n xs_y::bx p_b1 #[.bool n_da,.slice o_da k_da c_da,.bool n_db,.slice o_db k_db c_db] 45::[]) wr)
  case atStart=>exact⟨0,rfl,by omega,hide (fun c h=>absurd h (Nat.not_lt_zero _)),d_z,d_y,d1,d2,hs.sub (.cons_cons _ (.cons_cons _ (.cons _ (.cons_cons _ (List.nil_sublist _)))))⟩
  case round =>
  clear d1 d2 hdJ d_y d_z hL9 hs
  obtain⟨j,rfl,hjk,HEQS,d_z,d_y,d1,d2,hs⟩:=hrel
  by_cases hj:j<m
  ·have HJ:=hide hj
   obtain⟨g2,off2,cur2,ty2,fz2,l1,l2,l3,l4,l5,l6,l7,l8,rfl,xv,j5,j6,j7,j8,v1,v2⟩:=HV.out.op (j:=j) (by omega)
   replace v1:ZN wr (.agg #[.bool l1,.slice l2 l3 l4]) (at1 V j).1 lv:=v1.bl hs.b
   replace v2:ZN wr (.agg #[.bool l5,.slice l6 l7 l8]) (at1 V j).2 lv:=v2.bl hs.b
   have xvz:=xv
   have lt_kV:=xv.lt
   replace xv:=xv.bl hs.b
   have Lz:Lst wr w.heap.size 45 4 (.slice o_z m c_z) m xs_z:=hs.1.1.1
   obtain⟨gz,curz,rfl,xz,hcz⟩:=Lz.box (by omega)
   obtain⟨a1,a2,a3,a4,a5,a6,a7,a8,ee1,ee2,ee3,ee4,x1,x2⟩:=d_z.els j (by simpa using hj)
   rw[show ((List.range m).map fun c=>Dt.sm n fun i=>Y i*at2 A i c)[j]'(by simpa using hj)=Dt.sm n fun i=>Y i*at2 A i j by simp] at x1 x2
   replace ee1:=hcz _ _ ee1
   replace ee2:=hcz _ _ ee2
   replace ee3:=hcz _ _ ee3
   replace ee4:=hcz _ _ ee4
   have LX:=HSB.out (Dt.sm n fun i=>Y i*at2 A i j) (List.mem_map.2 ⟨j,List.mem_range.2 hj,rfl⟩)
   replace x1:=x1.zn LX.1
   replace x2:=x2.zn LX.2
   have LM:=hide (show zl (lv+L+1) (mP (at1 V j) D) from zl_mP ⟨v1.len,v2.len⟩ ⟨LD1.out,LD2.out⟩)
   obtain⟨X,hX⟩:∃X,(Dt.sm n fun i=>Y i*at2 A i j)=X:=⟨_,rfl⟩
   have HXE:=hide hX
   rw[hX] at x1 x2
   obtain⟨U,hU⟩:∃U,at1 V j=U:=⟨_,rfl⟩
   have HUE:=hide hU
   rw[hU] at v1 v2 LM
   clear Lz hcz LX hX hU
   by_cases hz:X.1=U.1*D.1 - U.2*D.2∧X.2=U.1*D.2+U.2*D.1
   ·have HEQ:=hide (decide_eq_true hz)
    have HZE:=hide hz
    clear hz
    refine zk fun K16 hK16 => ?_
    refine zk fun K17 hK17=>rg [0,1,2,3] ?_
    refine xmm ?_
    refine sr ?_
    refine sr (ze (hK17 _ _ ?_))
    refine ct ?_
    refine wp_skip ?_
    refine hK16 _ _ ?_
    refine zk fun K18 hK18 => ?_
    refine wp_block ?_
    refine zk fun K19 hK19 => ?_
    refine wp_region_f4 [(0,false),(1,false),(2,false),(3,false),(4,false),(5,false),(6,false),(7,false),(8,false),(9,true),(10,true),(11,false)] [] [] (fun _=>default) [99,99,99,0,99,99,99,1,2,99,99,99] [] (.c xz (.c xv (.c hs.g2 .n))) fn fun w_11 n11 => ?_
    replace xz:=xz.bl n11;replace xv:=xv.bl n11;replace hs:=hs.bl n11
    refine fmv ?_
    refine fmv ?_
    refine f0 ?_
    apply wpFl_ld rfl rfl;(case h1=>intro w' hC K hK;have c0:=Bs.cell hC ((j*4)) ee1;have c1:=Bs.cell hC ((j*4)+1) ee2;have c2:=Bs.cell hC ((j*4)+2) ee3;have c3:=Bs.cell hC ((j*4)+3) ee4;go_big_op;exact hK);iterate 4 kernel_rfl
    refine fmv ?_
    refine fmv ?_
    refine f0 ?_
    apply wpFl_ld rfl rfl;(case h1=>intro w' hC K hK;have c0:=Bs.cell hC ((off2+j*4)) j5;have c1:=Bs.cell hC ((off2+j*4)+1) j6;have c2:=Bs.cell hC ((off2+j*4)+2) j7;have c3:=Bs.cell hC ((off2+j*4)+3) j8;go_big_op;exact hK);iterate 4 kernel_rfl
    refine f4 ?_
    refine fl fun w_12 n12 => ?_
    replace xz:=xz.bl n12;replace xv:=xv.bl n12;replace hs:=hs.bl n12
    intro K hK
    have k0_2:=(kb n11).b n12
    replace v1:=v1.k k0_2
    replace v2:=v2.k k0_2
    replace d1:=d1.k k0_2
    replace d2:=d2.k k0_2
    go_big_op
    go_fit (rgMul_any (.mk' v1 v2) (.mk' (d1.zn LD1.out) (d2.zn LD2.out)) (by omega) (by omega) (by omega) (by omega))
    rintro e w_13 ⟨_,rfl,⟨n_pa,o_pa,k_pa,c_pa,n_pb,o_pb,k_pb,c_pb,rfl,p1,p2⟩,hb_13⟩
    replace xz:=xz.bl hb_13;replace xv:=xv.bl hb_13;replace hs:=hs.bl hb_13
    have Lp1:=hide (p1.lenOf (LM.out.1))
    have Lp2:=hide (p2.lenOf (LM.out.2))
    refine hK _ _ rfl ⟨hb_13,(ai xz (ai xv (ai hs.g2 trivial)))⟩ ?_
    clear hK K
    refine fl fun w_14 n14 => ?_
    replace xz:=xz.bl n14;replace xv:=xv.bl n14;replace hs:=hs.bl n14
    intro K hK
    have k0_4:=(k0_2.b hb_13).b n14
    replace x1:=x1.k k0_4
    replace x2:=x2.k k0_4
    have k3_4:=kb n14
    replace p1:=p1.k k3_4
    replace p2:=p2.k k3_4
    go_big_op
    go_fit (rgEqual8 (.mk' x1 x2) (.mk' (p1.zn LM.out.1) (p2.zn LM.out.2)) (by omega) (by omega) (by omega) (by omega))
    rintro e w_15 ⟨rfl,hb_15⟩
    replace xz:=xz.bl hb_15;replace xv:=xv.bl hb_15;replace hs:=hs.bl hb_15
    rw[HEQ.out]
    refine hK _ _ rfl ⟨hb_15,(ai xz (ai xv (ai hs.g2 trivial)))⟩ ?_
    clear hK K
    refine f0 ?_
    refine e0 hs ?_;clear hs;intro w_16 hs n16
    replace xz:=xz.bl n16;replace xv:=xv.bl n16
    apply wpTail_end
    refine hK19 _ _ ?_
    refine cf ?_
    refine wp_skip ?_
    refine hK18 _ _ ?_
    refine rg [0,1,2] ?_
    refine xmr ?_
    refine sm ?_
    apply wpSq_end
    have k0_6:=(k0_4.b hb_15).b n16
    replace d_z:=d_z.k k0_6
    replace d_y:=d_y.k k0_6
    have k2_6:=(((kb hb_13).b n14).b hb_15).b n16
    replace d1:=d1.k k2_6
    replace d2:=d2.k k2_6
    refine ‹∀(a':Act) (w':World),Handed _ _ a' w'→_› _ _ ?_
    go_roundg (gk - 1)
    case rel=>exact⟨j+1,by rfl,by omega,hide (fun c hc=>by
     by_cases e:c<j
     ·exact HEQS.out c e
     ·obtain rfl:c=j:=by omega
      rw[HXE.out,HUE.out];exact Prod.ext HZE.out.1 HZE.out.2),d_z,d_y,d1,d2,hs⟩
    case measure=>omega
   ·have HEQ:=hide (decide_eq_false hz)
    have HNE:=hide (show ¬ ∀c,c<m→(Dt.sm n fun i=>yR n m (at2 A) (at1 V) i*at2 A i c)=at1 V c*Dt.det n (gG m (at2 A)) from fun h=>hz (by
     have h1:=h j HJ.out
     rw[HD.out,←HYE.out,HXE.out,HUE.out] at h1
     rw[h1];exact⟨rfl,rfl⟩))
    clear hz
    refine zk fun K16 hK16 => ?_
    refine zk fun K17 hK17=>rg [0,1,2,3] ?_
    refine xmm ?_
    refine sr ?_
    refine sr (ze (hK17 _ _ ?_))
    refine ct ?_
    refine wp_skip ?_
    refine hK16 _ _ ?_
    refine zk fun K18 hK18 => ?_
    refine wp_block ?_
    refine zk fun K19 hK19 => ?_
    refine wp_region_f4 [(0,false),(1,false),(2,false),(3,false),(4,false),(5,false),(6,false),(7,false),(8,false),(9,true),(10,true),(11,false)] [] [] (fun _=>default) [99,99,99,0,99,99,99,1,2,99,99,99] [] (.c xz (.c xv (.c hs.g2 .n))) fn fun w_11 n11 => ?_
    replace xz:=xz.bl n11;replace xv:=xv.bl n11;replace hs:=hs.bl n11
    refine fmv ?_
    refine fmv ?_
    refine f0 ?_
    apply wpFl_ld rfl rfl;(case h1=>intro w' hC K hK;have c0:=Bs.cell hC ((j*4)) ee1;have c1:=Bs.cell hC ((j*4)+1) ee2;have c2:=Bs.cell hC ((j*4)+2) ee3;have c3:=Bs.cell hC ((j*4)+3) ee4;go_big_op;exact hK);iterate 4 kernel_rfl
    refine fmv ?_
    refine fmv ?_
    refine f0 ?_
    apply wpFl_ld rfl rfl;(case h1=>intro w' hC K hK;have c0:=Bs.cell hC ((off2+j*4)) j5;have c1:=Bs.cell hC ((off2+j*4)+1) j6;have c2:=Bs.cell hC ((off2+j*4)+2) j7;have c3:=Bs.cell hC ((off2+j*4)+3) j8;go_big_op;exact hK);iterate 4 kernel_rfl
    refine f4 ?_
    refine fl fun w_12 n12 => ?_
    replace xz:=xz.bl n12;replace xv:=xv.bl n12;replace hs:=hs.bl n12
    intro K hK
    have k0_2:=(kb n11).b n12
    replace v1:=v1.k k0_2
    replace v2:=v2.k k0_2
    replace d1:=d1.k k0_2
    replace d2:=d2.k k0_2
    go_big_op
    go_fit (rgMul_any (.mk' v1 v2) (.mk' (d1.zn LD1.out) (d2.zn LD2.out)) (by omega) (by omega) (by omega) (by omega))
    rintro e w_13 ⟨_,rfl,⟨n_pa,o_pa,k_pa,c_pa,n_pb,o_pb,k_pb,c_pb,rfl,p1,p2⟩,hb_13⟩
    replace xz:=xz.bl hb_13;replace xv:=xv.bl hb_13;replace hs:=hs.bl hb_13
    have Lp1:=hide (p1.lenOf (LM.out.1))
    have Lp2:=hide (p2.lenOf (LM.out.2))
    refine hK _ _ rfl ⟨hb_13,(ai xz (ai xv (ai hs.g2 trivial)))⟩ ?_
    clear hK K
    refine fl fun w_14 n14 => ?_
    replace xz:=xz.bl n14;replace xv:=xv.bl n14;replace hs:=hs.bl n14
    intro K hK
    have k0_4:=(k0_2.b hb_13).b n14
    replace x1:=x1.k k0_4
    replace x2:=x2.k k0_4
    have k3_4:=kb n14
    replace p1:=p1.k k3_4
    replace p2:=p2.k k3_4
    go_big_op
    go_fit (rgEqual8 (.mk' x1 x2) (.mk' (p1.zn LM.out.1) (p2.zn LM.out.2)) (by omega) (by omega) (by omega) (by omega))
    rintro e w_15 ⟨rfl,hb_15⟩
    replace xz:=xz.bl hb_15;replace xv:=xv.bl hb_15;replace hs:=hs.bl hb_15
    rw[HEQ.out]
    refine hK _ _ rfl ⟨hb_15,(ai xz (ai xv (ai hs.g2 trivial)))⟩ ?_
    clear hK K
    refine f0 ?_
    refine e0 hs ?_;clear hs;intro w_16 hs n16
    replace xz:=xz.bl n16;replace xv:=xv.bl n16
    apply wpTail_end
    refine hK19 _ _ ?_
    refine ct ?_
    refine zk fun K20 hK20=>rg [0,1] ?_
    refine sm ?_
    refine sm (ze (hK20 _ _ ?_))
    refine wp_ret ?_
    try dsimp only [Exit.then,Exit.inBlock]
    refine bodyPost_ret (v:=(.tuple #[(.slice none 0 0),(.int .i64 10)])) (by simp[results,Tryz.results9,go_sem]) rfl ?_
    exact⟨.inl ⟨HNE.out,rfl⟩,hs.b⟩
  ·have HJ:=hide hj
   have hjk2:j=m:=by omega
   have HALL:=hide (show ∀c,c<m→(Dt.sm n fun i=>yR n m (at2 A) (at1 V) i*at2 A i c)=at1 V c*Dt.det n (gG m (at2 A)) from fun c hc=>by
    rw[HD.out,←HYE.out];exact HEQS.out c (by omega))
   refine zk fun K16 hK16 => ?_
   refine zk fun K17 hK17=>rg [0,1,2,3] ?_
   refine xmm ?_
   refine sr ?_
   refine sr (ze (hK17 _ _ ?_))
   have HYS:=hide (show SN ((la+lv+1+m)+L+1+n) _ o_y ((List.range n).map Y) from (Lst.sc hs.1.2.1.1 d_y).2.sn HYB.out)
   have x_b1:=hs.g2
   have hBB:=hs.b
   clear hs
   obtain⟨W2,e_W2⟩:∃x,x=wr:=⟨_,rfl⟩;subst e_W2
   have hs:=St.nil W2
   have z_b1:=x_b1
   have lt_b1:=x_b1.lt
   refine cf ?_
   refine wp_exit ?_
   refine hK14 _ _ ?_
   refine zk fun K18 hK18=>rg [0] ?_
   refine sm (ze (hK18 _ _ ?_))
   refine zk fun K19 hK19 => ?_
   refine zk fun K20 hK20=>rg [0] ?_
   refine sm (ze (hK20 _ _ ?_))
   refine wp_block ?_
   have HB1:=hide x_b1
   have hs:=hs.l0 41 8
   have hd11:=hs.2.1
   go_loopg [14,15] n (fun kz s14 s15 wr=>∃(a:Nat) (o9:Option Addr) (c9:Nat) (xs:List Value),s15 = .int .i64 (a:Int)∧s14 = .slice o9 a c9∧a+kz=n∧CD wr xs ((List.range a).map fun i=>qC (Y i) D)∧ZC wr (.agg #[.bool n_da,.slice o_da k_da c_da]) D.1∧ZC wr (.agg #[.bool n_db,.slice o_db k_db c_db]) D.2∧St W2 (ls W2.heap.size 41 8 (.slice o9 a c9) a xs::[]) wr)
   case atStart=>exact⟨0,none,0,[],rfl,rfl,by omega,CD.nil _,d1,d2,hs⟩
   case round =>
   clear d1 d2 d_z d_y x_b1 hs
   obtain⟨a,o9,c9,xs,rfl,rfl,hak,hL9,d1,d2,hs⟩:=hrel
   have xb1:=HB1.out.bl hs.b
   have xb1z:=HB1.out
   by_cases ha:a<n
   ·have HAN:=hide ha
    obtain⟨gy,offy,cury,tyy,fzy,a1,a2,a3,a4,a5,a6,a7,a8,ey,xy,ee1,ee2,ee3,ee4,x1,x2⟩:=HYS.out.op (j:=a) (by simpa using ha)
    have EYA:at1 ((List.range n).map Y) a=Y a:=at1_map ha
    rw[EYA] at x1 x2
    have hm64:m≤64:=by have:=HKK.out (by omega);omega
    have LX1:=hide x1.len
    have LX2:=hide x2.len
    replace x1:ZN wr (.agg #[.bool a1,.slice a2 a3 a4]) (Y a).1 _:=x1.bl hs.b
    replace x2:ZN wr (.agg #[.bool a5,.slice a6 a7 a8]) (Y a).2 _:=x2.bl hs.b
    have xyz:=xy
    have lt_ky:=xy.lt
    replace xy:=xy.bl hs.b
    subst ey
    clear EYA
    have Z1:=hide (zlen_small8 (z:=1) (by decide))
    refine zk fun K21 hK21 => ?_
    refine zk fun K22 hK22=>rg [0,1,2,3] ?_
    refine xmm ?_
    refine sr ?_
    refine sr (ze (hK22 _ _ ?_))
    refine ct ?_
    refine wp_skip ?_
    refine hK21 _ _ ?_
    refine zk fun K23 hK23 => ?_
    refine wp_block ?_
    refine wp_region_f4 [(0,false),(1,false),(2,false),(3,false),(4,false),(6,false),(5,true),(7,true),(8,true),(9,true)] [10,11] [] (fun _=>default) [99,99,99,99,0,99,1,99,99,99,99,99] [] (.c xy (.c xb1 .n)) fn fun w_12 n12 => ?_
    replace xb1:=xb1.bl n12;replace xy:=xy.bl n12;replace hs:=hs.bl n12
    refine fmv ?_
    refine fmv ?_
    refine fmv ?_
    refine f0 ?_
    apply wpFl_ld rfl rfl;(case h1=>intro w' hC K hK;have c0:=Bs.cell hC ((offy+a*4)) ee1;have c1:=Bs.cell hC ((offy+a*4)+1) ee2;have c2:=Bs.cell hC ((offy+a*4)+2) ee3;have c3:=Bs.cell hC ((offy+a*4)+3) ee4;go_big_op;exact hK);iterate 4 kernel_rfl
    refine f4 ?_
    refine fl fun w_13 n13 => ?_
    replace xb1:=xb1.bl n13;replace xy:=xy.bl n13;replace hs:=hs.bl n13
    intro K hK
    have k0_2:=(kb n12).b n13
    replace x1:=x1.k k0_2
    replace x2:=x2.k k0_2
    go_big_op
    go_fit (r7Of_any (.mk' x1 x2) (by omega) (by omega))
    rintro e w_14 ⟨_,rfl,⟨n_o1,o_o1,k_o1,c_o1,n_o2,o_o2,k_o2,c_o2,n_o3,o_o3,k_o3,c_o3,n_o4,o_o4,k_o4,c_o4,rfl,o1,o2,o3,o4⟩,hb_14⟩
    replace xb1:=xb1.bl hb_14;replace xy:=xy.bl hb_14;replace hs:=hs.bl hb_14
    refine hK _ _ rfl ⟨hb_14,(ai xy (ai xb1 trivial))⟩ ?_
    clear hK K
    refine fl fun w_15 n15 => ?_
    replace xb1:=xb1.bl n15;replace xy:=xy.bl n15;replace hs:=hs.bl n15
    intro K hK
    have k0_4:=(k0_2.b hb_14).b n15
    replace d1:=d1.k k0_4
    replace d2:=d2.k k0_4
    go_big_op
    go_fit (r7Of_any (.mk' (d1.zn LD1.out) (d2.zn LD2.out)) (by omega) (by omega))
    rintro e w_16 ⟨_,rfl,⟨n_q1,o_q1,k_q1,c_q1,n_q2,o_q2,k_q2,c_q2,n_q3,o_q3,k_q3,c_q3,n_q4,o_q4,k_q4,c_q4,rfl,q1,q2,q3,q4⟩,hb_16⟩
    replace xb1:=xb1.bl hb_16;replace xy:=xy.bl hb_16;replace hs:=hs.bl hb_16
    refine hK _ _ rfl ⟨hb_16,(ai xy (ai xb1 trivial))⟩ ?_
    clear hK K
    refine fl fun w_17 n17 => ?_
    replace xb1:=xb1.bl n17;replace xy:=xy.bl n17;replace hs:=hs.bl n17
    intro K hK
    have k3_6:=((kb n15).b hb_16).b n17
    replace o1:=o1.k k3_6
    replace o2:=o2.k k3_6
    replace o3:=o3.k k3_6
    replace o4:=o4.k k3_6
    have k5_6:=kb n17
    replace q1:=q1.k k5_6
    replace q2:=q2.k k5_6
    replace q3:=q3.k k5_6
    replace q4:=q4.k k5_6
    go_big_op
    go_fit (r7QuoZ (l:=(la+lv+1+m)+L+1+n) (l2:=L) (.mk' (o1.zn LX1.out) (o2.zn Z1.out) (o3.zn LX2.out) (o4.zn Z1.out)) (.mk' (q1.zn LD1.out) (q2.zn Z1.out) (q3.zn LD2.out) (q4.zn Z1.out)) (by omega) (by omega) HP0.out)
    rintro e w_18 ⟨_,rfl,⟨n_r1,o_r1,k_r1,c_r1,n_r2,o_r2,k_r2,c_r2,n_r3,o_r3,k_r3,c_r3,n_r4,o_r4,k_r4,c_r4,rfl,r1,r2,r3,r4⟩,hb_18⟩
    replace xb1:=xb1.bl hb_18;replace xy:=xy.bl hb_18;replace hs:=hs.bl hb_18
    refine hK _ _ rfl ⟨hb_18,(ai xy (ai xb1 trivial))⟩ ?_
    clear hK K
    refine fl fun w_19 n19 => ?_
    clear o1 o2 o3 o4 q1 q2 q3 q4
    replace xb1:=xb1.bl n19;replace xy:=xy.bl n19;replace hs:=hs.bl n19
    refine .al hs ?_ (e:=fun _ _ hs n=>⟨n,(ai (xyz.bl hs.b) (ai (z_b1.bl hs.b) trivial))⟩);clear hs;intro p_b2 w_20 hs n20 kb_b2
    replace xb1:=xb1.bl n20;replace xy:=xy.bl n20
    refine e0 hs ?_;clear hs;intro w_21 hs n21
    replace xb1:=xb1.bl n21;replace xy:=xy.bl n21
    refine tl ?_
    have k0_10:=(((((k0_4.b hb_16).b n17).b hb_18).b n19).b n20).b n21
    replace hL9:=hL9.k k0_10
    have k7_10:=((kb n19).b n20).b n21
    replace r1:=r1.k k7_10
    replace r2:=r2.k k7_10
    replace r3:=r3.k k7_10
    replace r4:=r4.k k7_10
    replace hL9:=hL9.snoc (p:=qC ((Y a).1,(Y a).2) (D.1,D.2)) (.mk' r1 r2 r3 r4)
    refine .apo 1 hs hs.g0 ?_ (eE:=fun _ _ _ hs=>(ai (xyz.bl hs.b) (ai (z_b1.bl hs.b) trivial)));clear hs;intro o_L_22 c_L_22 w_22 hs kp22 hw22;simp only[List.set_cons_succ,List.set_cons_zero] at hs
    replace xb1:=xb1.lo lt_b1 hw22
    replace xy:=xy.lo lt_ky hw22
    refine tl ?_
    refine .mv ?_ (e:=(ai (xyz.bl hs.b) (ai (z_b1.bl hs.b) trivial)))
    apply wpTail_end
    refine hK23 _ _ ?_
    refine rg [0,1,2] ?_
    refine xmr ?_
    refine sm ?_
    apply wpSq_end
    have k10_11:=kp22
    replace hL9:=hL9.k k10_11
    have k4_11:=((((((kb hb_16).b n17).b hb_18).b n19).b n20).b n21).t kp22
    replace d1:=d1.k k4_11
    replace d2:=d2.k k4_11
    refine ‹∀(a':Act) (w':World),Handed _ _ a' w'→_› _ _ ?_
    go_roundg (gk - 1)
    case rel=>exact⟨a+1,_,_,_,by rfl,by rfl,by omega,by rw[List.range_succ,List.map_append];exact hL9,d1,d2,hs.sub (.cons _ (List.Sublist.refl _))⟩
    case measure=>omega
   ·have HAN:=hide ha
    obtain rfl:n=a:=by omega
    refine zk fun K21 hK21 => ?_
    refine zk fun K22 hK22=>rg [0,1,2,3] ?_
    refine xmm ?_
    refine sr ?_
    refine sr (ze (hK22 _ _ ?_))
    refine cf ?_
    refine wp_exit ?_
    refine hK19 _ _ ?_
    refine zk fun K23 hK23=>rg [0,1,2] ?_
    refine xmm ?_
    refine sm (ze (hK23 _ _ ?_))
    refine wp_ret ?_
    try dsimp only [Exit.then,Exit.inBlock]
    refine bodyPost_ret (v:=(.tuple #[(.slice o9 n c9),(.int .i64 0)])) (by simp[results,Tryz.results9,go_sem]) rfl ?_
    exact⟨.inr ⟨HALL.out,_,_,rfl,by rw[HD.out,←HYE.out];exact LQ.of hs.1.1.1 hL9 (by simp)⟩,hBB.trans (hs.b.mono hBB.size)⟩
end
theorem qC_same {p y D R:Int × Int} (hp:p≠0) (hD:D≠0) (h:p*R=D*y):qC y p=qC R D:=by
 obtain⟨p1,p2⟩:=p
 obtain⟨y1,y2⟩:=y
 obtain⟨D1,D2⟩:=D
 obtain⟨R1,R2⟩:=R
 have e1:p1*R1 - p2*R2=D1*y1 - D2*y2:=congrArg Prod.fst h
 have e2:p1*R2+p2*R1=D1*y2+D2*y1:=congrArg Prod.snd h
 have np:p1*p1+p2*p2≠0:=fun e=>hp (Prod.ext (gN_zero.1 e).1 (gN_zero.1 e).2)
 have nD:D1*D1+D2*D2≠0:=fun e=>hD (Prod.ext (gN_zero.1 e).1 (gN_zero.1 e).2)
 rw[qC_eq,qC_eq]
 refine Prod.ext ?_ ?_
 ·show rv (y1*p1 - y2 * -p2) 1/rv (p1*p1+p2*p2) 1=rv (R1*D1 - R2 * -D2) 1/rv (D1*D1+D2*D2) 1
  rw[←rv_quo,←rv_quo,rv_eq (by rw[Int.mul_one];exact np) (by rw[Int.mul_one];exact nD)]
  have k1:(y1*p1 - y2 * -p2)*1*((D1*D1+D2*D2)*1)=(D1*y1 - D2*y2)*(p1*D1 - p2*D2)+(D1*y2+D2*y1)*(p1*D2+p2*D1):=by grind
  have k2:(R1*D1 - R2 * -D2)*1*((p1*p1+p2*p2)*1)=(p1*R1 - p2*R2)*(p1*D1 - p2*D2)+(p1*R2+p2*R1)*(p1*D2+p2*D1):=by grind
  rw[k1,k2,e1,e2]
 ·show rv (y1 * -p2+y2*p1) 1/rv (p1*p1+p2*p2) 1=rv (R1 * -D2+R2*D1) 1/rv (D1*D1+D2*D2) 1
  rw[←rv_quo,←rv_quo,rv_eq (by rw[Int.mul_one];exact np) (by rw[Int.mul_one];exact nD)]
  have k1:(y1 * -p2+y2*p1)*1*((D1*D1+D2*D2)*1)=(D1*y2+D2*y1)*(p1*D1 - p2*D2) - (D1*y1 - D2*y2)*(p1*D2+p2*D1):=by grind
  have k2:(R1 * -D2+R2*D1)*1*((p1*p1+p2*p2)*1)=(p1*R2+p2*R1)*(p1*D1 - p2*D2) - (p1*R1 - p2*R2)*(p1*D2+p2*D1):=by grind
  rw[k1,k2,e1,e2]
theorem qC_len {y p:Int × Int} {l l2:Nat} (hp:p≠0) (hy:zl l y) (h2:zl l2 p) :
  (dig (qC y p).1.num.natAbs).length≤l+l2+1+1∧(dig ((qC y p).1.den:Int).natAbs).length≤l2+l2+1+1∧(dig (qC y p).2.num.natAbs).length≤l+l2+1+1∧(dig ((qC y p).2.den:Int).natAbs).length≤l2+l2+1+1:=by
 obtain⟨p1,p2⟩:=p
 obtain⟨y1,y2⟩:=y
 have np:p1*p1+p2*p2≠0:=fun e=>hp (Prod.ext (gN_zero.1 e).1 (gN_zero.1 e).2)
 have Z1:=zlen_small8 (z:=1) (by decide)
 have LN:=zlen_addM (zlen_mul h2.1 h2.1) (zlen_mul h2.2 h2.2)
 rw[qC_eq]
 have a1:=r_len (Int.mul_ne_zero np (by decide)) (rv_quo (y1*p1 - y2 * -p2) 1 (p1*p1+p2*p2) 1) (zlen_mul (zlen_subM (zlen_mul hy.1 h2.1) (zlen_mul hy.2 (zlen_neg h2.2))) Z1) (zlen_mul LN Z1)
 have a2:=r_len (Int.mul_ne_zero np (by decide)) (rv_quo (y1 * -p2+y2*p1) 1 (p1*p1+p2*p2) 1) (zlen_mul (zlen_addM (zlen_mul hy.1 (zlen_neg h2.2)) (zlen_mul hy.2 h2.1)) Z1) (zlen_mul LN Z1)
 exact⟨a1.1,a1.2,a2.1,a2.2⟩
theorem LQ.op {w:World} {o:Option Addr} {ps:List (Rat × Rat)} {i:Nat} (h:LQ w o ps) (hi:i<ps.length) :
  ∃g off cur ty fz n1 o1 k1 c1 n2 o2 k2 c2 n3 o3 k3 c3 n4 o4 k4 c4,o=some ⟨g,off,none⟩∧Bs w g cur ty fz∧cur[off+i*8]? = some (.bool n1)∧cur[off+i*8+1]? = some (.slice o1 k1 c1)∧cur[off+i*8+2]? = some (.bool n2)∧cur[off+i*8+3]? = some (.slice o2 k2 c2)∧cur[off+i*8+4]? = some (.bool n3)∧cur[off+i*8+5]? = some (.slice o3 k3 c3)∧cur[off+i*8+6]? = some (.bool n4)∧cur[off+i*8+7]? = some (.slice o4 k4 c4) ∧
   ZC w (.agg #[.bool n1,.slice o1 k1 c1]) ps[i].1.num∧ZC w (.agg #[.bool n2,.slice o2 k2 c2]) ps[i].1.den∧ZC w (.agg #[.bool n3,.slice o3 k3 c3]) ps[i].2.num∧ZC w (.agg #[.bool n4,.slice o4 k4 c4]) ps[i].2.den:=by
 obtain⟨g,off,cur,ty,fz,rfl,x,d⟩:=h.resolve_left fun e=>by simp[e] at hi
 obtain⟨d1,d2,d3,d4,d5,d6,d7,d8,e1,e2,e3,e4,e5,e6,e7,e8,n1,o1,k1,c1,n2,o2,k2,c2,n3,o3,k3,c3,n4,o4,k4,c4,hv,z1,z2,z3,z4⟩:=d i hi
 simp only[Value.agg.injEq,Array.mk.injEq,List.cons.injEq,and_true] at hv
 obtain⟨rfl,rfl,rfl,rfl,rfl,rfl,rfl,rfl⟩:=hv
 exact⟨g,off,cur,ty,fz,n1,o1,k1,c1,n2,o2,k2,c2,n3,o3,k3,c3,n4,o4,k4,c4,rfl,x,e1,e2,e3,e4,e5,e6,e7,e8,z1,z2,z3,z4⟩
section
variable {w:World} {la lv n k m L L1 L2 LG ca cv r:Nat} {oa ov:Option Addr} {A:List (List (Int × Int))} {V:List (Int × Int)}
theorem solve_bad (ha:MN la w oa A) (hna:A.length=n) (h:¬gd A) (hla:n≤1000000000) :
  Calls Tryz.prog 5 #[.slice oa n ca,.slice ov m cv] w fun e w'=>e = .returned (.tuple #[.slice none 0 0,.int .i64 4])∧Below w.heap.size w w':=by
 have HA:=hide ha
 have H:=hide h
 clear ha h
 go_enter Tryz.func5,Tryz.ntmps5
 have hs:=St.nil w
 refine zk fun K1 hK1=>rg [0,1] ?_
 refine sm ?_
 refine sm (ze (hK1 _ _ ?_))
 refine zk fun K2 hK2=>rg [0,1,2,3,4,5,6,7,8] ?_
 refine sm ?_
 refine sq ?_
 intro K hK
 have hb:=hs.b
 go_big_op
 go_fit (mSize_bad (HA.out.bl stab_n hb) hna H.out hla)
 rintro e w_1 ⟨rfl,hb_1⟩
 clear hb
 replace hs:=hs.bl hb_1
 refine hK _ _ rfl trivial ?_
 clear hK K
 refine xmr ?_
 refine xrr ?_
 refine xmm ?_
 refine sm (ze (hK2 _ _ ?_))
 refine zk fun K3 hK3 => ?_
 refine zk fun K4 hK4=>rg [0,1,2,3,4,5,6,7,8,9,10,11] ?_
 refine xmr ?_
 refine sm ?_
 refine sk ?_
 refine sk ?_
 refine sk ?_
 refine sk ?_
 refine sk ?_
 refine sk ?_
 refine sk ?_
 refine sk ?_
 refine sr (ze (hK4 _ _ ?_))
 refine ct ?_
 refine zk fun K5 hK5=>rg [0,1] ?_
 refine sm ?_
 refine sm (ze (hK5 _ _ ?_))
 refine wp_ret ?_
 try dsimp only [Exit.then,Exit.inBlock]
 refine bodyPost_ret (v:=(.tuple #[(.slice none 0 0),(.int .i64 4)])) (by simp[results,Tryz.results5,go_sem]) rfl ?_
 exact⟨rfl,hs.b⟩
theorem solve_len (ha:MN la w oa A) (hna:A.length=n) (h:gd A) (hk:wd A=k) (hn0:0<n) (hmk:m≠k) :
  Calls Tryz.prog 5 #[.slice oa n ca,.slice ov m cv] w fun e w'=>e = .returned (.tuple #[.slice none 0 0,.int .i64 4])∧Below w.heap.size w w':=by
 have HA:=hide ha
 have H:=hide h
 have HK:=hide hk
 have t3:((m:Int) != (k:Int))=true:=bne_iff_ne.2 (by omega)
 have t4:(m=k)=False:=eq_false hmk
 clear ha h hk
 go_enter Tryz.func5,Tryz.ntmps5
 have hs:=St.nil w
 refine zk fun K1 hK1=>rg [0,1] ?_
 refine sm ?_
 refine sm (ze (hK1 _ _ ?_))
 refine zk fun K2 hK2=>rg [0,1,2,3,4,5,6,7,8] ?_
 refine sm ?_
 refine sq ?_
 intro K hK
 have hb:=hs.b
 go_big_op
 go_fit (mSize_ok (HA.out.bl stab_n hb) hna H.out HK.out)
 rintro e w_1 ⟨rfl,hb_1⟩
 clear hb
 replace hs:=hs.bl hb_1
 refine hK _ _ rfl trivial ?_
 clear hK K
 refine xmr ?_
 refine xrr ?_
 refine xmm ?_
 refine sm (ze (hK2 _ _ ?_))
 refine zk fun K3 hK3 => ?_
 refine zk fun K4 hK4=>rg [0,1,2,3,4,5,6,7,8,9,10,11] ?_
 refine xmr ?_
 refine xmm ?_
 refine xrm ?_
 refine xmr ?_
 refine xmr ?_
 refine sr ?_
 refine sr (ze (hK4 _ _ ?_))
 refine ct ?_
 refine zk fun K5 hK5=>rg [0,1] ?_
 refine sm ?_
 refine sm (ze (hK5 _ _ ?_))
 refine wp_ret ?_
 try dsimp only [Exit.then,Exit.inBlock]
 refine bodyPost_ret (v:=(.tuple #[(.slice none 0 0),(.int .i64 4)])) (by simp[results,Tryz.results5,go_sem]) rfl ?_
 exact⟨rfl,hs.b⟩
theorem solve_any (ha:MN la w oa A) (hna:A.length=n) (h:gd A) (hk:wd A=k) (hv:SN lv w ov V) (hnv:V.length=m) (hKk:0<n→m=k) (hm:m≤2000000)
  (hB:MinB (n+1) (m+n) L (brdG n m (at2 A) fun _=>at1 V)) (hL:L≤3300000) (hB2:MinB n k L2 (at2 A)) (hL2:L2≤1100000) (hla:la≤10000000) (hlv:lv≤10000000) :
  Calls Tryz.prog 5 #[.slice oa n ca,.slice ov m cv] w fun e w'=>SolvP n k m L2 L (at2 A) (at1 V) e w'∧Below w.heap.size w w':=by
 rcases Nat.eq_zero_or_pos n with h0 | h0
 ·refine solve_zero ha hna h hk hv hnv h0 ?_ hm hB hL hB2 hla hlv
  have:A=[]:=List.eq_nil_of_length_eq_zero (by omega)
  rw[←hk,this];rfl
 ·obtain rfl:=hKk h0
  exact solve_pos ha hna h hk hv hnv h0 hB hL hB2 hL2 hla hlv
end
theorem g9_any (a b:Int) (w:World) (h1 : -9223372036854775808≤a) (h2:a≤9223372036854775807) (h3 : -9223372036854775808≤b) (h4:b≤9223372036854775807) :
  Calls Tryz.prog 28 #[.int .i64 a,.int .i64 b] w fun e w'=>∃r,e = .returned r∧PC w' r a b∧Below w.heap.size w w':=by
 go_enter Tryz.func28,Tryz.ntmps28
 have hs:=St.nil w
 refine zk fun K1 hK1=>rg [0] ?_
 refine sq ?_
 refine .al hs ?_;clear hs;intro p_b1 w_1 hs n1 kb_b1
 refine ze (hK1 _ _ ?_)
 refine zk fun K2 hK2=>rg [0,1,2,3] ?_
 refine xmm ?_
 refine sq ?_
 intro K hK
 go_big_op
 go_fit (rgI_any a b _ h1 h2 h3 h4)
 rintro e w_2 ⟨_,rfl,⟨n_ra,o_ra,k_ra,c_ra,n_rb,o_rb,k_rb,c_rb,rfl,r1,r2⟩,hb_2⟩
 replace hs:=hs.bl hb_2
 refine hK _ _ rfl trivial ?_
 clear hK K
 refine sq ?_
 refine .s4 hs.g0 (fun _=>hs.u0 kb_b1) ?_;clear hs;intro w_3 hs hd3 ho3
 refine ze (hK2 _ _ ?_)
 refine wp_ret ?_
 try dsimp only [Exit.then,Exit.inBlock]
 obtain⟨r0_0,r0_1,r0_2,r0_3⟩:=hs.g0.f4
 refine bodyPost_ret (v:=(.agg #[.bool n_ra,.slice o_ra k_ra c_ra,.bool n_rb,.slice o_rb k_rb c_rb])) (by simp[results,Tryz.results28,go_sem,r0_0,r0_1,r0_2,r0_3]) rfl ?_
 have k2_3:=ko hd3 ho3
 replace r1:=r1.k k2_3
 replace r2:=r2.k k2_3
 exact⟨_,rfl,.mk' r1 r2,hs.b⟩
theorem simple9_any (w:World) :
  Calls Tryz.prog 26 #[] w fun e w'=>∃o c,e = .returned (.slice o 2 c)∧MC w' o [[(1,0),(2,0)],[(0,1),(0,0)]]∧Below w.heap.size w w':=by
 go_enter Tryz.func26,Tryz.ntmps26
 have hs:=St.nil w
 refine zk fun K1 hK1=>rg [0] ?_
 refine sm (ze (hK1 _ _ ?_))
 refine zk fun K2 hK2=>rg [0,1,2,3,4,5,6,7] ?_
 refine sq ?_
 intro K hK
 go_big_op
 go_fit (g9_any 1 0 _ (by decide) (by decide) (by decide) (by decide))
 rintro e w_1 ⟨_,rfl,⟨n_aa,o_aa,k_aa,c_aa,n_ab,o_ab,k_ab,c_ab,rfl,a1,a2⟩,hb_1⟩
 replace hs:=hs.bl hb_1
 refine hK _ _ rfl trivial ?_
 clear hK K
 refine sq ?_
 intro K hK
 go_big_op
 go_fit (g9_any 2 0 _ (by decide) (by decide) (by decide) (by decide))
 rintro e w_2 ⟨_,rfl,⟨n_ba,o_ba,k_ba,c_ba,n_bb,o_bb,k_bb,c_bb,rfl,b1,b2⟩,hb_2⟩
 replace hs:=hs.bl hb_2
 refine hK _ _ rfl trivial ?_
 clear hK K
 refine sq ?_
 refine .al hs ?_;clear hs;intro p_b1 w_3 hs n3 kb_b1
 refine sq ?_
 intro K hK
 go_big_op
 go_fit (g9_any 0 1 _ (by decide) (by decide) (by decide) (by decide))
 rintro e w_4 ⟨_,rfl,⟨n_ca,o_ca,k_ca,c_ca,n_cb,o_cb,k_cb,c_cb,rfl,c1,c2⟩,hb_4⟩
 replace hs:=hs.bl hb_4
 refine hK _ _ rfl trivial ?_
 clear hK K
 refine sq ?_
 intro K hK
 go_big_op
 go_fit (g9_any 0 0 _ (by decide) (by decide) (by decide) (by decide))
 rintro e w_5 ⟨_,rfl,⟨n_da,o_da,k_da,c_da,n_db,o_db,k_db,c_db,rfl,d1,d2⟩,hb_5⟩
 replace hs:=hs.bl hb_5
 refine hK _ _ rfl trivial ?_
 clear hK K
 refine sq ?_
 refine .al hs ?_;clear hs;intro p_b2 w_6 hs n6 kb_b2
 refine sq ?_
 refine .al hs ?_;clear hs;intro p_b3 w_7 hs n7 kb_b3
 refine sm (ze (hK2 _ _ ?_))
 refine wp_ret ?_
 have k1_7:=(((((kb hb_2).b n3).b hb_4).b hb_5).b n6).b n7
 replace a1:=a1.k k1_7
 replace a2:=a2.k k1_7
 have k2_7:=((((kb n3).b hb_4).b hb_5).b n6).b n7
 replace b1:=b1.k k2_7
 replace b2:=b2.k k2_7
 have k4_7:=((kb hb_5).b n6).b n7
 replace c1:=c1.k k4_7
 replace c2:=c2.k k4_7
 have k5_7:=(kb n6).b n7
 replace d1:=d1.k k5_7
 replace d2:=d2.k k5_7
 try dsimp only [Exit.then,Exit.inBlock]
 refine bodyPost_ret (v:=(.slice (some ⟨p_b3,0,none⟩) 2 2)) (by simp[results,Tryz.results26,go_sem]) rfl ?_
 exact⟨_,_,rfl,mc2 hs.g0 (sc2 hs.g2 a1 a2 b1 b2) (sc2 hs.g1 c1 c2 d1 d2),hs.b⟩
section
variable {w:World} {va vb:Value} {x y:Int} {l m:Nat}
theorem told9_yes (ha:PC w va x y) (hq:PN w vb x l y m) (hl:l≤80000000) (hm:m≤80000000) :
  Calls Tryz.prog 27 #[va,.int .i64 0,vb,.int .i64 0] w fun e w'=>e = .returned (.bool true)∧Below w.heap.size w w':=by
 obtain⟨n_0a,o_0a,k_0a,c_0a,n_0b,o_0b,k_0b,c_0b,rfl,ha1,ha2⟩:=ha
 obtain⟨n_2a,o_2a,k_2a,c_2a,n_2b,o_2b,k_2b,c_2b,rfl,hq1,hq2⟩:=hq
 go_enter Tryz.func27,Tryz.ntmps27
 have hs:=St.nil w
 refine zk fun K1 hK1=>rg [0,1,2] ?_
 refine sq ?_
 refine .al hs ?_;clear hs;intro p_b1 w_1 hs n1 kb_b1
 refine sq ?_
 refine .al hs ?_;clear hs;intro p_b2 w_2 hs n2 kb_b2
 refine sm (ze (hK1 _ _ ?_))
 refine zk fun K2 hK2 => ?_
 refine zk fun K3 hK3=>rg [0,1] ?_
 refine sm ?_
 refine sr (ze (hK3 _ _ ?_))
 refine cf ?_
 refine wp_skip ?_
 refine hK2 _ _ ?_
 refine zk fun K4 hK4=>rg [0,1,2,3,4,5,6,7] ?_
 refine xmr ?_
 refine sm ?_
 refine sq ?_
 refine .r4 hs.g1.f4 ?_
 refine sq ?_
 refine .r4 hs.g0.f4 ?_
 refine sq ?_
 intro K hK
 have k0_2:=(kb n1).b n2
 replace ha1:=ha1.k k0_2
 replace ha2:=ha2.k k0_2
 replace hq1:=hq1.k k0_2
 replace hq2:=hq2.k k0_2
 go_big_op
 go_fit (rgSame_any (PC.mk' ha1 ha2) (PN.mk' hq1 hq2) (by omega) (by omega) )
 rintro e w_3 ⟨rfl,hb_3⟩
 replace hs:=hs.bl hb_3
 refine hK _ _ rfl trivial ?_
 clear hK K
 refine sr ?_
 refine sm (ze (hK4 _ _ ?_))
 refine wp_ret ?_
 try dsimp only [Exit.then,Exit.inBlock]
 refine bodyPost_ret (v:=(.bool true)) (by simp[results,Tryz.results27,go_sem]) rfl ?_
 have hb:=hs.b
 exact⟨rfl,hb⟩
end
theorem det_simple:Dt.det 2 (at2 [[(1,0),(2,0)],[(0,1),(0,0)]])=((0,-2):Int × Int):=by decide +kernel
theorem minB_simple:MinB 2 2 67 (at2 [[(1,0),(2,0)],[(0,1),(0,0)]]) :=
 minB_of (T:=2) (b:=fun _=>1) (by decide) (by decide) fun i hi q hq=>(bd_small (by decide)).at2
theorem awake9_any (w:World) :
  Calls Tryz.prog 6 #[] w fun e w'=>e = .returned (.bool true)∧Below w.heap.size w w':=by
 go_enter Tryz.func6,Tryz.ntmps6
 have hs:=St.nil w
 refine zk fun K1 hK1=>rg [0] ?_
 refine sm (ze (hK1 _ _ ?_))
 refine zk fun K2 hK2=>rg [0,1,2,3,4,5,6,7] ?_
 refine sq ?_
 intro K hK
 go_big_op
 go_fit (simple9_any _)
 rintro e w_1 ⟨o_S,c_S,rfl,m_S,hb_1⟩
 replace hs:=hs.bl hb_1
 refine hK _ _ rfl trivial ?_
 clear hK K
 refine sq ?_
 intro K hK
 go_big_op
 go_fit (det_ok (m_S.mn (bd_small (by decide))) rfl gd_simple rfl minB_simple (by decide) (by decide))
 rintro e w_2 ⟨_,rfl,⟨n_da,o_da,k_da,c_da,n_db,o_db,k_db,c_db,rfl,d1,d2⟩,hb_2⟩
 replace m_S:=m_S.bl hb_2;replace hs:=hs.bl hb_2
 rw[det_simple] at d1 d2
 refine hK _ _ rfl trivial ?_
 clear hK K
 refine xmr ?_
 refine sr ?_
 refine sq ?_
 refine .al hs ?_;clear hs;intro p_b1 w_3 hs n3 kb_b1
 refine sq ?_
 refine .s4 hs.g0 (fun _=>hs.u0 kb_b1) ?_;clear hs;intro w_4 hs hd4 ho4
 refine sm (ze (hK2 _ _ ?_))
 refine zk fun K3 hK3 => ?_
 refine wp_region_f4 [(0,false),(1,false),(2,true),(3,true),(4,false)] [] [] (fun _=>default) [0,99,99,99,99] [] (.c hs.g0 .n) fn fun w_5 n5 => ?_
 replace hs:=hs.bl n5
 refine f4 ?_
 refine fmv ?_
 refine fl fun w_6 n6 => ?_
 replace hs:=hs.bl n6
 intro K hK
 go_big_op
 go_fit (g9_any 0 (-2) _ (by decide) (by decide) (by decide) (by decide))
 rintro e w_7 ⟨_,rfl,⟨n_aa,o_aa,k_aa,c_aa,n_ab,o_ab,k_ab,c_ab,rfl,a1,a2⟩,hb_7⟩
 replace hs:=hs.bl hb_7
 have La1:=hide (a1.lenOf (zlen_small8 (z:=0) (by decide)))
 have La2:=hide (a2.lenOf (zlen_small8 (z := -2) (by decide)))
 refine hK _ _ rfl ⟨hb_7,(ai hs.g0 trivial)⟩ ?_
 clear hK K
 refine fl fun w_8 n8 => ?_
 replace hs:=hs.bl n8
 intro K hK
 have k2_8:=(((((kb n3).o hd4 ho4).b n5).b n6).b hb_7).b n8
 replace d1:=d1.k k2_8
 replace d2:=d2.k k2_8
 have k7_8:=kb n8
 replace a1:=a1.k k7_8
 replace a2:=a2.k k7_8
 go_big_op
 go_fit (told9_yes (.mk' d1 d2) (.mk' (a1.zn La1.out) (a2.zn La2.out)) (by decide) (by decide))
 rintro e w_9 ⟨rfl,hb_9⟩
 replace hs:=hs.bl hb_9
 refine hK _ _ rfl ⟨hb_9,(ai hs.g0 trivial)⟩ ?_
 clear hK K
 refine fmv ?_
 refine e0 hs ?_;clear hs;intro w_10 hs n10
 apply wpTail_end
 refine hK3 _ _ ?_
 refine wp_ret ?_
 try dsimp only [Exit.then,Exit.inBlock]
 refine bodyPost_ret (v:=(.bool true)) (by simp[results,Tryz.results6,go_sem]) rfl ?_
 exact⟨rfl,hs.b⟩
set_option linter.unusedSectionVars false
def QL (n m:Nat) (M:Nat→Nat→Int × Int) (v:Nat→Int × Int):List (Rat × Rat):=(List.range n).map fun i=>qC (yR n m M v i) (Dt.det n (gG m M))
section
variable {w:World} {n k m ca cv r:Nat} {oa ov:Option Addr} {A:List (List (Int × Int))} {V:List (Int × Int)}
theorem solve_minB (hT:Tot 1048576 A) (hn:A.length=n) (h64:n≤64) (hv:SN 1048576 w ov V):MinB (n+1) (m+n) 2099153 (brdG n m (at2 A) fun _=>at1 V):=by
 obtain⟨b,hb,hbd⟩:=hT
 subst hn
 exact minB_brd (b:=b) (d:=fun _=>1048576) (T:=1048576) (D:=1048576) (by omega) hb (by rw[sN_one];omega) (fun i hi q _=>by
  unfold at2;rw[rw_eq hi];exact(hbd i hi).at1) (fun _ _ _ _=>hv.bd.at1)
variable (ha:MN 1048576 w oa A) (hna:A.length=n) (h:gd A) (hk:wd A=k) (hv:SN 1048576 w ov V) (hnv:V.length=m) (hKk:0<n→m=k) (hm:m≤1048576) (hT:Tot 1048576 A)
include ha hna h hk hv hnv hKk hm hT
theorem p_all:Calls Tryz.prog 5 #[.slice oa n ca,.slice ov m cv] w fun e w'=>SolvP n k m 1048641 2099153 (at2 A) (at1 V) e w'∧Below w.heap.size w w' :=
 have h64:n≤64:=by have:=h.1;omega
 solve_any ha hna h hk hv hnv hKk (by omega) (solve_minB hT hna h64 hv) (by omega) (hT.minB hna h64) (by omega) (by omega) (by omega)
theorem p_dep (hr:Dt.Rk n k (at2 A) r) (hlt:r<n):Calls Tryz.prog 5 #[.slice oa n ca,.slice ov m cv] w fun e w'=>e = .returned (.tuple #[.slice none 0 0,.int .i64 3])∧Below w.heap.size w w' :=
 Calls.mono (p_all ha hna h hk hv hnv hKk hm hT) fun e w' ⟨h1,h2⟩=>⟨by
  rcases h1 with ⟨_,_,_,h1⟩ | ⟨h1,_⟩ | ⟨h1,_⟩
  ·exact h1
  ·have:=Dt.Rk.eq noz one_ne h1 hr;omega
  ·have:=Dt.Rk.eq noz one_ne h1 hr;omega,h2⟩
theorem p_no (hr:Dt.Rk n k (at2 A) n) (hS:∀p x,¬Sol n m (at2 A) (at1 V) p x):Calls Tryz.prog 5 #[.slice oa n ca,.slice ov m cv] w fun e w'=>e = .returned (.tuple #[.slice none 0 0,.int .i64 10])∧Below w.heap.size w w' :=
 Calls.mono (p_all ha hna h hk hv hnv hKk hm hT) fun e w' ⟨h1,h2⟩=>⟨by
  rcases h1 with ⟨_,h3,h1,_⟩ | ⟨_,_,h1⟩ | ⟨_,p,y,h1,_⟩
  ·have:=Dt.Rk.eq noz one_ne h1 hr;omega
  ·exact h1
  ·exact absurd h1 (hS p y),h2⟩
theorem p_yes {p0:Int × Int} {x0:Nat→Int × Int} (hr:Dt.Rk n k (at2 A) n) (hD:Dt.det n (gG m (at2 A))≠0) (hS:Sol n m (at2 A) (at1 V) p0 x0):Calls Tryz.prog 5 #[.slice oa n ca,.slice ov m cv] w fun e w'=>∃o c,e = .returned (.tuple #[.slice o n c,.int .i64 0])∧LQ w' o (QL n m (at2 A) (at1 V))∧Below w.heap.size w w' :=
 Calls.mono (p_all ha hna h hk hv hnv hKk hm hT) fun e w' ⟨h1,h2⟩=>by
  rcases h1 with ⟨_,h3,h1,_⟩ | ⟨_,h1,_⟩ | ⟨_,p,y,h1,_,o,c,h3,h4⟩
  ·have:=Dt.Rk.eq noz one_ne h1 hr;omega
  ·exact absurd hS (h1 p0 x0)
  ·refine⟨o,c,h3,?_,h2⟩
   have e:(List.range n).map (fun i=>qC (y i) p)=QL n m (at2 A) (at1 V):=List.map_congr_left fun i hi=>qC_same h1.1 hD (yR_eq h1 (List.mem_range.1 hi))
   rw[←e];exact h4
theorem r_dep (hr:Dt.Rk n k (at2 A) r) (hlt:r<n):Calls Tryz.prog 9 #[.slice oa n ca,.slice ov m cv] w fun e w'=>e = .returned (.tuple #[.slice none 0 0,.int .i64 3])∧Below w.heap.size w w' :=
 have h64:n≤64:=by have:=h.1;omega
 rSolve_dep ha hna h hk (hT.minB hna h64) (by omega) (by omega) (by omega) hr hlt
theorem r_all (hr:Dt.Rk n k (at2 A) n) (hD:Dt.det n (gG m (at2 A))≠0):Calls Tryz.prog 9 #[.slice oa n ca,.slice ov m cv] w fun e w'=>RSolP n k m (at2 A) (at1 V) e w'∧Below w.heap.size w w':=by
 have h64:n≤64:=by have:=h.1;omega
 refine rSolve_any (L:=2097217) ha hna h hk hv hnv hKk (by omega) (hT.minB hna h64) (by omega) (by omega) ?_ (by omega) (by omega) (by omega) (by omega) hr hD
 rcases Nat.eq_zero_or_pos n with h0 | h0
 ·subst h0
  intro s f g hf _
  rcases Nat.eq_zero_or_pos s with h1 | h1
  ·subst h1;exact zl_up (zl_one 0 0) (by omega)
  ·exact absurd (hf 0 h1).1 (Nat.not_lt_zero _)
 ·obtain rfl:=hKk h0
  exact hT.gram hna h64 (by have:=h.2.1;omega)
theorem gram_short:MinB n n 2097217 (gG m (at2 A)):=by
 have h64:n≤64:=by have:=h.1;omega
 rcases Nat.eq_zero_or_pos n with h0 | h0
 ·subst h0
  intro s f g hf _
  rcases Nat.eq_zero_or_pos s with h1 | h1
  ·subst h1;exact zl_up (zl_one 0 0) (by omega)
  ·exact absurd (hf 0 h1).1 (Nat.not_lt_zero _)
 ·obtain rfl:=hKk h0
  exact hT.gram hna h64 (by have:=h.2.1;omega)
theorem qL_len (hD:Dt.det n (gG m (at2 A))≠0):∀i (hi:i<(QL n m (at2 A) (at1 V)).length),(dig (QL n m (at2 A) (at1 V))[i].1.num.natAbs).length≤44000000∧(dig ((QL n m (at2 A) (at1 V))[i].1.den:Int).natAbs).length≤44000000∧(dig (QL n m (at2 A) (at1 V))[i].2.num.natAbs).length≤44000000∧(dig ((QL n m (at2 A) (at1 V))[i].2.den:Int).natAbs).length≤44000000:=by
 intro i hi
 have h64:n≤64:=by have:=h.1;omega
 have hin:i<n:=by simpa [QL] using hi
 have hBG:=gram_short ha hna h hk hv hnv hKk hm hT
 have LD:zl 2097217 (Dt.det n (gG m (at2 A))):=hBG n id id (fun r hr=>⟨hr,hr⟩) (fun r q h1 h2 h3=>by simp only[id] at h3;omega)
 have HA:BdM 2097217 (mkM n n (adjE n (gG m (at2 A)))):=bdM_mk fun i hi j hj=>by
  unfold adjE
  exact zl_sg (hBG (n - 1) (Dt.skip j) (Dt.skip i) (fun r hr=>⟨by unfold Dt.skip;split <;> omega,by unfold Dt.skip;split <;> omega⟩) (fun r q h1 h2 h3=>by unfold Dt.skip at h3;split at h3 <;> split at h3 <;> omega))
 have HR:Bd (1048576+1048576+1+m) ((List.range n).map (rS m (at2 A) (at1 V))):=fun p hp=>by
  obtain⟨j,_,rfl⟩:=List.mem_map.1 hp
  exact zl_sum fun c _=>zl_mP hv.bd.at1 (zl_cP (at2_bd ha.bd))
 have HY:=rwT_bd (i:=n) (k:=n) HR HA
 rw[rw_yR] at HY
 have LY:zl _ (yR n m (at2 A) (at1 V) i):=HY _ (List.mem_map.2 ⟨i,List.mem_range.2 hin,rfl⟩)
 have e:(QL n m (at2 A) (at1 V))[i]=qC (yR n m (at2 A) (at1 V) i) (Dt.det n (gG m (at2 A))):=by simp[QL]
 rw[e]
 have:=qC_len hD LY LD
 omega
theorem r_no (hr:Dt.Rk n k (at2 A) n) (hD:Dt.det n (gG m (at2 A))≠0) (hS:∀p x,¬Sol n m (at2 A) (at1 V) p x):Calls Tryz.prog 9 #[.slice oa n ca,.slice ov m cv] w fun e w'=>e = .returned (.tuple #[.slice none 0 0,.int .i64 10])∧Below w.heap.size w w' :=
 Calls.mono (r_all ha hna h hk hv hnv hKk hm hT hr hD) fun e w' ⟨h1,h2⟩=>⟨by
  rcases h1 with ⟨_,h1⟩ | ⟨h1,_⟩
  ·exact h1
  ·exact absurd (yR_sol hD h1) (hS _ _),h2⟩
theorem r_yes {p0:Int × Int} {x0:Nat→Int × Int} (hr:Dt.Rk n k (at2 A) n) (hD:Dt.det n (gG m (at2 A))≠0) (hS:Sol n m (at2 A) (at1 V) p0 x0):Calls Tryz.prog 9 #[.slice oa n ca,.slice ov m cv] w fun e w'=>∃o c,e = .returned (.tuple #[.slice o n c,.int .i64 0])∧LQ w' o (QL n m (at2 A) (at1 V))∧Below w.heap.size w w' :=
 Calls.mono (r_all ha hna h hk hv hnv hKk hm hT hr hD) fun e w' ⟨h1,h2⟩=>by
  rcases h1 with ⟨h1,_⟩ | ⟨_,o,c,h3,h4⟩
  ·exact absurd (fun c hc=>yR_ok hS hc) h1
  ·exact⟨o,c,h3,h4,h2⟩
end
end Go.Proofs.YthmolpepinolkaaGreat
