/- The walk of GdetSolves (tools/gensolves.py prints it). -/
import Derived.Test.YthmolpepinolkaaGreatO15ToC7
namespace Go.Proofs.YthmolpepinolkaaGreat
open Go Go.RowKit Dig
set_option maxHeartbeats 4000000
set_option maxRecDepth 20000
set_option linter.unusedVariables false
set_option linter.unusedSimpArgs false
section
variable {w:World} {n k m ca cv r:Nat} {oa ov:Option Addr} {A:List (List (Int × Int))} {V:List (Int × Int)}
theorem sol_bad (ha:MN 1048576 w oa A) (hna:A.length=n) (ln:n≤1048576) (h:¬gd A) :
  Calls Tryz.prog 3 #[.slice oa n ca,.slice ov m cv] w fun e w'=>e = .returned (.bool true)∧Below w.heap.size w w':=by
 have HA:=hide ha
 have HG:=hide h
 clear ha h
 go_enter Tryz.func3,Tryz.ntmps3
 have hs:=St.nil w
 refine zk fun K1 hK1=>rg [0] ?_
 refine sm (ze (hK1 _ _ ?_))
 refine zk fun K2 hK2=>rg [0,1,2,3,4,5,6,7] ?_
 refine xmm ?_
 refine sq ?_
 intro K hK
 have hb:=hs.b
 go_big_op
 go_fit (solve_bad (HA.out.bl stab_n hb) hna HG.out (by omega))
 rintro e w_1 ⟨rfl,hb_1⟩
 clear hb
 replace hs:=hs.bl hb_1
 refine hK _ _ rfl trivial ?_
 clear hK K
 refine xmr ?_
 refine xrm ?_
 refine sm (ze (hK2 _ _ ?_))
 refine zk fun K3 hK3 => ?_
 refine zk fun K4 hK4=>rg [0,1] ?_
 refine sq ?_
 intro K hK
 go_big_op
 go_fit (awake9_any _)
 rintro e w_2 ⟨rfl,hb_2⟩
 replace hs:=hs.bl hb_2
 refine hK _ _ rfl trivial ?_
 clear hK K
 refine sr (ze (hK4 _ _ ?_))
 refine cf ?_
 refine wp_skip ?_
 refine hK3 _ _ ?_
 refine zk fun K5 hK5 => ?_
 refine zk fun K6 hK6=>rg [0,1,2,3,4,5,6,7,8,9,10,11,12,13,14] ?_
 refine sm ?_
 refine sq ?_
 intro K hK
 have hb:=hs.b
 go_big_op
 go_fit (rGood_any (HA.out.bl stab_n hb) hna (by omega))
 rintro e w_3 ⟨rfl,hb_3⟩
 clear hb
 replace hs:=hs.bl hb_3
 rw[decide_eq_false HG.out]
 refine hK _ _ rfl trivial ?_
 clear hK K
 refine xrm ?_
 refine sk ?_
 refine sk ?_
 refine sk ?_
 refine sk ?_
 refine sk ?_
 refine sk ?_
 refine sk ?_
 refine sk ?_
 refine sk ?_
 refine sk ?_
 refine sr (ze (hK6 _ _ ?_))
 refine ct ?_
 refine zk fun K7 hK7=>rg [0,1,2,3,4,5,6,7] ?_
 refine xmr ?_
 refine xmm ?_
 refine xrr ?_
 refine sr ?_
 refine sm (ze (hK7 _ _ ?_))
 refine wp_ret ?_
 try dsimp only [Exit.then,Exit.inBlock]
 refine bodyPost_ret (v:=(.bool true)) (by simp[results,Tryz.results3,go_sem]) rfl ?_
 exact⟨rfl,hs.b⟩
theorem sol_len (ha:MN 1048576 w oa A) (hna:A.length=n) (ln:n≤1048576) (h:gd A) (hk:wd A=k) (hn0:0<n) (hmk:m≠k) :
  Calls Tryz.prog 3 #[.slice oa n ca,.slice ov m cv] w fun e w'=>e = .returned (.bool true)∧Below w.heap.size w w':=by
 have HA:=hide ha
 have HG:=hide h
 have HK:=hide hk
 have t3:((m:Int) != (k:Int))=true:=bne_iff_ne.2 (by omega)
 have t4:(m=k)=False:=eq_false hmk
 clear ha h hk
 go_enter Tryz.func3,Tryz.ntmps3
 have hs:=St.nil w
 refine zk fun K1 hK1=>rg [0] ?_
 refine sm (ze (hK1 _ _ ?_))
 refine zk fun K2 hK2=>rg [0,1,2,3,4,5,6,7] ?_
 refine xmm ?_
 refine sq ?_
 intro K hK
 have hb:=hs.b
 go_big_op
 go_fit (solve_len (HA.out.bl stab_n hb) hna HG.out HK.out hn0 hmk)
 rintro e w_1 ⟨rfl,hb_1⟩
 clear hb
 replace hs:=hs.bl hb_1
 refine hK _ _ rfl trivial ?_
 clear hK K
 refine xmr ?_
 refine xrm ?_
 refine sm (ze (hK2 _ _ ?_))
 refine zk fun K3 hK3 => ?_
 refine zk fun K4 hK4=>rg [0,1] ?_
 refine sq ?_
 intro K hK
 go_big_op
 go_fit (awake9_any _)
 rintro e w_2 ⟨rfl,hb_2⟩
 replace hs:=hs.bl hb_2
 refine hK _ _ rfl trivial ?_
 clear hK K
 refine sr (ze (hK4 _ _ ?_))
 refine cf ?_
 refine wp_skip ?_
 refine hK3 _ _ ?_
 refine zk fun K5 hK5 => ?_
 refine zk fun K6 hK6=>rg [0,1,2,3,4,5,6,7,8,9,10,11,12,13,14] ?_
 refine sm ?_
 refine sq ?_
 intro K hK
 have hb:=hs.b
 go_big_op
 go_fit (rGood_any (HA.out.bl stab_n hb) hna (by omega))
 rintro e w_3 ⟨rfl,hb_3⟩
 clear hb
 replace hs:=hs.bl hb_3
 rw[decide_eq_true HG.out]
 refine hK _ _ rfl trivial ?_
 clear hK K
 refine xrm ?_
 refine xmr ?_
 refine xrm ?_
 refine xmr ?_
 refine sm ?_
 refine sq ?_
 intro K hK
 have hb:=hs.b
 go_big_op
 go_fit (rCols_any (HA.out.bl stab_n hb) hna HK.out)
 rintro e w_4 ⟨rfl,hb_4⟩
 clear hb
 replace hs:=hs.bl hb_4
 refine hK _ _ rfl trivial ?_
 clear hK K
 refine xrr ?_
 refine sr (ze (hK6 _ _ ?_))
 refine ct ?_
 refine zk fun K7 hK7=>rg [0,1,2,3,4,5,6,7] ?_
 refine xmr ?_
 refine xmm ?_
 refine xrr ?_
 refine sr ?_
 refine sm (ze (hK7 _ _ ?_))
 refine wp_ret ?_
 try dsimp only [Exit.then,Exit.inBlock]
 refine bodyPost_ret (v:=(.bool true)) (by simp[results,Tryz.results3,go_sem]) rfl ?_
 exact⟨rfl,hs.b⟩
theorem sol_no0 (ha:MN 1048576 w oa A) (hna:A.length=n) (h:gd A) (hk:wd A=k) (hv:SN 1048576 w ov V) (hnv:V.length=m) (hm:m≤1048576) (hT:Tot 1048576 A) (hn0:n=0) (hr:Dt.Rk n k (at2 A) n) (hD:Dt.det n (gG m (at2 A))≠0) (hS:∀p x,¬Sol n m (at2 A) (at1 V) p x) :
  Calls Tryz.prog 3 #[.slice oa n ca,.slice ov m cv] w fun e w'=>e = .returned (.bool true)∧Below w.heap.size w w':=by
 have HA:=hide ha
 have HV:=hide hv
 have HG:=hide h
 have HK:=hide hk
 have HT:=hide hT
 have HR:=hide hr
 have hn64:n≤64:=by have:=h.1;omega
 have HD:=hide hD
 have HS:=hide hS
 have HN0:=hide hn0
 have t0:¬0<n:=by omega
 clear ha hv h hk hT hr hD hS hn0
 go_enter Tryz.func3,Tryz.ntmps3
 have hs:=St.nil w
 refine zk fun K1 hK1=>rg [0] ?_
 refine sm (ze (hK1 _ _ ?_))
 refine zk fun K2 hK2=>rg [0,1,2,3,4,5,6,7] ?_
 refine xmm ?_
 refine sq ?_
 intro K hK
 have hb:=hs.b
 go_big_op
 go_fit (p_no (HA.out.bl stab_n hb) hna HG.out HK.out (HV.out.bl stab_n hb) hnv (fun c↦absurd HN0.out (by omega)) hm HT.out HR.out HS.out)
 rintro e w_1 ⟨rfl,hb_1⟩
 clear hb
 replace hs:=hs.bl hb_1
 refine hK _ _ rfl trivial ?_
 clear hK K
 refine xmr ?_
 refine xrm ?_
 refine sm (ze (hK2 _ _ ?_))
 refine zk fun K3 hK3 => ?_
 refine zk fun K4 hK4=>rg [0,1] ?_
 refine sq ?_
 intro K hK
 go_big_op
 go_fit (awake9_any _)
 rintro e w_2 ⟨rfl,hb_2⟩
 replace hs:=hs.bl hb_2
 refine hK _ _ rfl trivial ?_
 clear hK K
 refine sr (ze (hK4 _ _ ?_))
 refine cf ?_
 refine wp_skip ?_
 refine hK3 _ _ ?_
 refine zk fun K5 hK5 => ?_
 refine zk fun K6 hK6=>rg [0,1,2,3,4,5,6,7,8,9,10,11,12,13,14] ?_
 refine sm ?_
 refine sq ?_
 intro K hK
 have hb:=hs.b
 go_big_op
 go_fit (rGood_any (HA.out.bl stab_n hb) hna (by omega))
 rintro e w_3 ⟨rfl,hb_3⟩
 clear hb
 replace hs:=hs.bl hb_3
 rw[decide_eq_true HG.out]
 refine hK _ _ rfl trivial ?_
 clear hK K
 refine xrm ?_
 refine xmr ?_
 refine xrm ?_
 refine sk ?_
 refine sk ?_
 refine sk ?_
 refine sk ?_
 refine sk ?_
 refine sr ?_
 refine sr (ze (hK6 _ _ ?_))
 refine cf ?_
 refine wp_skip ?_
 refine hK5 _ _ ?_
 refine zk fun K7 hK7=>rg [0,1,2,3,4,5,6,7] ?_
 refine xmm ?_
 refine sq ?_
 intro K hK
 have hb:=hs.b
 go_big_op
 go_fit (r_no (HA.out.bl stab_n hb) hna HG.out HK.out (HV.out.bl stab_n hb) hnv (fun c↦absurd HN0.out (by omega)) hm HT.out HR.out HD.out HS.out)
 rintro e w_4 ⟨rfl,hb_4⟩
 clear hb
 replace hs:=hs.bl hb_4
 refine hK _ _ rfl trivial ?_
 clear hK K
 refine xmr ?_
 refine xrm ?_
 refine sm (ze (hK7 _ _ ?_))
 refine zk fun K8 hK8 => ?_
 refine zk fun K9 hK9=>rg [0,1] ?_
 refine sm ?_
 refine sr (ze (hK9 _ _ ?_))
 refine ct ?_
 refine zk fun K10 hK10=>rg [0,1,2,3,4,5,6,7,8] ?_
 refine xmm ?_
 refine xrm ?_
 refine xmr ?_
 refine xrr ?_
 refine sm (ze (hK10 _ _ ?_))
 refine wp_ret ?_
 try dsimp only [Exit.then,Exit.inBlock]
 refine bodyPost_ret (v:=(.bool true)) (by simp[results,Tryz.results3,go_sem]) rfl ?_
 exact⟨rfl,hs.b⟩
theorem sol_yes0 (ha:MN 1048576 w oa A) (hna:A.length=n) (h:gd A) (hk:wd A=k) (hv:SN 1048576 w ov V) (hnv:V.length=m) (hm:m≤1048576) (hT:Tot 1048576 A) (hn0:n=0) {p0:Int × Int} {x0:Nat→Int × Int} (hr:Dt.Rk n k (at2 A) n) (hD:Dt.det n (gG m (at2 A))≠0) (hS:Sol n m (at2 A) (at1 V) p0 x0) :
  Calls Tryz.prog 3 #[.slice oa n ca,.slice ov m cv] w fun e w'=>e = .returned (.bool true)∧Below w.heap.size w w':=by
 have HA:=hide ha
 have HV:=hide hv
 have HG:=hide h
 have HK:=hide hk
 have HT:=hide hT
 have HR:=hide hr
 have hn64:n≤64:=by have:=h.1;omega
 have HD:=hide hD
 have HS:=hide hS
 have HN0:=hide hn0
 have t0:¬0<n:=by omega
 have hQl:(QL n m (at2 A) (at1 V)).length=n:=by simp[QL]
 obtain⟨Q,hQ⟩:∃Q,QL n m (at2 A) (at1 V)=Q:=⟨_,rfl⟩
 have HLQ:=hide (show ∀i (hi:i<Q.length),(dig Q[i].1.num.natAbs).length≤44000000∧(dig (Q[i].1.den:Int).natAbs).length≤44000000∧(dig Q[i].2.num.natAbs).length≤44000000∧(dig (Q[i].2.den:Int).natAbs).length≤44000000 from by
  rw[←hQ];exact qL_len ha hna h hk hv hnv (fun c=>absurd hn0 (by omega)) hm hT hD)
 have HQE:=hide hQ
 rw[hQ] at hQl
 have HQX:=hide (fun w1 (hbw:Below w.heap.size w w1)=>p_yes (ca:=ca) (cv:=cv) (HA.out.bl stab_n hbw) hna HG.out HK.out (HV.out.bl stab_n hbw) hnv (fun c↦absurd HN0.out (by omega)) hm HT.out HR.out HD.out HS.out)
 have HQZ:=hide (fun w1 (hbw:Below w.heap.size w w1)=>r_yes (ca:=ca) (cv:=cv) (HA.out.bl stab_n hbw) hna HG.out HK.out (HV.out.bl stab_n hbw) hnv (fun c↦absurd HN0.out (by omega)) hm HT.out HR.out HD.out HS.out)
 rw[hQ] at HQX HQZ
 clear hQ HQE
 clear ha hv h hk hT hr hD hS hn0
 go_enter Tryz.func3,Tryz.ntmps3
 have hs:=St.nil w
 refine zk fun K1 hK1=>rg [0] ?_
 refine sm (ze (hK1 _ _ ?_))
 refine zk fun K2 hK2=>rg [0,1,2,3,4,5,6,7] ?_
 refine xmm ?_
 refine sq ?_
 intro K hK
 go_big_op
 go_fit (HQX.out _ hs.b)
 rintro e w_1 ⟨o_X,c_X,rfl,m_X,hb_1⟩
 replace hs:=hs.bl hb_1
 refine hK _ _ rfl trivial ?_
 clear hK K
 refine xmr ?_
 refine xrm ?_
 refine sm (ze (hK2 _ _ ?_))
 refine zk fun K3 hK3 => ?_
 refine zk fun K4 hK4=>rg [0,1] ?_
 refine sq ?_
 intro K hK
 go_big_op
 go_fit (awake9_any _)
 rintro e w_2 ⟨rfl,hb_2⟩
 replace m_X:=m_X.bl hb_2;replace hs:=hs.bl hb_2
 refine hK _ _ rfl trivial ?_
 clear hK K
 refine sr (ze (hK4 _ _ ?_))
 refine cf ?_
 refine wp_skip ?_
 refine hK3 _ _ ?_
 refine zk fun K5 hK5 => ?_
 refine zk fun K6 hK6=>rg [0,1,2,3,4,5,6,7,8,9,10,11,12,13,14] ?_
 refine sm ?_
 refine sq ?_
 intro K hK
 have hb:=hs.b
 go_big_op
 go_fit (rGood_any (HA.out.bl stab_n hb) hna (by omega))
 rintro e w_3 ⟨rfl,hb_3⟩
 clear hb
 replace m_X:=m_X.bl hb_3;replace hs:=hs.bl hb_3
 rw[decide_eq_true HG.out]
 refine hK _ _ rfl trivial ?_
 clear hK K
 refine xrm ?_
 refine xmr ?_
 refine xrm ?_
 refine sk ?_
 refine sk ?_
 refine sk ?_
 refine sk ?_
 refine sk ?_
 refine sr ?_
 refine sr (ze (hK6 _ _ ?_))
 refine cf ?_
 refine wp_skip ?_
 refine hK5 _ _ ?_
 refine zk fun K7 hK7=>rg [0,1,2,3,4,5,6,7] ?_
 refine xmm ?_
 refine sq ?_
 intro K hK
 go_big_op
 go_fit (HQZ.out _ hs.b)
 rintro e w_4 ⟨o_Z,c_Z,rfl,m_Z,hb_4⟩
 replace m_X:=m_X.bl hb_4;replace hs:=hs.bl hb_4
 refine hK _ _ rfl trivial ?_
 clear hK K
 refine xmr ?_
 refine xrm ?_
 refine sm (ze (hK7 _ _ ?_))
 refine zk fun K8 hK8 => ?_
 refine zk fun K9 hK9=>rg [0,1] ?_
 refine sm ?_
 refine sr (ze (hK9 _ _ ?_))
 refine cf ?_
 refine wp_skip ?_
 refine hK8 _ _ ?_
 refine zk fun K10 hK10 => ?_
 refine zk fun K11 hK11=>rg [0,1,2,3,4,5,6,7,8] ?_
 refine xmr ?_
 refine xmm ?_
 refine xrm ?_
 refine xrr ?_
 refine sr (ze (hK11 _ _ ?_))
 refine cf ?_
 refine wp_skip ?_
 refine hK10 _ _ ?_
 refine zk fun K12 hK12 => ?_
 refine zk fun K13 hK13=>rg [0] ?_
 refine sm (ze (hK13 _ _ ?_))
 refine wp_block ?_
 have hd5:=hs.2.1
 go_loopg [9] n (fun kz s9 wr=>∃i:Nat,s9 = .int .i64 (i:Int)∧i+kz=n∧LQ wr o_X Q∧LQ wr o_Z Q∧Below w.heap.size w wr)
 case atStart=>exact⟨0,rfl,by omega,m_X,m_Z,hs.b⟩
 case round =>
 clear m_X m_Z hs
 obtain⟨i,rfl,hin,hX,hZ,hb⟩:=hrel
 by_cases hi:i<n
 ·have HI:=hide hi
  obtain⟨g2,off2,cur2,ty2,fz2,a1,a2,a3,a4,a5,a6,a7,a8,a9,a10,a11,a12,a13,a14,a15,a16,rfl,xa,j1,j2,j3,j4,j5,j6,j7,j8,x1,x2,x3,x4⟩:=hX.op (i:=i) (by omega)
  obtain⟨g3,off3,cur3,ty3,fz3,l1,l2,l3,l4,l5,l6,l7,l8,l9,l10,l11,l12,l13,l14,l15,l16,rfl,xz,t1,t2,t3,t4,t5,t6,t7,t8,z1,z2,z3,z4⟩:=hZ.op (i:=i) (by omega)
  obtain⟨L1,L2,L3,L4⟩:=HLQ.out i (by omega)
  obtain⟨q,hq⟩:∃q,Q[i]'(by omega)=q:=⟨_,rfl⟩
  rw[hq] at x1 x2 x3 x4 z1 z2 z3 z4 L1 L2 L3 L4
  replace z1:=z1.zn L1
  replace z2:=z2.zn L2
  replace z3:=z3.zn L3
  replace z4:=z4.zn L4
  clear hq L1 L2 L3 L4
  have hs:=St.re .n hd5 (List.Sublist.refl _) hb
  refine zk fun K14 hK14 => ?_
  refine zk fun K15 hK15=>rg [0,1,2,3] ?_
  refine xmm ?_
  refine sr ?_
  refine sr (ze (hK15 _ _ ?_))
  refine ct ?_
  refine wp_skip ?_
  refine hK14 _ _ ?_
  refine zk fun K16 hK16 => ?_
  refine wp_block ?_
  refine zk fun K17 hK17 => ?_
  refine wp_region_f4 [(0,false),(1,false),(2,false),(3,false),(4,false),(5,false),(6,false),(7,false),(8,true),(9,false)] [] [] (fun _=>default) [99,99,99,0,99,99,99,1,99,99] [] (.c xa (.c xz .n)) fn fun w_6 n6 => ?_
  clear hb
  replace hX:=hX.bl n6;replace hZ:=hZ.bl n6;replace xa:=xa.bl n6;replace xz:=xz.bl n6;replace hs:=hs.bl n6
  refine fmv ?_
  refine fmv ?_
  refine f0 ?_
  apply wpFl_ld rfl rfl;(case h1=>intro w' hC K hK;have c0:=Bs.cell hC ((off2+i*8)) j1;have c1:=Bs.cell hC ((off2+i*8)+1) j2;have c2:=Bs.cell hC ((off2+i*8)+2) j3;have c3:=Bs.cell hC ((off2+i*8)+3) j4;have c4:=Bs.cell hC ((off2+i*8)+4) j5;have c5:=Bs.cell hC ((off2+i*8)+5) j6;have c6:=Bs.cell hC ((off2+i*8)+6) j7;have c7:=Bs.cell hC ((off2+i*8)+7) j8;go_big_op;exact hK);iterate 4 kernel_rfl
  refine fmv ?_
  refine fmv ?_
  refine f0 ?_
  apply wpFl_ld rfl rfl;(case h1=>intro w' hC K hK;have c0:=Bs.cell hC ((off3+i*8)) t1;have c1:=Bs.cell hC ((off3+i*8)+1) t2;have c2:=Bs.cell hC ((off3+i*8)+2) t3;have c3:=Bs.cell hC ((off3+i*8)+3) t4;have c4:=Bs.cell hC ((off3+i*8)+4) t5;have c5:=Bs.cell hC ((off3+i*8)+5) t6;have c6:=Bs.cell hC ((off3+i*8)+6) t7;have c7:=Bs.cell hC ((off3+i*8)+7) t8;go_big_op;exact hK);iterate 4 kernel_rfl
  refine fl fun w_7 n7 => ?_
  replace hX:=hX.bl n7;replace hZ:=hZ.bl n7;replace xa:=xa.bl n7;replace xz:=xz.bl n7;replace hs:=hs.bl n7
  intro K hK
  have k0_2:=(kb n6).b n7
  replace x1:=x1.k k0_2
  replace x2:=x2.k k0_2
  replace x3:=x3.k k0_2
  replace x4:=x4.k k0_2
  replace z1:=z1.k k0_2
  replace z2:=z2.k k0_2
  replace z3:=z3.k k0_2
  replace z4:=z4.k k0_2
  go_big_op
  go_fit (r7Same_ok (.mk' x1 x2 x3 x4) (.mk' z1 z2 z3 z4) (by omega) (by omega) (by omega) (by omega))
  rintro e w_8 ⟨rfl,hb_8⟩
  replace hX:=hX.bl hb_8;replace hZ:=hZ.bl hb_8;replace xa:=xa.bl hb_8;replace xz:=xz.bl hb_8;replace hs:=hs.bl hb_8
  refine hK _ _ rfl ⟨hb_8,(ai xa (ai xz trivial))⟩ ?_
  clear hK K
  refine f0 ?_
  refine e0 hs ?_;clear hs;intro w_9 hs n9
  replace hX:=hX.bl n9;replace hZ:=hZ.bl n9;replace xa:=xa.bl n9;replace xz:=xz.bl n9
  apply wpTail_end
  refine hK17 _ _ ?_
  refine cf ?_
  refine wp_skip ?_
  refine hK16 _ _ ?_
  refine rg [0,1,2] ?_
  refine xmr ?_
  refine sm ?_
  apply wpSq_end
  refine ‹∀(a':Act) (w':World),Handed _ _ a' w'→_› _ _ ?_
  go_roundg (gk - 1)
  case rel=>exact⟨i+1,by rfl,by omega,hX,hZ,hs.b⟩
  case measure=>omega
 ·have HI:=hide hi
  obtain rfl:n=i:=by omega
  have hs:=St.re .n hd5 (List.Sublist.refl _) hb
  refine zk fun K14 hK14 => ?_
  refine zk fun K15 hK15=>rg [0,1,2,3] ?_
  refine xmm ?_
  refine sr ?_
  refine sr (ze (hK15 _ _ ?_))
  refine cf ?_
  refine wp_exit ?_
  refine hK12 _ _ ?_
  refine zk fun K16 hK16=>rg [0] ?_
  refine sm (ze (hK16 _ _ ?_))
  refine wp_ret ?_
  try dsimp only [Exit.then,Exit.inBlock]
  refine bodyPost_ret (v:=(.bool true)) (by simp[results,Tryz.results3,go_sem]) rfl ?_
  exact⟨rfl,hs.b⟩
theorem sol_dep1 (ha:MN 1048576 w oa A) (hna:A.length=n) (h:gd A) (hk:wd A=m) (hv:SN 1048576 w ov V) (hnv:V.length=m) (hm:m≤1048576) (hT:Tot 1048576 A) (hn0:0<n) (hr:Dt.Rk n m (at2 A) r) (hlt:r<n) :
  Calls Tryz.prog 3 #[.slice oa n ca,.slice ov m cv] w fun e w'=>e = .returned (.bool true)∧Below w.heap.size w w':=by
 have HA:=hide ha
 have HV:=hide hv
 have HG:=hide h
 have HK:=hide hk
 have HT:=hide hT
 have HR:=hide hr
 have hn64:n≤64:=by have:=h.1;omega
 clear ha hv h hk hT hr
 go_enter Tryz.func3,Tryz.ntmps3
 have hs:=St.nil w
 refine zk fun K1 hK1=>rg [0] ?_
 refine sm (ze (hK1 _ _ ?_))
 refine zk fun K2 hK2=>rg [0,1,2,3,4,5,6,7] ?_
 refine xmm ?_
 refine sq ?_
 intro K hK
 have hb:=hs.b
 go_big_op
 go_fit (p_dep (HA.out.bl stab_n hb) hna HG.out HK.out (HV.out.bl stab_n hb) hnv (fun _↦rfl) hm HT.out HR.out hlt)
 rintro e w_1 ⟨rfl,hb_1⟩
 clear hb
 replace hs:=hs.bl hb_1
 refine hK _ _ rfl trivial ?_
 clear hK K
 refine xmr ?_
 refine xrm ?_
 refine sm (ze (hK2 _ _ ?_))
 refine zk fun K3 hK3 => ?_
 refine zk fun K4 hK4=>rg [0,1] ?_
 refine sq ?_
 intro K hK
 go_big_op
 go_fit (awake9_any _)
 rintro e w_2 ⟨rfl,hb_2⟩
 replace hs:=hs.bl hb_2
 refine hK _ _ rfl trivial ?_
 clear hK K
 refine sr (ze (hK4 _ _ ?_))
 refine cf ?_
 refine wp_skip ?_
 refine hK3 _ _ ?_
 refine zk fun K5 hK5 => ?_
 refine zk fun K6 hK6=>rg [0,1,2,3,4,5,6,7,8,9,10,11,12,13,14] ?_
 refine sm ?_
 refine sq ?_
 intro K hK
 have hb:=hs.b
 go_big_op
 go_fit (rGood_any (HA.out.bl stab_n hb) hna (by omega))
 rintro e w_3 ⟨rfl,hb_3⟩
 clear hb
 replace hs:=hs.bl hb_3
 rw[decide_eq_true HG.out]
 refine hK _ _ rfl trivial ?_
 clear hK K
 refine xrm ?_
 refine xmr ?_
 refine xrm ?_
 refine xmr ?_
 refine sm ?_
 refine sq ?_
 intro K hK
 have hb:=hs.b
 go_big_op
 go_fit (rCols_any (HA.out.bl stab_n hb) hna HK.out)
 rintro e w_4 ⟨rfl,hb_4⟩
 clear hb
 replace hs:=hs.bl hb_4
 refine hK _ _ rfl trivial ?_
 clear hK K
 refine xrr ?_
 refine sr (ze (hK6 _ _ ?_))
 refine cf ?_
 refine wp_skip ?_
 refine hK5 _ _ ?_
 refine zk fun K7 hK7=>rg [0,1,2,3,4,5,6,7] ?_
 refine xmm ?_
 refine sq ?_
 intro K hK
 have hb:=hs.b
 go_big_op
 go_fit (r_dep (HA.out.bl stab_n hb) hna HG.out HK.out (HV.out.bl stab_n hb) hnv (fun _↦rfl) hm HT.out HR.out hlt)
 rintro e w_5 ⟨rfl,hb_5⟩
 clear hb
 replace hs:=hs.bl hb_5
 refine hK _ _ rfl trivial ?_
 clear hK K
 refine xmr ?_
 refine xrm ?_
 refine sm (ze (hK7 _ _ ?_))
 refine zk fun K8 hK8 => ?_
 refine zk fun K9 hK9=>rg [0,1] ?_
 refine sm ?_
 refine sr (ze (hK9 _ _ ?_))
 refine ct ?_
 refine zk fun K10 hK10=>rg [0,1,2,3,4,5,6,7,8] ?_
 refine xmm ?_
 refine xrm ?_
 refine xmr ?_
 refine xrr ?_
 refine sm (ze (hK10 _ _ ?_))
 refine wp_ret ?_
 try dsimp only [Exit.then,Exit.inBlock]
 refine bodyPost_ret (v:=(.bool true)) (by simp[results,Tryz.results3,go_sem]) rfl ?_
 exact⟨rfl,hs.b⟩
theorem sol_no1 (ha:MN 1048576 w oa A) (hna:A.length=n) (h:gd A) (hk:wd A=m) (hv:SN 1048576 w ov V) (hnv:V.length=m) (hm:m≤1048576) (hT:Tot 1048576 A) (hn0:0<n) (hr:Dt.Rk n m (at2 A) n) (hD:Dt.det n (gG m (at2 A))≠0) (hS:∀p x,¬Sol n m (at2 A) (at1 V) p x) :
  Calls Tryz.prog 3 #[.slice oa n ca,.slice ov m cv] w fun e w'=>e = .returned (.bool true)∧Below w.heap.size w w':=by
 have HA:=hide ha
 have HV:=hide hv
 have HG:=hide h
 have HK:=hide hk
 have HT:=hide hT
 have HR:=hide hr
 have hn64:n≤64:=by have:=h.1;omega
 have HD:=hide hD
 have HS:=hide hS
 clear ha hv h hk hT hr hD hS
 go_enter Tryz.func3,Tryz.ntmps3
 have hs:=St.nil w
 refine zk fun K1 hK1=>rg [0] ?_
 refine sm (ze (hK1 _ _ ?_))
 refine zk fun K2 hK2=>rg [0,1,2,3,4,5,6,7] ?_
 refine xmm ?_
 refine sq ?_
 intro K hK
 have hb:=hs.b
 go_big_op
 go_fit (p_no (HA.out.bl stab_n hb) hna HG.out HK.out (HV.out.bl stab_n hb) hnv (fun _↦rfl) hm HT.out HR.out HS.out)
 rintro e w_1 ⟨rfl,hb_1⟩
 clear hb
 replace hs:=hs.bl hb_1
 refine hK _ _ rfl trivial ?_
 clear hK K
 refine xmr ?_
 refine xrm ?_
 refine sm (ze (hK2 _ _ ?_))
 refine zk fun K3 hK3 => ?_
 refine zk fun K4 hK4=>rg [0,1] ?_
 refine sq ?_
 intro K hK
 go_big_op
 go_fit (awake9_any _)
 rintro e w_2 ⟨rfl,hb_2⟩
 replace hs:=hs.bl hb_2
 refine hK _ _ rfl trivial ?_
 clear hK K
 refine sr (ze (hK4 _ _ ?_))
 refine cf ?_
 refine wp_skip ?_
 refine hK3 _ _ ?_
 refine zk fun K5 hK5 => ?_
 refine zk fun K6 hK6=>rg [0,1,2,3,4,5,6,7,8,9,10,11,12,13,14] ?_
 refine sm ?_
 refine sq ?_
 intro K hK
 have hb:=hs.b
 go_big_op
 go_fit (rGood_any (HA.out.bl stab_n hb) hna (by omega))
 rintro e w_3 ⟨rfl,hb_3⟩
 clear hb
 replace hs:=hs.bl hb_3
 rw[decide_eq_true HG.out]
 refine hK _ _ rfl trivial ?_
 clear hK K
 refine xrm ?_
 refine xmr ?_
 refine xrm ?_
 refine xmr ?_
 refine sm ?_
 refine sq ?_
 intro K hK
 have hb:=hs.b
 go_big_op
 go_fit (rCols_any (HA.out.bl stab_n hb) hna HK.out)
 rintro e w_4 ⟨rfl,hb_4⟩
 clear hb
 replace hs:=hs.bl hb_4
 refine hK _ _ rfl trivial ?_
 clear hK K
 refine xrr ?_
 refine sr (ze (hK6 _ _ ?_))
 refine cf ?_
 refine wp_skip ?_
 refine hK5 _ _ ?_
 refine zk fun K7 hK7=>rg [0,1,2,3,4,5,6,7] ?_
 refine xmm ?_
 refine sq ?_
 intro K hK
 have hb:=hs.b
 go_big_op
 go_fit (r_no (HA.out.bl stab_n hb) hna HG.out HK.out (HV.out.bl stab_n hb) hnv (fun _↦rfl) hm HT.out HR.out HD.out HS.out)
 rintro e w_5 ⟨rfl,hb_5⟩
 clear hb
 replace hs:=hs.bl hb_5
 refine hK _ _ rfl trivial ?_
 clear hK K
 refine xmr ?_
 refine xrm ?_
 refine sm (ze (hK7 _ _ ?_))
 refine zk fun K8 hK8 => ?_
 refine zk fun K9 hK9=>rg [0,1] ?_
 refine sm ?_
 refine sr (ze (hK9 _ _ ?_))
 refine ct ?_
 refine zk fun K10 hK10=>rg [0,1,2,3,4,5,6,7,8] ?_
 refine xmm ?_
 refine xrm ?_
 refine xmr ?_
 refine xrr ?_
 refine sm (ze (hK10 _ _ ?_))
 refine wp_ret ?_
 try dsimp only [Exit.then,Exit.inBlock]
 refine bodyPost_ret (v:=(.bool true)) (by simp[results,Tryz.results3,go_sem]) rfl ?_
 exact⟨rfl,hs.b⟩
theorem sol_yes1 (ha:MN 1048576 w oa A) (hna:A.length=n) (h:gd A) (hk:wd A=m) (hv:SN 1048576 w ov V) (hnv:V.length=m) (hm:m≤1048576) (hT:Tot 1048576 A) (hn0:0<n) {p0:Int × Int} {x0:Nat→Int × Int} (hr:Dt.Rk n m (at2 A) n) (hD:Dt.det n (gG m (at2 A))≠0) (hS:Sol n m (at2 A) (at1 V) p0 x0) :
  Calls Tryz.prog 3 #[.slice oa n ca,.slice ov m cv] w fun e w'=>e = .returned (.bool true)∧Below w.heap.size w w':=by
 have HA:=hide ha
 have HV:=hide hv
 have HG:=hide h
 have HK:=hide hk
 have HT:=hide hT
 have HR:=hide hr
 have hn64:n≤64:=by have:=h.1;omega
 have HD:=hide hD
 have HS:=hide hS
 have hQl:(QL n m (at2 A) (at1 V)).length=n:=by simp[QL]
 obtain⟨Q,hQ⟩:∃Q,QL n m (at2 A) (at1 V)=Q:=⟨_,rfl⟩
 have HLQ:=hide (show ∀i (hi:i<Q.length),(dig Q[i].1.num.natAbs).length≤44000000∧(dig (Q[i].1.den:Int).natAbs).length≤44000000∧(dig Q[i].2.num.natAbs).length≤44000000∧(dig (Q[i].2.den:Int).natAbs).length≤44000000 from by
  rw[←hQ];exact qL_len ha hna h hk hv hnv (fun _=>rfl) hm hT hD)
 have HQE:=hide hQ
 rw[hQ] at hQl
 have HQX:=hide (fun w1 (hbw:Below w.heap.size w w1)=>p_yes (ca:=ca) (cv:=cv) (HA.out.bl stab_n hbw) hna HG.out HK.out (HV.out.bl stab_n hbw) hnv (fun _↦rfl) hm HT.out HR.out HD.out HS.out)
 have HQZ:=hide (fun w1 (hbw:Below w.heap.size w w1)=>r_yes (ca:=ca) (cv:=cv) (HA.out.bl stab_n hbw) hna HG.out HK.out (HV.out.bl stab_n hbw) hnv (fun _↦rfl) hm HT.out HR.out HD.out HS.out)
 rw[hQ] at HQX HQZ
 clear hQ HQE
 clear ha hv h hk hT hr hD hS
 go_enter Tryz.func3,Tryz.ntmps3
 have hs:=St.nil w
 refine zk fun K1 hK1=>rg [0] ?_
 refine sm (ze (hK1 _ _ ?_))
 refine zk fun K2 hK2=>rg [0,1,2,3,4,5,6,7] ?_
 refine xmm ?_
 refine sq ?_
 intro K hK
 go_big_op
 go_fit (HQX.out _ hs.b)
 rintro e w_1 ⟨o_X,c_X,rfl,m_X,hb_1⟩
 replace hs:=hs.bl hb_1
 refine hK _ _ rfl trivial ?_
 clear hK K
 refine xmr ?_
 refine xrm ?_
 refine sm (ze (hK2 _ _ ?_))
 refine zk fun K3 hK3 => ?_
 refine zk fun K4 hK4=>rg [0,1] ?_
 refine sq ?_
 intro K hK
 go_big_op
 go_fit (awake9_any _)
 rintro e w_2 ⟨rfl,hb_2⟩
 replace m_X:=m_X.bl hb_2;replace hs:=hs.bl hb_2
 refine hK _ _ rfl trivial ?_
 clear hK K
 refine sr (ze (hK4 _ _ ?_))
 refine cf ?_
 refine wp_skip ?_
 refine hK3 _ _ ?_
 refine zk fun K5 hK5 => ?_
 refine zk fun K6 hK6=>rg [0,1,2,3,4,5,6,7,8,9,10,11,12,13,14] ?_
 refine sm ?_
 refine sq ?_
 intro K hK
 have hb:=hs.b
 go_big_op
 go_fit (rGood_any (HA.out.bl stab_n hb) hna (by omega))
 rintro e w_3 ⟨rfl,hb_3⟩
 clear hb
 replace m_X:=m_X.bl hb_3;replace hs:=hs.bl hb_3
 rw[decide_eq_true HG.out]
 refine hK _ _ rfl trivial ?_
 clear hK K
 refine xrm ?_
 refine xmr ?_
 refine xrm ?_
 refine xmr ?_
 refine sm ?_
 refine sq ?_
 intro K hK
 have hb:=hs.b
 go_big_op
 go_fit (rCols_any (HA.out.bl stab_n hb) hna HK.out)
 rintro e w_4 ⟨rfl,hb_4⟩
 clear hb
 replace m_X:=m_X.bl hb_4;replace hs:=hs.bl hb_4
 refine hK _ _ rfl trivial ?_
 clear hK K
 refine xrr ?_
 refine sr (ze (hK6 _ _ ?_))
 refine cf ?_
 refine wp_skip ?_
 refine hK5 _ _ ?_
 refine zk fun K7 hK7=>rg [0,1,2,3,4,5,6,7] ?_
 refine xmm ?_
 refine sq ?_
 intro K hK
 go_big_op
 go_fit (HQZ.out _ hs.b)
 rintro e w_5 ⟨o_Z,c_Z,rfl,m_Z,hb_5⟩
 replace m_X:=m_X.bl hb_5;replace hs:=hs.bl hb_5
 refine hK _ _ rfl trivial ?_
 clear hK K
 refine xmr ?_
 refine xrm ?_
 refine sm (ze (hK7 _ _ ?_))
 refine zk fun K8 hK8 => ?_
 refine zk fun K9 hK9=>rg [0,1] ?_
 refine sm ?_
 refine sr (ze (hK9 _ _ ?_))
 refine cf ?_
 refine wp_skip ?_
 refine hK8 _ _ ?_
 refine zk fun K10 hK10 => ?_
 refine zk fun K11 hK11=>rg [0,1,2,3,4,5,6,7,8] ?_
 refine xmr ?_
 refine xmm ?_
 refine xrm ?_
 refine xrr ?_
 refine sr (ze (hK11 _ _ ?_))
 refine cf ?_
 refine wp_skip ?_
 refine hK10 _ _ ?_
 refine zk fun K12 hK12 => ?_
 refine zk fun K13 hK13=>rg [0] ?_
 refine sm (ze (hK13 _ _ ?_))
 refine wp_block ?_
 have hd6:=hs.2.1
 go_loopg [9] n (fun kz s9 wr=>∃i:Nat,s9 = .int .i64 (i:Int)∧i+kz=n∧LQ wr o_X Q∧LQ wr o_Z Q∧Below w.heap.size w wr)
 case atStart=>exact⟨0,rfl,by omega,m_X,m_Z,hs.b⟩
 case round =>
 clear m_X m_Z hs
 obtain⟨i,rfl,hin,hX,hZ,hb⟩:=hrel
 by_cases hi:i<n
 ·have HI:=hide hi
  obtain⟨g2,off2,cur2,ty2,fz2,a1,a2,a3,a4,a5,a6,a7,a8,a9,a10,a11,a12,a13,a14,a15,a16,rfl,xa,j1,j2,j3,j4,j5,j6,j7,j8,x1,x2,x3,x4⟩:=hX.op (i:=i) (by omega)
  obtain⟨g3,off3,cur3,ty3,fz3,l1,l2,l3,l4,l5,l6,l7,l8,l9,l10,l11,l12,l13,l14,l15,l16,rfl,xz,t1,t2,t3,t4,t5,t6,t7,t8,z1,z2,z3,z4⟩:=hZ.op (i:=i) (by omega)
  obtain⟨L1,L2,L3,L4⟩:=HLQ.out i (by omega)
  obtain⟨q,hq⟩:∃q,Q[i]'(by omega)=q:=⟨_,rfl⟩
  rw[hq] at x1 x2 x3 x4 z1 z2 z3 z4 L1 L2 L3 L4
  replace z1:=z1.zn L1
  replace z2:=z2.zn L2
  replace z3:=z3.zn L3
  replace z4:=z4.zn L4
  clear hq L1 L2 L3 L4
  have hs:=St.re .n hd6 (List.Sublist.refl _) hb
  refine zk fun K14 hK14 => ?_
  refine zk fun K15 hK15=>rg [0,1,2,3] ?_
  refine xmm ?_
  refine sr ?_
  refine sr (ze (hK15 _ _ ?_))
  refine ct ?_
  refine wp_skip ?_
  refine hK14 _ _ ?_
  refine zk fun K16 hK16 => ?_
  refine wp_block ?_
  refine zk fun K17 hK17 => ?_
  refine wp_region_f4 [(0,false),(1,false),(2,false),(3,false),(4,false),(5,false),(6,false),(7,false),(8,true),(9,false)] [] [] (fun _=>default) [99,99,99,0,99,99,99,1,99,99] [] (.c xa (.c xz .n)) fn fun w_7 n7 => ?_
  clear hb
  replace hX:=hX.bl n7;replace hZ:=hZ.bl n7;replace xa:=xa.bl n7;replace xz:=xz.bl n7;replace hs:=hs.bl n7
  refine fmv ?_
  refine fmv ?_
  refine f0 ?_
  apply wpFl_ld rfl rfl;(case h1=>intro w' hC K hK;have c0:=Bs.cell hC ((off2+i*8)) j1;have c1:=Bs.cell hC ((off2+i*8)+1) j2;have c2:=Bs.cell hC ((off2+i*8)+2) j3;have c3:=Bs.cell hC ((off2+i*8)+3) j4;have c4:=Bs.cell hC ((off2+i*8)+4) j5;have c5:=Bs.cell hC ((off2+i*8)+5) j6;have c6:=Bs.cell hC ((off2+i*8)+6) j7;have c7:=Bs.cell hC ((off2+i*8)+7) j8;go_big_op;exact hK);iterate 4 kernel_rfl
  refine fmv ?_
  refine fmv ?_
  refine f0 ?_
  apply wpFl_ld rfl rfl;(case h1=>intro w' hC K hK;have c0:=Bs.cell hC ((off3+i*8)) t1;have c1:=Bs.cell hC ((off3+i*8)+1) t2;have c2:=Bs.cell hC ((off3+i*8)+2) t3;have c3:=Bs.cell hC ((off3+i*8)+3) t4;have c4:=Bs.cell hC ((off3+i*8)+4) t5;have c5:=Bs.cell hC ((off3+i*8)+5) t6;have c6:=Bs.cell hC ((off3+i*8)+6) t7;have c7:=Bs.cell hC ((off3+i*8)+7) t8;go_big_op;exact hK);iterate 4 kernel_rfl
  refine fl fun w_8 n8 => ?_
  replace hX:=hX.bl n8;replace hZ:=hZ.bl n8;replace xa:=xa.bl n8;replace xz:=xz.bl n8;replace hs:=hs.bl n8
  intro K hK
  have k0_2:=(kb n7).b n8
  replace x1:=x1.k k0_2
  replace x2:=x2.k k0_2
  replace x3:=x3.k k0_2
  replace x4:=x4.k k0_2
  replace z1:=z1.k k0_2
  replace z2:=z2.k k0_2
  replace z3:=z3.k k0_2
  replace z4:=z4.k k0_2
  go_big_op
  go_fit (r7Same_ok (.mk' x1 x2 x3 x4) (.mk' z1 z2 z3 z4) (by omega) (by omega) (by omega) (by omega))
  rintro e w_9 ⟨rfl,hb_9⟩
  replace hX:=hX.bl hb_9;replace hZ:=hZ.bl hb_9;replace xa:=xa.bl hb_9;replace xz:=xz.bl hb_9;replace hs:=hs.bl hb_9
  refine hK _ _ rfl ⟨hb_9,(ai xa (ai xz trivial))⟩ ?_
  clear hK K
  refine f0 ?_
  refine e0 hs ?_;clear hs;intro w_10 hs n10
  replace hX:=hX.bl n10;replace hZ:=hZ.bl n10;replace xa:=xa.bl n10;replace xz:=xz.bl n10
  apply wpTail_end
  refine hK17 _ _ ?_
  refine cf ?_
  refine wp_skip ?_
  refine hK16 _ _ ?_
  refine rg [0,1,2] ?_
  refine xmr ?_
  refine sm ?_
  apply wpSq_end
  refine ‹∀(a':Act) (w':World),Handed _ _ a' w'→_› _ _ ?_
  go_roundg (gk - 1)
  case rel=>exact⟨i+1,by rfl,by omega,hX,hZ,hs.b⟩
  case measure=>omega
 ·have HI:=hide hi
  obtain rfl:n=i:=by omega
  have hs:=St.re .n hd6 (List.Sublist.refl _) hb
  refine zk fun K14 hK14 => ?_
  refine zk fun K15 hK15=>rg [0,1,2,3] ?_
  refine xmm ?_
  refine sr ?_
  refine sr (ze (hK15 _ _ ?_))
  refine cf ?_
  refine wp_exit ?_
  refine hK12 _ _ ?_
  refine zk fun K16 hK16=>rg [0] ?_
  refine sm (ze (hK16 _ _ ?_))
  refine wp_ret ?_
  try dsimp only [Exit.then,Exit.inBlock]
  refine bodyPost_ret (v:=(.bool true)) (by simp[results,Tryz.results3,go_sem]) rfl ?_
  exact⟨rfl,hs.b⟩
end
theorem walk_GdetSolves (w:World) (oa:Option Addr) (na ca:Nat) (A:List (List (Int × Int))) (ha:MN 1048576 w oa A) (hna:A.length=na) (la:na≤1048576) (ta:Tot 1048576 A)
  (ov:Option Addr) (nv cv:Nat) (V:List (Int × Int)) (hv:SN 1048576 w ov V) (hnv:V.length=nv) (lv:nv≤1048576) :
  Calls Tryz.prog 3 #[.slice oa na ca,.slice ov nv cv] w fun e w'=>e = .returned (.bool true)∧Below w.heap.size w w':=by
 by_cases h:gd A
 ·obtain⟨r,hr⟩:=Dt.rk_exists one_ne na (wd A) (at2 A)
  have hle:r≤na:=by
   obtain⟨f,g,hfg,hne,_⟩:=id hr
   exact Nat.le_of_not_lt fun c=>hne (Dt.minor_big (h:=na) c fun i hi=>(hfg i hi).1)
  rcases Nat.eq_zero_or_pos na with h0 | h0
  ·obtain rfl:r=na:=by omega
   have hD:Dt.det r (gG nv (at2 A))≠0:=by rw[h0];exact one_ne
   by_cases hS:∃p x,Sol r nv (at2 A) (at1 V) p x
   ·obtain⟨p,x,hS⟩:=hS
    exact sol_yes0 ha hna h rfl hv hnv lv ta h0 hr hD hS
   ·exact sol_no0 ha hna h rfl hv hnv lv ta h0 hr hD fun p x c=>hS ⟨p,x,c⟩
  ·by_cases hm:nv=wd A
   ·rw[←hm] at hr
    rcases Nat.lt_or_ge r na with c | c
    ·exact sol_dep1 ha hna h hm.symm hv hnv lv ta h0 hr c
    ·obtain rfl:r=na:=by omega
     have hD:=(gram_rk hr).1 rfl
     by_cases hS:∃p x,Sol r nv (at2 A) (at1 V) p x
     ·obtain⟨p,x,hS⟩:=hS
      exact sol_yes1 ha hna h hm.symm hv hnv lv ta h0 hr hD hS
     ·exact sol_no1 ha hna h hm.symm hv hnv lv ta h0 hr hD fun p x c=>hS ⟨p,x,c⟩
   ·exact sol_len ha hna la h rfl h0 hm
 ·exact sol_bad ha hna la h
end Go.Proofs.YthmolpepinolkaaGreat
