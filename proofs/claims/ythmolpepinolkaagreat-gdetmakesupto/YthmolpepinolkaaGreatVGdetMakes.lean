/- The walk of GdetMakes (tools/genmakes.py prints it). -/
import Derived.Test.YthmolpepinolkaaGreatO15ToC8
namespace Go.Proofs.YthmolpepinolkaaGreat
open Go Go.RowKit Dig
set_option maxHeartbeats 8000000
set_option maxRecDepth 20000
set_option linter.unusedVariables false
set_option linter.unusedSimpArgs false
theorem bd_up {l m:Nat} {ps:List (Int × Int)} (h:Bd l ps) (hlm:l≤m):Bd m ps:=fun p hp=>zl_up (h p hp) hlm
section
variable {w:World} {n k m q ca cv cy r:Nat} {oa ov oy:Option Addr} {A:List (List (Int × Int))} {V Y:List (Int × Int)} {ee:Int}
theorem mk_SC (ha:MN 1048576 w oa A) (hna:A.length=n) (hy:SN 1048576 w oy Y) (hny:Y.length=m) (hee:ee≠0) (hS:∀w1,Below w.heap.size w w1→Calls Tryz.prog 5 #[.slice oa n ca,.slice ov q cv] w1 fun e w'=>e = .returned (.tuple #[.slice none 0 0,.int .i64 ee])∧Below w1.heap.size w1 w') (hT:∀w1,Below w.heap.size w w1→Calls Tryz.prog 16 #[.slice oy m cy,.slice oa n ca] w1 fun e w'=>e = .returned (.tuple #[.slice none 0 0,.int .i64 4])∧Below w1.heap.size w1 w') :
  Calls Tryz.prog 4 #[.slice oa n ca,.slice oy m cy,.slice ov q cv] w fun e w'=>e = .returned (.bool true)∧Below w.heap.size w w':=by
 have HA:=hide ha
 have HY:=hide hy
 have HBD:=hide ha.bd
 have HS:=hide hS
 have tee:((ee:Int)==(0:Int))=false:=by simpa using hee
 have HT:=hide hT
 clear ha hy hS hee hT
 go_enter Tryz.func4,Tryz.ntmps4
 have hs:=St.nil w
 refine zk fun K1 hK1=>rg [0] ?_
 refine sm (ze (hK1 _ _ ?_))
 refine zk fun K2 hK2 => ?_
 refine zk fun K3 hK3=>rg [0,1] ?_
 refine sq ?_
 intro K hK
 go_big_op
 go_fit (awake9_any _)
 rintro e w_1 ⟨rfl,hb_1⟩
 replace hs:=hs.bl hb_1
 refine hK _ _ rfl trivial ?_
 clear hK K
 refine sr (ze (hK3 _ _ ?_))
 refine cf ?_
 refine wp_skip ?_
 refine hK2 _ _ ?_
 refine zk fun K4 hK4=>rg [0,1,2,3,4,5,6,7] ?_
 refine xmm ?_
 refine sq ?_
 intro K hK
 go_big_op
 go_fit (HS.out _ hs.b)
 rintro e w_2 ⟨rfl,hb_2⟩
 replace hs:=hs.bl hb_2
 refine hK _ _ rfl trivial ?_
 clear hK K
 refine xmr ?_
 refine xrm ?_
 refine sm (ze (hK4 _ _ ?_))
 refine zk fun K5 hK5 => ?_
 refine zk fun K6 hK6=>rg [0,1,2,3,4,5,6] ?_
 refine xmr ?_
 refine sm ?_
 refine sk ?_
 refine sk ?_
 refine sk ?_
 refine sr (ze (hK6 _ _ ?_))
 refine cf ?_
 refine wp_skip ?_
 refine hK5 _ _ ?_
 refine zk fun K7 hK7=>rg [0,1,2,3,4,5,6,7] ?_
 refine xmm ?_
 refine sq ?_
 intro K hK
 go_big_op
 go_fit (HT.out _ hs.b)
 rintro e w_3 ⟨rfl,hb_3⟩
 replace hs:=hs.bl hb_3
 refine hK _ _ rfl trivial ?_
 clear hK K
 refine xmr ?_
 refine xrm ?_
 refine sm (ze (hK7 _ _ ?_))
 refine zk fun K8 hK8 => ?_
 refine zk fun K9 hK9=>rg [0,1] ?_
 refine sm ?_
 refine sr (ze (hK9 _ _ ?_))
 refine ct ?_
 refine zk fun K10 hK10=>rg [0,1,2] ?_
 refine xmr ?_
 refine sm (ze (hK10 _ _ ?_))
 refine wp_ret ?_
 try dsimp only [Exit.then,Exit.inBlock]
 refine bodyPost_ret (v:=(.bool true)) (by simp[results,Tryz.results4,go_sem]) rfl ?_
 exact⟨rfl,hs.b⟩
theorem mk_SD (ha:MN 1048576 w oa A) (hna:A.length=n) (hy:SN 1048576 w oy Y) (hny:Y.length=n) (hee:ee≠0) (hS:∀w1,Below w.heap.size w w1→Calls Tryz.prog 5 #[.slice oa n ca,.slice ov q cv] w1 fun e w'=>e = .returned (.tuple #[.slice none 0 0,.int .i64 ee])∧Below w1.heap.size w1 w') (h:gd A) (hk:wd A=k) (hB:MinB n k 1048641 (at2 A)) (hr:Dt.Rk n k (at2 A) r) (hlt:r<n) (hZ:∀w1 o c,Below w.heap.size w w1→SN 2200000 w1 o (rowC Y A n k)→Calls Tryz.prog 5 #[.slice oa n ca,.slice o k c] w1 fun e w'=>e = .returned (.tuple #[.slice none 0 0,.int .i64 3])∧Below w1.heap.size w1 w') :
  Calls Tryz.prog 4 #[.slice oa n ca,.slice oy n cy,.slice ov q cv] w fun e w'=>e = .returned (.bool true)∧Below w.heap.size w w':=by
 have HA:=hide ha
 have HY:=hide hy
 have HBD:=hide ha.bd
 have HS:=hide hS
 have tee:((ee:Int)==(0:Int))=false:=by simpa using hee
 have HG:=hide h
 have HK:=hide hk
 have HB:=hide hB
 have HR:=hide hr
 have HWB:=hide (show Bd 2200000 (rowC Y A n k) from bd_up (rwT_bd (i:=n) (k:=k) hy.bd ha.bd) (by have:=h.1;omega))
 have HZ:=hide hZ
 have EI:=hide (decide_eq_false (show ¬r=n by omega))
 clear ha hy hS hee h hk hB hr hZ hlt
 go_enter Tryz.func4,Tryz.ntmps4
 have hs:=St.nil w
 refine zk fun K1 hK1=>rg [0] ?_
 refine sm (ze (hK1 _ _ ?_))
 refine zk fun K2 hK2 => ?_
 refine zk fun K3 hK3=>rg [0,1] ?_
 refine sq ?_
 intro K hK
 go_big_op
 go_fit (awake9_any _)
 rintro e w_1 ⟨rfl,hb_1⟩
 replace hs:=hs.bl hb_1
 refine hK _ _ rfl trivial ?_
 clear hK K
 refine sr (ze (hK3 _ _ ?_))
 refine cf ?_
 refine wp_skip ?_
 refine hK2 _ _ ?_
 refine zk fun K4 hK4=>rg [0,1,2,3,4,5,6,7] ?_
 refine xmm ?_
 refine sq ?_
 intro K hK
 go_big_op
 go_fit (HS.out _ hs.b)
 rintro e w_2 ⟨rfl,hb_2⟩
 replace hs:=hs.bl hb_2
 refine hK _ _ rfl trivial ?_
 clear hK K
 refine xmr ?_
 refine xrm ?_
 refine sm (ze (hK4 _ _ ?_))
 refine zk fun K5 hK5 => ?_
 refine zk fun K6 hK6=>rg [0,1,2,3,4,5,6] ?_
 refine xmr ?_
 refine sm ?_
 refine sk ?_
 refine sk ?_
 refine sk ?_
 refine sr (ze (hK6 _ _ ?_))
 refine cf ?_
 refine wp_skip ?_
 refine hK5 _ _ ?_
 refine zk fun K7 hK7=>rg [0,1,2,3,4,5,6,7] ?_
 refine xmm ?_
 refine sq ?_
 intro K hK
 go_big_op
 go_fit (mTimes_ok (HY.out.bl stab_n hs.b) (HA.out.bl stab_n hs.b) hny hna HG.out HK.out (by decide) (by decide))
 rintro e w_3 ⟨o_W,c_W,xs_W,rfl,L_W,d_W,hb_3⟩
 replace hs:=hs.la hb_3 L_W
 refine hK _ _ rfl trivial ?_
 clear hK K
 refine xmr ?_
 refine xrm ?_
 refine sm (ze (hK7 _ _ ?_))
 refine zk fun K8 hK8 => ?_
 refine zk fun K9 hK9=>rg [0,1] ?_
 refine sm ?_
 refine sr (ze (hK9 _ _ ?_))
 refine cf ?_
 refine wp_skip ?_
 refine hK8 _ _ ?_
 refine zk fun K10 hK10=>rg [0,1,2,3,4,5,6] ?_
 refine sm ?_
 refine sq ?_
 intro K hK
 go_big_op
 go_fit (independent_is (HA.out.bl stab_n hs.b) hna HG.out HK.out HB.out (by omega) (by omega) HR.out)
 rintro e w_4 ⟨rfl,hb_4⟩
 replace hs:=hs.bl hb_4
 rw[EI.out]
 refine hK _ _ rfl trivial ?_
 clear hK K
 refine xmr ?_
 refine xrm ?_
 refine sm (ze (hK10 _ _ ?_))
 refine zk fun K11 hK11=>rg [0,1,2,3,4,5,6,7] ?_
 refine xmm ?_
 refine sq ?_
 intro K hK
 have k3_4:=kb hb_4
 replace d_W:=d_W.k k3_4
 go_big_op
 go_fit (HZ.out _ _ _ hs.b ((Lst.sc hs.1.1.1 d_W).2.sn HWB.out))
 rintro e w_5 ⟨rfl,hb_5⟩
 replace hs:=hs.bl hb_5
 refine hK _ _ rfl trivial ?_
 clear hK K
 refine xmr ?_
 refine xrm ?_
 refine sm (ze (hK11 _ _ ?_))
 refine zk fun K12 hK12 => ?_
 refine zk fun K13 hK13=>rg [0,1] ?_
 refine sm ?_
 refine sr (ze (hK13 _ _ ?_))
 refine cf ?_
 refine wp_skip ?_
 refine hK12 _ _ ?_
 refine zk fun K14 hK14 => ?_
 refine zk fun K15 hK15=>rg [0,1] ?_
 refine sm ?_
 refine sr (ze (hK15 _ _ ?_))
 refine ct ?_
 refine zk fun K16 hK16=>rg [0,1,2] ?_
 refine xmr ?_
 refine sm (ze (hK16 _ _ ?_))
 refine wp_ret ?_
 try dsimp only [Exit.then,Exit.inBlock]
 refine bodyPost_ret (v:=(.bool true)) (by simp[results,Tryz.results4,go_sem]) rfl ?_
 exact⟨rfl,hs.b⟩
theorem mk_SE (ha:MN 1048576 w oa A) (hna:A.length=n) (hy:SN 1048576 w oy Y) (hny:Y.length=n) (hee:ee≠0) (hS:∀w1,Below w.heap.size w w1→Calls Tryz.prog 5 #[.slice oa n ca,.slice ov q cv] w1 fun e w'=>e = .returned (.tuple #[.slice none 0 0,.int .i64 ee])∧Below w1.heap.size w1 w') (h:gd A) (hk:wd A=k) (hB:MinB n k 1048641 (at2 A)) (hr:Dt.Rk n k (at2 A) r) (hrn:r=n) (hZ:∀w1 o c,Below w.heap.size w w1→SN 2200000 w1 o (rowC Y A n k)→Calls Tryz.prog 5 #[.slice oa n ca,.slice o k c] w1 fun e w'=>∃o c,e = .returned (.tuple #[.slice o n c,.int .i64 0])∧LQ w' o ((List.range n).map fun i=>(rv (at1 Y i).1 1,rv (at1 Y i).2 1))∧Below w1.heap.size w1 w') :
  Calls Tryz.prog 4 #[.slice oa n ca,.slice oy n cy,.slice ov q cv] w fun e w'=>e = .returned (.bool true)∧Below w.heap.size w w':=by
 have HA:=hide ha
 have HY:=hide hy
 have HBD:=hide ha.bd
 have HS:=hide hS
 have tee:((ee:Int)==(0:Int))=false:=by simpa using hee
 have HG:=hide h
 have HK:=hide hk
 have HB:=hide hB
 have HR:=hide hr
 have HWB:=hide (show Bd 2200000 (rowC Y A n k) from bd_up (rwT_bd (i:=n) (k:=k) hy.bd ha.bd) (by have:=h.1;omega))
 have hn64:n≤64:=by have:=h.1;omega
 have HZ:=hide hZ
 have EI:=hide (decide_eq_true hrn)
 clear ha hy hS hee h hk hB hr hZ hrn
 go_enter Tryz.func4,Tryz.ntmps4
 have hs:=St.nil w
 refine zk fun K1 hK1=>rg [0] ?_
 refine sm (ze (hK1 _ _ ?_))
 refine zk fun K2 hK2 => ?_
 refine zk fun K3 hK3=>rg [0,1] ?_
 refine sq ?_
 intro K hK
 go_big_op
 go_fit (awake9_any _)
 rintro e w_1 ⟨rfl,hb_1⟩
 replace hs:=hs.bl hb_1
 refine hK _ _ rfl trivial ?_
 clear hK K
 refine sr (ze (hK3 _ _ ?_))
 refine cf ?_
 refine wp_skip ?_
 refine hK2 _ _ ?_
 refine zk fun K4 hK4=>rg [0,1,2,3,4,5,6,7] ?_
 refine xmm ?_
 refine sq ?_
 intro K hK
 go_big_op
 go_fit (HS.out _ hs.b)
 rintro e w_2 ⟨rfl,hb_2⟩
 replace hs:=hs.bl hb_2
 refine hK _ _ rfl trivial ?_
 clear hK K
 refine xmr ?_
 refine xrm ?_
 refine sm (ze (hK4 _ _ ?_))
 refine zk fun K5 hK5 => ?_
 refine zk fun K6 hK6=>rg [0,1,2,3,4,5,6] ?_
 refine xmr ?_
 refine sm ?_
 refine sk ?_
 refine sk ?_
 refine sk ?_
 refine sr (ze (hK6 _ _ ?_))
 refine cf ?_
 refine wp_skip ?_
 refine hK5 _ _ ?_
 refine zk fun K7 hK7=>rg [0,1,2,3,4,5,6,7] ?_
 refine xmm ?_
 refine sq ?_
 intro K hK
 go_big_op
 go_fit (mTimes_ok (HY.out.bl stab_n hs.b) (HA.out.bl stab_n hs.b) hny hna HG.out HK.out (by decide) (by decide))
 rintro e w_3 ⟨o_W,c_W,xs_W,rfl,L_W,d_W,hb_3⟩
 replace hs:=hs.la hb_3 L_W
 refine hK _ _ rfl trivial ?_
 clear hK K
 refine xmr ?_
 refine xrm ?_
 refine sm (ze (hK7 _ _ ?_))
 refine zk fun K8 hK8 => ?_
 refine zk fun K9 hK9=>rg [0,1] ?_
 refine sm ?_
 refine sr (ze (hK9 _ _ ?_))
 refine cf ?_
 refine wp_skip ?_
 refine hK8 _ _ ?_
 refine zk fun K10 hK10=>rg [0,1,2,3,4,5,6] ?_
 refine sm ?_
 refine sq ?_
 intro K hK
 go_big_op
 go_fit (independent_is (HA.out.bl stab_n hs.b) hna HG.out HK.out HB.out (by omega) (by omega) HR.out)
 rintro e w_4 ⟨rfl,hb_4⟩
 replace hs:=hs.bl hb_4
 rw[EI.out]
 refine hK _ _ rfl trivial ?_
 clear hK K
 refine xmr ?_
 refine xrm ?_
 refine sm (ze (hK10 _ _ ?_))
 refine zk fun K11 hK11=>rg [0,1,2,3,4,5,6,7] ?_
 refine xmm ?_
 refine sq ?_
 intro K hK
 have k3_4:=kb hb_4
 replace d_W:=d_W.k k3_4
 go_big_op
 go_fit (HZ.out _ _ _ hs.b ((Lst.sc hs.1.1.1 d_W).2.sn HWB.out))
 rintro e w_5 ⟨o_Z,c_Z,rfl,m_Z,hb_5⟩
 replace hs:=hs.bl hb_5
 refine hK _ _ rfl trivial ?_
 clear hK K
 refine xmr ?_
 refine xrm ?_
 refine sm (ze (hK11 _ _ ?_))
 refine zk fun K12 hK12 => ?_
 refine zk fun K13 hK13=>rg [0,1] ?_
 refine sm ?_
 refine sr (ze (hK13 _ _ ?_))
 refine cf ?_
 refine wp_skip ?_
 refine hK12 _ _ ?_
 refine zk fun K14 hK14 => ?_
 refine zk fun K15 hK15=>rg [0,1] ?_
 refine sm ?_
 refine sr (ze (hK15 _ _ ?_))
 refine cf ?_
 refine wp_skip ?_
 refine hK14 _ _ ?_
 refine zk fun K16 hK16 => ?_
 refine zk fun K17 hK17=>rg [0,1,2,3,4,5,6,7,8] ?_
 refine xmr ?_
 refine xmm ?_
 refine xrm ?_
 refine xrr ?_
 refine sr (ze (hK17 _ _ ?_))
 refine cf ?_
 refine wp_skip ?_
 refine hK16 _ _ ?_
 refine zk fun K18 hK18 => ?_
 refine zk fun K19 hK19=>rg [0] ?_
 refine sm (ze (hK19 _ _ ?_))
 refine wp_block ?_
 have hd6:=hs.2.1
 go_loopg [23] n (fun kz s23 wr=>∃i:Nat,s23 = .int .i64 (i:Int)∧i+kz=n∧LQ wr o_Z ((List.range n).map fun i=>(rv (at1 Y i).1 1,rv (at1 Y i).2 1))∧Below w.heap.size w wr)
 case atStart=>exact⟨0,rfl,by omega,m_Z,hs.b⟩
 case round =>
 clear d_W m_Z hs
 obtain⟨i,rfl,hin,hZ,hb⟩:=hrel
 by_cases hi:i<n
 ·have HI:=hide hi
  obtain⟨g2,off2,cur2,ty2,fz2,a1,a2,a3,a4,a5,a6,a7,a8,a9,a10,a11,a12,a13,a14,a15,a16,rfl,xa,j1,j2,j3,j4,j5,j6,j7,j8,x1,x2,x3,x4⟩:=hZ.op (i:=i) (by simp;omega)
  obtain⟨g3,off3,cur3,ty3,fz3,l1,l2,l3,l4,l5,l6,l7,l8,rfl,xv,j9,j10,j11,j12,z1,z2⟩:=HY.out.op (j:=i) (by omega)
  rw[show ((List.range n).map fun i=>(rv (at1 Y i).1 1,rv (at1 Y i).2 1))[i]'(by simp;omega)=(rv (at1 Y i).1 1,rv (at1 Y i).2 1) by simp] at x1 x2 x3 x4
  have LV:zl 1048576 (at1 Y i):=HY.out.bd.at1
  replace z1:ZN wr (.agg #[.bool l1,.slice l2 l3 l4]) (at1 Y i).1 1048576:=z1.bl hb
  replace z2:ZN wr (.agg #[.bool l5,.slice l6 l7 l8]) (at1 Y i).2 1048576:=z2.bl hb
  obtain⟨U,hU⟩:∃U,at1 Y i=U:=⟨_,rfl⟩
  rw[hU] at x1 x2 x3 x4 LV z1 z2
  have LV1:=hide (show (dig (rv U.1 1).num.natAbs).length≤1048576 by rw[(rv_one _).1];exact LV.1)
  have LV2:=hide (show (dig (rv U.2 1).num.natAbs).length≤1048576 by rw[(rv_one _).1];exact LV.2)
  have Z1:=hide (show (dig ((rv U.1 1).den:Int).natAbs).length≤1 by rw[(rv_one _).2];exact zlen_small8 (z:=1) (by decide))
  have Z2:=hide (show (dig ((rv U.2 1).den:Int).natAbs).length≤1 by rw[(rv_one _).2];exact zlen_small8 (z:=1) (by decide))
  have xvz:=xv
  have lt_kY:=xv.lt
  replace xv:=xv.bl hb
  clear hU LV
  have hs:=St.re .n hd6 (.cons _ .slnil) hb
  refine zk fun K20 hK20 => ?_
  refine zk fun K21 hK21=>rg [0,1,2,3] ?_
  refine xmm ?_
  refine sr ?_
  refine sr (ze (hK21 _ _ ?_))
  refine ct ?_
  refine wp_skip ?_
  refine hK20 _ _ ?_
  refine zk fun K22 hK22 => ?_
  refine wp_block ?_
  refine zk fun K23 hK23 => ?_
  refine wp_region_f4 [(0,false),(1,false),(2,false),(3,false),(4,false),(5,false),(6,false),(7,false),(8,true),(9,true),(10,false)] [] [] (fun _=>default) [99,99,99,0,99,99,99,1,99,99,99] [] (.c xa (.c xv .n)) fn fun w_7 n7 => ?_
  clear hb
  replace hZ:=hZ.bl n7;replace xa:=xa.bl n7;replace xv:=xv.bl n7;replace hs:=hs.bl n7
  refine fmv ?_
  refine fmv ?_
  refine f0 ?_
  apply wpFl_ld rfl rfl;(case h1=>intro w' hC K hK;have c0:=Bs.cell hC ((off2+i*8)) j1;have c1:=Bs.cell hC ((off2+i*8)+1) j2;have c2:=Bs.cell hC ((off2+i*8)+2) j3;have c3:=Bs.cell hC ((off2+i*8)+3) j4;have c4:=Bs.cell hC ((off2+i*8)+4) j5;have c5:=Bs.cell hC ((off2+i*8)+5) j6;have c6:=Bs.cell hC ((off2+i*8)+6) j7;have c7:=Bs.cell hC ((off2+i*8)+7) j8;go_big_op;exact hK);iterate 4 kernel_rfl
  refine fmv ?_
  refine fmv ?_
  refine f0 ?_
  apply wpFl_ld rfl rfl;(case h1=>intro w' hC K hK;have c0:=Bs.cell hC ((off3+i*4)) j9;have c1:=Bs.cell hC ((off3+i*4)+1) j10;have c2:=Bs.cell hC ((off3+i*4)+2) j11;have c3:=Bs.cell hC ((off3+i*4)+3) j12;go_big_op;exact hK);iterate 4 kernel_rfl
  refine fl fun w_8 n8 => ?_
  replace hZ:=hZ.bl n8;replace xa:=xa.bl n8;replace xv:=xv.bl n8;replace hs:=hs.bl n8
  intro K hK
  have k0_2:=(kb n7).b n8
  replace z1:=z1.k k0_2
  replace z2:=z2.k k0_2
  go_big_op
  go_fit (r7Of_q (.mk' z1 z2) (by omega) (by omega))
  rintro e w_9 ⟨_,rfl,⟨n_o1,o_o1,k_o1,c_o1,n_o2,o_o2,k_o2,c_o2,n_o3,o_o3,k_o3,c_o3,n_o4,o_o4,k_o4,c_o4,rfl,o1,o2,o3,o4⟩,hb_9⟩
  replace hZ:=hZ.bl hb_9;replace xa:=xa.bl hb_9;replace xv:=xv.bl hb_9;replace hs:=hs.bl hb_9
  refine hK _ _ rfl ⟨hb_9,(ai xa (ai xv trivial))⟩ ?_
  clear hK K
  refine fl fun w_10 n10 => ?_
  replace hZ:=hZ.bl n10;replace xa:=xa.bl n10;replace xv:=xv.bl n10;replace hs:=hs.bl n10
  intro K hK
  have k0_4:=(k0_2.b hb_9).b n10
  replace x1:=x1.k k0_4
  replace x2:=x2.k k0_4
  replace x3:=x3.k k0_4
  replace x4:=x4.k k0_4
  have k3_4:=kb n10
  replace o1:=o1.k k3_4
  replace o2:=o2.k k3_4
  replace o3:=o3.k k3_4
  replace o4:=o4.k k3_4
  go_big_op
  go_fit (r7Same_ok (a:=rv U.1 1) (b:=rv U.2 1) (.mk' x1 x2 x3 x4) (.mk' (o1.zn LV1.out) (o2.zn Z1.out) (o3.zn LV2.out) (o4.zn Z2.out)) (by omega) (by omega) (by omega) (by omega))
  rintro e w_11 ⟨rfl,hb_11⟩
  replace hZ:=hZ.bl hb_11;replace xa:=xa.bl hb_11;replace xv:=xv.bl hb_11;replace hs:=hs.bl hb_11
  refine hK _ _ rfl ⟨hb_11,(ai xa (ai xv trivial))⟩ ?_
  clear hK K
  refine f0 ?_
  refine e0 hs ?_;clear hs;intro w_12 hs n12
  replace hZ:=hZ.bl n12;replace xa:=xa.bl n12;replace xv:=xv.bl n12
  apply wpTail_end
  refine hK23 _ _ ?_
  refine cf ?_
  refine wp_skip ?_
  refine hK22 _ _ ?_
  refine rg [0,1,2] ?_
  refine xmr ?_
  refine sm ?_
  apply wpSq_end
  refine ‹∀(a':Act) (w':World),Handed _ _ a' w'→_› _ _ ?_
  go_roundg (gk - 1)
  case rel=>exact⟨i+1,by rfl,by omega,hZ,hs.b⟩
  case measure=>omega
 ·have HI:=hide hi
  obtain rfl:n=i:=by omega
  have hs:=St.re .n hd6 (.cons _ .slnil) hb
  refine zk fun K20 hK20 => ?_
  refine zk fun K21 hK21=>rg [0,1,2,3] ?_
  refine xmm ?_
  refine sr ?_
  refine sr (ze (hK21 _ _ ?_))
  refine cf ?_
  refine wp_exit ?_
  refine hK18 _ _ ?_
  refine zk fun K22 hK22=>rg [0] ?_
  refine sm (ze (hK22 _ _ ?_))
  refine wp_ret ?_
  try dsimp only [Exit.then,Exit.inBlock]
  refine bodyPost_ret (v:=(.bool true)) (by simp[results,Tryz.results4,go_sem]) rfl ?_
  exact⟨rfl,hs.b⟩
theorem mk_ZC (ha:MN 1048576 w oa A) (hna:A.length=n) (hy:SN 1048576 w oy Y) (hny:Y.length=m) (hn0:n=0) (hS:∀w1,Below w.heap.size w w1→Calls Tryz.prog 5 #[.slice oa n ca,.slice ov q cv] w1 fun e w'=>∃p x o c,e = .returned (.tuple #[.slice o n c,.int .i64 0])∧Hid (SolB n q (at2 A) (at1 V) 2099153 p x)∧LQ w' o ((List.range n).map fun i=>qC (x i) p)∧Below w1.heap.size w1 w') (hT:∀w1,Below w.heap.size w w1→Calls Tryz.prog 16 #[.slice oy m cy,.slice oa n ca] w1 fun e w'=>e = .returned (.tuple #[.slice none 0 0,.int .i64 4])∧Below w1.heap.size w1 w') :
  Calls Tryz.prog 4 #[.slice oa n ca,.slice oy m cy,.slice ov q cv] w fun e w'=>e = .returned (.bool true)∧Below w.heap.size w w':=by
 have HA:=hide ha
 have HY:=hide hy
 have HBD:=hide ha.bd
 have HS:=hide hS
 have HN0:=hide hn0
 have hn2:(0<n)=False:=eq_false (by omega)
 have hn1:((0:Int)<(n:Int))=False:=eq_false (by omega)
 have HT:=hide hT
 clear ha hy hS hn0 hT
 go_enter Tryz.func4,Tryz.ntmps4
 have hs:=St.nil w
 refine zk fun K1 hK1=>rg [0] ?_
 refine sm (ze (hK1 _ _ ?_))
 refine zk fun K2 hK2 => ?_
 refine zk fun K3 hK3=>rg [0,1] ?_
 refine sq ?_
 intro K hK
 go_big_op
 go_fit (awake9_any _)
 rintro e w_1 ⟨rfl,hb_1⟩
 replace hs:=hs.bl hb_1
 refine hK _ _ rfl trivial ?_
 clear hK K
 refine sr (ze (hK3 _ _ ?_))
 refine cf ?_
 refine wp_skip ?_
 refine hK2 _ _ ?_
 refine zk fun K4 hK4=>rg [0,1,2,3,4,5,6,7] ?_
 refine xmm ?_
 refine sq ?_
 intro K hK
 go_big_op
 go_fit (HS.out _ hs.b)
 rintro e w_2 ⟨p0,x0,o_X,c_X,rfl,HF,m_X,hb_2⟩
 replace hs:=hs.bl hb_2
 refine hK _ _ rfl trivial ?_
 clear hK K
 refine xmr ?_
 refine xrm ?_
 refine sm (ze (hK4 _ _ ?_))
 refine zk fun K5 hK5 => ?_
 refine zk fun K6 hK6=>rg [0,1,2,3,4,5,6] ?_
 refine xmr ?_
 refine xmm ?_
 refine xrr ?_
 refine sr (ze (hK6 _ _ ?_))
 refine cf ?_
 refine wp_skip ?_
 refine hK5 _ _ ?_
 refine zk fun K7 hK7=>rg [0,1,2,3,4,5,6,7] ?_
 refine xmm ?_
 refine sq ?_
 intro K hK
 go_big_op
 go_fit (HT.out _ hs.b)
 rintro e w_3 ⟨rfl,hb_3⟩
 replace hs:=hs.bl hb_3
 refine hK _ _ rfl trivial ?_
 clear hK K
 refine xmr ?_
 refine xrm ?_
 refine sm (ze (hK7 _ _ ?_))
 refine zk fun K8 hK8 => ?_
 refine zk fun K9 hK9=>rg [0,1] ?_
 refine sm ?_
 refine sr (ze (hK9 _ _ ?_))
 refine ct ?_
 refine zk fun K10 hK10=>rg [0,1,2] ?_
 refine xmr ?_
 refine sm (ze (hK10 _ _ ?_))
 refine wp_ret ?_
 try dsimp only [Exit.then,Exit.inBlock]
 refine bodyPost_ret (v:=(.bool true)) (by simp[results,Tryz.results4,go_sem]) rfl ?_
 exact⟨rfl,hs.b⟩
theorem mk_ZE (ha:MN 1048576 w oa A) (hna:A.length=n) (hy:SN 1048576 w oy Y) (hny:Y.length=n) (hn0:n=0) (hS:∀w1,Below w.heap.size w w1→Calls Tryz.prog 5 #[.slice oa n ca,.slice ov q cv] w1 fun e w'=>∃p x o c,e = .returned (.tuple #[.slice o n c,.int .i64 0])∧Hid (SolB n q (at2 A) (at1 V) 2099153 p x)∧LQ w' o ((List.range n).map fun i=>qC (x i) p)∧Below w1.heap.size w1 w') (h:gd A) (hk:wd A=k) (hB:MinB n k 1048641 (at2 A)) (hr:Dt.Rk n k (at2 A) r) (hrn:r=n) (hZ:∀w1 o c,Below w.heap.size w w1→SN 2200000 w1 o (rowC Y A n k)→Calls Tryz.prog 5 #[.slice oa n ca,.slice o k c] w1 fun e w'=>∃o c,e = .returned (.tuple #[.slice o n c,.int .i64 0])∧LQ w' o ((List.range n).map fun i=>(rv (at1 Y i).1 1,rv (at1 Y i).2 1))∧Below w1.heap.size w1 w') :
  Calls Tryz.prog 4 #[.slice oa n ca,.slice oy n cy,.slice ov q cv] w fun e w'=>e = .returned (.bool true)∧Below w.heap.size w w':=by
 have HA:=hide ha
 have HY:=hide hy
 have HBD:=hide ha.bd
 have HS:=hide hS
 have HN0:=hide hn0
 have hn2:(0<n)=False:=eq_false (by omega)
 have hn1:((0:Int)<(n:Int))=False:=eq_false (by omega)
 have HG:=hide h
 have HK:=hide hk
 have HB:=hide hB
 have HR:=hide hr
 have HWB:=hide (show Bd 2200000 (rowC Y A n k) from bd_up (rwT_bd (i:=n) (k:=k) hy.bd ha.bd) (by have:=h.1;omega))
 have hn64:n≤64:=by have:=h.1;omega
 have HZ:=hide hZ
 have EI:=hide (decide_eq_true hrn)
 clear ha hy hS hn0 h hk hB hr hZ hrn
 go_enter Tryz.func4,Tryz.ntmps4
 have hs:=St.nil w
 refine zk fun K1 hK1=>rg [0] ?_
 refine sm (ze (hK1 _ _ ?_))
 refine zk fun K2 hK2 => ?_
 refine zk fun K3 hK3=>rg [0,1] ?_
 refine sq ?_
 intro K hK
 go_big_op
 go_fit (awake9_any _)
 rintro e w_1 ⟨rfl,hb_1⟩
 replace hs:=hs.bl hb_1
 refine hK _ _ rfl trivial ?_
 clear hK K
 refine sr (ze (hK3 _ _ ?_))
 refine cf ?_
 refine wp_skip ?_
 refine hK2 _ _ ?_
 refine zk fun K4 hK4=>rg [0,1,2,3,4,5,6,7] ?_
 refine xmm ?_
 refine sq ?_
 intro K hK
 go_big_op
 go_fit (HS.out _ hs.b)
 rintro e w_2 ⟨p0,x0,o_X,c_X,rfl,HF,m_X,hb_2⟩
 replace hs:=hs.bl hb_2
 refine hK _ _ rfl trivial ?_
 clear hK K
 refine xmr ?_
 refine xrm ?_
 refine sm (ze (hK4 _ _ ?_))
 refine zk fun K5 hK5 => ?_
 refine zk fun K6 hK6=>rg [0,1,2,3,4,5,6] ?_
 refine xmr ?_
 refine xmm ?_
 refine xrr ?_
 refine sr (ze (hK6 _ _ ?_))
 refine cf ?_
 refine wp_skip ?_
 refine hK5 _ _ ?_
 refine zk fun K7 hK7=>rg [0,1,2,3,4,5,6,7] ?_
 refine xmm ?_
 refine sq ?_
 intro K hK
 go_big_op
 go_fit (mTimes_ok (HY.out.bl stab_n hs.b) (HA.out.bl stab_n hs.b) hny hna HG.out HK.out (by decide) (by decide))
 rintro e w_3 ⟨o_W,c_W,xs_W,rfl,L_W,d_W,hb_3⟩
 replace hs:=hs.la hb_3 L_W
 refine hK _ _ rfl trivial ?_
 clear hK K
 refine xmr ?_
 refine xrm ?_
 refine sm (ze (hK7 _ _ ?_))
 refine zk fun K8 hK8 => ?_
 refine zk fun K9 hK9=>rg [0,1] ?_
 refine sm ?_
 refine sr (ze (hK9 _ _ ?_))
 refine cf ?_
 refine wp_skip ?_
 refine hK8 _ _ ?_
 refine zk fun K10 hK10=>rg [0,1,2,3,4,5,6] ?_
 refine sm ?_
 refine sq ?_
 intro K hK
 go_big_op
 go_fit (independent_is (HA.out.bl stab_n hs.b) hna HG.out HK.out HB.out (by omega) (by omega) HR.out)
 rintro e w_4 ⟨rfl,hb_4⟩
 replace hs:=hs.bl hb_4
 rw[EI.out]
 refine hK _ _ rfl trivial ?_
 clear hK K
 refine xmr ?_
 refine xrm ?_
 refine sm (ze (hK10 _ _ ?_))
 refine zk fun K11 hK11=>rg [0,1,2,3,4,5,6,7] ?_
 refine xmm ?_
 refine sq ?_
 intro K hK
 have k3_4:=kb hb_4
 replace d_W:=d_W.k k3_4
 go_big_op
 go_fit (HZ.out _ _ _ hs.b ((Lst.sc hs.1.1.1 d_W).2.sn HWB.out))
 rintro e w_5 ⟨o_Z,c_Z,rfl,m_Z,hb_5⟩
 replace hs:=hs.bl hb_5
 refine hK _ _ rfl trivial ?_
 clear hK K
 refine xmr ?_
 refine xrm ?_
 refine sm (ze (hK11 _ _ ?_))
 refine zk fun K12 hK12 => ?_
 refine zk fun K13 hK13=>rg [0,1] ?_
 refine sm ?_
 refine sr (ze (hK13 _ _ ?_))
 refine cf ?_
 refine wp_skip ?_
 refine hK12 _ _ ?_
 refine zk fun K14 hK14 => ?_
 refine zk fun K15 hK15=>rg [0,1] ?_
 refine sm ?_
 refine sr (ze (hK15 _ _ ?_))
 refine cf ?_
 refine wp_skip ?_
 refine hK14 _ _ ?_
 refine zk fun K16 hK16 => ?_
 refine zk fun K17 hK17=>rg [0,1,2,3,4,5,6,7,8] ?_
 refine xmr ?_
 refine xmm ?_
 refine xrm ?_
 refine xrr ?_
 refine sr (ze (hK17 _ _ ?_))
 refine cf ?_
 refine wp_skip ?_
 refine hK16 _ _ ?_
 refine zk fun K18 hK18 => ?_
 refine zk fun K19 hK19=>rg [0] ?_
 refine sm (ze (hK19 _ _ ?_))
 refine wp_block ?_
 have hd6:=hs.2.1
 go_loopg [23] n (fun kz s23 wr=>∃i:Nat,s23 = .int .i64 (i:Int)∧i+kz=n∧LQ wr o_Z ((List.range n).map fun i=>(rv (at1 Y i).1 1,rv (at1 Y i).2 1))∧Below w.heap.size w wr)
 case atStart=>exact⟨0,rfl,by omega,m_Z,hs.b⟩
 case round =>
 clear d_W m_Z m_X hs
 obtain⟨i,rfl,hin,hZ,hb⟩:=hrel
 by_cases hi:i<n
 ·have HI:=hide hi
  obtain⟨g2,off2,cur2,ty2,fz2,a1,a2,a3,a4,a5,a6,a7,a8,a9,a10,a11,a12,a13,a14,a15,a16,rfl,xa,j1,j2,j3,j4,j5,j6,j7,j8,x1,x2,x3,x4⟩:=hZ.op (i:=i) (by simp;omega)
  obtain⟨g3,off3,cur3,ty3,fz3,l1,l2,l3,l4,l5,l6,l7,l8,rfl,xv,j9,j10,j11,j12,z1,z2⟩:=HY.out.op (j:=i) (by omega)
  rw[show ((List.range n).map fun i=>(rv (at1 Y i).1 1,rv (at1 Y i).2 1))[i]'(by simp;omega)=(rv (at1 Y i).1 1,rv (at1 Y i).2 1) by simp] at x1 x2 x3 x4
  have LV:zl 1048576 (at1 Y i):=HY.out.bd.at1
  replace z1:ZN wr (.agg #[.bool l1,.slice l2 l3 l4]) (at1 Y i).1 1048576:=z1.bl hb
  replace z2:ZN wr (.agg #[.bool l5,.slice l6 l7 l8]) (at1 Y i).2 1048576:=z2.bl hb
  obtain⟨U,hU⟩:∃U,at1 Y i=U:=⟨_,rfl⟩
  rw[hU] at x1 x2 x3 x4 LV z1 z2
  have LV1:=hide (show (dig (rv U.1 1).num.natAbs).length≤1048576 by rw[(rv_one _).1];exact LV.1)
  have LV2:=hide (show (dig (rv U.2 1).num.natAbs).length≤1048576 by rw[(rv_one _).1];exact LV.2)
  have Z1:=hide (show (dig ((rv U.1 1).den:Int).natAbs).length≤1 by rw[(rv_one _).2];exact zlen_small8 (z:=1) (by decide))
  have Z2:=hide (show (dig ((rv U.2 1).den:Int).natAbs).length≤1 by rw[(rv_one _).2];exact zlen_small8 (z:=1) (by decide))
  have xvz:=xv
  have lt_kY:=xv.lt
  replace xv:=xv.bl hb
  clear hU LV
  have hs:=St.re .n hd6 (.cons _ .slnil) hb
  refine zk fun K20 hK20 => ?_
  refine zk fun K21 hK21=>rg [0,1,2,3] ?_
  refine xmm ?_
  refine sr ?_
  refine sr (ze (hK21 _ _ ?_))
  refine ct ?_
  refine wp_skip ?_
  refine hK20 _ _ ?_
  refine zk fun K22 hK22 => ?_
  refine wp_block ?_
  refine zk fun K23 hK23 => ?_
  refine wp_region_f4 [(0,false),(1,false),(2,false),(3,false),(4,false),(5,false),(6,false),(7,false),(8,true),(9,true),(10,false)] [] [] (fun _=>default) [99,99,99,0,99,99,99,1,99,99,99] [] (.c xa (.c xv .n)) fn fun w_7 n7 => ?_
  clear hb
  replace hZ:=hZ.bl n7;replace xa:=xa.bl n7;replace xv:=xv.bl n7;replace hs:=hs.bl n7
  refine fmv ?_
  refine fmv ?_
  refine f0 ?_
  apply wpFl_ld rfl rfl;(case h1=>intro w' hC K hK;have c0:=Bs.cell hC ((off2+i*8)) j1;have c1:=Bs.cell hC ((off2+i*8)+1) j2;have c2:=Bs.cell hC ((off2+i*8)+2) j3;have c3:=Bs.cell hC ((off2+i*8)+3) j4;have c4:=Bs.cell hC ((off2+i*8)+4) j5;have c5:=Bs.cell hC ((off2+i*8)+5) j6;have c6:=Bs.cell hC ((off2+i*8)+6) j7;have c7:=Bs.cell hC ((off2+i*8)+7) j8;go_big_op;exact hK);iterate 4 kernel_rfl
  refine fmv ?_
  refine fmv ?_
  refine f0 ?_
  apply wpFl_ld rfl rfl;(case h1=>intro w' hC K hK;have c0:=Bs.cell hC ((off3+i*4)) j9;have c1:=Bs.cell hC ((off3+i*4)+1) j10;have c2:=Bs.cell hC ((off3+i*4)+2) j11;have c3:=Bs.cell hC ((off3+i*4)+3) j12;go_big_op;exact hK);iterate 4 kernel_rfl
  refine fl fun w_8 n8 => ?_
  replace hZ:=hZ.bl n8;replace xa:=xa.bl n8;replace xv:=xv.bl n8;replace hs:=hs.bl n8
  intro K hK
  have k0_2:=(kb n7).b n8
  replace z1:=z1.k k0_2
  replace z2:=z2.k k0_2
  go_big_op
  go_fit (r7Of_q (.mk' z1 z2) (by omega) (by omega))
  rintro e w_9 ⟨_,rfl,⟨n_o1,o_o1,k_o1,c_o1,n_o2,o_o2,k_o2,c_o2,n_o3,o_o3,k_o3,c_o3,n_o4,o_o4,k_o4,c_o4,rfl,o1,o2,o3,o4⟩,hb_9⟩
  replace hZ:=hZ.bl hb_9;replace xa:=xa.bl hb_9;replace xv:=xv.bl hb_9;replace hs:=hs.bl hb_9
  refine hK _ _ rfl ⟨hb_9,(ai xa (ai xv trivial))⟩ ?_
  clear hK K
  refine fl fun w_10 n10 => ?_
  replace hZ:=hZ.bl n10;replace xa:=xa.bl n10;replace xv:=xv.bl n10;replace hs:=hs.bl n10
  intro K hK
  have k0_4:=(k0_2.b hb_9).b n10
  replace x1:=x1.k k0_4
  replace x2:=x2.k k0_4
  replace x3:=x3.k k0_4
  replace x4:=x4.k k0_4
  have k3_4:=kb n10
  replace o1:=o1.k k3_4
  replace o2:=o2.k k3_4
  replace o3:=o3.k k3_4
  replace o4:=o4.k k3_4
  go_big_op
  go_fit (r7Same_ok (a:=rv U.1 1) (b:=rv U.2 1) (.mk' x1 x2 x3 x4) (.mk' (o1.zn LV1.out) (o2.zn Z1.out) (o3.zn LV2.out) (o4.zn Z2.out)) (by omega) (by omega) (by omega) (by omega))
  rintro e w_11 ⟨rfl,hb_11⟩
  replace hZ:=hZ.bl hb_11;replace xa:=xa.bl hb_11;replace xv:=xv.bl hb_11;replace hs:=hs.bl hb_11
  refine hK _ _ rfl ⟨hb_11,(ai xa (ai xv trivial))⟩ ?_
  clear hK K
  refine f0 ?_
  refine e0 hs ?_;clear hs;intro w_12 hs n12
  replace hZ:=hZ.bl n12;replace xa:=xa.bl n12;replace xv:=xv.bl n12
  apply wpTail_end
  refine hK23 _ _ ?_
  refine cf ?_
  refine wp_skip ?_
  refine hK22 _ _ ?_
  refine rg [0,1,2] ?_
  refine xmr ?_
  refine sm ?_
  apply wpSq_end
  refine ‹∀(a':Act) (w':World),Handed _ _ a' w'→_› _ _ ?_
  go_roundg (gk - 1)
  case rel=>exact⟨i+1,by rfl,by omega,hZ,hs.b⟩
  case measure=>omega
 ·have HI:=hide hi
  obtain rfl:n=i:=by omega
  have hs:=St.re .n hd6 (.cons _ .slnil) hb
  refine zk fun K20 hK20 => ?_
  refine zk fun K21 hK21=>rg [0,1,2,3] ?_
  refine xmm ?_
  refine sr ?_
  refine sr (ze (hK21 _ _ ?_))
  refine cf ?_
  refine wp_exit ?_
  refine hK18 _ _ ?_
  refine zk fun K22 hK22=>rg [0] ?_
  refine sm (ze (hK22 _ _ ?_))
  refine wp_ret ?_
  try dsimp only [Exit.then,Exit.inBlock]
  refine bodyPost_ret (v:=(.bool true)) (by simp[results,Tryz.results4,go_sem]) rfl ?_
  exact⟨rfl,hs.b⟩
theorem mk_BC (ha:MN 1048576 w oa A) (hna:A.length=n) (hy:SN 1048576 w oy Y) (hny:Y.length=m) (hn0:0<n) (hv:SN 1048576 w ov V) (hnv:V.length=k) (hS:∀w1,Below w.heap.size w w1→Calls Tryz.prog 5 #[.slice oa n ca,.slice ov k cv] w1 fun e w'=>∃p x o c,e = .returned (.tuple #[.slice o n c,.int .i64 0])∧Hid (SolB n k (at2 A) (at1 V) 2099153 p x)∧LQ w' o ((List.range n).map fun i=>qC (x i) p)∧Below w1.heap.size w1 w') (hT:∀w1,Below w.heap.size w w1→Calls Tryz.prog 16 #[.slice oy m cy,.slice oa n ca] w1 fun e w'=>e = .returned (.tuple #[.slice none 0 0,.int .i64 4])∧Below w1.heap.size w1 w') (h:gd A) (hk:wd A=k) :
  Calls Tryz.prog 4 #[.slice oa n ca,.slice oy m cy,.slice ov k cv] w fun e w'=>e = .returned (.bool true)∧Below w.heap.size w w':=by
 have HA:=hide ha
 have HY:=hide hy
 have HBD:=hide ha.bd
 have HV:=hide hv
 have HS:=hide hS
 have hn0:(0<n)=True:=eq_true hn0
 have hn1:((0:Int)<(n:Int))=True:=eq_true (by simpa using hn0)
 have HT:=hide hT
 have HLR:=hide (show ∀i,i<n→(rw_ A i).length=k from fun i hi=>by rw[gd_row h (by omega)];exact hk)
 have hn64:n≤64:=by have:=h.1;omega
 have hk64:k≤64:=by have:=h.2.1;omega
 clear ha hy hv hS hT h hk
 go_enter Tryz.func4,Tryz.ntmps4
 have hs:=St.nil w
 refine zk fun K1 hK1=>rg [0] ?_
 refine sm (ze (hK1 _ _ ?_))
 refine zk fun K2 hK2 => ?_
 refine zk fun K3 hK3=>rg [0,1] ?_
 refine sq ?_
 intro K hK
 go_big_op
 go_fit (awake9_any _)
 rintro e w_1 ⟨rfl,hb_1⟩
 replace hs:=hs.bl hb_1
 refine hK _ _ rfl trivial ?_
 clear hK K
 refine sr (ze (hK3 _ _ ?_))
 refine cf ?_
 refine wp_skip ?_
 refine hK2 _ _ ?_
 refine zk fun K4 hK4=>rg [0,1,2,3,4,5,6,7] ?_
 refine xmm ?_
 refine sq ?_
 intro K hK
 go_big_op
 go_fit (HS.out _ hs.b)
 rintro e w_2 ⟨p0,x0,o_X,c_X,rfl,HF,m_X,hb_2⟩
 replace hs:=hs.bl hb_2
 refine hK _ _ rfl trivial ?_
 clear hK K
 refine xmr ?_
 refine xrm ?_
 refine sm (ze (hK4 _ _ ?_))
 refine zk fun K5 hK5 => ?_
 refine zk fun K6 hK6=>rg [0,1,2,3,4,5,6] ?_
 refine xmr ?_
 refine xmm ?_
 refine xrr ?_
 refine sr (ze (hK6 _ _ ?_))
 have HX:=hide m_X
 clear m_X
 have hBB:=hs.b
 clear hs
 obtain⟨W2,e_W2⟩:∃x,x=w_2:=⟨_,rfl⟩;subst e_W2
 have hs:=St.nil W2
 have HA:=hide (HA.out.bl stab_n hBB)
 have HY:=hide (HY.out.bl stab_n hBB)
 have HV:=hide (HV.out.bl stab_n hBB)
 have HP0:=hide HF.out.1.1
 have HT:=hide (fun w1 (hbw:Below W2.heap.size W2 w1)=>HT.out w1 (hBB.trans (hbw.mono hBB.size)))
 refine ct ?_
 refine zk fun K7 hK7 => ?_
 refine zk fun K8 hK8=>rg [0,1,2,3,4] ?_
 refine xmr ?_
 refine xmr ?_
 refine sr (ze (hK8 _ _ ?_))
 refine cf ?_
 refine wp_skip ?_
 refine hK7 _ _ ?_
 refine zk fun K9 hK9=>rg [0] ?_
 refine sm (ze (hK9 _ _ ?_))
 refine wp_block ?_
 have hd3:=hs.2.1
 go_loopg [9] k (fun kz s9 wr=>∃j:Nat,s9 = .int .i64 (j:Int)∧j+kz=k∧Below W2.heap.size W2 wr)
 case atStart=>exact⟨0,rfl,by omega,hs.b⟩
 case round =>
 clear hs
 obtain⟨j,rfl,hjk,hb⟩:=hrel
 have HO := ‹∀(a':Act) (w':World),Handed _ _ a' w'→_›
 obtain⟨g1,hg1⟩:∃g,gk=g:=⟨_,rfl⟩
 by_cases hj:j<k
 ·have HJ:=hide hj
  obtain⟨T,hT0⟩:∃T:Nat→Int × Int,T=fun i=>Dt.sm i fun a=>x0 a*at2 A a j:=⟨_,rfl⟩
  have HTS:=hide (show ∀i,T (i+1)=T i+x0 i*at2 A i j from fun i=>by rw[hT0];rfl)
  have HTN:=hide (show T n=p0*at1 V j from by rw[hT0];exact(HF.out.1.2 j hj).symm)
  have HT1:=hide (show T 0=(0,0) from by rw[hT0];rfl)
  have HTL:=hide (show ∀i,i≤n→zl 4200000 (T i) from fun i hi=>by
   rw[hT0]
   show zl _ (Dt.sm i fun a=>x0 a*at2 A a j)
   rw[←sm_sumP]
   exact zl_up (zl_sum fun a ha=>zl_mP (HF.out.2.2 a (by omega)) (at2_bd HBD.out)) (by omega))
  clear hT0
  have hs:=St.re .n hd3 (List.Sublist.refl _) hb
  refine zk fun K10 hK10 => ?_
  refine zk fun K11 hK11=>rg [0,1,2,3] ?_
  refine xmm ?_
  refine sr ?_
  refine sr (ze (hK11 _ _ ?_))
  refine ct ?_
  refine wp_skip ?_
  refine hK10 _ _ ?_
  refine zk fun K12 hK12 => ?_
  refine wp_block ?_
  refine zk fun K13 hK13=>rg [0,1,2,3] ?_
  refine sq ?_
  intro K hK
  go_big_op
  go_fit (gFrom_any 0 0 _ (by decide) (by decide) (by decide) (by decide))
  rintro e w_4 ⟨_,rfl,⟨n_aa,o_aa,k_aa,c_aa,n_ab,o_ab,k_ab,c_ab,rfl,a1,a2⟩,hb_4⟩
  clear hb
  replace hs:=hs.bl hb_4
  have La1:=hide (a1.lenOf (zlen_small8 (z:=0) (by decide)))
  have La2:=hide (a2.lenOf (zlen_small8 (z:=0) (by decide)))
  refine hK _ _ rfl trivial ?_
  clear hK K
  refine sq ?_
  intro K hK
  go_big_op
  go_fit (gfOf_any (.mk' (a1.zn La1.out) (a2.zn La2.out)) (by omega) (by omega))
  rintro e w_5 ⟨_,rfl,⟨n_s1,o_s1,k_s1,c_s1,n_s2,o_s2,k_s2,c_s2,n_s3,o_s3,k_s3,c_s3,n_s4,o_s4,k_s4,c_s4,rfl,s1,s2,s3,s4⟩,hb_5⟩
  replace hs:=hs.bl hb_5
  refine hK _ _ rfl trivial ?_
  clear hK K
  refine sq ?_
  refine .al hs ?_;clear hs;intro p_b1 w_6 hs n6 kb_b1
  refine sq ?_
  intro K hK
  have xs:=hs.g0
  have d0:w_6.cell? ⟨p_b1,0,none⟩=some (.bool false):=hs.g0.cell 0 rfl
  have d1:w_6.cell? ⟨p_b1,1,none⟩=some (.slice none 0 0):=hs.g0.cell 1 rfl
  have d2:w_6.cell? ⟨p_b1,2,none⟩=some (.bool false):=hs.g0.cell 2 rfl
  have d3:w_6.cell? ⟨p_b1,3,none⟩=some (.slice none 0 0):=hs.g0.cell 3 rfl
  have d4:w_6.cell? ⟨p_b1,4,none⟩=some (.bool false):=hs.g0.cell 4 rfl
  have d5:w_6.cell? ⟨p_b1,5,none⟩=some (.slice none 0 0):=hs.g0.cell 5 rfl
  have d6:w_6.cell? ⟨p_b1,6,none⟩=some (.bool false):=hs.g0.cell 6 rfl
  have d7:w_6.cell? ⟨p_b1,7,none⟩=some (.slice none 0 0):=hs.g0.cell 7 rfl
  have f0:=xs.free 0;have f1:=xs.free 1;have f2:=xs.free 2;have f3:=xs.free 3;have f4:=xs.free 4;have f5:=xs.free 5;have f6:=xs.free 6;have f7:=xs.free 7
  go_big_op
  have hd7:=xs.nod rfl rfl
  obtain⟨w_7_0,eW,xs_0,ho_0⟩:∃w',((((w_6.setCell ⟨p_b1,0,none⟩ (.bool n_s1)).setCell ⟨p_b1,1,none⟩ (.slice o_s1 k_s1 c_s1)).setCell ⟨p_b1,2,none⟩ (.bool n_s2)).setCell ⟨p_b1,3,none⟩ (.slice o_s2 k_s2 c_s2))=w'∧Bs w' p_b1 #[.bool n_s1,.slice o_s1 k_s1 c_s1,.bool n_s2,.slice o_s2 k_s2 c_s2,.bool false,.slice none 0 0,.bool false,.slice none 0 0] 41∧Only p_b1 w_6 w':=xs.setN [(0,.bool n_s1),(1,.slice o_s1 k_s1 c_s1),(2,.bool n_s2),(3,.slice o_s2 k_s2 c_s2)]
  rw[eW];clear eW
  obtain⟨w_7,eW,xs',ho_4⟩:∃w',((((w_7_0.setCell ⟨p_b1,4,none⟩ (.bool n_s3)).setCell ⟨p_b1,5,none⟩ (.slice o_s3 k_s3 c_s3)).setCell ⟨p_b1,6,none⟩ (.bool n_s4)).setCell ⟨p_b1,7,none⟩ (.slice o_s4 k_s4 c_s4))=w'∧Bs w' p_b1 #[.bool n_s1,.slice o_s1 k_s1 c_s1,.bool n_s2,.slice o_s2 k_s2 c_s2,.bool n_s3,.slice o_s3 k_s3 c_s3,.bool n_s4,.slice o_s4 k_s4 c_s4] 41∧Only p_b1 w_7_0 w':=xs_0.setN [(4,.bool n_s3),(5,.slice o_s3 k_s3 c_s3),(6,.bool n_s4),(7,.slice o_s4 k_s4 c_s4)]
  rw[eW];clear eW xs_0
  have ho7:=(ho_0.trans ho_4)
  clear ho_0 ho_4 d0 d1 d2 d3 d4 d5 d6 d7 f0 f1 f2 f3 f4 f5 f6 f7 xs
  replace hs:=hs.u0 kb_b1 xs' ho7;clear xs'
  refine hK _ _ rfl trivial ?_;clear hK K
  refine ze (hK13 _ _ ?_)
  refine zk fun K14 hK14 => ?_
  refine zk fun K15 hK15=>rg [0] ?_
  refine sm (ze (hK15 _ _ ?_))
  refine wp_block ?_
  have k2_4:=(kb n6).o hd7 ho7
  replace s1:=s1.k k2_4
  replace s2:=s2.k k2_4
  replace s3:=s3.k k2_4
  replace s4:=s4.k k2_4
  have hd8:=hs.2.1
  go_loopg [11] n (fun kk s11 wr=>∃(i:Nat) (n1:Bool) (y1:Option Addr) (k1 q1:Nat) (n2:Bool) (y2:Option Addr) (k2 q2:Nat) (n3:Bool) (y3:Option Addr) (k3 q3:Nat) (n4:Bool) (y4:Option Addr) (k4 q4:Nat),s11 = .int .i64 (i:Int)∧i+kk=n∧St W2 [bx p_b1 #[.bool n1,.slice y1 k1 q1,.bool n2,.slice y2 k2 q2,.bool n3,.slice y3 k3 q3,.bool n4,.slice y4 k4 q4] 41] wr∧ZC wr (.agg #[.bool n1,.slice y1 k1 q1]) (qC (T i) p0).1.num∧ZC wr (.agg #[.bool n2,.slice y2 k2 q2]) (qC (T i) p0).1.den∧ZC wr (.agg #[.bool n3,.slice y3 k3 q3]) (qC (T i) p0).2.num∧ZC wr (.agg #[.bool n4,.slice y4 k4 q4]) (qC (T i) p0).2.den)
  case atStart=>exact⟨0,_,_,_,_,_,_,_,_,_,_,_,_,_,_,_,_,rfl,by omega,hs,by rw[HT1.out,qC_zero];exact s1,by rw[HT1.out,qC_zero];exact s2,by rw[HT1.out,qC_zero];exact s3,by rw[HT1.out,qC_zero];exact s4⟩
  case round =>
  clear s1 s2 s3 s4 a1 a2 hs
  obtain⟨i,n1,y1,k1,q1,n2,y2,k2,q2,n3,y3,k3,q3,n4,y4,k4,q4,rfl,hin,hs,s1,s2,s3,s4⟩:=hrel
  by_cases hi:i<n
  ·have HI:=hide hi
   obtain⟨gx,offx,curx,tyx,fzx,a1,a2,a3,a4,a5,a6,a7,a8,a9,a10,a11,a12,a13,a14,a15,a16,rfl,xa,j1,j2,j3,j4,j5,j6,j7,j8,x1,x2,x3,x4⟩:=HX.out.op (i:=i) (by simp;omega)
   obtain⟨gm,offm,curm,tym,fzm,oi,ci,rfl,xm,t1,sr⟩:=HA.out.row (i:=i) (by omega)
   rw[HLR.out i hi] at t1
   obtain⟨gr,offr,curr,tyr,fzr,l1,l2,l3,l4,l5,l6,l7,l8,rfl,xr,j9,j10,j11,j12,z1,z2⟩:=sr.op (j:=j) (by rw[HLR.out i hi];exact HJ.out)
   have LM:=HBD.out
   have LM:zl 1048576 (at2 A i j):=at2_bd LM
   have LX:=qC_len HP0.out (HF.out.2.2 i hi) HF.out.2.1
   have LT:=qC_len HP0.out (HTL.out i (by omega)) HF.out.2.1
   have LN:=qC_len HP0.out (zl_mP (HF.out.2.2 i hi) LM) HF.out.2.1
   have EM:=qC_mul (x0 i) (at2 A i j) p0
   have EA:=qC_add (T i) (x0 i*at2 A i j) p0
   rw[←HTS.out i] at EA
   rw[show ((List.range n).map fun i=>qC (x0 i) p0)[i]'(by simp;omega)=qC (x0 i) p0 by simp] at x1 x2 x3 x4
   replace z1:ZN wr (.agg #[.bool l1,.slice l2 l3 l4]) (at2 A i j).1 1048576:=z1.bl hs.b
   replace z2:ZN wr (.agg #[.bool l5,.slice l6 l7 l8]) (at2 A i j).2 1048576:=z2.bl hs.b
   obtain⟨QX,hQX⟩:∃Q,qC (x0 i) p0=Q:=⟨_,rfl⟩
   obtain⟨QT,hQT⟩:∃Q,qC (T i) p0=Q:=⟨_,rfl⟩
   obtain⟨QM,hQM⟩:∃Q,qC (x0 i*at2 A i j) p0=Q:=⟨_,rfl⟩
   obtain⟨QN,hQN⟩:∃Q,qC (T (i+1)) p0=Q:=⟨_,rfl⟩
   obtain⟨M,hM⟩:∃M,at2 A i j=M:=⟨_,rfl⟩
   change _∧_∧_∧_ at LN
   rw[show mP (x0 i) (at2 A i j)=x0 i*at2 A i j from rfl,hQM] at LN
   rw[hQX] at x1 x2 x3 x4 LX EM
   rw[hQM] at EM EA
   rw[hQT] at s1 s2 s3 s4 LT EA
   rw[hQN] at EA
   rw[hM] at EM LM z1 z2
   have HQN:=hide hQN
   have EM:=hide EM
   have EA:=hide EA
   have LM1:=hide LM.1
   have LM2:=hide LM.2
   replace x1:=(x1.zn LX.1).bl hs.b
   replace x2:=(x2.zn LX.2.1).bl hs.b
   replace x3:=(x3.zn LX.2.2.1).bl hs.b
   replace x4:=(x4.zn LX.2.2.2).bl hs.b
   have xaz:=xa
   have lt_kX:=xa.lt
   replace xa:=xa.bl hs.b
   have LT:=hide LT
   have LN:=hide LN
   have Z1:=hide (zlen_small8 (z:=1) (by decide))
   have xmz:=xm
   have xrz:=xr
   have lt_kA:=xm.lt
   have lt_kR:=xr.lt
   replace xm:=xm.bl hs.b
   replace xr:=xr.bl hs.b
   clear hQX hQT hQM hQN hM LX LM sr
   refine zk fun K16 hK16 => ?_
   refine zk fun K17 hK17=>rg [0,1,2,3] ?_
   refine xmm ?_
   refine sr ?_
   refine sr (ze (hK17 _ _ ?_))
   refine ct ?_
   refine wp_skip ?_
   refine hK16 _ _ ?_
   refine zk fun K18 hK18 => ?_
   refine wp_block ?_
   refine zk fun K19 hK19 => ?_
   refine wp_region_f4 [(0,false),(1,false),(2,false),(3,false),(4,false),(5,false),(6,false),(7,false),(8,false),(9,false),(10,false),(11,true),(12,true),(13,false),(14,false),(15,false)] [17,18] [16] (fun j=>(.cells #[.bool false,.slice none 0 0,.bool false,.slice none 0 0,.bool false,.slice none 0 0,.bool false,.slice none 0 0] 41)) [99,99,99,0,99,99,99,1,99,99,2,99,99,99,99,99,99,99,99] [] (.c xa (.c xm (.c xr .n))) (fm fn) fun w_9 n9 => ?_
   replace xa:=xa.bl n9;replace xm:=xm.bl n9;replace xr:=xr.bl n9;replace hs:=hs.bl n9
   have hlB:=hs.lt;have hkB:=hs.k
   refine fmv ?_
   refine fmv ?_
   refine f0 ?_
   apply wpFl_ld rfl rfl;(case h1=>intro w' hC K hK;have c0:=Bs.cell hC ((offx+i*8)) j1;have c1:=Bs.cell hC ((offx+i*8)+1) j2;have c2:=Bs.cell hC ((offx+i*8)+2) j3;have c3:=Bs.cell hC ((offx+i*8)+3) j4;have c4:=Bs.cell hC ((offx+i*8)+4) j5;have c5:=Bs.cell hC ((offx+i*8)+5) j6;have c6:=Bs.cell hC ((offx+i*8)+6) j7;have c7:=Bs.cell hC ((offx+i*8)+7) j8;go_big_op;exact hK);iterate 4 kernel_rfl
   refine fmv ?_
   refine fmv ?_
   refine f0 ?_
   apply wpFl_ld rfl rfl;(case h1=>intro w' hC K hK;have c0:=Bs.cell hC ((offm+i)) t1;go_big_op;exact hK);iterate 4 kernel_rfl
   refine fmv ?_
   refine f0 ?_
   apply wpFl_ld rfl rfl;(case h1=>intro w' hC K hK;have c0:=Bs.cell hC ((offr+j*4)) j9;have c1:=Bs.cell hC ((offr+j*4)+1) j10;have c2:=Bs.cell hC ((offr+j*4)+2) j11;have c3:=Bs.cell hC ((offr+j*4)+3) j12;go_big_op;exact hK);iterate 4 kernel_rfl
   refine fl fun w_10 n10 => ?_
   replace xa:=xa.bl n10;replace xm:=xm.bl n10;replace xr:=xr.bl n10;replace hs:=hs.bl n10
   intro K hK
   have k0_2:=(kb n9).b n10
   replace z1:=z1.k k0_2
   replace z2:=z2.k k0_2
   go_big_op
   go_fit (gfOf_any (.mk' z1 z2) (by omega) (by omega))
   rintro e w_11 ⟨_,rfl,⟨n_o1,o_o1,k_o1,c_o1,n_o2,o_o2,k_o2,c_o2,n_o3,o_o3,k_o3,c_o3,n_o4,o_o4,k_o4,c_o4,rfl,o1,o2,o3,o4⟩,hb_11⟩
   replace xa:=xa.bl hb_11;replace xm:=xm.bl hb_11;replace xr:=xr.bl hb_11;replace hs:=hs.bl hb_11
   rw[(rv_one _).1] at o1 o3
   rw[(rv_one _).2] at o2 o4
   refine hK _ _ rfl ⟨hb_11,(ai xa (ai xm (ai xr trivial)))⟩ ?_
   clear hK K
   refine fl fun w_12 n12 => ?_
   replace xa:=xa.bl n12;replace xm:=xm.bl n12;replace xr:=xr.bl n12;replace hs:=hs.bl n12
   intro K hK
   have k0_4:=(k0_2.b hb_11).b n12
   replace x1:=x1.k k0_4
   replace x2:=x2.k k0_4
   replace x3:=x3.k k0_4
   replace x4:=x4.k k0_4
   have k3_4:=kb n12
   replace o1:=o1.k k3_4
   replace o2:=o2.k k3_4
   replace o3:=o3.k k3_4
   replace o4:=o4.k k3_4
   go_big_op
   go_fit (gfMul_ok (.mk' x1 x2 x3 x4) (.mk' (o1.zn LM1.out) (o2.zn Z1.out) (o3.zn LM2.out) (o4.zn Z1.out)) (by omega) (by omega) (by omega) (by omega) (by omega) (by omega) (by omega) (by omega) (den_ne _) (den_ne _) (by decide) (by decide))
   rintro e w_13 ⟨_,rfl,⟨n_g1,o_g1,k_g1,c_g1,n_g2,o_g2,k_g2,c_g2,n_g3,o_g3,k_g3,c_g3,n_g4,o_g4,k_g4,c_g4,rfl,g1,g2,g3,g4⟩,hb_13⟩
   replace xa:=xa.bl hb_13;replace xm:=xm.bl hb_13;replace xr:=xr.bl hb_13;replace hs:=hs.bl hb_13
   simp only[rv_nd] at g1 g2 g3 g4
   rw[EM.out.1] at g1 g2
   rw[EM.out.2] at g3 g4
   refine hK _ _ rfl ⟨hb_13,(ai xa (ai xm (ai xr trivial)))⟩ ?_
   clear hK K
   refine fmv ?_
   refine f0 ?_
   refine f0 ?_
   refine e1 hs hlB hkB ?_;clear hs hlB hkB;intro w_14 p_b2 hs n14 kb_b2
   replace xa:=xa.bl n14;replace xm:=xm.bl n14;replace xr:=xr.bl n14
   refine tl ?_
   intro K hK
   have xs:=hs.g0
   have d0:w_14.cell? ⟨p_b2,0,none⟩=some (.bool false):=hs.g0.cell 0 rfl
   have d1:w_14.cell? ⟨p_b2,1,none⟩=some (.slice none 0 0):=hs.g0.cell 1 rfl
   have d2:w_14.cell? ⟨p_b2,2,none⟩=some (.bool false):=hs.g0.cell 2 rfl
   have d3:w_14.cell? ⟨p_b2,3,none⟩=some (.slice none 0 0):=hs.g0.cell 3 rfl
   have d4:w_14.cell? ⟨p_b2,4,none⟩=some (.bool false):=hs.g0.cell 4 rfl
   have d5:w_14.cell? ⟨p_b2,5,none⟩=some (.slice none 0 0):=hs.g0.cell 5 rfl
   have d6:w_14.cell? ⟨p_b2,6,none⟩=some (.bool false):=hs.g0.cell 6 rfl
   have d7:w_14.cell? ⟨p_b2,7,none⟩=some (.slice none 0 0):=hs.g0.cell 7 rfl
   have f0:=xs.free 0;have f1:=xs.free 1;have f2:=xs.free 2;have f3:=xs.free 3;have f4:=xs.free 4;have f5:=xs.free 5;have f6:=xs.free 6;have f7:=xs.free 7
   go_big_op
   have hd15:=xs.nod rfl rfl
   obtain⟨w_15_0,eW,xs_0,ho_0⟩:∃w',((((w_14.setCell ⟨p_b2,0,none⟩ (.bool n_g1)).setCell ⟨p_b2,1,none⟩ (.slice o_g1 k_g1 c_g1)).setCell ⟨p_b2,2,none⟩ (.bool n_g2)).setCell ⟨p_b2,3,none⟩ (.slice o_g2 k_g2 c_g2))=w'∧Bs w' p_b2 #[.bool n_g1,.slice o_g1 k_g1 c_g1,.bool n_g2,.slice o_g2 k_g2 c_g2,.bool false,.slice none 0 0,.bool false,.slice none 0 0] 41∧Only p_b2 w_14 w':=xs.setN [(0,.bool n_g1),(1,.slice o_g1 k_g1 c_g1),(2,.bool n_g2),(3,.slice o_g2 k_g2 c_g2)]
   rw[eW];clear eW
   obtain⟨w_15,eW,xs',ho_4⟩:∃w',((((w_15_0.setCell ⟨p_b2,4,none⟩ (.bool n_g3)).setCell ⟨p_b2,5,none⟩ (.slice o_g3 k_g3 c_g3)).setCell ⟨p_b2,6,none⟩ (.bool n_g4)).setCell ⟨p_b2,7,none⟩ (.slice o_g4 k_g4 c_g4))=w'∧Bs w' p_b2 #[.bool n_g1,.slice o_g1 k_g1 c_g1,.bool n_g2,.slice o_g2 k_g2 c_g2,.bool n_g3,.slice o_g3 k_g3 c_g3,.bool n_g4,.slice o_g4 k_g4 c_g4] 41∧Only p_b2 w_15_0 w':=xs_0.setN [(4,.bool n_g3),(5,.slice o_g3 k_g3 c_g3),(6,.bool n_g4),(7,.slice o_g4 k_g4 c_g4)]
   rw[eW];clear eW xs_0
   have ho15:=(ho_0.trans ho_4)
   clear ho_0 ho_4 d0 d1 d2 d3 d4 d5 d6 d7 f0 f1 f2 f3 f4 f5 f6 f7 xs
   replace hs:=hs.u0 kb_b2 xs' ho15;clear xs'
   replace xa:=xa.frame ho15 (Nat.ne_of_lt (Nat.lt_of_lt_of_le lt_kX kb_b2));replace xm:=xm.frame ho15 (Nat.ne_of_lt (Nat.lt_of_lt_of_le lt_kA kb_b2));replace xr:=xr.frame ho15 (Nat.ne_of_lt (Nat.lt_of_lt_of_le lt_kR kb_b2))
   refine hK _ _ rfl (ai (xaz.bl hs.b) (ai (xmz.bl hs.b) (ai (xrz.bl hs.b) trivial))) ?_;clear hK K
   refine tl ?_
   refine .mv ?_ (e:=(ai (xaz.bl hs.b) (ai (xmz.bl hs.b) (ai (xrz.bl hs.b) trivial))))
   apply wpTail_end
   refine hK19 _ _ ?_
   refine zk fun K20 hK20=>rg [0,1,2,3,4,5,6,7,8] ?_
   refine sq ?_
   intro K hK
   have d0:w_15.cell? ⟨p_b1,0,none⟩=some (.bool n1):=hs.g1.cell 0 rfl
   have d1:w_15.cell? ⟨p_b1,1,none⟩=some (.slice y1 k1 q1):=hs.g1.cell 1 rfl
   have d2:w_15.cell? ⟨p_b1,2,none⟩=some (.bool n2):=hs.g1.cell 2 rfl
   have d3:w_15.cell? ⟨p_b1,3,none⟩=some (.slice y2 k2 q2):=hs.g1.cell 3 rfl
   have d4:w_15.cell? ⟨p_b1,4,none⟩=some (.bool n3):=hs.g1.cell 4 rfl
   have d5:w_15.cell? ⟨p_b1,5,none⟩=some (.slice y3 k3 q3):=hs.g1.cell 5 rfl
   have d6:w_15.cell? ⟨p_b1,6,none⟩=some (.bool n4):=hs.g1.cell 6 rfl
   have d7:w_15.cell? ⟨p_b1,7,none⟩=some (.slice y4 k4 q4):=hs.g1.cell 7 rfl
   go_big_op;refine hK _ _ rfl trivial ?_;clear hK K d0 d1 d2 d3 d4 d5 d6 d7
   refine sq ?_
   intro K hK
   have d0:w_15.cell? ⟨p_b2,0,none⟩=some (.bool n_g1):=hs.g0.cell 0 rfl
   have d1:w_15.cell? ⟨p_b2,1,none⟩=some (.slice o_g1 k_g1 c_g1):=hs.g0.cell 1 rfl
   have d2:w_15.cell? ⟨p_b2,2,none⟩=some (.bool n_g2):=hs.g0.cell 2 rfl
   have d3:w_15.cell? ⟨p_b2,3,none⟩=some (.slice o_g2 k_g2 c_g2):=hs.g0.cell 3 rfl
   have d4:w_15.cell? ⟨p_b2,4,none⟩=some (.bool n_g3):=hs.g0.cell 4 rfl
   have d5:w_15.cell? ⟨p_b2,5,none⟩=some (.slice o_g3 k_g3 c_g3):=hs.g0.cell 5 rfl
   have d6:w_15.cell? ⟨p_b2,6,none⟩=some (.bool n_g4):=hs.g0.cell 6 rfl
   have d7:w_15.cell? ⟨p_b2,7,none⟩=some (.slice o_g4 k_g4 c_g4):=hs.g0.cell 7 rfl
   go_big_op;refine hK _ _ rfl trivial ?_;clear hK K d0 d1 d2 d3 d4 d5 d6 d7
   refine sq ?_
   intro K hK
   have k0_7:=((k0_4.b hb_13).b n14).o hd15 ho15
   replace s1:=s1.k k0_7
   replace s2:=s2.k k0_7
   replace s3:=s3.k k0_7
   replace s4:=s4.k k0_7
   have k5_7:=(kb n14).o hd15 ho15
   replace g1:=g1.k k5_7
   replace g2:=g2.k k5_7
   replace g3:=g3.k k5_7
   replace g4:=g4.k k5_7
   go_big_op
   go_fit (gfAdd_ok (.mk' (s1.zn LT.out.1) (s2.zn LT.out.2.1) (s3.zn LT.out.2.2.1) (s4.zn LT.out.2.2.2)) (.mk' (g1.zn LN.out.1) (g2.zn LN.out.2.1) (g3.zn LN.out.2.2.1) (g4.zn LN.out.2.2.2)) (by omega) (by omega) (by omega) (by omega) (by omega) (by omega) (by omega) (by omega) (den_ne _) (den_ne _) (den_ne _) (den_ne _))
   rintro e w_16 ⟨_,rfl,⟨n_r1,o_r1,k_r1,c_r1,n_r2,o_r2,k_r2,c_r2,n_r3,o_r3,k_r3,c_r3,n_r4,o_r4,k_r4,c_r4,rfl,r1,r2,r3,r4⟩,hb_16⟩
   replace xa:=xa.bl hb_16;replace xm:=xm.bl hb_16;replace xr:=xr.bl hb_16;replace hs:=hs.bl hb_16
   simp only[rv_nd] at r1 r2 r3 r4
   rw[EA.out.1] at r1 r2
   rw[EA.out.2] at r3 r4
   refine hK _ _ rfl trivial ?_
   clear hK K
   refine xmr ?_
   refine sr ?_
   refine sq ?_
   refine .al hs ?_;clear hs;intro p_b3 w_17 hs n17 kb_b3
   clear o1 o2 o3 o4 g1 g2 g3 g4
   replace xa:=xa.bl n17;replace xm:=xm.bl n17;replace xr:=xr.bl n17
   refine sq ?_
   intro K hK
   have xs:=hs.g0
   have d0:w_17.cell? ⟨p_b3,0,none⟩=some (.bool false):=hs.g0.cell 0 rfl
   have d1:w_17.cell? ⟨p_b3,1,none⟩=some (.slice none 0 0):=hs.g0.cell 1 rfl
   have d2:w_17.cell? ⟨p_b3,2,none⟩=some (.bool false):=hs.g0.cell 2 rfl
   have d3:w_17.cell? ⟨p_b3,3,none⟩=some (.slice none 0 0):=hs.g0.cell 3 rfl
   have d4:w_17.cell? ⟨p_b3,4,none⟩=some (.bool false):=hs.g0.cell 4 rfl
   have d5:w_17.cell? ⟨p_b3,5,none⟩=some (.slice none 0 0):=hs.g0.cell 5 rfl
   have d6:w_17.cell? ⟨p_b3,6,none⟩=some (.bool false):=hs.g0.cell 6 rfl
   have d7:w_17.cell? ⟨p_b3,7,none⟩=some (.slice none 0 0):=hs.g0.cell 7 rfl
   have f0:=xs.free 0;have f1:=xs.free 1;have f2:=xs.free 2;have f3:=xs.free 3;have f4:=xs.free 4;have f5:=xs.free 5;have f6:=xs.free 6;have f7:=xs.free 7
   go_big_op
   have hd18:=xs.nod rfl rfl
   obtain⟨w_18_0,eW,xs_0,ho_0⟩:∃w',((((w_17.setCell ⟨p_b3,0,none⟩ (.bool n_r1)).setCell ⟨p_b3,1,none⟩ (.slice o_r1 k_r1 c_r1)).setCell ⟨p_b3,2,none⟩ (.bool n_r2)).setCell ⟨p_b3,3,none⟩ (.slice o_r2 k_r2 c_r2))=w'∧Bs w' p_b3 #[.bool n_r1,.slice o_r1 k_r1 c_r1,.bool n_r2,.slice o_r2 k_r2 c_r2,.bool false,.slice none 0 0,.bool false,.slice none 0 0] 41∧Only p_b3 w_17 w':=xs.setN [(0,.bool n_r1),(1,.slice o_r1 k_r1 c_r1),(2,.bool n_r2),(3,.slice o_r2 k_r2 c_r2)]
   rw[eW];clear eW
   obtain⟨w_18,eW,xs',ho_4⟩:∃w',((((w_18_0.setCell ⟨p_b3,4,none⟩ (.bool n_r3)).setCell ⟨p_b3,5,none⟩ (.slice o_r3 k_r3 c_r3)).setCell ⟨p_b3,6,none⟩ (.bool n_r4)).setCell ⟨p_b3,7,none⟩ (.slice o_r4 k_r4 c_r4))=w'∧Bs w' p_b3 #[.bool n_r1,.slice o_r1 k_r1 c_r1,.bool n_r2,.slice o_r2 k_r2 c_r2,.bool n_r3,.slice o_r3 k_r3 c_r3,.bool n_r4,.slice o_r4 k_r4 c_r4] 41∧Only p_b3 w_18_0 w':=xs_0.setN [(4,.bool n_r3),(5,.slice o_r3 k_r3 c_r3),(6,.bool n_r4),(7,.slice o_r4 k_r4 c_r4)]
   rw[eW];clear eW xs_0
   have ho18:=(ho_0.trans ho_4)
   clear ho_0 ho_4 d0 d1 d2 d3 d4 d5 d6 d7 f0 f1 f2 f3 f4 f5 f6 f7 xs
   replace hs:=hs.u0 kb_b3 xs' ho18;clear xs'
   replace xa:=xa.frame ho18 (Nat.ne_of_lt (Nat.lt_of_lt_of_le lt_kX kb_b3));replace xm:=xm.frame ho18 (Nat.ne_of_lt (Nat.lt_of_lt_of_le lt_kA kb_b3));replace xr:=xr.frame ho18 (Nat.ne_of_lt (Nat.lt_of_lt_of_le lt_kR kb_b3))
   refine hK _ _ rfl trivial ?_;clear hK K
   refine sm (ze (hK20 _ _ ?_))
   refine zk fun K21 hK21 => ?_
   refine zk fun K22 hK22=>rg [0,1,2,3,4,5] ?_
   refine xmr ?_
   refine xmm ?_
   refine sr ?_
   refine sr (ze (hK22 _ _ ?_))
   refine cf ?_
   refine wp_skip ?_
   refine hK21 _ _ ?_
   refine rg [0,1] ?_
   refine sq ?_
   intro K hK
   have d0:w_18.cell? ⟨p_b3,0,none⟩=some (.bool n_r1):=hs.g0.cell 0 rfl
   have d1:w_18.cell? ⟨p_b3,1,none⟩=some (.slice o_r1 k_r1 c_r1):=hs.g0.cell 1 rfl
   have d2:w_18.cell? ⟨p_b3,2,none⟩=some (.bool n_r2):=hs.g0.cell 2 rfl
   have d3:w_18.cell? ⟨p_b3,3,none⟩=some (.slice o_r2 k_r2 c_r2):=hs.g0.cell 3 rfl
   have d4:w_18.cell? ⟨p_b3,4,none⟩=some (.bool n_r3):=hs.g0.cell 4 rfl
   have d5:w_18.cell? ⟨p_b3,5,none⟩=some (.slice o_r3 k_r3 c_r3):=hs.g0.cell 5 rfl
   have d6:w_18.cell? ⟨p_b3,6,none⟩=some (.bool n_r4):=hs.g0.cell 6 rfl
   have d7:w_18.cell? ⟨p_b3,7,none⟩=some (.slice o_r4 k_r4 c_r4):=hs.g0.cell 7 rfl
   go_big_op;refine hK _ _ rfl trivial ?_;clear hK K d0 d1 d2 d3 d4 d5 d6 d7
   refine sq ?_
   intro K hK
   have xs:=hs.g2
   have d0:w_18.cell? ⟨p_b1,0,none⟩=some (.bool n1):=hs.g2.cell 0 rfl
   have d1:w_18.cell? ⟨p_b1,1,none⟩=some (.slice y1 k1 q1):=hs.g2.cell 1 rfl
   have d2:w_18.cell? ⟨p_b1,2,none⟩=some (.bool n2):=hs.g2.cell 2 rfl
   have d3:w_18.cell? ⟨p_b1,3,none⟩=some (.slice y2 k2 q2):=hs.g2.cell 3 rfl
   have d4:w_18.cell? ⟨p_b1,4,none⟩=some (.bool n3):=hs.g2.cell 4 rfl
   have d5:w_18.cell? ⟨p_b1,5,none⟩=some (.slice y3 k3 q3):=hs.g2.cell 5 rfl
   have d6:w_18.cell? ⟨p_b1,6,none⟩=some (.bool n4):=hs.g2.cell 6 rfl
   have d7:w_18.cell? ⟨p_b1,7,none⟩=some (.slice y4 k4 q4):=hs.g2.cell 7 rfl
   have f0:=xs.free 0;have f1:=xs.free 1;have f2:=xs.free 2;have f3:=xs.free 3;have f4:=xs.free 4;have f5:=xs.free 5;have f6:=xs.free 6;have f7:=xs.free 7
   go_big_op
   have hd19:=xs.nod rfl rfl
   obtain⟨w_19_0,eW,xs_0,ho_0⟩:∃w',((((w_18.setCell ⟨p_b1,0,none⟩ (.bool n_r1)).setCell ⟨p_b1,1,none⟩ (.slice o_r1 k_r1 c_r1)).setCell ⟨p_b1,2,none⟩ (.bool n_r2)).setCell ⟨p_b1,3,none⟩ (.slice o_r2 k_r2 c_r2))=w'∧Bs w' p_b1 #[.bool n_r1,.slice o_r1 k_r1 c_r1,.bool n_r2,.slice o_r2 k_r2 c_r2,.bool n3,.slice y3 k3 q3,.bool n4,.slice y4 k4 q4] 41∧Only p_b1 w_18 w':=xs.setN [(0,.bool n_r1),(1,.slice o_r1 k_r1 c_r1),(2,.bool n_r2),(3,.slice o_r2 k_r2 c_r2)]
   rw[eW];clear eW
   obtain⟨w_19,eW,xs',ho_4⟩:∃w',((((w_19_0.setCell ⟨p_b1,4,none⟩ (.bool n_r3)).setCell ⟨p_b1,5,none⟩ (.slice o_r3 k_r3 c_r3)).setCell ⟨p_b1,6,none⟩ (.bool n_r4)).setCell ⟨p_b1,7,none⟩ (.slice o_r4 k_r4 c_r4))=w'∧Bs w' p_b1 #[.bool n_r1,.slice o_r1 k_r1 c_r1,.bool n_r2,.slice o_r2 k_r2 c_r2,.bool n_r3,.slice o_r3 k_r3 c_r3,.bool n_r4,.slice o_r4 k_r4 c_r4] 41∧Only p_b1 w_19_0 w':=xs_0.setN [(4,.bool n_r3),(5,.slice o_r3 k_r3 c_r3),(6,.bool n_r4),(7,.slice o_r4 k_r4 c_r4)]
   rw[eW];clear eW xs_0
   have ho19:=(ho_0.trans ho_4)
   clear ho_0 ho_4 d0 d1 d2 d3 d4 d5 d6 d7 f0 f1 f2 f3 f4 f5 f6 f7 xs
   replace hs:=hs.u2 kb_b1 xs' ho19;clear xs'
   replace xa:=xa.frame ho19 (Nat.ne_of_lt (Nat.lt_of_lt_of_le lt_kX kb_b1));replace xm:=xm.frame ho19 (Nat.ne_of_lt (Nat.lt_of_lt_of_le lt_kA kb_b1));replace xr:=xr.frame ho19 (Nat.ne_of_lt (Nat.lt_of_lt_of_le lt_kR kb_b1))
   refine hK _ _ rfl trivial ?_;clear hK K
   refine ze (hK18 _ _ ?_)
   refine rg [0,1,2] ?_
   refine xmr ?_
   refine sm ?_
   apply wpSq_end
   have k8_11:=((kb n17).o hd18 ho18).o hd19 ho19
   replace r1:=r1.k k8_11
   replace r2:=r2.k k8_11
   replace r3:=r3.k k8_11
   replace r4:=r4.k k8_11
   have k2_11:=((((((((kb hb_11).b n12).b hb_13).b n14).o hd15 ho15).b hb_16).b n17).o hd18 ho18).o hd19 ho19
   replace z1:=z1.k k2_11
   replace z2:=z2.k k2_11
   refine ‹∀(a':Act) (w':World),Handed _ _ a' w'→_› _ _ ?_
   go_roundg (gk - 1)
   case rel=>exact⟨i+1,_,_,_,_,_,_,_,_,_,_,_,_,_,_,_,_,by rfl,by omega,hs.sub (.cons _ (.cons _ (List.Sublist.refl _))),by rw[HQN.out];exact r1,by rw[HQN.out];exact r2,by rw[HQN.out];exact r3,by rw[HQN.out];exact r4⟩
   case measure=>omega
  ·have HI:=hide hi
   obtain rfl:n=i:=by omega
   rw[HTN.out,qC_self HP0.out] at s1 s2 s3 s4
   obtain⟨gv,offv,curv,tyv,fzv,l1,l2,l3,l4,l5,l6,l7,l8,rfl,xv,j9,j10,j11,j12,z1,z2⟩:=HV.out.op (j:=j) (by rw[hnv];exact HJ.out)
   have LV:zl 1048576 (at1 V j):=HV.out.bd.at1
   replace z1:ZN wr (.agg #[.bool l1,.slice l2 l3 l4]) (at1 V j).1 1048576:=z1.bl hs.b
   replace z2:ZN wr (.agg #[.bool l5,.slice l6 l7 l8]) (at1 V j).2 1048576:=z2.bl hs.b
   obtain⟨U,hU⟩:∃U,at1 V j=U:=⟨_,rfl⟩
   rw[hU] at s1 s2 s3 s4 LV z1 z2
   rw[(rv_one _).1] at s1 s3
   rw[(rv_one _).2] at s2 s4
   have LV1:=hide LV.1
   have LV2:=hide LV.2
   have Z1:=hide (zlen_small8 (z:=1) (by decide))
   have xvz:=xv
   have lt_kV:=xv.lt
   replace xv:=xv.bl hs.b
   clear hU LV
   refine zk fun K16 hK16 => ?_
   refine zk fun K17 hK17=>rg [0,1,2,3] ?_
   refine xmm ?_
   refine sr ?_
   refine sr (ze (hK17 _ _ ?_))
   refine cf ?_
   refine wp_exit ?_
   refine hK14 _ _ ?_
   refine zk fun K18 hK18 => ?_
   refine wp_region_f4 [(0,false),(1,false),(2,false),(3,false),(4,false),(5,true),(6,true),(7,false),(8,false),(9,false),(10,false),(11,false)] [] [] (fun _=>default) [0,99,99,99,1,99,99,99,99,99,99,99] [] (.c hs.g0 (.c xv .n)) fn fun w_9 n9 => ?_
   replace xv:=xv.bl n9;replace hs:=hs.bl n9
   apply wpFl_ld rfl rfl;(case h1=>intro w' hC K hK;have c0:=Bs.cell hC 0 rfl;have c1:=Bs.cell hC 1 rfl;have c2:=Bs.cell hC 2 rfl;have c3:=Bs.cell hC 3 rfl;have c4:=Bs.cell hC 4 rfl;have c5:=Bs.cell hC 5 rfl;have c6:=Bs.cell hC 6 rfl;have c7:=Bs.cell hC 7 rfl;go_big_op;exact hK);iterate 4 kernel_rfl
   refine fmv ?_
   refine fmv ?_
   refine f0 ?_
   apply wpFl_ld rfl rfl;(case h1=>intro w' hC K hK;have c0:=Bs.cell hC ((offv+j*4)) j9;have c1:=Bs.cell hC ((offv+j*4)+1) j10;have c2:=Bs.cell hC ((offv+j*4)+2) j11;have c3:=Bs.cell hC ((offv+j*4)+3) j12;go_big_op;exact hK);iterate 4 kernel_rfl
   refine fl fun w_10 n10 => ?_
   replace xv:=xv.bl n10;replace hs:=hs.bl n10
   intro K hK
   have k0_2:=(kb n9).b n10
   replace z1:=z1.k k0_2
   replace z2:=z2.k k0_2
   go_big_op
   go_fit (gfOf_any (.mk' z1 z2) (by omega) (by omega))
   rintro e w_11 ⟨_,rfl,⟨n_o1,o_o1,k_o1,c_o1,n_o2,o_o2,k_o2,c_o2,n_o3,o_o3,k_o3,c_o3,n_o4,o_o4,k_o4,c_o4,rfl,o1,o2,o3,o4⟩,hb_11⟩
   replace xv:=xv.bl hb_11;replace hs:=hs.bl hb_11
   rw[(rv_one _).1] at o1 o3
   rw[(rv_one _).2] at o2 o4
   refine hK _ _ rfl ⟨hb_11,(ai hs.g0 (ai xv trivial))⟩ ?_
   clear hK K
   refine fl fun w_12 n12 => ?_
   replace xv:=xv.bl n12;replace hs:=hs.bl n12
   intro K hK
   have k0_4:=(k0_2.b hb_11).b n12
   replace s1:=s1.k k0_4
   replace s2:=s2.k k0_4
   replace s3:=s3.k k0_4
   replace s4:=s4.k k0_4
   have k3_4:=kb n12
   replace o1:=o1.k k3_4
   replace o2:=o2.k k3_4
   replace o3:=o3.k k3_4
   replace o4:=o4.k k3_4
   go_big_op
   go_fit (gfEqual_yes (.mk' (s1.zn LV1.out) (s2.zn Z1.out) (s3.zn LV2.out) (s4.zn Z1.out)) (.mk' (o1.zn LV1.out) (o2.zn Z1.out) (o3.zn LV2.out) (o4.zn Z1.out)) (by omega) (by omega) (by omega) (by omega) (by omega) (by omega) (by omega) (by omega) (by decide) (by decide) (by decide) (by decide) (qcmp_self _) (qcmp_self _))
   rintro e w_13 ⟨rfl,hb_13⟩
   replace xv:=xv.bl hb_13;replace hs:=hs.bl hb_13
   refine hK _ _ rfl ⟨hb_13,(ai hs.g0 (ai xv trivial))⟩ ?_
   clear hK K
   refine fmv ?_
   refine f0 ?_
   refine f0 ?_
   refine fmv ?_
   refine fmv ?_
   refine e0 hs ?_;clear hs;intro w_14 hs n14
   replace xv:=xv.bl n14
   apply wpTail_end
   refine hK18 _ _ ?_
   refine zk fun K19 hK19=>rg [0,1,2,3,4,5] ?_
   refine xmr ?_
   refine xmm ?_
   refine sr ?_
   refine sr (ze (hK19 _ _ ?_))
   refine cf ?_
   refine wp_skip ?_
   refine hK12 _ _ ?_
   refine rg [0,1,2] ?_
   refine xmr ?_
   refine sm ?_
   apply wpSq_end
   refine HO _ _ ?_
   go_roundg (g1 - 1)
   case rel=>exact⟨j+1,by rfl,by omega,hs.b⟩
   case measure=>omega
 ·have HJ:=hide hj
  obtain rfl:k=j:=by omega
  have hs:=St.re .n hd3 (List.Sublist.refl _) hb
  refine zk fun K10 hK10 => ?_
  refine zk fun K11 hK11=>rg [0,1,2,3] ?_
  refine xmm ?_
  refine sr ?_
  refine sr (ze (hK11 _ _ ?_))
  refine cf ?_
  refine wp_exit ?_
  refine hK5 _ _ ?_
  refine zk fun K12 hK12=>rg [0,1,2,3,4,5,6,7] ?_
  refine xmm ?_
  refine sq ?_
  intro K hK
  go_big_op
  go_fit (HT.out _ hs.b)
  rintro e w_4 ⟨rfl,hb_4⟩
  clear hb
  replace hs:=hs.bl hb_4
  refine hK _ _ rfl trivial ?_
  clear hK K
  refine xmr ?_
  refine xrm ?_
  refine sm (ze (hK12 _ _ ?_))
  refine zk fun K13 hK13 => ?_
  refine zk fun K14 hK14=>rg [0,1] ?_
  refine sm ?_
  refine sr (ze (hK14 _ _ ?_))
  refine ct ?_
  refine zk fun K15 hK15=>rg [0,1,2] ?_
  refine xmr ?_
  refine sm (ze (hK15 _ _ ?_))
  refine wp_ret ?_
  try dsimp only [Exit.then,Exit.inBlock]
  refine bodyPost_ret (v:=(.bool true)) (by simp[results,Tryz.results4,go_sem]) rfl ?_
  exact⟨rfl,hBB.trans (hs.b.mono hBB.size)⟩
theorem mk_BE (ha:MN 1048576 w oa A) (hna:A.length=n) (hy:SN 1048576 w oy Y) (hny:Y.length=n) (hn0:0<n) (hv:SN 1048576 w ov V) (hnv:V.length=k) (hS:∀w1,Below w.heap.size w w1→Calls Tryz.prog 5 #[.slice oa n ca,.slice ov k cv] w1 fun e w'=>∃p x o c,e = .returned (.tuple #[.slice o n c,.int .i64 0])∧Hid (SolB n k (at2 A) (at1 V) 2099153 p x)∧LQ w' o ((List.range n).map fun i=>qC (x i) p)∧Below w1.heap.size w1 w') (h:gd A) (hk:wd A=k) (hB:MinB n k 1048641 (at2 A)) (hr:Dt.Rk n k (at2 A) r) (hrn:r=n) (hZ:∀w1 o c,Below w.heap.size w w1→SN 2200000 w1 o (rowC Y A n k)→Calls Tryz.prog 5 #[.slice oa n ca,.slice o k c] w1 fun e w'=>∃o c,e = .returned (.tuple #[.slice o n c,.int .i64 0])∧LQ w' o ((List.range n).map fun i=>(rv (at1 Y i).1 1,rv (at1 Y i).2 1))∧Below w1.heap.size w1 w') :
  Calls Tryz.prog 4 #[.slice oa n ca,.slice oy n cy,.slice ov k cv] w fun e w'=>e = .returned (.bool true)∧Below w.heap.size w w':=by
 have HA:=hide ha
 have HY:=hide hy
 have HBD:=hide ha.bd
 have HV:=hide hv
 have HS:=hide hS
 have hn0:(0<n)=True:=eq_true hn0
 have hn1:((0:Int)<(n:Int))=True:=eq_true (by simpa using hn0)
 have HLR:=hide (show ∀i,i<n→(rw_ A i).length=k from fun i hi=>by rw[gd_row h (by omega)];exact hk)
 have hn64:n≤64:=by have:=h.1;omega
 have hk64:k≤64:=by have:=h.2.1;omega
 have HG:=hide h
 have HK:=hide hk
 have HB:=hide hB
 have HR:=hide hr
 have HWB:=hide (show Bd 2200000 (rowC Y A n k) from bd_up (rwT_bd (i:=n) (k:=k) hy.bd ha.bd) (by have:=h.1;omega))
 have HZ:=hide hZ
 have EI:=hide (decide_eq_true hrn)
 clear ha hy hv hS h hk hB hr hZ hrn
 go_enter Tryz.func4,Tryz.ntmps4
 have hs:=St.nil w
 refine zk fun K1 hK1=>rg [0] ?_
 refine sm (ze (hK1 _ _ ?_))
 refine zk fun K2 hK2 => ?_
 refine zk fun K3 hK3=>rg [0,1] ?_
 refine sq ?_
 intro K hK
 go_big_op
 go_fit (awake9_any _)
 rintro e w_1 ⟨rfl,hb_1⟩
 replace hs:=hs.bl hb_1
 refine hK _ _ rfl trivial ?_
 clear hK K
 refine sr (ze (hK3 _ _ ?_))
 refine cf ?_
 refine wp_skip ?_
 refine hK2 _ _ ?_
 refine zk fun K4 hK4=>rg [0,1,2,3,4,5,6,7] ?_
 refine xmm ?_
 refine sq ?_
 intro K hK
 go_big_op
 go_fit (HS.out _ hs.b)
 rintro e w_2 ⟨p0,x0,o_X,c_X,rfl,HF,m_X,hb_2⟩
 replace hs:=hs.bl hb_2
 refine hK _ _ rfl trivial ?_
 clear hK K
 refine xmr ?_
 refine xrm ?_
 refine sm (ze (hK4 _ _ ?_))
 refine zk fun K5 hK5 => ?_
 refine zk fun K6 hK6=>rg [0,1,2,3,4,5,6] ?_
 refine xmr ?_
 refine xmm ?_
 refine xrr ?_
 refine sr (ze (hK6 _ _ ?_))
 have HX:=hide m_X
 clear m_X
 have hBB:=hs.b
 clear hs
 obtain⟨W2,e_W2⟩:∃x,x=w_2:=⟨_,rfl⟩;subst e_W2
 have hs:=St.nil W2
 have HA:=hide (HA.out.bl stab_n hBB)
 have HY:=hide (HY.out.bl stab_n hBB)
 have HV:=hide (HV.out.bl stab_n hBB)
 have HP0:=hide HF.out.1.1
 have HZ:=hide (fun w1 o c (hbw:Below W2.heap.size W2 w1)=>HZ.out w1 o c (hBB.trans (hbw.mono hBB.size)))
 refine ct ?_
 refine zk fun K7 hK7 => ?_
 refine zk fun K8 hK8=>rg [0,1,2,3,4] ?_
 refine xmr ?_
 refine xmr ?_
 refine sr (ze (hK8 _ _ ?_))
 refine cf ?_
 refine wp_skip ?_
 refine hK7 _ _ ?_
 refine zk fun K9 hK9=>rg [0] ?_
 refine sm (ze (hK9 _ _ ?_))
 refine wp_block ?_
 have hd3:=hs.2.1
 go_loopg [9] k (fun kz s9 wr=>∃j:Nat,s9 = .int .i64 (j:Int)∧j+kz=k∧Below W2.heap.size W2 wr)
 case atStart=>exact⟨0,rfl,by omega,hs.b⟩
 case round =>
 clear hs
 obtain⟨j,rfl,hjk,hb⟩:=hrel
 have HO := ‹∀(a':Act) (w':World),Handed _ _ a' w'→_›
 obtain⟨g1,hg1⟩:∃g,gk=g:=⟨_,rfl⟩
 by_cases hj:j<k
 ·have HJ:=hide hj
  obtain⟨T,hT0⟩:∃T:Nat→Int × Int,T=fun i=>Dt.sm i fun a=>x0 a*at2 A a j:=⟨_,rfl⟩
  have HTS:=hide (show ∀i,T (i+1)=T i+x0 i*at2 A i j from fun i=>by rw[hT0];rfl)
  have HTN:=hide (show T n=p0*at1 V j from by rw[hT0];exact(HF.out.1.2 j hj).symm)
  have HT1:=hide (show T 0=(0,0) from by rw[hT0];rfl)
  have HTL:=hide (show ∀i,i≤n→zl 4200000 (T i) from fun i hi=>by
   rw[hT0]
   show zl _ (Dt.sm i fun a=>x0 a*at2 A a j)
   rw[←sm_sumP]
   exact zl_up (zl_sum fun a ha=>zl_mP (HF.out.2.2 a (by omega)) (at2_bd HBD.out)) (by omega))
  clear hT0
  have hs:=St.re .n hd3 (List.Sublist.refl _) hb
  refine zk fun K10 hK10 => ?_
  refine zk fun K11 hK11=>rg [0,1,2,3] ?_
  refine xmm ?_
  refine sr ?_
  refine sr (ze (hK11 _ _ ?_))
  refine ct ?_
  refine wp_skip ?_
  refine hK10 _ _ ?_
  refine zk fun K12 hK12 => ?_
  refine wp_block ?_
  refine zk fun K13 hK13=>rg [0,1,2,3] ?_
  refine sq ?_
  intro K hK
  go_big_op
  go_fit (gFrom_any 0 0 _ (by decide) (by decide) (by decide) (by decide))
  rintro e w_4 ⟨_,rfl,⟨n_aa,o_aa,k_aa,c_aa,n_ab,o_ab,k_ab,c_ab,rfl,a1,a2⟩,hb_4⟩
  clear hb
  replace hs:=hs.bl hb_4
  have La1:=hide (a1.lenOf (zlen_small8 (z:=0) (by decide)))
  have La2:=hide (a2.lenOf (zlen_small8 (z:=0) (by decide)))
  refine hK _ _ rfl trivial ?_
  clear hK K
  refine sq ?_
  intro K hK
  go_big_op
  go_fit (gfOf_any (.mk' (a1.zn La1.out) (a2.zn La2.out)) (by omega) (by omega))
  rintro e w_5 ⟨_,rfl,⟨n_s1,o_s1,k_s1,c_s1,n_s2,o_s2,k_s2,c_s2,n_s3,o_s3,k_s3,c_s3,n_s4,o_s4,k_s4,c_s4,rfl,s1,s2,s3,s4⟩,hb_5⟩
  replace hs:=hs.bl hb_5
  refine hK _ _ rfl trivial ?_
  clear hK K
  refine sq ?_
  refine .al hs ?_;clear hs;intro p_b1 w_6 hs n6 kb_b1
  refine sq ?_
  intro K hK
  have xs:=hs.g0
  have d0:w_6.cell? ⟨p_b1,0,none⟩=some (.bool false):=hs.g0.cell 0 rfl
  have d1:w_6.cell? ⟨p_b1,1,none⟩=some (.slice none 0 0):=hs.g0.cell 1 rfl
  have d2:w_6.cell? ⟨p_b1,2,none⟩=some (.bool false):=hs.g0.cell 2 rfl
  have d3:w_6.cell? ⟨p_b1,3,none⟩=some (.slice none 0 0):=hs.g0.cell 3 rfl
  have d4:w_6.cell? ⟨p_b1,4,none⟩=some (.bool false):=hs.g0.cell 4 rfl
  have d5:w_6.cell? ⟨p_b1,5,none⟩=some (.slice none 0 0):=hs.g0.cell 5 rfl
  have d6:w_6.cell? ⟨p_b1,6,none⟩=some (.bool false):=hs.g0.cell 6 rfl
  have d7:w_6.cell? ⟨p_b1,7,none⟩=some (.slice none 0 0):=hs.g0.cell 7 rfl
  have f0:=xs.free 0;have f1:=xs.free 1;have f2:=xs.free 2;have f3:=xs.free 3;have f4:=xs.free 4;have f5:=xs.free 5;have f6:=xs.free 6;have f7:=xs.free 7
  go_big_op
  have hd7:=xs.nod rfl rfl
  obtain⟨w_7_0,eW,xs_0,ho_0⟩:∃w',((((w_6.setCell ⟨p_b1,0,none⟩ (.bool n_s1)).setCell ⟨p_b1,1,none⟩ (.slice o_s1 k_s1 c_s1)).setCell ⟨p_b1,2,none⟩ (.bool n_s2)).setCell ⟨p_b1,3,none⟩ (.slice o_s2 k_s2 c_s2))=w'∧Bs w' p_b1 #[.bool n_s1,.slice o_s1 k_s1 c_s1,.bool n_s2,.slice o_s2 k_s2 c_s2,.bool false,.slice none 0 0,.bool false,.slice none 0 0] 41∧Only p_b1 w_6 w':=xs.setN [(0,.bool n_s1),(1,.slice o_s1 k_s1 c_s1),(2,.bool n_s2),(3,.slice o_s2 k_s2 c_s2)]
  rw[eW];clear eW
  obtain⟨w_7,eW,xs',ho_4⟩:∃w',((((w_7_0.setCell ⟨p_b1,4,none⟩ (.bool n_s3)).setCell ⟨p_b1,5,none⟩ (.slice o_s3 k_s3 c_s3)).setCell ⟨p_b1,6,none⟩ (.bool n_s4)).setCell ⟨p_b1,7,none⟩ (.slice o_s4 k_s4 c_s4))=w'∧Bs w' p_b1 #[.bool n_s1,.slice o_s1 k_s1 c_s1,.bool n_s2,.slice o_s2 k_s2 c_s2,.bool n_s3,.slice o_s3 k_s3 c_s3,.bool n_s4,.slice o_s4 k_s4 c_s4] 41∧Only p_b1 w_7_0 w':=xs_0.setN [(4,.bool n_s3),(5,.slice o_s3 k_s3 c_s3),(6,.bool n_s4),(7,.slice o_s4 k_s4 c_s4)]
  rw[eW];clear eW xs_0
  have ho7:=(ho_0.trans ho_4)
  clear ho_0 ho_4 d0 d1 d2 d3 d4 d5 d6 d7 f0 f1 f2 f3 f4 f5 f6 f7 xs
  replace hs:=hs.u0 kb_b1 xs' ho7;clear xs'
  refine hK _ _ rfl trivial ?_;clear hK K
  refine ze (hK13 _ _ ?_)
  refine zk fun K14 hK14 => ?_
  refine zk fun K15 hK15=>rg [0] ?_
  refine sm (ze (hK15 _ _ ?_))
  refine wp_block ?_
  have k2_4:=(kb n6).o hd7 ho7
  replace s1:=s1.k k2_4
  replace s2:=s2.k k2_4
  replace s3:=s3.k k2_4
  replace s4:=s4.k k2_4
  have hd8:=hs.2.1
  go_loopg [11] n (fun kk s11 wr=>∃(i:Nat) (n1:Bool) (y1:Option Addr) (k1 q1:Nat) (n2:Bool) (y2:Option Addr) (k2 q2:Nat) (n3:Bool) (y3:Option Addr) (k3 q3:Nat) (n4:Bool) (y4:Option Addr) (k4 q4:Nat),s11 = .int .i64 (i:Int)∧i+kk=n∧St W2 [bx p_b1 #[.bool n1,.slice y1 k1 q1,.bool n2,.slice y2 k2 q2,.bool n3,.slice y3 k3 q3,.bool n4,.slice y4 k4 q4] 41] wr∧ZC wr (.agg #[.bool n1,.slice y1 k1 q1]) (qC (T i) p0).1.num∧ZC wr (.agg #[.bool n2,.slice y2 k2 q2]) (qC (T i) p0).1.den∧ZC wr (.agg #[.bool n3,.slice y3 k3 q3]) (qC (T i) p0).2.num∧ZC wr (.agg #[.bool n4,.slice y4 k4 q4]) (qC (T i) p0).2.den)
  case atStart=>exact⟨0,_,_,_,_,_,_,_,_,_,_,_,_,_,_,_,_,rfl,by omega,hs,by rw[HT1.out,qC_zero];exact s1,by rw[HT1.out,qC_zero];exact s2,by rw[HT1.out,qC_zero];exact s3,by rw[HT1.out,qC_zero];exact s4⟩
  case round =>
  clear s1 s2 s3 s4 a1 a2 hs
  obtain⟨i,n1,y1,k1,q1,n2,y2,k2,q2,n3,y3,k3,q3,n4,y4,k4,q4,rfl,hin,hs,s1,s2,s3,s4⟩:=hrel
  by_cases hi:i<n
  ·have HI:=hide hi
   obtain⟨gx,offx,curx,tyx,fzx,a1,a2,a3,a4,a5,a6,a7,a8,a9,a10,a11,a12,a13,a14,a15,a16,rfl,xa,j1,j2,j3,j4,j5,j6,j7,j8,x1,x2,x3,x4⟩:=HX.out.op (i:=i) (by simp;omega)
   obtain⟨gm,offm,curm,tym,fzm,oi,ci,rfl,xm,t1,sr⟩:=HA.out.row (i:=i) (by omega)
   rw[HLR.out i hi] at t1
   obtain⟨gr,offr,curr,tyr,fzr,l1,l2,l3,l4,l5,l6,l7,l8,rfl,xr,j9,j10,j11,j12,z1,z2⟩:=sr.op (j:=j) (by rw[HLR.out i hi];exact HJ.out)
   have LM:=HBD.out
   have LM:zl 1048576 (at2 A i j):=at2_bd LM
   have LX:=qC_len HP0.out (HF.out.2.2 i hi) HF.out.2.1
   have LT:=qC_len HP0.out (HTL.out i (by omega)) HF.out.2.1
   have LN:=qC_len HP0.out (zl_mP (HF.out.2.2 i hi) LM) HF.out.2.1
   have EM:=qC_mul (x0 i) (at2 A i j) p0
   have EA:=qC_add (T i) (x0 i*at2 A i j) p0
   rw[←HTS.out i] at EA
   rw[show ((List.range n).map fun i=>qC (x0 i) p0)[i]'(by simp;omega)=qC (x0 i) p0 by simp] at x1 x2 x3 x4
   replace z1:ZN wr (.agg #[.bool l1,.slice l2 l3 l4]) (at2 A i j).1 1048576:=z1.bl hs.b
   replace z2:ZN wr (.agg #[.bool l5,.slice l6 l7 l8]) (at2 A i j).2 1048576:=z2.bl hs.b
   obtain⟨QX,hQX⟩:∃Q,qC (x0 i) p0=Q:=⟨_,rfl⟩
   obtain⟨QT,hQT⟩:∃Q,qC (T i) p0=Q:=⟨_,rfl⟩
   obtain⟨QM,hQM⟩:∃Q,qC (x0 i*at2 A i j) p0=Q:=⟨_,rfl⟩
   obtain⟨QN,hQN⟩:∃Q,qC (T (i+1)) p0=Q:=⟨_,rfl⟩
   obtain⟨M,hM⟩:∃M,at2 A i j=M:=⟨_,rfl⟩
   change _∧_∧_∧_ at LN
   rw[show mP (x0 i) (at2 A i j)=x0 i*at2 A i j from rfl,hQM] at LN
   rw[hQX] at x1 x2 x3 x4 LX EM
   rw[hQM] at EM EA
   rw[hQT] at s1 s2 s3 s4 LT EA
   rw[hQN] at EA
   rw[hM] at EM LM z1 z2
   have HQN:=hide hQN
   have EM:=hide EM
   have EA:=hide EA
   have LM1:=hide LM.1
   have LM2:=hide LM.2
   replace x1:=(x1.zn LX.1).bl hs.b
   replace x2:=(x2.zn LX.2.1).bl hs.b
   replace x3:=(x3.zn LX.2.2.1).bl hs.b
   replace x4:=(x4.zn LX.2.2.2).bl hs.b
   have xaz:=xa
   have lt_kX:=xa.lt
   replace xa:=xa.bl hs.b
   have LT:=hide LT
   have LN:=hide LN
   have Z1:=hide (zlen_small8 (z:=1) (by decide))
   have xmz:=xm
   have xrz:=xr
   have lt_kA:=xm.lt
   have lt_kR:=xr.lt
   replace xm:=xm.bl hs.b
   replace xr:=xr.bl hs.b
   clear hQX hQT hQM hQN hM LX LM sr
   refine zk fun K16 hK16 => ?_
   refine zk fun K17 hK17=>rg [0,1,2,3] ?_
   refine xmm ?_
   refine sr ?_
   refine sr (ze (hK17 _ _ ?_))
   refine ct ?_
   refine wp_skip ?_
   refine hK16 _ _ ?_
   refine zk fun K18 hK18 => ?_
   refine wp_block ?_
   refine zk fun K19 hK19 => ?_
   refine wp_region_f4 [(0,false),(1,false),(2,false),(3,false),(4,false),(5,false),(6,false),(7,false),(8,false),(9,false),(10,false),(11,true),(12,true),(13,false),(14,false),(15,false)] [17,18] [16] (fun j=>(.cells #[.bool false,.slice none 0 0,.bool false,.slice none 0 0,.bool false,.slice none 0 0,.bool false,.slice none 0 0] 41)) [99,99,99,0,99,99,99,1,99,99,2,99,99,99,99,99,99,99,99] [] (.c xa (.c xm (.c xr .n))) (fm fn) fun w_9 n9 => ?_
   replace xa:=xa.bl n9;replace xm:=xm.bl n9;replace xr:=xr.bl n9;replace hs:=hs.bl n9
   have hlB:=hs.lt;have hkB:=hs.k
   refine fmv ?_
   refine fmv ?_
   refine f0 ?_
   apply wpFl_ld rfl rfl;(case h1=>intro w' hC K hK;have c0:=Bs.cell hC ((offx+i*8)) j1;have c1:=Bs.cell hC ((offx+i*8)+1) j2;have c2:=Bs.cell hC ((offx+i*8)+2) j3;have c3:=Bs.cell hC ((offx+i*8)+3) j4;have c4:=Bs.cell hC ((offx+i*8)+4) j5;have c5:=Bs.cell hC ((offx+i*8)+5) j6;have c6:=Bs.cell hC ((offx+i*8)+6) j7;have c7:=Bs.cell hC ((offx+i*8)+7) j8;go_big_op;exact hK);iterate 4 kernel_rfl
   refine fmv ?_
   refine fmv ?_
   refine f0 ?_
   apply wpFl_ld rfl rfl;(case h1=>intro w' hC K hK;have c0:=Bs.cell hC ((offm+i)) t1;go_big_op;exact hK);iterate 4 kernel_rfl
   refine fmv ?_
   refine f0 ?_
   apply wpFl_ld rfl rfl;(case h1=>intro w' hC K hK;have c0:=Bs.cell hC ((offr+j*4)) j9;have c1:=Bs.cell hC ((offr+j*4)+1) j10;have c2:=Bs.cell hC ((offr+j*4)+2) j11;have c3:=Bs.cell hC ((offr+j*4)+3) j12;go_big_op;exact hK);iterate 4 kernel_rfl
   refine fl fun w_10 n10 => ?_
   replace xa:=xa.bl n10;replace xm:=xm.bl n10;replace xr:=xr.bl n10;replace hs:=hs.bl n10
   intro K hK
   have k0_2:=(kb n9).b n10
   replace z1:=z1.k k0_2
   replace z2:=z2.k k0_2
   go_big_op
   go_fit (gfOf_any (.mk' z1 z2) (by omega) (by omega))
   rintro e w_11 ⟨_,rfl,⟨n_o1,o_o1,k_o1,c_o1,n_o2,o_o2,k_o2,c_o2,n_o3,o_o3,k_o3,c_o3,n_o4,o_o4,k_o4,c_o4,rfl,o1,o2,o3,o4⟩,hb_11⟩
   replace xa:=xa.bl hb_11;replace xm:=xm.bl hb_11;replace xr:=xr.bl hb_11;replace hs:=hs.bl hb_11
   rw[(rv_one _).1] at o1 o3
   rw[(rv_one _).2] at o2 o4
   refine hK _ _ rfl ⟨hb_11,(ai xa (ai xm (ai xr trivial)))⟩ ?_
   clear hK K
   refine fl fun w_12 n12 => ?_
   replace xa:=xa.bl n12;replace xm:=xm.bl n12;replace xr:=xr.bl n12;replace hs:=hs.bl n12
   intro K hK
   have k0_4:=(k0_2.b hb_11).b n12
   replace x1:=x1.k k0_4
   replace x2:=x2.k k0_4
   replace x3:=x3.k k0_4
   replace x4:=x4.k k0_4
   have k3_4:=kb n12
   replace o1:=o1.k k3_4
   replace o2:=o2.k k3_4
   replace o3:=o3.k k3_4
   replace o4:=o4.k k3_4
   go_big_op
   go_fit (gfMul_ok (.mk' x1 x2 x3 x4) (.mk' (o1.zn LM1.out) (o2.zn Z1.out) (o3.zn LM2.out) (o4.zn Z1.out)) (by omega) (by omega) (by omega) (by omega) (by omega) (by omega) (by omega) (by omega) (den_ne _) (den_ne _) (by decide) (by decide))
   rintro e w_13 ⟨_,rfl,⟨n_g1,o_g1,k_g1,c_g1,n_g2,o_g2,k_g2,c_g2,n_g3,o_g3,k_g3,c_g3,n_g4,o_g4,k_g4,c_g4,rfl,g1,g2,g3,g4⟩,hb_13⟩
   replace xa:=xa.bl hb_13;replace xm:=xm.bl hb_13;replace xr:=xr.bl hb_13;replace hs:=hs.bl hb_13
   simp only[rv_nd] at g1 g2 g3 g4
   rw[EM.out.1] at g1 g2
   rw[EM.out.2] at g3 g4
   refine hK _ _ rfl ⟨hb_13,(ai xa (ai xm (ai xr trivial)))⟩ ?_
   clear hK K
   refine fmv ?_
   refine f0 ?_
   refine f0 ?_
   refine e1 hs hlB hkB ?_;clear hs hlB hkB;intro w_14 p_b2 hs n14 kb_b2
   replace xa:=xa.bl n14;replace xm:=xm.bl n14;replace xr:=xr.bl n14
   refine tl ?_
   intro K hK
   have xs:=hs.g0
   have d0:w_14.cell? ⟨p_b2,0,none⟩=some (.bool false):=hs.g0.cell 0 rfl
   have d1:w_14.cell? ⟨p_b2,1,none⟩=some (.slice none 0 0):=hs.g0.cell 1 rfl
   have d2:w_14.cell? ⟨p_b2,2,none⟩=some (.bool false):=hs.g0.cell 2 rfl
   have d3:w_14.cell? ⟨p_b2,3,none⟩=some (.slice none 0 0):=hs.g0.cell 3 rfl
   have d4:w_14.cell? ⟨p_b2,4,none⟩=some (.bool false):=hs.g0.cell 4 rfl
   have d5:w_14.cell? ⟨p_b2,5,none⟩=some (.slice none 0 0):=hs.g0.cell 5 rfl
   have d6:w_14.cell? ⟨p_b2,6,none⟩=some (.bool false):=hs.g0.cell 6 rfl
   have d7:w_14.cell? ⟨p_b2,7,none⟩=some (.slice none 0 0):=hs.g0.cell 7 rfl
   have f0:=xs.free 0;have f1:=xs.free 1;have f2:=xs.free 2;have f3:=xs.free 3;have f4:=xs.free 4;have f5:=xs.free 5;have f6:=xs.free 6;have f7:=xs.free 7
   go_big_op
   have hd15:=xs.nod rfl rfl
   obtain⟨w_15_0,eW,xs_0,ho_0⟩:∃w',((((w_14.setCell ⟨p_b2,0,none⟩ (.bool n_g1)).setCell ⟨p_b2,1,none⟩ (.slice o_g1 k_g1 c_g1)).setCell ⟨p_b2,2,none⟩ (.bool n_g2)).setCell ⟨p_b2,3,none⟩ (.slice o_g2 k_g2 c_g2))=w'∧Bs w' p_b2 #[.bool n_g1,.slice o_g1 k_g1 c_g1,.bool n_g2,.slice o_g2 k_g2 c_g2,.bool false,.slice none 0 0,.bool false,.slice none 0 0] 41∧Only p_b2 w_14 w':=xs.setN [(0,.bool n_g1),(1,.slice o_g1 k_g1 c_g1),(2,.bool n_g2),(3,.slice o_g2 k_g2 c_g2)]
   rw[eW];clear eW
   obtain⟨w_15,eW,xs',ho_4⟩:∃w',((((w_15_0.setCell ⟨p_b2,4,none⟩ (.bool n_g3)).setCell ⟨p_b2,5,none⟩ (.slice o_g3 k_g3 c_g3)).setCell ⟨p_b2,6,none⟩ (.bool n_g4)).setCell ⟨p_b2,7,none⟩ (.slice o_g4 k_g4 c_g4))=w'∧Bs w' p_b2 #[.bool n_g1,.slice o_g1 k_g1 c_g1,.bool n_g2,.slice o_g2 k_g2 c_g2,.bool n_g3,.slice o_g3 k_g3 c_g3,.bool n_g4,.slice o_g4 k_g4 c_g4] 41∧Only p_b2 w_15_0 w':=xs_0.setN [(4,.bool n_g3),(5,.slice o_g3 k_g3 c_g3),(6,.bool n_g4),(7,.slice o_g4 k_g4 c_g4)]
   rw[eW];clear eW xs_0
   have ho15:=(ho_0.trans ho_4)
   clear ho_0 ho_4 d0 d1 d2 d3 d4 d5 d6 d7 f0 f1 f2 f3 f4 f5 f6 f7 xs
   replace hs:=hs.u0 kb_b2 xs' ho15;clear xs'
   replace xa:=xa.frame ho15 (Nat.ne_of_lt (Nat.lt_of_lt_of_le lt_kX kb_b2));replace xm:=xm.frame ho15 (Nat.ne_of_lt (Nat.lt_of_lt_of_le lt_kA kb_b2));replace xr:=xr.frame ho15 (Nat.ne_of_lt (Nat.lt_of_lt_of_le lt_kR kb_b2))
   refine hK _ _ rfl (ai (xaz.bl hs.b) (ai (xmz.bl hs.b) (ai (xrz.bl hs.b) trivial))) ?_;clear hK K
   refine tl ?_
   refine .mv ?_ (e:=(ai (xaz.bl hs.b) (ai (xmz.bl hs.b) (ai (xrz.bl hs.b) trivial))))
   apply wpTail_end
   refine hK19 _ _ ?_
   refine zk fun K20 hK20=>rg [0,1,2,3,4,5,6,7,8] ?_
   refine sq ?_
   intro K hK
   have d0:w_15.cell? ⟨p_b1,0,none⟩=some (.bool n1):=hs.g1.cell 0 rfl
   have d1:w_15.cell? ⟨p_b1,1,none⟩=some (.slice y1 k1 q1):=hs.g1.cell 1 rfl
   have d2:w_15.cell? ⟨p_b1,2,none⟩=some (.bool n2):=hs.g1.cell 2 rfl
   have d3:w_15.cell? ⟨p_b1,3,none⟩=some (.slice y2 k2 q2):=hs.g1.cell 3 rfl
   have d4:w_15.cell? ⟨p_b1,4,none⟩=some (.bool n3):=hs.g1.cell 4 rfl
   have d5:w_15.cell? ⟨p_b1,5,none⟩=some (.slice y3 k3 q3):=hs.g1.cell 5 rfl
   have d6:w_15.cell? ⟨p_b1,6,none⟩=some (.bool n4):=hs.g1.cell 6 rfl
   have d7:w_15.cell? ⟨p_b1,7,none⟩=some (.slice y4 k4 q4):=hs.g1.cell 7 rfl
   go_big_op;refine hK _ _ rfl trivial ?_;clear hK K d0 d1 d2 d3 d4 d5 d6 d7
   refine sq ?_
   intro K hK
   have d0:w_15.cell? ⟨p_b2,0,none⟩=some (.bool n_g1):=hs.g0.cell 0 rfl
   have d1:w_15.cell? ⟨p_b2,1,none⟩=some (.slice o_g1 k_g1 c_g1):=hs.g0.cell 1 rfl
   have d2:w_15.cell? ⟨p_b2,2,none⟩=some (.bool n_g2):=hs.g0.cell 2 rfl
   have d3:w_15.cell? ⟨p_b2,3,none⟩=some (.slice o_g2 k_g2 c_g2):=hs.g0.cell 3 rfl
   have d4:w_15.cell? ⟨p_b2,4,none⟩=some (.bool n_g3):=hs.g0.cell 4 rfl
   have d5:w_15.cell? ⟨p_b2,5,none⟩=some (.slice o_g3 k_g3 c_g3):=hs.g0.cell 5 rfl
   have d6:w_15.cell? ⟨p_b2,6,none⟩=some (.bool n_g4):=hs.g0.cell 6 rfl
   have d7:w_15.cell? ⟨p_b2,7,none⟩=some (.slice o_g4 k_g4 c_g4):=hs.g0.cell 7 rfl
   go_big_op;refine hK _ _ rfl trivial ?_;clear hK K d0 d1 d2 d3 d4 d5 d6 d7
   refine sq ?_
   intro K hK
   have k0_7:=((k0_4.b hb_13).b n14).o hd15 ho15
   replace s1:=s1.k k0_7
   replace s2:=s2.k k0_7
   replace s3:=s3.k k0_7
   replace s4:=s4.k k0_7
   have k5_7:=(kb n14).o hd15 ho15
   replace g1:=g1.k k5_7
   replace g2:=g2.k k5_7
   replace g3:=g3.k k5_7
   replace g4:=g4.k k5_7
   go_big_op
   go_fit (gfAdd_ok (.mk' (s1.zn LT.out.1) (s2.zn LT.out.2.1) (s3.zn LT.out.2.2.1) (s4.zn LT.out.2.2.2)) (.mk' (g1.zn LN.out.1) (g2.zn LN.out.2.1) (g3.zn LN.out.2.2.1) (g4.zn LN.out.2.2.2)) (by omega) (by omega) (by omega) (by omega) (by omega) (by omega) (by omega) (by omega) (den_ne _) (den_ne _) (den_ne _) (den_ne _))
   rintro e w_16 ⟨_,rfl,⟨n_r1,o_r1,k_r1,c_r1,n_r2,o_r2,k_r2,c_r2,n_r3,o_r3,k_r3,c_r3,n_r4,o_r4,k_r4,c_r4,rfl,r1,r2,r3,r4⟩,hb_16⟩
   replace xa:=xa.bl hb_16;replace xm:=xm.bl hb_16;replace xr:=xr.bl hb_16;replace hs:=hs.bl hb_16
   simp only[rv_nd] at r1 r2 r3 r4
   rw[EA.out.1] at r1 r2
   rw[EA.out.2] at r3 r4
   refine hK _ _ rfl trivial ?_
   clear hK K
   refine xmr ?_
   refine sr ?_
   refine sq ?_
   refine .al hs ?_;clear hs;intro p_b3 w_17 hs n17 kb_b3
   clear o1 o2 o3 o4 g1 g2 g3 g4
   replace xa:=xa.bl n17;replace xm:=xm.bl n17;replace xr:=xr.bl n17
   refine sq ?_
   intro K hK
   have xs:=hs.g0
   have d0:w_17.cell? ⟨p_b3,0,none⟩=some (.bool false):=hs.g0.cell 0 rfl
   have d1:w_17.cell? ⟨p_b3,1,none⟩=some (.slice none 0 0):=hs.g0.cell 1 rfl
   have d2:w_17.cell? ⟨p_b3,2,none⟩=some (.bool false):=hs.g0.cell 2 rfl
   have d3:w_17.cell? ⟨p_b3,3,none⟩=some (.slice none 0 0):=hs.g0.cell 3 rfl
   have d4:w_17.cell? ⟨p_b3,4,none⟩=some (.bool false):=hs.g0.cell 4 rfl
   have d5:w_17.cell? ⟨p_b3,5,none⟩=some (.slice none 0 0):=hs.g0.cell 5 rfl
   have d6:w_17.cell? ⟨p_b3,6,none⟩=some (.bool false):=hs.g0.cell 6 rfl
   have d7:w_17.cell? ⟨p_b3,7,none⟩=some (.slice none 0 0):=hs.g0.cell 7 rfl
   have f0:=xs.free 0;have f1:=xs.free 1;have f2:=xs.free 2;have f3:=xs.free 3;have f4:=xs.free 4;have f5:=xs.free 5;have f6:=xs.free 6;have f7:=xs.free 7
   go_big_op
   have hd18:=xs.nod rfl rfl
   obtain⟨w_18_0,eW,xs_0,ho_0⟩:∃w',((((w_17.setCell ⟨p_b3,0,none⟩ (.bool n_r1)).setCell ⟨p_b3,1,none⟩ (.slice o_r1 k_r1 c_r1)).setCell ⟨p_b3,2,none⟩ (.bool n_r2)).setCell ⟨p_b3,3,none⟩ (.slice o_r2 k_r2 c_r2))=w'∧Bs w' p_b3 #[.bool n_r1,.slice o_r1 k_r1 c_r1,.bool n_r2,.slice o_r2 k_r2 c_r2,.bool false,.slice none 0 0,.bool false,.slice none 0 0] 41∧Only p_b3 w_17 w':=xs.setN [(0,.bool n_r1),(1,.slice o_r1 k_r1 c_r1),(2,.bool n_r2),(3,.slice o_r2 k_r2 c_r2)]
   rw[eW];clear eW
   obtain⟨w_18,eW,xs',ho_4⟩:∃w',((((w_18_0.setCell ⟨p_b3,4,none⟩ (.bool n_r3)).setCell ⟨p_b3,5,none⟩ (.slice o_r3 k_r3 c_r3)).setCell ⟨p_b3,6,none⟩ (.bool n_r4)).setCell ⟨p_b3,7,none⟩ (.slice o_r4 k_r4 c_r4))=w'∧Bs w' p_b3 #[.bool n_r1,.slice o_r1 k_r1 c_r1,.bool n_r2,.slice o_r2 k_r2 c_r2,.bool n_r3,.slice o_r3 k_r3 c_r3,.bool n_r4,.slice o_r4 k_r4 c_r4] 41∧Only p_b3 w_18_0 w':=xs_0.setN [(4,.bool n_r3),(5,.slice o_r3 k_r3 c_r3),(6,.bool n_r4),(7,.slice o_r4 k_r4 c_r4)]
   rw[eW];clear eW xs_0
   have ho18:=(ho_0.trans ho_4)
   clear ho_0 ho_4 d0 d1 d2 d3 d4 d5 d6 d7 f0 f1 f2 f3 f4 f5 f6 f7 xs
   replace hs:=hs.u0 kb_b3 xs' ho18;clear xs'
   replace xa:=xa.frame ho18 (Nat.ne_of_lt (Nat.lt_of_lt_of_le lt_kX kb_b3));replace xm:=xm.frame ho18 (Nat.ne_of_lt (Nat.lt_of_lt_of_le lt_kA kb_b3));replace xr:=xr.frame ho18 (Nat.ne_of_lt (Nat.lt_of_lt_of_le lt_kR kb_b3))
   refine hK _ _ rfl trivial ?_;clear hK K
   refine sm (ze (hK20 _ _ ?_))
   refine zk fun K21 hK21 => ?_
   refine zk fun K22 hK22=>rg [0,1,2,3,4,5] ?_
   refine xmr ?_
   refine xmm ?_
   refine sr ?_
   refine sr (ze (hK22 _ _ ?_))
   refine cf ?_
   refine wp_skip ?_
   refine hK21 _ _ ?_
   refine rg [0,1] ?_
   refine sq ?_
   intro K hK
   have d0:w_18.cell? ⟨p_b3,0,none⟩=some (.bool n_r1):=hs.g0.cell 0 rfl
   have d1:w_18.cell? ⟨p_b3,1,none⟩=some (.slice o_r1 k_r1 c_r1):=hs.g0.cell 1 rfl
   have d2:w_18.cell? ⟨p_b3,2,none⟩=some (.bool n_r2):=hs.g0.cell 2 rfl
   have d3:w_18.cell? ⟨p_b3,3,none⟩=some (.slice o_r2 k_r2 c_r2):=hs.g0.cell 3 rfl
   have d4:w_18.cell? ⟨p_b3,4,none⟩=some (.bool n_r3):=hs.g0.cell 4 rfl
   have d5:w_18.cell? ⟨p_b3,5,none⟩=some (.slice o_r3 k_r3 c_r3):=hs.g0.cell 5 rfl
   have d6:w_18.cell? ⟨p_b3,6,none⟩=some (.bool n_r4):=hs.g0.cell 6 rfl
   have d7:w_18.cell? ⟨p_b3,7,none⟩=some (.slice o_r4 k_r4 c_r4):=hs.g0.cell 7 rfl
   go_big_op;refine hK _ _ rfl trivial ?_;clear hK K d0 d1 d2 d3 d4 d5 d6 d7
   refine sq ?_
   intro K hK
   have xs:=hs.g2
   have d0:w_18.cell? ⟨p_b1,0,none⟩=some (.bool n1):=hs.g2.cell 0 rfl
   have d1:w_18.cell? ⟨p_b1,1,none⟩=some (.slice y1 k1 q1):=hs.g2.cell 1 rfl
   have d2:w_18.cell? ⟨p_b1,2,none⟩=some (.bool n2):=hs.g2.cell 2 rfl
   have d3:w_18.cell? ⟨p_b1,3,none⟩=some (.slice y2 k2 q2):=hs.g2.cell 3 rfl
   have d4:w_18.cell? ⟨p_b1,4,none⟩=some (.bool n3):=hs.g2.cell 4 rfl
   have d5:w_18.cell? ⟨p_b1,5,none⟩=some (.slice y3 k3 q3):=hs.g2.cell 5 rfl
   have d6:w_18.cell? ⟨p_b1,6,none⟩=some (.bool n4):=hs.g2.cell 6 rfl
   have d7:w_18.cell? ⟨p_b1,7,none⟩=some (.slice y4 k4 q4):=hs.g2.cell 7 rfl
   have f0:=xs.free 0;have f1:=xs.free 1;have f2:=xs.free 2;have f3:=xs.free 3;have f4:=xs.free 4;have f5:=xs.free 5;have f6:=xs.free 6;have f7:=xs.free 7
   go_big_op
   have hd19:=xs.nod rfl rfl
   obtain⟨w_19_0,eW,xs_0,ho_0⟩:∃w',((((w_18.setCell ⟨p_b1,0,none⟩ (.bool n_r1)).setCell ⟨p_b1,1,none⟩ (.slice o_r1 k_r1 c_r1)).setCell ⟨p_b1,2,none⟩ (.bool n_r2)).setCell ⟨p_b1,3,none⟩ (.slice o_r2 k_r2 c_r2))=w'∧Bs w' p_b1 #[.bool n_r1,.slice o_r1 k_r1 c_r1,.bool n_r2,.slice o_r2 k_r2 c_r2,.bool n3,.slice y3 k3 q3,.bool n4,.slice y4 k4 q4] 41∧Only p_b1 w_18 w':=xs.setN [(0,.bool n_r1),(1,.slice o_r1 k_r1 c_r1),(2,.bool n_r2),(3,.slice o_r2 k_r2 c_r2)]
   rw[eW];clear eW
   obtain⟨w_19,eW,xs',ho_4⟩:∃w',((((w_19_0.setCell ⟨p_b1,4,none⟩ (.bool n_r3)).setCell ⟨p_b1,5,none⟩ (.slice o_r3 k_r3 c_r3)).setCell ⟨p_b1,6,none⟩ (.bool n_r4)).setCell ⟨p_b1,7,none⟩ (.slice o_r4 k_r4 c_r4))=w'∧Bs w' p_b1 #[.bool n_r1,.slice o_r1 k_r1 c_r1,.bool n_r2,.slice o_r2 k_r2 c_r2,.bool n_r3,.slice o_r3 k_r3 c_r3,.bool n_r4,.slice o_r4 k_r4 c_r4] 41∧Only p_b1 w_19_0 w':=xs_0.setN [(4,.bool n_r3),(5,.slice o_r3 k_r3 c_r3),(6,.bool n_r4),(7,.slice o_r4 k_r4 c_r4)]
   rw[eW];clear eW xs_0
   have ho19:=(ho_0.trans ho_4)
   clear ho_0 ho_4 d0 d1 d2 d3 d4 d5 d6 d7 f0 f1 f2 f3 f4 f5 f6 f7 xs
   replace hs:=hs.u2 kb_b1 xs' ho19;clear xs'
   replace xa:=xa.frame ho19 (Nat.ne_of_lt (Nat.lt_of_lt_of_le lt_kX kb_b1));replace xm:=xm.frame ho19 (Nat.ne_of_lt (Nat.lt_of_lt_of_le lt_kA kb_b1));replace xr:=xr.frame ho19 (Nat.ne_of_lt (Nat.lt_of_lt_of_le lt_kR kb_b1))
   refine hK _ _ rfl trivial ?_;clear hK K
   refine ze (hK18 _ _ ?_)
   refine rg [0,1,2] ?_
   refine xmr ?_
   refine sm ?_
   apply wpSq_end
   have k8_11:=((kb n17).o hd18 ho18).o hd19 ho19
   replace r1:=r1.k k8_11
   replace r2:=r2.k k8_11
   replace r3:=r3.k k8_11
   replace r4:=r4.k k8_11
   have k2_11:=((((((((kb hb_11).b n12).b hb_13).b n14).o hd15 ho15).b hb_16).b n17).o hd18 ho18).o hd19 ho19
   replace z1:=z1.k k2_11
   replace z2:=z2.k k2_11
   refine ‹∀(a':Act) (w':World),Handed _ _ a' w'→_› _ _ ?_
   go_roundg (gk - 1)
   case rel=>exact⟨i+1,_,_,_,_,_,_,_,_,_,_,_,_,_,_,_,_,by rfl,by omega,hs.sub (.cons _ (.cons _ (List.Sublist.refl _))),by rw[HQN.out];exact r1,by rw[HQN.out];exact r2,by rw[HQN.out];exact r3,by rw[HQN.out];exact r4⟩
   case measure=>omega
  ·have HI:=hide hi
   obtain rfl:n=i:=by omega
   rw[HTN.out,qC_self HP0.out] at s1 s2 s3 s4
   obtain⟨gv,offv,curv,tyv,fzv,l1,l2,l3,l4,l5,l6,l7,l8,rfl,xv,j9,j10,j11,j12,z1,z2⟩:=HV.out.op (j:=j) (by rw[hnv];exact HJ.out)
   have LV:zl 1048576 (at1 V j):=HV.out.bd.at1
   replace z1:ZN wr (.agg #[.bool l1,.slice l2 l3 l4]) (at1 V j).1 1048576:=z1.bl hs.b
   replace z2:ZN wr (.agg #[.bool l5,.slice l6 l7 l8]) (at1 V j).2 1048576:=z2.bl hs.b
   obtain⟨U,hU⟩:∃U,at1 V j=U:=⟨_,rfl⟩
   rw[hU] at s1 s2 s3 s4 LV z1 z2
   rw[(rv_one _).1] at s1 s3
   rw[(rv_one _).2] at s2 s4
   have LV1:=hide LV.1
   have LV2:=hide LV.2
   have Z1:=hide (zlen_small8 (z:=1) (by decide))
   have xvz:=xv
   have lt_kV:=xv.lt
   replace xv:=xv.bl hs.b
   clear hU LV
   refine zk fun K16 hK16 => ?_
   refine zk fun K17 hK17=>rg [0,1,2,3] ?_
   refine xmm ?_
   refine sr ?_
   refine sr (ze (hK17 _ _ ?_))
   refine cf ?_
   refine wp_exit ?_
   refine hK14 _ _ ?_
   refine zk fun K18 hK18 => ?_
   refine wp_region_f4 [(0,false),(1,false),(2,false),(3,false),(4,false),(5,true),(6,true),(7,false),(8,false),(9,false),(10,false),(11,false)] [] [] (fun _=>default) [0,99,99,99,1,99,99,99,99,99,99,99] [] (.c hs.g0 (.c xv .n)) fn fun w_9 n9 => ?_
   replace xv:=xv.bl n9;replace hs:=hs.bl n9
   apply wpFl_ld rfl rfl;(case h1=>intro w' hC K hK;have c0:=Bs.cell hC 0 rfl;have c1:=Bs.cell hC 1 rfl;have c2:=Bs.cell hC 2 rfl;have c3:=Bs.cell hC 3 rfl;have c4:=Bs.cell hC 4 rfl;have c5:=Bs.cell hC 5 rfl;have c6:=Bs.cell hC 6 rfl;have c7:=Bs.cell hC 7 rfl;go_big_op;exact hK);iterate 4 kernel_rfl
   refine fmv ?_
   refine fmv ?_
   refine f0 ?_
   apply wpFl_ld rfl rfl;(case h1=>intro w' hC K hK;have c0:=Bs.cell hC ((offv+j*4)) j9;have c1:=Bs.cell hC ((offv+j*4)+1) j10;have c2:=Bs.cell hC ((offv+j*4)+2) j11;have c3:=Bs.cell hC ((offv+j*4)+3) j12;go_big_op;exact hK);iterate 4 kernel_rfl
   refine fl fun w_10 n10 => ?_
   replace xv:=xv.bl n10;replace hs:=hs.bl n10
   intro K hK
   have k0_2:=(kb n9).b n10
   replace z1:=z1.k k0_2
   replace z2:=z2.k k0_2
   go_big_op
   go_fit (gfOf_any (.mk' z1 z2) (by omega) (by omega))
   rintro e w_11 ⟨_,rfl,⟨n_o1,o_o1,k_o1,c_o1,n_o2,o_o2,k_o2,c_o2,n_o3,o_o3,k_o3,c_o3,n_o4,o_o4,k_o4,c_o4,rfl,o1,o2,o3,o4⟩,hb_11⟩
   replace xv:=xv.bl hb_11;replace hs:=hs.bl hb_11
   rw[(rv_one _).1] at o1 o3
   rw[(rv_one _).2] at o2 o4
   refine hK _ _ rfl ⟨hb_11,(ai hs.g0 (ai xv trivial))⟩ ?_
   clear hK K
   refine fl fun w_12 n12 => ?_
   replace xv:=xv.bl n12;replace hs:=hs.bl n12
   intro K hK
   have k0_4:=(k0_2.b hb_11).b n12
   replace s1:=s1.k k0_4
   replace s2:=s2.k k0_4
   replace s3:=s3.k k0_4
   replace s4:=s4.k k0_4
   have k3_4:=kb n12
   replace o1:=o1.k k3_4
   replace o2:=o2.k k3_4
   replace o3:=o3.k k3_4
   replace o4:=o4.k k3_4
   go_big_op
   go_fit (gfEqual_yes (.mk' (s1.zn LV1.out) (s2.zn Z1.out) (s3.zn LV2.out) (s4.zn Z1.out)) (.mk' (o1.zn LV1.out) (o2.zn Z1.out) (o3.zn LV2.out) (o4.zn Z1.out)) (by omega) (by omega) (by omega) (by omega) (by omega) (by omega) (by omega) (by omega) (by decide) (by decide) (by decide) (by decide) (qcmp_self _) (qcmp_self _))
   rintro e w_13 ⟨rfl,hb_13⟩
   replace xv:=xv.bl hb_13;replace hs:=hs.bl hb_13
   refine hK _ _ rfl ⟨hb_13,(ai hs.g0 (ai xv trivial))⟩ ?_
   clear hK K
   refine fmv ?_
   refine f0 ?_
   refine f0 ?_
   refine fmv ?_
   refine fmv ?_
   refine e0 hs ?_;clear hs;intro w_14 hs n14
   replace xv:=xv.bl n14
   apply wpTail_end
   refine hK18 _ _ ?_
   refine zk fun K19 hK19=>rg [0,1,2,3,4,5] ?_
   refine xmr ?_
   refine xmm ?_
   refine sr ?_
   refine sr (ze (hK19 _ _ ?_))
   refine cf ?_
   refine wp_skip ?_
   refine hK12 _ _ ?_
   refine rg [0,1,2] ?_
   refine xmr ?_
   refine sm ?_
   apply wpSq_end
   refine HO _ _ ?_
   go_roundg (g1 - 1)
   case rel=>exact⟨j+1,by rfl,by omega,hs.b⟩
   case measure=>omega
 ·have HJ:=hide hj
  obtain rfl:k=j:=by omega
  have hs:=St.re .n hd3 (List.Sublist.refl _) hb
  refine zk fun K10 hK10 => ?_
  refine zk fun K11 hK11=>rg [0,1,2,3] ?_
  refine xmm ?_
  refine sr ?_
  refine sr (ze (hK11 _ _ ?_))
  refine cf ?_
  refine wp_exit ?_
  refine hK5 _ _ ?_
  refine zk fun K12 hK12=>rg [0,1,2,3,4,5,6,7] ?_
  refine xmm ?_
  refine sq ?_
  intro K hK
  go_big_op
  go_fit (mTimes_ok (HY.out.bl stab_n hs.b) (HA.out.bl stab_n hs.b) hny hna HG.out HK.out (by decide) (by decide))
  rintro e w_4 ⟨o_W,c_W,xs_W,rfl,L_W,d_W,hb_4⟩
  clear hb
  replace hs:=hs.la hb_4 L_W
  refine hK _ _ rfl trivial ?_
  clear hK K
  refine xmr ?_
  refine xrm ?_
  refine sm (ze (hK12 _ _ ?_))
  refine zk fun K13 hK13 => ?_
  refine zk fun K14 hK14=>rg [0,1] ?_
  refine sm ?_
  refine sr (ze (hK14 _ _ ?_))
  refine cf ?_
  refine wp_skip ?_
  refine hK13 _ _ ?_
  refine zk fun K15 hK15=>rg [0,1,2,3,4,5,6] ?_
  refine sm ?_
  refine sq ?_
  intro K hK
  go_big_op
  go_fit (independent_is (HA.out.bl stab_n hs.b) hna HG.out HK.out HB.out (by omega) (by omega) HR.out)
  rintro e w_5 ⟨rfl,hb_5⟩
  replace hs:=hs.bl hb_5
  rw[EI.out]
  refine hK _ _ rfl trivial ?_
  clear hK K
  refine xmr ?_
  refine xrm ?_
  refine sm (ze (hK15 _ _ ?_))
  refine zk fun K16 hK16=>rg [0,1,2,3,4,5,6,7] ?_
  refine xmm ?_
  refine sq ?_
  intro K hK
  have k1_2:=kb hb_5
  replace d_W:=d_W.k k1_2
  go_big_op
  go_fit (HZ.out _ _ _ hs.b ((Lst.sc hs.1.1.1 d_W).2.sn HWB.out))
  rintro e w_6 ⟨o_Z,c_Z,rfl,m_Z,hb_6⟩
  replace hs:=hs.bl hb_6
  refine hK _ _ rfl trivial ?_
  clear hK K
  refine xmr ?_
  refine xrm ?_
  refine sm (ze (hK16 _ _ ?_))
  refine zk fun K17 hK17 => ?_
  refine zk fun K18 hK18=>rg [0,1] ?_
  refine sm ?_
  refine sr (ze (hK18 _ _ ?_))
  refine cf ?_
  refine wp_skip ?_
  refine hK17 _ _ ?_
  refine zk fun K19 hK19 => ?_
  refine zk fun K20 hK20=>rg [0,1] ?_
  refine sm ?_
  refine sr (ze (hK20 _ _ ?_))
  refine cf ?_
  refine wp_skip ?_
  refine hK19 _ _ ?_
  refine zk fun K21 hK21 => ?_
  refine zk fun K22 hK22=>rg [0,1,2,3,4,5,6,7,8] ?_
  refine xmr ?_
  refine xmm ?_
  refine xrm ?_
  refine xrr ?_
  refine sr (ze (hK22 _ _ ?_))
  refine cf ?_
  refine wp_skip ?_
  refine hK21 _ _ ?_
  refine zk fun K23 hK23 => ?_
  refine zk fun K24 hK24=>rg [0] ?_
  refine sm (ze (hK24 _ _ ?_))
  refine wp_block ?_
  have hd7:=hs.2.1
  go_loopg [23] n (fun kz s23 wr=>∃i:Nat,s23 = .int .i64 (i:Int)∧i+kz=n∧LQ wr o_Z ((List.range n).map fun i=>(rv (at1 Y i).1 1,rv (at1 Y i).2 1))∧Below W2.heap.size W2 wr)
  case atStart=>exact⟨0,rfl,by omega,m_Z,hs.b⟩
  case round =>
  clear d_W m_Z hs
  obtain⟨i,rfl,hin,hZ,hb⟩:=hrel
  by_cases hi:i<n
  ·have HI:=hide hi
   obtain⟨g2,off2,cur2,ty2,fz2,a1,a2,a3,a4,a5,a6,a7,a8,a9,a10,a11,a12,a13,a14,a15,a16,rfl,xa,j1,j2,j3,j4,j5,j6,j7,j8,x1,x2,x3,x4⟩:=hZ.op (i:=i) (by simp;omega)
   obtain⟨g3,off3,cur3,ty3,fz3,l1,l2,l3,l4,l5,l6,l7,l8,rfl,xv,j9,j10,j11,j12,z1,z2⟩:=HY.out.op (j:=i) (by omega)
   rw[show ((List.range n).map fun i=>(rv (at1 Y i).1 1,rv (at1 Y i).2 1))[i]'(by simp;omega)=(rv (at1 Y i).1 1,rv (at1 Y i).2 1) by simp] at x1 x2 x3 x4
   have LV:zl 1048576 (at1 Y i):=HY.out.bd.at1
   replace z1:ZN wr (.agg #[.bool l1,.slice l2 l3 l4]) (at1 Y i).1 1048576:=z1.bl hb
   replace z2:ZN wr (.agg #[.bool l5,.slice l6 l7 l8]) (at1 Y i).2 1048576:=z2.bl hb
   obtain⟨U,hU⟩:∃U,at1 Y i=U:=⟨_,rfl⟩
   rw[hU] at x1 x2 x3 x4 LV z1 z2
   have LV1:=hide (show (dig (rv U.1 1).num.natAbs).length≤1048576 by rw[(rv_one _).1];exact LV.1)
   have LV2:=hide (show (dig (rv U.2 1).num.natAbs).length≤1048576 by rw[(rv_one _).1];exact LV.2)
   have Z1:=hide (show (dig ((rv U.1 1).den:Int).natAbs).length≤1 by rw[(rv_one _).2];exact zlen_small8 (z:=1) (by decide))
   have Z2:=hide (show (dig ((rv U.2 1).den:Int).natAbs).length≤1 by rw[(rv_one _).2];exact zlen_small8 (z:=1) (by decide))
   have xvz:=xv
   have lt_kY:=xv.lt
   replace xv:=xv.bl hb
   clear hU LV
   have hs:=St.re .n hd7 (.cons _ .slnil) hb
   refine zk fun K25 hK25 => ?_
   refine zk fun K26 hK26=>rg [0,1,2,3] ?_
   refine xmm ?_
   refine sr ?_
   refine sr (ze (hK26 _ _ ?_))
   refine ct ?_
   refine wp_skip ?_
   refine hK25 _ _ ?_
   refine zk fun K27 hK27 => ?_
   refine wp_block ?_
   refine zk fun K28 hK28 => ?_
   refine wp_region_f4 [(0,false),(1,false),(2,false),(3,false),(4,false),(5,false),(6,false),(7,false),(8,true),(9,true),(10,false)] [] [] (fun _=>default) [99,99,99,0,99,99,99,1,99,99,99] [] (.c xa (.c xv .n)) fn fun w_8 n8 => ?_
   clear hb
   replace hZ:=hZ.bl n8;replace xa:=xa.bl n8;replace xv:=xv.bl n8;replace hs:=hs.bl n8
   refine fmv ?_
   refine fmv ?_
   refine f0 ?_
   apply wpFl_ld rfl rfl;(case h1=>intro w' hC K hK;have c0:=Bs.cell hC ((off2+i*8)) j1;have c1:=Bs.cell hC ((off2+i*8)+1) j2;have c2:=Bs.cell hC ((off2+i*8)+2) j3;have c3:=Bs.cell hC ((off2+i*8)+3) j4;have c4:=Bs.cell hC ((off2+i*8)+4) j5;have c5:=Bs.cell hC ((off2+i*8)+5) j6;have c6:=Bs.cell hC ((off2+i*8)+6) j7;have c7:=Bs.cell hC ((off2+i*8)+7) j8;go_big_op;exact hK);iterate 4 kernel_rfl
   refine fmv ?_
   refine fmv ?_
   refine f0 ?_
   apply wpFl_ld rfl rfl;(case h1=>intro w' hC K hK;have c0:=Bs.cell hC ((off3+i*4)) j9;have c1:=Bs.cell hC ((off3+i*4)+1) j10;have c2:=Bs.cell hC ((off3+i*4)+2) j11;have c3:=Bs.cell hC ((off3+i*4)+3) j12;go_big_op;exact hK);iterate 4 kernel_rfl
   refine fl fun w_9 n9 => ?_
   replace hZ:=hZ.bl n9;replace xa:=xa.bl n9;replace xv:=xv.bl n9;replace hs:=hs.bl n9
   intro K hK
   have k0_2:=(kb n8).b n9
   replace z1:=z1.k k0_2
   replace z2:=z2.k k0_2
   go_big_op
   go_fit (r7Of_q (.mk' z1 z2) (by omega) (by omega))
   rintro e w_10 ⟨_,rfl,⟨n_o1,o_o1,k_o1,c_o1,n_o2,o_o2,k_o2,c_o2,n_o3,o_o3,k_o3,c_o3,n_o4,o_o4,k_o4,c_o4,rfl,o1,o2,o3,o4⟩,hb_10⟩
   replace hZ:=hZ.bl hb_10;replace xa:=xa.bl hb_10;replace xv:=xv.bl hb_10;replace hs:=hs.bl hb_10
   refine hK _ _ rfl ⟨hb_10,(ai xa (ai xv trivial))⟩ ?_
   clear hK K
   refine fl fun w_11 n11 => ?_
   replace hZ:=hZ.bl n11;replace xa:=xa.bl n11;replace xv:=xv.bl n11;replace hs:=hs.bl n11
   intro K hK
   have k0_4:=(k0_2.b hb_10).b n11
   replace x1:=x1.k k0_4
   replace x2:=x2.k k0_4
   replace x3:=x3.k k0_4
   replace x4:=x4.k k0_4
   have k3_4:=kb n11
   replace o1:=o1.k k3_4
   replace o2:=o2.k k3_4
   replace o3:=o3.k k3_4
   replace o4:=o4.k k3_4
   go_big_op
   go_fit (r7Same_ok (a:=rv U.1 1) (b:=rv U.2 1) (.mk' x1 x2 x3 x4) (.mk' (o1.zn LV1.out) (o2.zn Z1.out) (o3.zn LV2.out) (o4.zn Z2.out)) (by omega) (by omega) (by omega) (by omega))
   rintro e w_12 ⟨rfl,hb_12⟩
   replace hZ:=hZ.bl hb_12;replace xa:=xa.bl hb_12;replace xv:=xv.bl hb_12;replace hs:=hs.bl hb_12
   refine hK _ _ rfl ⟨hb_12,(ai xa (ai xv trivial))⟩ ?_
   clear hK K
   refine f0 ?_
   refine e0 hs ?_;clear hs;intro w_13 hs n13
   replace hZ:=hZ.bl n13;replace xa:=xa.bl n13;replace xv:=xv.bl n13
   apply wpTail_end
   refine hK28 _ _ ?_
   refine cf ?_
   refine wp_skip ?_
   refine hK27 _ _ ?_
   refine rg [0,1,2] ?_
   refine xmr ?_
   refine sm ?_
   apply wpSq_end
   refine ‹∀(a':Act) (w':World),Handed _ _ a' w'→_› _ _ ?_
   go_roundg (gk - 1)
   case rel=>exact⟨i+1,by rfl,by omega,hZ,hs.b⟩
   case measure=>omega
  ·have HI:=hide hi
   obtain rfl:n=i:=by omega
   have hs:=St.re .n hd7 (.cons _ .slnil) hb
   refine zk fun K25 hK25 => ?_
   refine zk fun K26 hK26=>rg [0,1,2,3] ?_
   refine xmm ?_
   refine sr ?_
   refine sr (ze (hK26 _ _ ?_))
   refine cf ?_
   refine wp_exit ?_
   refine hK23 _ _ ?_
   refine zk fun K27 hK27=>rg [0] ?_
   refine sm (ze (hK27 _ _ ?_))
   refine wp_ret ?_
   try dsimp only [Exit.then,Exit.inBlock]
   refine bodyPost_ret (v:=(.bool true)) (by simp[results,Tryz.results4,go_sem]) rfl ?_
   exact⟨rfl,hBB.trans (hs.b.mono hBB.size)⟩
end
theorem walk_GdetMakes (w:World) (oa:Option Addr) (na ca:Nat) (A:List (List (Int × Int))) (ha:MN 1048576 w oa A) (hna:A.length=na) (la:na≤1048576) (ta:Tot 1048576 A)
  (oy:Option Addr) (ny cy:Nat) (Y:List (Int × Int)) (hy:SN 1048576 w oy Y) (hny:Y.length=ny) (ly:ny≤1048576)
  (ov:Option Addr) (nv cv:Nat) (V:List (Int × Int)) (hv:SN 1048576 w ov V) (hnv:V.length=nv) (lv:nv≤1048576) :
  Calls Tryz.prog 4 #[.slice oa na ca,.slice oy ny cy,.slice ov nv cv] w fun e w'=>e = .returned (.bool true)∧Below w.heap.size w w':=by
 by_cases h:gd A
 ·have hn64:na≤64:=by have:=h.1;omega
  have hB:=ta.minB (W:=wd A) hna hn64
  obtain⟨r,hr⟩:=Dt.rk_exists one_ne na (wd A) (at2 A)
  have hle:r≤na:=by
   obtain⟨f,g,hfg,hne,_⟩:=id hr
   exact Nat.le_of_not_lt fun c=>hne (Dt.minor_big (h:=na) c fun i hi=>(hfg i hi).1)
  have badT:¬ny=na→∀w1,Below w.heap.size w w1→Calls Tryz.prog 16 #[.slice oy ny cy,.slice oa na ca] w1 fun e w'=>e = .returned (.tuple #[.slice none 0 0,.int .i64 4])∧Below w1.heap.size w1 w' :=
   fun hne w1 hb=>mTimes_bad (ha.bl stab_n hb) hna (fun c=>hne c.2) (by omega) (by omega)
  have depZ:r<na→∀w1 o c,Below w.heap.size w w1→SN 2200000 w1 o (rowC Y A na (wd A))→Calls Tryz.prog 5 #[.slice oa na ca,.slice o (wd A) c] w1 fun e w'=>e = .returned (.tuple #[.slice none 0 0,.int .i64 3])∧Below w1.heap.size w1 w' :=
   fun hlt w1 o c hb hW=>pp_dep (by omega) (ha.bl stab_n hb) hna h rfl hW rowC_len (fun _=>rfl) (by have:=h.2.1;omega) ta hr hlt
  rcases Nat.lt_or_ge r na with c | c
  ·have hn0:0<na:=by omega
   have part:∃ee:Int,ee≠0∧∀w1,Below w.heap.size w w1→Calls Tryz.prog 5 #[.slice oa na ca,.slice ov nv cv] w1 fun e w'=>e = .returned (.tuple #[.slice none 0 0,.int .i64 ee])∧Below w1.heap.size w1 w':=by
    by_cases hm:nv=wd A
    ·exact⟨3,by decide,fun w1 hb=>pp_dep (by omega) (ha.bl stab_n hb) hna h rfl (hv.bl stab_n hb) hnv (fun _=>hm) lv ta hr c⟩
    ·exact⟨4,by decide,fun w1 hb=>solve_len (ha.bl stab_n hb) hna h rfl hn0 hm⟩
   obtain⟨ee,hee,hS⟩:=part
   by_cases hnn:ny=na
   ·subst hnn
    exact mk_SD ha hna hy hny hee hS h rfl hB hr c (depZ c)
   ·exact mk_SC ha hna hy hny hee hS (badT hnn)
  ·obtain rfl:r=na:=by omega
   have hD:Dt.det r (gG (wd A) (at2 A))≠0:=(gram_rk hr).1 rfl
   have backZ:∀w1 o c,Below w.heap.size w w1→SN 2200000 w1 o (rowC Y A r (wd A))→Calls Tryz.prog 5 #[.slice oa r ca,.slice o (wd A) c] w1 fun e w'=>∃o c,e = .returned (.tuple #[.slice o r c,.int .i64 0])∧LQ w' o ((List.range r).map fun i=>(rv (at1 Y i).1 1,rv (at1 Y i).2 1))∧Below w1.heap.size w1 w' :=
    fun w1 o c hb hW=>pp_back (p0:=0) (by omega) (ha.bl stab_n hb) hna h rfl hW ta hr hD
   have bad:(∃ee:Int,ee≠0∧∀w1,Below w.heap.size w w1→Calls Tryz.prog 5 #[.slice oa r ca,.slice ov nv cv] w1 fun e w'=>e = .returned (.tuple #[.slice none 0 0,.int .i64 ee])∧Below w1.heap.size w1 w') ∨
     ((0<r→nv=wd A)∧∃p x,Sol r nv (at2 A) (at1 V) p x):=by
    by_cases hm:0<r→nv=wd A
    ·by_cases hS:∃p x,Sol r nv (at2 A) (at1 V) p x
     ·exact .inr ⟨hm,hS⟩
     ·exact .inl ⟨10,by decide,fun w1 hb=>pp_no (by omega) (ha.bl stab_n hb) hna h rfl (hv.bl stab_n hb) hnv hm lv ta hr fun p x c=>hS ⟨p,x,c⟩⟩
    ·have hn0:0<r:=Nat.pos_of_ne_zero fun c=>hm fun h=>absurd h (by omega)
     exact .inl ⟨4,by decide,fun w1 hb=>solve_len (ha.bl stab_n hb) hna h rfl hn0 fun c=>hm fun _=>c⟩
   rcases bad with ⟨ee,hee,hS⟩ | ⟨hm,p,x,hS⟩
   ·by_cases hnn:ny=r
    ·subst hnn
     exact mk_SE ha hna hy hny hee hS h rfl hB hr rfl backZ
    ·exact mk_SC ha hna hy hny hee hS (badT hnn)
   ·have hX:∀w1,Below w.heap.size w w1→Calls Tryz.prog 5 #[.slice oa r ca,.slice ov nv cv] w1 fun e w'=>∃p x o c,e = .returned (.tuple #[.slice o r c,.int .i64 0])∧Hid (SolB r nv (at2 A) (at1 V) 2099153 p x)∧LQ w' o ((List.range r).map fun i=>qC (x i) p)∧Below w1.heap.size w1 w' :=
     fun w1 hb=>pp_yes (lv:=1048576) (by omega) (ha.bl stab_n hb) hna h rfl (hv.bl stab_n hb) hnv hm lv ta hr hS
    rcases Nat.eq_zero_or_pos r with h0 | h0
    ·by_cases hnn:ny=r
     ·subst hnn
      exact mk_ZE ha hna hy hny h0 hX h rfl hB hr rfl backZ
     ·exact mk_ZC ha hna hy hny h0 hX (badT hnn)
    ·obtain rfl:=hm h0
     by_cases hnn:ny=r
     ·subst hnn
      exact mk_BE ha hna hy hny h0 hv hnv hX h rfl hB hr rfl backZ
     ·exact mk_BC ha hna hy hny h0 hv hnv hX (badT hnn) h rfl
 ·refine mk_SC (ee:=4) ha hna hy hny (by decide) (fun w1 hb=>solve_bad (ha.bl stab_n hb) hna h (by omega)) fun w1 hb=>mTimes_bad (ha.bl stab_n hb) hna (fun c=>h c.1) (by omega) (by omega)
end Go.Proofs.YthmolpepinolkaaGreat
