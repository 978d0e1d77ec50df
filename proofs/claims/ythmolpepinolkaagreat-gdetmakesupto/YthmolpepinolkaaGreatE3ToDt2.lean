/- gdet: rows and columns of a table exchanged. -/
import Derived.Test.YthmolpepinolkaaGreatO5ToS4
import Derived.Scope
namespace Go.Proofs.YthmolpepinolkaaGreat
open Go Go.RowKit Dig
set_option linter.unusedVariables false
theorem map_swap {g:Nat→Int × Int} {j k W:Nat} (hj:j<W) (hk:k<W):(((List.range W).map g).set j (g k)).set k (g j)=(List.range W).map fun c=>g (swr j k c):=by
 refine List.ext_getElem (by simp) fun r h1 h2 => ?_
 simp only[List.getElem_set,List.getElem_map,List.getElem_range]
 unfold swr
 by_cases e:k=r
 ·subst e
  by_cases e2:k=j
  ·subst e2;simp
  ·simp[e2]
 ·rw[if_neg e]
  by_cases e2:j=r
  ·subst e2;simp
  ·rw[if_neg e2,if_neg (Ne.symm e2),if_neg (Ne.symm e)]
def cx (F:Nat→Nat→Int × Int) (j k q:Nat):Nat→Nat→Int × Int:=fun r c=>if r<q then F r (swr j k c) else F r c
section
variable {F:Nat→Nat→Int × Int} {j k q n W:Nat}
theorem cx_0:mkM n W F=mkM n W (cx F j k 0):=mkM_eq rfl rfl fun p _ c _=>by unfold cx;rw[if_neg (by omega)]
theorem cx_row:cx F j k q q=F q:=by funext c;unfold cx;rw[if_neg (by omega)]
theorem cx_step (hq:q<n):(mkM n W (cx F j k q)).set q ((List.range W).map fun c=>F q (swr j k c))=mkM n W (cx F j k (q+1)):=by
 rw[mkM_setrow hq]
 refine mkM_eq rfl rfl fun p _ c _ => ?_
 unfold rowed cx
 by_cases h:p=q
 ·rw[if_pos h,if_pos (by omega),h]
 ·rw[if_neg h]
  by_cases h2:p<q
  ·rw[if_pos h2,if_pos (by omega)]
  ·rw[if_neg h2,if_neg (by omega)]
theorem cx_end:mkM n W (cx F j k n)=mkM n W fun r c=>F r (swr j k c):=mkM_eq rfl rfl fun p hp c _=>by unfold cx;rw[if_pos hp]
end
def xo (odd:Bool) (i j k:Nat):Bool:=(odd != ((i:Int) != (k:Int))) != ((j:Int) != (k:Int))
section
variable {w w0:World} {pt n c h m W i j k:Nat} {odd:Bool} {o:Option Addr} {rs:List Rw} {bs:List En} {F:Nat→Nat→Int × Int}
set_option maxHeartbeats 4000000 in
set_option maxRecDepth 20000 in
theorem exchange_any (hst:St w0 (ls w0.heap.size 24 1 (.slice o n c) n (rs.map (·.v))::bx pt #[.slice o n c,.int .i64 (h:Int),.int .i64 (m:Int),.bool odd] 61::(bs++rs.map (Rw.e w0.heap.size))) w)
  (kb_bt:Hid (w0.heap.size≤pt)) (hd:RD w rs (mkM n W F)) (hi:i<n) (hk:k<n) (hj:j<W) (hk2:k<W) (hn:n≤1000) (hW:W≤3000000) :
  Calls Tryz.prog 119 #[.pointer (some ⟨pt,0,none⟩),.int .i64 (i:Int),.int .i64 (j:Int),.int .i64 (k:Int)] w fun e w'=>∃rs',e = .returned (.tuple #[])∧rs'.length=n∧RD w' rs' (mkM n W fun r q=>F (swr i k r) (swr j k q)) ∧
   St w0 (ls w0.heap.size 24 1 (.slice o n c) n (rs'.map (·.v))::bx pt #[.slice o n c,.int .i64 (h:Int),.int .i64 (m:Int),.bool (xo odd i j k)] 61::(bs++rs'.map (Rw.e w0.heap.size))) w'∧Kp w w':=by
 have hl:rs.length=n:=by rw[hd.len];exact len_mkM
 have kk:=KpF.r w
 have LO:Lst w w0.heap.size 24 1 (.slice o n c) n _:=hst.1.1.1
 obtain⟨gO,curO,rfl,xO,hcO⟩:=LO.box (by omega)
 obtain⟨oi,ci,hvi⟩:=hst.rowv (bs:=bx pt #[.slice (some ⟨gO,0,none⟩) n c,.int .i64 (h:Int),.int .i64 (m:Int),.bool odd] 61::bs) hd (p:=i) (K:=W) (by rw[len_mkM];exact hi) (by rw[mkM_row hi];simp)
 obtain⟨ok,ck,hvk⟩:=hst.rowv (bs:=bx pt #[.slice (some ⟨gO,0,none⟩) n c,.int .i64 (h:Int),.int .i64 (m:Int),.bool odd] 61::bs) hd (p:=k) (K:=W) (by rw[len_mkM];exact hk) (by rw[mkM_row hk];simp)
 have eI:=hcO _ _ hvi
 have eK:=hcO _ _ hvk
 have HI:=hide hi
 have HK:=hide hk
 have HJ:=hide hj
 have HK2:=hide hk2
 clear LO hcO
 go_enter Tryz.func119,Tryz.ntmps119
 have hs:=hst
 clear hst
 have lt_kO:=xO.lt
 have xOz:=xO
 refine zk fun K1 hK1 => ?_
 refine wp_region_f4 [(0,false),(1,false),(2,false),(3,false),(4,false),(5,false),(6,false),(7,false),(8,false),(9,false),(10,false),(11,false),(12,false),(13,false),(14,false),(15,false),(16,false),(17,false),(18,false),(19,false),(20,false),(21,false),(22,false),(23,false),(24,false)] [25,26,27] [] (fun _=>default) [99,99,99,0,99,99,99,99,0,99,99,99,99,0,99,99,1,99,99,99,0,99,99,1,99,99,99,99] [(25,1),(26,1),(27,1)] (.c hs.g1 (.c xO .n)) fn fun w_1 n1 => ?_
 replace xO:=xO.bl n1;replace hs:=hs.bl n1
 refine fmv ?_
 refine f0 ?_
 refine f0 ?_
 refine f4 ?_
 refine fmv ?_
 refine fmv ?_
 refine f0 ?_
 refine f0 ?_
 refine f4 ?_
 refine fmv ?_
 refine fmv ?_
 refine f0 ?_
 refine f0 ?_
 refine f4 ?_
 refine fmv ?_
 refine f0 ?_
 apply wpFl_ld rfl rfl;(case h1=>intro w' hC K hK;have c0:=Bs.cell hC (k) eK;go_big_op;exact hK);iterate 4 kernel_rfl
 refine fmv ?_
 refine f0 ?_
 refine f0 ?_
 refine f4 ?_
 refine fmv ?_
 refine f0 ?_
 apply wpFl_ld rfl rfl;(case h1=>intro w' hC K hK;have c0:=Bs.cell hC (i) eI;go_big_op;exact hK);iterate 4 kernel_rfl
 refine f0 ?_
 refine e0 hs ?_;clear hs;intro w_2 hs n2
 replace xO:=xO.bl n2
 refine tl ?_
 refine .i1 0 hs (j:=i) (by exact HI.out) ?_ (e:=fun _ hB hO=>(ai (hs.g1.frame hO (hs.ne 1 0)) (ai trivial trivial)));clear hs;intro w_3 hs kp3 hd3 ho3 hw3;simp only[List.set_cons_zero] at hs
 clear xO
 refine tl ?_
 refine .r0 ?_ (e:=(ai hs.g1 (ai trivial trivial)))
 refine tl ?_
 refine .i1 0 hs (j:=k) (by exact HK.out) ?_ (e:=fun _ hB hO=>(ai (hs.g1.frame hO (hs.ne 1 0)) (ai trivial trivial)));clear hs;intro w_4 hs kp4 hd4 ho4 hw4;simp only[List.set_cons_zero] at hs
 apply wpTail_end
 refine hK1 _ _ ?_
 refine zk fun K2 hK2 => ?_
 refine zk fun K3 hK3=>rg [0,1,2,3,4,5] ?_
 refine xmr ?_
 refine sr ?_
 refine sq ?_
 refine .r4 hs.g1.f4 ?_
 refine sr ?_
 refine sm (ze (hK3 _ _ ?_))
 refine wp_block ?_
 have k0_4:=(((kb n1).b n2).t kp3).t kp4
 replace hd:=hd.k k0_4
 obtain⟨rs1,q1,q2,q3,q4⟩:=RD.swap hd HI.out HK.out hvi hvk
 have hs:=hs.swap (bs:=bx pt #[.slice (some ⟨gO,0,none⟩) n c,.int .i64 (h:Int),.int .i64 (m:Int),.bool odd] 61::bs) q2 q3
 replace kk:=kk.k k0_4
 have hd5:=hs.2.1
 go_loopg [41] n (fun kz s41 wr=>∃(q:Nat) (rs:List Rw),s41 = .int .i64 (q:Int)∧q+kz=n∧rs.length=n∧RD wr rs (mkM n W (cx (fun r=>F (swr i k r)) j k q))∧KpF w wr ∧
  St w0 (ls w0.heap.size 24 1 (.slice (some ⟨gO,0,none⟩) n c) n (rs.map (·.v))::bx pt #[.slice (some ⟨gO,0,none⟩) n c,.int .i64 (h:Int),.int .i64 (m:Int),.bool odd] 61::(bs++rs.map (Rw.e w0.heap.size))) wr)
 case atStart=>exact⟨0,rs1,rfl,by omega,q1.trans hl,by rw[←cx_0];exact q4,kk,hs⟩
 case round =>
 clear kk hd hs
 obtain⟨q,rs,rfl,hqn,hrl,hd,kk,hs⟩:=hrel
 by_cases hq:q<n
 ·have HQ:=hide hq
  obtain⟨r1,gr,cr,xs,r2,rfl,hr1,hrv,hx,hs⟩:=hs.row (bs:=bx pt #[.slice (some ⟨gO,0,none⟩) n c,.int .i64 (h:Int),.int .i64 (m:Int),.bool odd] 61::bs) hd (p:=q) (K:=W) (by rw[len_mkM];exact hq) (by rw[mkM_row hq];simp) (by have:=HJ.out;omega)
  have LO:Lst wr w0.heap.size 24 1 (.slice (some ⟨gO,0,none⟩) n c) n _:=hs.1.2.1.1
  obtain⟨gO',curO,eO',xO,hcO⟩:=LO.box (by omega)
  simp only[Option.some.injEq,Addr.mk.injEq,and_true] at eO'
  obtain rfl:gO=gO':=eO'
  have eO:=hcO _ _ hrv
  have LR:Lst wr w0.heap.size 45 4 (.slice (some ⟨gr,0,none⟩) W cr) W xs:=hs.1.1.1
  obtain⟨gr',curR,eR,xR,hcR⟩:=LR.box (by have:=HJ.out;omega)
  simp only[Option.some.injEq,Addr.mk.injEq,and_true] at eR
  obtain rfl:gr=gr':=eR
  have hx2:=hx
  rw[mkM_row hq] at hx2
  obtain⟨a1,a2,a3,a4,a5,a6,a7,a8,e1,e2,e3,e4,z1,z2⟩:=hx2.els k (by simpa using HK2.out)
  obtain⟨b1,b2,b3,b4,b5,b6,b7,b8,e5,e6,e7,e8,z3,z4⟩:=hx2.els j (by simpa using HJ.out)
  rw[show ((List.range W).map (cx (fun r=>F (swr i k r)) j k q q))[k]'(by simpa using HK2.out)=F (swr i k q) k by simp[cx_row]] at z1 z2
  rw[show ((List.range W).map (cx (fun r=>F (swr i k r)) j k q q))[j]'(by simpa using HJ.out)=F (swr i k q) j by simp[cx_row]] at z3 z4
  replace e1:=hcR _ _ e1
  replace e2:=hcR _ _ e2
  replace e3:=hcR _ _ e3
  replace e4:=hcR _ _ e4
  replace e5:=hcR _ _ e5
  replace e6:=hcR _ _ e6
  replace e7:=hcR _ _ e7
  replace e8:=hcR _ _ e8
  clear LO hcO hrv LR hcR hx2
  refine zk fun K4 hK4=>rg [0] ?_
  refine sr (ze (hK4 _ _ ?_))
  refine zk fun K5 hK5 => ?_
  refine ct ?_
  refine wp_skip ?_
  refine hK5 _ _ ?_
  refine zk fun K6 hK6 => ?_
  refine wp_block ?_
  refine zk fun K7 hK7=>rg [0,1,2] ?_
  refine sr ?_
  refine sq ?_
  refine .r1 (xO.cell _ eO) ?_
  refine sm (ze (hK7 _ _ ?_))
  refine wp_region_f4 [(0,false),(1,false),(2,false),(3,false),(4,false),(5,false),(6,false),(7,false),(8,false),(9,false),(10,false),(11,false),(12,false)] [13,14,15] [] (fun _=>default) [99,99,99,99,99,99,99,0,99,99,99,0,99,99,99,99] [(13,0),(14,0),(15,0)] (.c xR .n) fn fun w_6 n6 => ?_
  replace xO:=xO.bl n6;replace xR:=xR.bl n6;replace hs:=hs.bl n6
  refine fmv ?_
  refine fmv ?_
  refine fmv ?_
  refine fmv ?_
  refine fmv ?_
  refine fmv ?_
  refine f0 ?_
  apply wpFl_ld rfl rfl;(case h1=>intro w' hC K hK;have c0:=Bs.cell hC ((k*4)) e1;have c1:=Bs.cell hC ((k*4)+1) e2;have c2:=Bs.cell hC ((k*4)+2) e3;have c3:=Bs.cell hC ((k*4)+3) e4;go_big_op;exact hK);iterate 4 kernel_rfl
  refine fmv ?_
  refine fmv ?_
  refine f0 ?_
  apply wpFl_ld rfl rfl;(case h1=>intro w' hC K hK;have c0:=Bs.cell hC ((j*4)) e5;have c1:=Bs.cell hC ((j*4)+1) e6;have c2:=Bs.cell hC ((j*4)+2) e7;have c3:=Bs.cell hC ((j*4)+3) e8;go_big_op;exact hK);iterate 4 kernel_rfl
  refine f0 ?_
  refine e0 hs ?_;clear hs;intro w_7 hs n7
  replace xO:=xO.bl n7;replace xR:=xR.bl n7
  refine tl ?_
  refine .i4 0 hs (j:=j) (by exact HJ.out) ?_ (e:=fun _ hB hO=>(ai trivial trivial));clear hs;intro w_8 hs kp8 hd8 ho8 hw8;simp only[List.set_cons_zero] at hs
  clear xO
  clear xR
  refine tl ?_
  refine .r0 ?_ (e:=(ai trivial trivial))
  refine tl ?_
  refine .i4 0 hs (j:=k) (by exact HK2.out) ?_ (e:=fun _ hB hO=>(ai trivial trivial));clear hs;intro w_9 hs kp9 hd9 ho9 hw9;simp only[List.set_cons_zero] at hs
  apply wpTail_end
  refine hK6 _ _ ?_
  refine rg [0,1] ?_
  refine xrm ?_
  apply wpSq_end
  have k0_4:=(((kb n6).b n7).t kp8).t kp9
  replace z1:=z1.k k0_4
  replace z2:=z2.k k0_4
  replace z3:=z3.k k0_4
  replace z4:=z4.k k0_4
  replace hx:=hx.k k0_4
  replace hd:=hd.k k0_4
  replace kk:=kk.k k0_4
  refine ‹∀(a':Act) (w':World),Handed _ _ a' w'→_› _ _ ?_
  rw[mkM_row HQ.out,cx_row] at hx
  have hy:=GD.put z3 z4 (q:=k) (GD.put z1 z2 (q:=j) hx (by simpa using HJ.out)) (by simpa using HK2.out)
  rw[show ((F (swr i k q) k).1,(F (swr i k q) k).2)=F (swr i k q) k from rfl,show ((F (swr i k q) j).1,(F (swr i k q) j).2)=F (swr i k q) j from rfl,map_swap (g:=F (swr i k q)) HJ.out HK2.out] at hy
  have hd:=RD.set' (v:=.slice (some ⟨gr,0,none⟩) W cr) (n:=W) (by simp) hy hd hr1
  rw[cx_step (F:=fun r=>F (swr i k r)) HQ.out] at hd
  go_roundg (gk - 1)
  case rel=>exact⟨q+1,_,by rfl,by omega,by simpa using hrl,hd,kk,hs.unrow (bs:=bx pt #[.slice (some ⟨gO,0,none⟩) n c,.int .i64 (h:Int),.int .i64 (m:Int),.bool odd] 61::bs)⟩
  case measure=>omega
 ·obtain rfl:n=q:=by omega
  have HX:=hide hq
  refine zk fun K4 hK4=>rg [0] ?_
  refine sr (ze (hK4 _ _ ?_))
  refine zk fun K5 hK5 => ?_
  refine cf ?_
  refine wp_exit ?_
  refine hK2 _ _ ?_
  refine rg [0,1,2,3,4,5,6,7,8,9,10,11,12,13,14,15] ?_
  refine xmm ?_
  refine xrr ?_
  refine sq ?_
  refine .r4 hs.g1.f4 ?_
  refine xmm ?_
  refine xrr ?_
  refine xmm ?_
  refine xrr ?_
  refine xrr ?_
  refine sq ?_
  intro K hK
  have xs:=hs.g1
  obtain⟨d0,d1,d2,d3⟩:=hs.g1.f4
  have f0:=xs.free 3
  go_big_op
  have hd6:=xs.nod rfl rfl
  obtain⟨w_6,eW,xs',ho6⟩:∃w',(wr.setCell ⟨pt,3,none⟩ (.bool (!((!(odd==((i:Int) != (k:Int))))==((j:Int) != (k:Int))))))=w'∧Bs w' pt #[(.slice (some ⟨gO,0,none⟩) n c),.int .i64 (h:Int),.int .i64 (m:Int),.bool (!((!(odd==((i:Int) != (k:Int))))==((j:Int) != (k:Int))))] 61∧Only pt wr w':=xs.setN [(3,.bool (!((!(odd==((i:Int) != (k:Int))))==((j:Int) != (k:Int)))))]
  rw[eW];clear eW d0 d1 d2 d3 f0 xs
  replace hs:=hs.u1 kb_bt xs' ho6;clear xs'
  refine hK _ _ rfl trivial ?_;clear hK K
  apply wpSq_end
  try simp only[Exit.then,Exit.inBlock,if_true]
  refine bodyPost_end (results_none rfl _ _ _) rfl ?_
  have k0_1:=ko hd6 ho6
  replace hd:=hd.k k0_1
  replace kk:=kk.k k0_1
  exact⟨rs,rfl,hrl,by rw[←cx_end];exact hd,hs,kk.kp⟩
end
theorem swr_k {i k:Nat}:swr i k k=i:=by
 unfold swr
 split
 ·rename_i h;exact h
 ·rw[if_pos rfl]
def PvPost (k h m:Nat) (F:Nat→Nat→Int × Int) (odd fd:Bool) (F':Nat→Nat→Int × Int) (odd':Bool) (p:Int × Int):Prop :=
 (fd=true∧∃i j,k≤i∧i<h∧k≤j∧j<m∧F i j≠(0,0)∧F'=(fun r c=>F (swr i k r) (swr j k c))∧odd'=xo odd i j k∧p=F i j) ∨
 (fd=false∧F'=F∧odd'=odd∧p=(0,0)∧∀i,k≤i→i<h→∀j,k≤j→j<m→F i j=(0,0))
section
variable {w w0:World} {pt n c h m W k l:Nat} {odd:Bool} {o:Option Addr} {rs:List Rw} {bs:List En} {F:Nat→Nat→Int × Int}
set_option maxHeartbeats 4000000 in
set_option maxRecDepth 20000 in
theorem pivot_any (hst:St w0 (ls w0.heap.size 24 1 (.slice o n c) n (rs.map (·.v))::bx pt #[.slice o n c,.int .i64 (h:Int),.int .i64 (m:Int),.bool odd] 61::(bs++rs.map (Rw.e w0.heap.size))) w)
  (kb_bt:Hid (w0.heap.size≤pt)) (hd:RD w rs (mkM n W F)) (hh:h≤n) (hm:m≤W) (hk:k≤h) (hk2:k≤m) (hn:n≤1000) (hW:W≤3000000) (hF:∀i,k≤i→i<h→∀j,k≤j→j<m→zl l (F i j)) (hl:l≤20000000) :
  Calls Tryz.prog 61 #[.pointer (some ⟨pt,0,none⟩),.int .i64 (k:Int)] w fun e w'=>∃v fd rs' F' odd' p,e = .returned (.tuple #[v,.bool fd])∧PC w' v p.1 p.2∧PvPost k h m F odd fd F' odd' p∧rs'.length=n∧RD w' rs' (mkM n W F') ∧
   St w0 (ls w0.heap.size 24 1 (.slice o n c) n (rs'.map (·.v))::bx pt #[.slice o n c,.int .i64 (h:Int),.int .i64 (m:Int),.bool odd'] 61::(bs++rs'.map (Rw.e w0.heap.size))) w'∧Kp w w':=by
 have hrl0:rs.length=n:=by rw[hd.len];exact len_mkM
 have kk:=KpF.r w
 have HF:=hide hF
 have HH:=hide hh
 have HM:=hide hm
 have HK1:=hide hk
 have HK2:=hide hk2
 clear hF
 go_enter Tryz.func61,Tryz.ntmps61
 have hs:=hst
 clear hst
 refine zk fun K1 hK1=>rg [0,1] ?_
 refine sq ?_
 refine .al hs ?_;clear hs;intro p_b1 w_1 hs n1 kb_b1
 refine sm (ze (hK1 _ _ ?_))
 refine zk fun K2 hK2 => ?_
 refine zk fun K3 hK3=>rg [0,1] ?_
 refine sm ?_
 refine sm (ze (hK3 _ _ ?_))
 refine wp_block ?_
 have hs:=hs.perm ((List.Perm.swap _ _ _).trans (List.Perm.cons _ (List.Perm.swap _ _ _)))
 have k0_1:=kb n1
 replace hd:=hd.k k0_1
 replace kk:=kk.k k0_1
 have hd2:=hs.2.1
 go_loopg [6] (h - k) (fun kz s6 wr=>∃i:Nat,s6 = .int .i64 (i:Int)∧i+kz=h∧k≤i∧Hid (∀r,k≤r→r<i→∀q,k≤q→q<m→F r q=(0,0))∧RD wr rs (mkM n W F)∧KpF w wr ∧
  St w0 (ls w0.heap.size 24 1 (.slice o n c) n (rs.map (·.v))::bx pt #[.slice o n c,.int .i64 (h:Int),.int .i64 (m:Int),.bool odd] 61::bx p_b1 #[.bool false,.slice none 0 0,.bool false,.slice none 0 0] 45::(bs++rs.map (Rw.e w0.heap.size))) wr)
 case atStart=>exact⟨k,rfl,by omega,Nat.le_refl _,hide (fun r h1 h2=>absurd h1 (by omega)),hd,kk,hs⟩
 case round =>
 clear kk hd hs
 obtain⟨i,rfl,hih,hki,HZ,hd,kk,hs⟩:=hrel
 have HO := ‹∀(a':Act) (w':World),Handed _ _ a' w'→_›
 obtain⟨g1,hg1⟩:∃g,gk=g:=⟨_,rfl⟩
 by_cases hi:i<h
 ·have HI:=hide hi
  have HIN:=hide (show i<n by omega)
  refine zk fun K4 hK4 => ?_
  refine zk fun K5 hK5=>rg [0,1,2,3,4,5] ?_
  refine xmm ?_
  refine xrr ?_
  refine sq ?_
  refine .r4 hs.g1.f4 ?_
  refine sr (ze (hK5 _ _ ?_))
  refine ct ?_
  refine wp_skip ?_
  refine hK4 _ _ ?_
  refine zk fun K6 hK6 => ?_
  refine wp_block ?_
  refine zk fun K7 hK7=>rg [0,1] ?_
  refine sm ?_
  refine sm (ze (hK7 _ _ ?_))
  refine wp_block ?_
  have hd3:=hs.2.1
  go_loopg [7] (m - k) (fun kz s7 wr=>∃j:Nat,s7 = .int .i64 (j:Int)∧j+kz=m∧k≤j∧Hid (∀q,k≤q→q<j→F i q=(0,0))∧RD wr rs (mkM n W F)∧KpF w wr ∧
   St w0 (ls w0.heap.size 24 1 (.slice o n c) n (rs.map (·.v))::bx pt #[.slice o n c,.int .i64 (h:Int),.int .i64 (m:Int),.bool odd] 61::bx p_b1 #[.bool false,.slice none 0 0,.bool false,.slice none 0 0] 45::(bs++rs.map (Rw.e w0.heap.size))) wr)
  case atStart=>exact⟨k,rfl,by have:=HK2.out;omega,Nat.le_refl _,hide (fun q h1 h2=>absurd h1 (by omega)),hd,kk,hs⟩
  case round =>
  clear hd kk hs
  obtain⟨j,rfl,hjm,hkj,HZJ,hd,kk,hs⟩:=hrel
  by_cases hj:j<m
  ·have HJ:=hide hj
   have HJW:=hide (show j<W by have:=HM.out;omega)
   obtain⟨r1,gr,cr,xs,r2,er,hr1,hrv,hx,hs⟩:=hs.row (bs:=bx pt #[.slice o n c,.int .i64 (h:Int),.int .i64 (m:Int),.bool odd] 61::bx p_b1 #[.bool false,.slice none 0 0,.bool false,.slice none 0 0] 45::bs) hd (p:=i) (K:=W) (by rw[len_mkM];exact HIN.out) (by rw[mkM_row HIN.out];simp) (by have:=HJW.out;omega)
   have ER:=hide er
   clear er
   have LO:Lst wr w0.heap.size 24 1 (.slice o n c) n _:=hs.1.2.1.1
   obtain⟨gO,curO,rfl,xO,hcO⟩:=LO.box (by have:=HIN.out;omega)
   have eO:=hcO _ _ hrv
   have LR:Lst wr w0.heap.size 45 4 (.slice (some ⟨gr,0,none⟩) W cr) W xs:=hs.1.1.1
   obtain⟨gr',curR,eR,xR,hcR⟩:=LR.box (by have:=HJW.out;omega)
   simp only[Option.some.injEq,Addr.mk.injEq,and_true] at eR
   obtain rfl:gr=gr':=eR
   rw[mkM_row HIN.out] at hx
   obtain⟨a1,a2,a3,a4,a5,a6,a7,a8,e1,e2,e3,e4,z1,z2⟩:=hx.els j (by simpa using HJW.out)
   rw[show ((List.range W).map (F i))[j]'(by simpa using HJW.out)=F i j by simp] at z1 z2
   replace e1:=hcR _ _ e1
   replace e2:=hcR _ _ e2
   replace e3:=hcR _ _ e3
   replace e4:=hcR _ _ e4
   have LB:=hide (HF.out i hki HI.out j hkj hj)
   replace z1:=z1.zn LB.out.1
   replace z2:=z2.zn LB.out.2
   have HP:=hide (show (F i j=(0,0))=((F i j).1=0∧(F i j).2=0) by rw[Prod.ext_iff])
   obtain⟨P,hP⟩:∃P,F i j=P:=⟨_,rfl⟩
   have HPE:=hide hP
   rw[hP] at z1 z2 HP LB
   clear LO hcO hrv LR hcR hx hP
   by_cases h0:P.1=0∧P.2=0
   ·have HD:=hide (decide_eq_true h0)
    have HY:=hide (HPE.out.trans (Eq.mpr HP.out h0))
    clear h0
    refine zk fun K8 hK8 => ?_
    refine zk fun K9 hK9=>rg [0,1,2,3,4,5] ?_
    refine xmm ?_
    refine xrr ?_
    refine sq ?_
    refine .r4 hs.g2.f4 ?_
    refine sr (ze (hK9 _ _ ?_))
    refine ct ?_
    refine wp_skip ?_
    refine hK8 _ _ ?_
    refine zk fun K10 hK10 => ?_
    refine wp_block ?_
    refine zk fun K11 hK11=>rg [0,1,2,3,4,5,6,7,8,9,10,11] ?_
    refine xmr ?_
    refine sr ?_
    refine sq ?_
    refine .r4 hs.g2.f4 ?_
    refine xmr ?_
    refine sq ?_
    refine .r1 (xO.cell _ eO) ?_
    refine xmr ?_
    refine sq ?_
    refine .r4 ⟨xR.cell _ e1,xR.cell _ e2,xR.cell _ e3,xR.cell _ e4⟩ ?_
    refine sq ?_
    intro K hK
    go_big_op
    go_fit (isZero_any (.mk' z1 z2) (by omega) (by omega))
    rintro e w_4 ⟨rfl,hb_4⟩
    replace xO:=xO.bl hb_4;replace xR:=xR.bl hb_4;replace hs:=hs.bl hb_4
    rw[HD.out]
    refine hK _ _ rfl trivial ?_
    clear hK K
    refine sr (ze (hK11 _ _ ?_))
    refine cf ?_
    refine wp_skip ?_
    refine hK10 _ _ ?_
    refine rg [0,1,2] ?_
    refine xmr ?_
    refine sm ?_
    apply wpSq_end
    have k0_1:=kb hb_4
    replace hd:=hd.k k0_1
    replace kk:=kk.k k0_1
    refine ‹∀(a':Act) (w':World),Handed _ _ a' w'→_› _ _ ?_
    have e9:=ER.out
    subst e9
    have hs:=hs.unrow (bs:=bx pt #[.slice (some ⟨gO,0,none⟩) n c,.int .i64 (h:Int),.int .i64 (m:Int),.bool odd] 61::bx p_b1 #[.bool false,.slice none 0 0,.bool false,.slice none 0 0] 45::bs)
    go_roundg (gk - 1)
    case rel=>exact⟨j+1,by rfl,by omega,by omega,hide (fun q h1 h2=>by
     rcases Nat.lt_or_ge q j with h3 | h3
     ·exact HZJ.out q h1 h3
     ·obtain rfl:q=j:=by omega
      exact HY.out),hd,kk,hs⟩
    case measure=>omega
   ·have HD:=hide (decide_eq_false h0)
    have HNZ:=hide (show F i j≠(0,0) from fun c=>h0 (Eq.mp HP.out (HPE.out.symm.trans c)))
    clear h0
    refine zk fun K8 hK8 => ?_
    refine zk fun K9 hK9=>rg [0,1,2,3,4,5] ?_
    refine xmm ?_
    refine xrr ?_
    refine sq ?_
    refine .r4 hs.g2.f4 ?_
    refine sr (ze (hK9 _ _ ?_))
    refine ct ?_
    refine wp_skip ?_
    refine hK8 _ _ ?_
    refine zk fun K10 hK10 => ?_
    refine wp_block ?_
    refine zk fun K11 hK11=>rg [0,1,2,3,4,5,6,7,8,9,10,11] ?_
    refine xmr ?_
    refine sr ?_
    refine sq ?_
    refine .r4 hs.g2.f4 ?_
    refine xmr ?_
    refine sq ?_
    refine .r1 (xO.cell _ eO) ?_
    refine xmr ?_
    refine sq ?_
    refine .r4 ⟨xR.cell _ e1,xR.cell _ e2,xR.cell _ e3,xR.cell _ e4⟩ ?_
    refine sq ?_
    intro K hK
    go_big_op
    go_fit (isZero_any (.mk' z1 z2) (by omega) (by omega))
    rintro e w_4 ⟨rfl,hb_4⟩
    replace xO:=xO.bl hb_4;replace xR:=xR.bl hb_4;replace hs:=hs.bl hb_4
    rw[HD.out]
    refine hK _ _ rfl trivial ?_
    clear hK K
    refine sr (ze (hK11 _ _ ?_))
    refine ct ?_
    refine zk fun K12 hK12=>rg [0,1,2,3,4] ?_
    refine xmm ?_
    refine xmm ?_
    have k0_1:=kb hb_4
    replace hd:=hd.k k0_1
    have e9:=ER.out
    subst e9
    have hs:=hs.unrow (bs:=bx pt #[.slice (some ⟨gO,0,none⟩) n c,.int .i64 (h:Int),.int .i64 (m:Int),.bool odd] 61::bx p_b1 #[.bool false,.slice none 0 0,.bool false,.slice none 0 0] 45::bs)
    have HKN:=hide (show k<n by have:=HI.out;omega)
    have HKW:=hide (show k<W by have:=HJW.out;omega)
    refine sq ?_
    intro K hK
    go_big_op
    go_fit (exchange_any hs kb_bt hd HIN.out HKN.out HJW.out HKW.out hn hW)
    have bb5:=hs.b
    rintro e w_5 ⟨rs2,rfl,q1,hd2,hs',kp5⟩
    clear hs;have hs:=hs';clear hs'
    have bc5:=hs.b
    clear xO
    clear xR
    clear bb5 bc5
    obtain⟨r3,g3,c3,xs3,r4,rfl,hr3,hrv,hx,hs⟩:=hs.row (bs:=bx pt #[.slice (some ⟨gO,0,none⟩) n c,.int .i64 (h:Int),.int .i64 (m:Int),.bool (xo odd i j k)] 61::bx p_b1 #[.bool false,.slice none 0 0,.bool false,.slice none 0 0] 45::bs) hd2 (p:=k) (K:=W) (by rw[len_mkM];exact HKN.out) (by rw[mkM_row HKN.out];simp) (by have:=HKW.out;omega)
    have LO:Lst w_5 w0.heap.size 24 1 (.slice (some ⟨gO,0,none⟩) n c) n _:=hs.1.2.1.1
    obtain⟨gO',curO',eO',xO,hcO⟩:=LO.box (by have:=HKN.out;omega)
    simp only[Option.some.injEq,Addr.mk.injEq,and_true] at eO'
    obtain rfl:gO=gO':=eO'
    have eO2:=hcO _ _ hrv
    have LR:Lst w_5 w0.heap.size 45 4 (.slice (some ⟨g3,0,none⟩) W c3) W xs3:=hs.1.1.1
    obtain⟨g4,curR',eR',xR,hcR⟩:=LR.box (by have:=HKW.out;omega)
    simp only[Option.some.injEq,Addr.mk.injEq,and_true] at eR'
    obtain rfl:g3=g4:=eR'
    rw[mkM_row HKN.out] at hx
    obtain⟨b1,b2,b3,b4,b5,b6,b7,b8,e5,e6,e7,e8,z3,z4⟩:=hx.els k (by simpa using HKW.out)
    rw[show ((List.range W).map (fun q=>F (swr i k k) (swr j k q)))[k]'(by simpa using HKW.out)=F i j by simp[swr_k]] at z3 z4
    replace e5:=hcR _ _ e5
    replace e6:=hcR _ _ e6
    replace e7:=hcR _ _ e7
    replace e8:=hcR _ _ e8
    clear LO hcO LR hcR hx
    refine hK _ _ rfl trivial ?_
    clear hK K
    refine ze (hK12 _ _ ?_)
    refine zk fun K13 hK13=>rg [0,1,2,3,4,5,6,7,8,9,10,11] ?_
    refine xmr ?_
    refine sr ?_
    refine sq ?_
    refine .r4 hs.g2.f4 ?_
    refine xmr ?_
    refine sq ?_
    refine .r1 (xO.cell _ eO2) ?_
    refine xmr ?_
    refine sq ?_
    refine .r4 ⟨xR.cell _ e5,xR.cell _ e6,xR.cell _ e7,xR.cell _ e8⟩ ?_
    refine sq ?_
    refine .s4 hs.g3 (fun _=>hs.u3 kb_b1) ?_;clear hs;intro w_6 hs hd6 ho6
    replace xO:=xO.frame ho6 (hs.ne 1 3);replace xR:=xR.frame ho6 (hs.ne 0 3)
    refine sm (ze (hK13 _ _ ?_))
    refine wp_ret ?_
    have k2_3:=ko hd6 ho6
    replace hd2:=hd2.k k2_3
    have k0_3:=(k0_1.t kp5).o hd6 ho6
    replace kk:=kk.k k0_3
    replace z3:=z3.k k2_3
    replace z4:=z4.k k2_3
    try dsimp only [Exit.then,Exit.inBlock]
    obtain⟨r0_0,r0_1,r0_2,r0_3⟩:=hs.g3.f4
    refine bodyPost_ret (v:=(.tuple #[(.agg #[.bool b1,.slice b2 b3 b4,.bool b5,.slice b6 b7 b8]),(.bool true)])) (by simp[results,Tryz.results61,go_sem,r0_0,r0_1,r0_2,r0_3]) rfl ?_
    exact⟨_,true,_,_,_,F i j,rfl,.mk' z3 z4,.inl ⟨rfl,i,j,hki,HI.out,hkj,HJ.out,HNZ.out,rfl,rfl,rfl⟩,q1,hd2,(hs.unrow (bs:=_::_::bs)).sub (.cons_cons _ (.cons_cons _ (.cons _ (List.Sublist.refl _)))),kk.kp⟩
  ·obtain rfl:m=j:=by omega
   have HX:=hide hj
   refine zk fun K8 hK8 => ?_
   refine zk fun K9 hK9=>rg [0,1,2,3,4,5] ?_
   refine xmm ?_
   refine xrr ?_
   refine sq ?_
   refine .r4 hs.g1.f4 ?_
   refine sr (ze (hK9 _ _ ?_))
   refine cf ?_
   refine wp_exit ?_
   refine hK6 _ _ ?_
   refine rg [0,1,2] ?_
   refine xmr ?_
   refine sm ?_
   apply wpSq_end
   refine HO _ _ ?_
   go_roundg (g1 - 1)
   case rel=>exact⟨i+1,by rfl,by omega,by omega,hide (fun r h1 h2 q h3 h4=>by
    rcases Nat.lt_or_ge r i with h5 | h5
    ·exact HZ.out r h1 h5 q h3 h4
    ·obtain rfl:r=i:=by omega
     exact HZJ.out q h3 h4),hd,kk,hs⟩
   case measure=>omega
 ·obtain rfl:h=i:=by omega
  have HX:=hide hi
  refine zk fun K4 hK4 => ?_
  refine zk fun K5 hK5=>rg [0,1,2,3,4,5] ?_
  refine xmm ?_
  refine xrr ?_
  refine sq ?_
  refine .r4 hs.g1.f4 ?_
  refine sr (ze (hK5 _ _ ?_))
  refine cf ?_
  refine wp_exit ?_
  refine hK2 _ _ ?_
  refine zk fun K6 hK6=>rg [0,1,2] ?_
  refine sr ?_
  refine sq ?_
  refine .s4 hs.g2 (fun _=>hs.u2 kb_b1) ?_;clear hs;intro w_3 hs hd3 ho3
  refine sm (ze (hK6 _ _ ?_))
  refine wp_ret ?_
  have k0_1:=ko hd3 ho3
  replace hd:=hd.k k0_1
  replace kk:=kk.k k0_1
  try dsimp only [Exit.then,Exit.inBlock]
  obtain⟨r0_0,r0_1,r0_2,r0_3⟩:=hs.g2.f4
  refine bodyPost_ret (v:=(.tuple #[(.agg #[.bool false,.slice none 0 0,.bool false,.slice none 0 0]),(.bool false)])) (by simp[results,Tryz.results61,go_sem,r0_0,r0_1,r0_2,r0_3]) rfl ?_
  exact⟨_,false,rs,F,odd,(0,0),rfl,.mk' (zc_zero _) (zc_zero _),.inr ⟨rfl,rfl,rfl,rfl,fun r h1 h2 q h3 h4=>HZ.out r h1 h2 q h3 h4⟩,hrl0,hd,hs.sub (.cons_cons _ (.cons_cons _ (.cons _ (List.Sublist.refl _)))),kk.kp⟩
end
def Agr (n W k:Nat) (A F:Nat→Nat→Int × Int):Prop:=∀i,i<n→∀j,j<W→k≤i→k≤j→F i j=Dt.D k A i j
def Elm (k:Nat) (A F:Nat→Nat→Int × Int) (i j:Nat):Nat→Nat→Int × Int:=fun p q=>if k<p∧k<q∧(p<i∨(p=i∧q<j)) then Dt.D (k+1) A p q else F p q
section
variable {n W k i j:Nat} {A F:Nat→Nat→Int × Int}
theorem Elm_0:mkM n W F=mkM n W (Elm k A F (k+1) (k+1)):=mkM_eq rfl rfl fun p _ q _=>by unfold Elm;rw[if_neg (by omega)]
theorem Elm_here (h:i<i+1):Elm k A F i j i j=F i j:=by unfold Elm;rw[if_neg (by omega)]
theorem Elm_k:Elm k A F i j i k=F i k:=by unfold Elm;rw[if_neg (by omega)]
theorem Elm_up {q:Nat}:Elm k A F i j k q=F k q:=by unfold Elm;rw[if_neg (by omega)]
theorem Elm_step (hi:k<i) (hj:k<j):upd (Elm k A F i j) i j (Dt.D (k+1) A i j)=Elm k A F i (j+1):=by
 funext p q
 unfold upd Elm
 by_cases h:p=i∧q=j
 ·rw[if_pos h,if_pos (by omega),h.1,h.2]
 ·rw[if_neg h]
  by_cases h2:k<p∧k<q∧(p<i∨(p=i∧q<j))
  ·rw[if_pos h2,if_pos (by omega)]
  ·rw[if_neg h2,if_neg (by omega)]
theorem Elm_row:mkM n W (Elm k A F i W)=mkM n W (Elm k A F (i+1) (k+1)):=mkM_eq rfl rfl fun p _ q hq=>by
 unfold Elm
 by_cases h2:k<p∧k<q∧(p<i∨(p=i∧q<W))
 ·rw[if_pos h2,if_pos (by omega)]
 ·rw[if_neg h2,if_neg (by omega)]
theorem Elm_end:Agr n W (k+1) A (Elm k A F n (k+1)):=fun p hp q hq h1 h2=>by unfold Elm;rw[if_pos (by omega)]
theorem Elm_div (h:Agr n W k A F) (hi:i<n) (hj:j<W) (hki:k<i) (hkj:k<j) (hkn:k<n) (hkW:k<W) (hp:Dt.det k A≠0) :
  sP (mP (F i j) (Dt.D k A k k)) (mP (F i k) (F k j))=mP (Dt.det k A) (Dt.D (k+1) A i j):=by
 have h2:=Dt.step noz (k:=k) (A:=A) (i:=i) (j:=j) hp
 rw[h i hi j hj (by omega) (by omega),h i hi k hkW (by omega) nl,h k hkn j hj nl (by omega)]
 show (Dt.D k A i j*Dt.D k A k k - Dt.D k A i k*Dt.D k A k j)=Dt.det k A*Dt.D (k+1) A i j
 rw[h2];grind
def pvs (A:Nat→Nat→Int × Int) (k:Nat):List (Int × Int):=(List.range k).map fun m=>Dt.det (m+1) A
theorem pvs_succ:pvs A (k+1)=pvs A k++[Dt.det (k+1) A]:=by unfold pvs;rw[List.range_succ,List.map_append];rfl
theorem pvs_congr {B:Nat→Nat→Int × Int} (h:∀m,m≤k→Dt.det m B=Dt.det m A):pvs A k=pvs B k:=List.map_congr_left fun m hm=>(h _ (by have:=List.mem_range.1 hm;omega)).symm
theorem pvs_len:(pvs A k).length=k:=by simp[pvs]
end
section
variable {w0 w:World} {v:Value} {n p q K:Nat} {rs a b r2:List Rw} {bs:List En} {Ms:List (List (Int × Int))}
theorem St.rows2 (hs:St w0 (ls w0.heap.size 24 1 v n (rs.map (·.v))::(bs++rs.map (Rw.e w0.heap.size))) w) (hd:RD w rs Ms) (hpq:p<q) (hq:q<Ms.length) (hK:Ms[p].length=K) (hK2:Ms[q].length=K) (h0:0<K) :
  ∃a gp cp xp b gq cq xq r2,rs=a++(⟨.slice (some ⟨gp,0,none⟩) K cp,K,xp⟩:Rw)::(b++(⟨.slice (some ⟨gq,0,none⟩) K cq,K,xq⟩:Rw)::r2)∧(a++(⟨.slice (some ⟨gp,0,none⟩) K cp,K,xp⟩:Rw)::b).length=q ∧
   (rs.map (·.v))[p]? = some (.slice (some ⟨gp,0,none⟩) K cp)∧(rs.map (·.v))[q]? = some (.slice (some ⟨gq,0,none⟩) K cq)∧GD w xp Ms[p]∧GD w xq Ms[q] ∧
   St w0 (ls w0.heap.size 45 4 (.slice (some ⟨gq,0,none⟩) K cq) K xq::ls w0.heap.size 45 4 (.slice (some ⟨gp,0,none⟩) K cp) K xp::ls w0.heap.size 24 1 v n (rs.map (·.v))::(bs++(a++(b++r2)).map (Rw.e w0.heap.size))) w:=by
 obtain⟨r1,gq,cq,xq,r2,rfl,h1,h2,h3,hs⟩:=hs.row hd hq hK2 h0
 obtain⟨a,r,b',e,h4,h5,h6⟩:=hd.at' (p:=p) (by omega)
 have hb:∃b,r1=a++r::b:=by
  rcases List.append_eq_append_iff.1 e with ⟨c,e1,e2⟩ | ⟨c,e1,e2⟩
  ·exfalso;have:=congrArg List.length e1;simp at this;omega
  ·cases c with
   | nil=>exfalso;simp at e1;have:=congrArg List.length e1;omega
   | cons x t=>simp only[List.cons_append,List.cons.injEq] at e2;exact⟨t,by rw[e1,e2.1]⟩
 obtain⟨b,rfl⟩:=hb
 obtain⟨rv,rn,xp⟩:=r
 simp only at h5 h6
 rw[hK] at h5
 subst h5
 have hs2:=hs.perm (cs:=ls w0.heap.size 45 4 (.slice (some ⟨gq,0,none⟩) rn cq) rn xq::Rw.e w0.heap.size ⟨rv,rn,xp⟩::ls w0.heap.size 24 1 v n (((a++(⟨rv,rn,xp⟩:Rw)::b)++(⟨.slice (some ⟨gq,0,none⟩) rn cq,rn,xq⟩:Rw)::r2).map (·.v))::(bs++(a++(b++r2)).map (Rw.e w0.heap.size))) (by
  refine List.Perm.cons _ ((List.Perm.cons _ ?_).trans (List.Perm.swap _ _ _))
  rw[List.append_assoc,List.cons_append,List.map_append,List.map_cons,List.map_append (l₁:=a),←List.append_assoc,←List.append_assoc]
  exact List.perm_middle)
 have L:Lst w w0.heap.size 45 4 rv rn xp:=hs2.1.2.1.1
 obtain⟨o,c,rfl⟩:=L.shape
 obtain⟨gp,cur,rfl,_,_⟩:=L.box h0
 exact⟨a,gp,c,xp,b,gq,cq,xq,r2,by rw[List.append_assoc];rfl,h1,by rw[List.map_append,List.map_append,List.map_cons,List.append_assoc,List.getElem?_append_right (by simp[h4])];simp[h4],h2,h6,h3,hs2⟩
theorem St.unrows2 {x y:Value} {xp xq xq':List Value} (hs:St w0 (ls w0.heap.size 45 4 y K xq'::ls w0.heap.size 45 4 x K xp::ls w0.heap.size 24 1 v n ((a++(⟨x,K,xp⟩:Rw)::(b++(⟨y,K,xq⟩:Rw)::r2)).map (·.v))::(bs++(a++(b++r2)).map (Rw.e w0.heap.size))) w) :
  St w0 (ls w0.heap.size 24 1 v n ((a++(⟨x,K,xp⟩:Rw)::(b++(⟨y,K,xq'⟩:Rw)::r2)).map (·.v))::(bs++(a++(⟨x,K,xp⟩:Rw)::(b++(⟨y,K,xq'⟩:Rw)::r2)).map (Rw.e w0.heap.size))) w:=by
 have e:(a++(⟨x,K,xp⟩:Rw)::(b++(⟨y,K,xq⟩:Rw)::r2)).map (·.v)=(a++(⟨x,K,xp⟩:Rw)::(b++(⟨y,K,xq'⟩:Rw)::r2)).map (·.v):=by simp
 rw[e] at hs
 refine hs.perm ?_
 refine(List.Perm.cons _ (List.Perm.swap _ _ _)).trans ((List.Perm.swap _ _ _).trans (List.Perm.cons _ ?_))
 have h1:(Rw.e w0.heap.size ⟨y,K,xq'⟩::Rw.e w0.heap.size ⟨x,K,xp⟩::(bs++(a++(b++r2)).map (Rw.e w0.heap.size))).Perm (bs++(a++(⟨x,K,xp⟩:Rw)::(b++(⟨y,K,xq'⟩:Rw)::r2)).map (Rw.e w0.heap.size)):=by
  refine(List.Perm.swap _ _ _).trans ?_
  refine(List.perm_middle (l₁:=bs)).symm.cons _ |>.trans ?_
  refine(List.perm_middle (l₁:=bs)).symm.trans (List.Perm.append_left _ ?_)
  rw[←List.map_cons,←List.map_cons]
  refine List.Perm.map _ ?_
  refine List.Perm.trans ?_ (List.perm_middle (l₁:=a)).symm
  refine List.Perm.cons _ ?_
  rw[←List.append_assoc,←List.append_assoc]
  exact(List.perm_middle (l₁:=a++b)).symm
 exact h1
end
def scopeQ (P:Program) (c:Code) (Q:Exit→Act→World→Prop):Nat→Exit→Act→World→Prop
 | 0,.goto _,_,_=>False
 | n+1,.goto l,a,w=>∃rest,findLabel c l=some rest∧rest.wp P (scopeQ P c Q n) a w
 | _,e,a,w=>Q e a w
theorem scopeQ_goto {P:Program} {c rest:Code} {Q:Exit→Act→World→Prop} {n l:Nat} {a:Act} {w:World} (hf:findLabel c l=some rest) (h:rest.wp P (scopeQ P c Q n) a w):scopeQ P c Q (n+1) (.goto l) a w:=⟨rest,hf,h⟩
theorem scopeQ_normal {P:Program} {c:Code} {Q:Exit→Act→World→Prop} {n:Nat} {a:Act} {w:World} (h:Q .normal a w):scopeQ P c Q n .normal a w:=by cases n <;> exact h
theorem scopeQ_ret {P:Program} {c:Code} {Q:Exit→Act→World→Prop} {n:Nat} {a:Act} {w:World} (h:Q .ret a w):scopeQ P c Q n .ret a w:=by cases n <;> exact h
theorem wp_scope_fwd {P:Program} {a:Act} {w:World} {Q:Exit→Act→World→Prop} {c:Code} (n:Nat) (first:c.wp P (scopeQ P c Q n) a w):(Code.scope c).wp P Q a w:=by
 intro b k cs
 have key:∀(n:Nat) (d:Code) (a:Act) (w:World),d.wp P (scopeQ P c Q n) a w→∃e a' w',Q e a' w'∧Arrives P (lone (b.at a (.code d :: .inScope c::k)) cs w) b k cs e a' w':=by
  intro n
  induction n with
  | zero =>
   intro d a w h
   obtain⟨e,a₁,w₁,hq,harr⟩:=h b (.inScope c::k) cs
   cases e with
   | normal=>exact⟨.normal,a₁,w₁,hq,Steps.trans harr (.one step_inScope)⟩
   | exit id=>exact⟨.exit id,a₁,w₁,hq,fun k' hk=>harr k' (by simp[exitTo,hk])⟩
   | goto l'=>exact hq.elim
   | ret=>exact⟨_,a₁,w₁,hq,harr⟩
   | panic ch=>exact⟨_,a₁,w₁,hq,harr⟩
   | outgrown=>exact⟨_,a₁,w₁,hq,harr⟩
  | succ n ih =>
   intro d a w h
   obtain⟨e,a₁,w₁,hq,harr⟩:=h b (.inScope c::k) cs
   cases e with
   | normal=>exact⟨.normal,a₁,w₁,hq,Steps.trans harr (.one step_inScope)⟩
   | exit id=>exact⟨.exit id,a₁,w₁,hq,fun k' hk=>harr k' (by simp[exitTo,hk])⟩
   | goto l' =>
    obtain⟨rest,hf,hr⟩:=hq
    have hg:gotoIn l' (.inScope c::k)=some (.code rest :: .inScope c::k):=by simp[gotoIn,hf]
    obtain⟨e₂,a₂,w₂,hq₂,harr₂⟩:=ih rest a₁ w₁ hr
    exact⟨e₂,a₂,w₂,hq₂,.of_steps (harr _ hg) harr₂⟩
   | ret=>exact⟨_,a₁,w₁,hq,harr⟩
   | panic ch=>exact⟨_,a₁,w₁,hq,harr⟩
   | outgrown=>exact⟨_,a₁,w₁,hq,harr⟩
 obtain⟨e,a₁,w₁,hq,harr⟩:=key n c a w first
 cases e with
 | normal=>exact⟨.normal,a₁,w₁,hq,Steps.trans (.one step_scope) harr⟩
 | exit id=>exact⟨.exit id,a₁,w₁,hq,fun k' hk=>.head step_scope (harr k' hk)⟩
 | goto l'=>exact⟨.goto l',a₁,w₁,hq,fun k' hk=>.head step_scope (harr k' hk)⟩
 | ret=>exact⟨_,a₁,w₁,hq,.of_steps (.one step_scope) harr⟩
 | panic ch=>exact⟨_,a₁,w₁,hq,.of_steps (.one step_scope) harr⟩
 | outgrown=>exact⟨_,a₁,w₁,hq,.of_steps (.one step_scope) harr⟩
theorem wp_scope_k {P:Program} {a:Act} {w:World} {Q:Exit→Act→World→Prop} {c:Code} (n:Nat)
  (first:∀S:Nat→Exit→Act→World→Prop,(∀m a w,Q .ret a w→S m .ret a w)→(∀m a w,Q .normal a w→S m .normal a w) →
   (∀m l rest a w,findLabel c l=some rest→rest.wp P (S m) a w→S (m+1) (.goto l) a w)→c.wp P (S n) a w):(Code.scope c).wp P Q a w :=
 wp_scope_fwd n (first (scopeQ P c Q) (fun _ _ _ h=>scopeQ_ret h) (fun _ _ _ h=>scopeQ_normal h) fun _ _ _ _ _ hf h=>scopeQ_goto hf h)
def EntP (f:Nat) (bnd caps:Array Value):Prop:=∀v w1,Sem.run Tryz.prog (callFunc f (bnd.push v++caps)) w1 = .ok (.enter f (bnd.push v++caps)) w1
def Has (es bs:List En):Prop:=∃bs',bs.Perm (es++bs')
theorem Has.nil {bs:List En}:Has [] bs:=⟨bs,List.Perm.refl _⟩
theorem Has.cons {es bs:List En} {e:En} (h:Has es bs):Has es (e::bs):=by
 obtain⟨bs',hp⟩:=h
 exact⟨e::bs',(hp.cons _).trans List.perm_middle.symm⟩
def PivS (w0:World) (f:Nat) (bnd caps:Array Value) (o:Option Addr) (n c pt h m W:Nat) (Q Fin:Nat→(Nat→Nat→Int × Int)→Bool→Prop) (es:List En:=[]):Prop :=
 ∀(k:Nat) (w:World) (A F:Nat→Nat→Int × Int) (odd:Bool) (rs:List Rw) (bs:List En),Has es bs→Q k A odd→Agr n W k A F→rs.length=n→RD w rs (mkM n W F) →
  St w0 (ls w0.heap.size 24 1 (.slice o n c) n (rs.map (·.v))::bx pt #[.slice o n c,.int .i64 (h:Int),.int .i64 (m:Int),.bool odd] 61::(bs++rs.map (Rw.e w0.heap.size))) w →
  Calls Tryz.prog f (bnd.push (.int .i64 (k:Int))++caps) w fun e w'=>∃v fd rs' A' F' odd' p,e = .returned (.tuple #[v,.bool fd])∧PC w' v p.1 p.2 ∧
   ((fd=true∧k<n∧k<W∧Q (k+1) A' odd'∧Agr n W k A' F'∧p=Dt.D k A' k k∧Dt.det k A'≠0∧∀m,m≤k→Dt.det m A'=Dt.det m A)∨(fd=false∧Fin k A odd∧A'=A∧F'=F∧odd'=odd))∧rs'.length=n∧RD w' rs' (mkM n W F') ∧
   St w0 (ls w0.heap.size 24 1 (.slice o n c) n (rs'.map (·.v))::bx pt #[.slice o n c,.int .i64 (h:Int),.int .i64 (m:Int),.bool odd'] 61::(bs++rs'.map (Rw.e w0.heap.size))) w'∧Kp w w'
theorem perm_in {α:Type} {ds hd bs rows:List α}:(ds++(hd++(bs++rows))).Perm (hd++((ds++bs)++rows)):=by rw[List.append_assoc ds];exact List.perm_append_comm_assoc ds hd (bs++rows)
theorem zl_sPx {p q:Int × Int} {l:Nat} (hp:zl l p) (hq:zl l q):zl (l+1) (sP p q):=⟨zlen_subM hp.1 hq.1,zlen_subM hp.2 hq.2⟩
theorem Lst.capn {w:World} {B g n c sz:Nat} {ty:TypeId} {xs:List Value} (h:Lst w B ty sz (.slice (some ⟨g,0,none⟩) n c) n xs):n≤c:=by
 rcases h.1.2 with ⟨e,h0⟩ | ⟨g',cap,cur,e,hb,hg,hnc,hcm,hcs,htake⟩
 ·cases e
 ·simp only[Value.slice.injEq,Option.some.injEq,Addr.mk.injEq,and_true,true_and] at e
  obtain⟨rfl,rfl⟩:=e
  exact hnc
section
variable {w w0:World} {f pt n c h m W L:Nat} {bnd caps:Array Value} {odd:Bool} {o:Option Addr} {rs:List Rw} {bs es:List En} {A F:Nat→Nat→Int × Int} {Q Fin:Nat→(Nat→Nat→Int × Int)→Bool→Prop}
set_option maxHeartbeats 8000000 in
set_option maxRecDepth 20000 in
theorem eliminate_any (hst:St w0 (ls w0.heap.size 24 1 (.slice o n c) n (rs.map (·.v))::bx pt #[.slice o n c,.int .i64 (h:Int),.int .i64 (m:Int),.bool odd] 61::(bs++rs.map (Rw.e w0.heap.size))) w)
  (kb_bt:Hid (w0.heap.size≤pt)) (hf:EntP f bnd caps) (hpv:PivS w0 f bnd caps o n c pt h m W Q Fin es) (hes:Has es bs) (hQ:Q 0 A odd) (hA:Agr n W 0 A F) (hrl:rs.length=n) (hd:RD w rs (mkM n W F)) (hn:n≤1000) (hW:W≤3000000)
  (hB:∀k A odd,Q k A odd→∀m,m≤k→∀i,i<n→∀j,j<W→zl L (Dt.D m A i j)) (hL:L≤3300000) :
  Calls Tryz.prog 60 #[.slice o n c,.func (.func f) bnd caps,.func (.func 43) #[] #[],.func (.func 62) #[] #[]] w fun e w'=>∃o9 c9 xs r A' F' odd' rs',e = .returned (.slice o9 r c9)∧Fin r A' odd'∧Q r A' odd'∧GD w' xs (pvs A' r)∧Agr n W r A' F'∧rs'.length=n∧RD w' rs' (mkM n W F') ∧
   St w0 (ls w0.heap.size 45 4 (.slice o9 r c9) r xs::ls w0.heap.size 24 1 (.slice o n c) n (rs'.map (·.v))::bx pt #[.slice o n c,.int .i64 (h:Int),.int .i64 (m:Int),.bool odd'] 61::(bs++rs'.map (Rw.e w0.heap.size))) w'∧Kp w w':=by
 have kk:=KpF.r w
 have HPV:=hide hpv
 have HES:=hide (fun e=>Has.cons (e:=e) hes)
 have HL4:=hide (show L≤40000000 by omega)
 have HL5:=hide (show L+L+1≤100000000 by omega)
 have HL6:=hide (show L+L+2≤20000000 by omega)
 have HBD:=hide hB
 have HQ0:=hide hQ
 have HA0:=hide hA
 clear hpv hB hQ hA hes
 unfold EntP at hf
 go_enter Tryz.func60,Tryz.ntmps60
 have hs:=hst
 clear hst
 refine zk fun K1 hK1=>rg [0] ?_
 refine sm (ze (hK1 _ _ ?_))
 refine wp_scope_k 9 ?_
 intro S hSr hSn hSg
 refine zk fun K2 hK2=>rg [0] ?_
 refine sm (ze (hK2 _ _ ?_))
 refine zk fun K3 hK3=>rg [0] ?_
 refine sr (ze (hK3 _ _ ?_))
 refine zk fun K4 hK4 => ?_
 refine wp_label ?_
 refine hK4 _ _ ?_
 refine zk fun K5 hK5 => ?_
 refine zk fun K6 hK6=>rg [0] ?_
 refine sm (ze (hK6 _ _ ?_))
 refine wp_block ?_
 have hd1:=hs.2.1
 go_loopg [9,10,11] n (fun kz s9 s10 s11 wr=>∃(k:Nat) (A F:Nat→Nat→Int × Int) (odd:Bool) (rs:List Rw) (f2:Nat) (caps2:Array Value) (o9:Option Addr) (c9:Nat) (xs:List Value),s11 = .int .i64 (k:Int)∧s10 = .func (.func f2) #[] caps2∧s9 = .slice o9 k c9∧k+kz=n∧Hid (k=0→f2=117∧caps2 = #[])∧Hid (Q k A odd)∧Hid (Agr n W k A F)∧rs.length=n∧RD wr rs (mkM n W F)∧GD wr xs (pvs A k)∧KpF w wr ∧
  St w0 (ls w0.heap.size 24 1 (.slice o n c) n (rs.map (·.v))::bx pt #[.slice o n c,.int .i64 (h:Int),.int .i64 (m:Int),.bool odd] 61::ls w0.heap.size 45 4 (.slice o9 k c9) k xs::(bs++rs.map (Rw.e w0.heap.size))) wr)
 case atStart=>exact⟨0,A,F,odd,rs,117,#[],none,0,[],rfl,rfl,rfl,by omega,hide (fun _=>⟨rfl,rfl⟩),HQ0,HA0,hrl,hd,GD.nil _,kk,(hs.l0 _ _).perm ((List.Perm.swap _ _ _).trans (List.Perm.cons _ (List.Perm.swap _ _ _)))⟩
 case round =>
 clear HQ0 HA0 hrl
 clear kk hd hs
 obtain⟨k,A,F,odd,rs,f2,caps2,o9,c9,xs,rfl,rfl,rfl,hkn,HID,HQ,HA,hrl,hd,hL9,kk,hs⟩:=hrel
 have HO := ‹∀(a':Act) (w':World),Handed _ _ a' w'→_›
 obtain⟨g1,hg1⟩:∃g,gk=g:=⟨_,rfl⟩
 refine zk fun K7 hK7 => ?_
 refine wp_block ?_
 refine zk fun K8 hK8=>rg [0,1,2,3,4,5,6,7,8] ?_
 refine xmm ?_
 refine sq ?_
 intro K hK
 go_big_op
 go_fit (HPV.out k _ A F odd rs (ls w0.heap.size 45 4 (.slice o9 k c9) k xs::bs) (HES.out _) HQ.out HA.out hrl hd hs)
 have bb2:=hs.b
 rintro e w_2 ⟨_,fd,rs2,A2,F2,odd2,P,rfl,⟨n_pa,o_pa,k_pa,c_pa,n_pb,o_pb,k_pb,c_pb,rfl,p1,p2⟩,HP,q1,hd2,hs',kp2⟩
 clear hs;have hs:=hs';clear hs'
 have bc2:=hs.b
 clear bb2 bc2
 refine hK _ _ rfl trivial ?_
 clear hK K
 refine xmr ?_
 refine sr ?_
 refine sq ?_
 refine .al hs ?_;clear hs;intro p_b1 w_3 hs n3 kb_b1
 refine sq ?_
 refine .s4 hs.g0 (fun _=>hs.u0 kb_b1) ?_;clear hs;intro w_4 hs hd4 ho4
 refine sm (ze (hK8 _ _ ?_))
 refine zk fun K9 hK9 => ?_
 refine wp_block ?_
 refine zk fun K10 hK10=>rg [0,1,2] ?_
 refine xmr ?_
 refine sm (ze (hK10 _ _ ?_))
 rcases HP with ⟨rfl,hkn2,hkW,hQ2,hA2,hP,hdet,hlead⟩ | ⟨rfl,hFin,rfl,rfl,rfl⟩
 ·have HA2:=hide hA2
  have HQ2:=hide hQ2
  have HDT:=hide hdet
  have HLD:=hide hlead
  have HKN:=hide hkn2
  have HKW:=hide hkW
  have HB2:=hide (HBD.out (k+1) A2 odd2 hQ2)
  have HPE:=hide hP
  have LP:=hide (show zl L P by rw[hP];exact HB2.out k (by omega) k hkn2 k hkW)
  clear hA2 hQ2 hdet hlead hP
  refine cf ?_
  refine zk fun K11 hK11=>rg [0,1,2] ?_
  refine xmr ?_
  refine sm (ze (hK11 _ _ ?_))
  by_cases hk0:k=0
  ·have t1:k<1:=by omega
   have hdv:DivF w_4 f2 caps2 [] (Dt.det k A2):=by
    obtain⟨e1,e2⟩:=HID.out hk0
    exact .inl ⟨e1,e2,rfl,by rw[hk0];rfl⟩
   clear hk0
   refine cf ?_
   refine wp_skip ?_
   refine hK9 _ _ ?_
   refine zk fun K12 hK12 => ?_
   refine zk fun K13 hK13=>rg [0,1,2,3,4,5] ?_
   refine xmm ?_
   refine xrr ?_
   refine sr ?_
   refine sm (ze (hK13 _ _ ?_))
   refine wp_block ?_
   generalize hoT:(@ite (Option Addr) (c=k+1) _ o _)=oT
   have HT:=hide hoT
   clear hoT
   have hs:=hs.perm ((List.Perm.swap _ _ _).trans (List.Perm.cons _ ((List.Perm.swap _ _ _).trans (List.Perm.cons _ (List.Perm.swap _ _ _)))))
   have k1_3:=(kb n3).o hd4 ho4
   replace hd2:=hd2.k k1_3
   replace p1:=p1.k k1_3
   replace p2:=p2.k k1_3
   have k0_3:=(kp2.b n3).o hd4 ho4
   replace hL9:=hL9.k k0_3
   replace kk:=kk.k k0_3
   have hd5:=hs.2.1
   go_loopg [43] (n - (k+1)) (fun kz s43 wr=>∃(q:Nat) (rs:List Rw),s43 = .int .i64 (q:Int)∧q+kz=n - (k+1)∧rs.length=n∧RD wr rs (mkM n W (Elm k A2 F2 (k+1+q) (k+1)))∧ZC wr (.agg #[.bool n_pa,.slice o_pa k_pa c_pa]) P.1∧ZC wr (.agg #[.bool n_pb,.slice o_pb k_pb c_pb]) P.2∧GD wr xs (pvs A k)∧DivF wr f2 caps2 ([]:List En) (Dt.det k A2)∧KpF w wr ∧
    St w0 (ls w0.heap.size 24 1 (.slice o n c) n (rs.map (·.v))::bx pt #[.slice o n c,.int .i64 (h:Int),.int .i64 (m:Int),.bool odd2] 61::ls w0.heap.size 45 4 (.slice o9 k c9) k xs::bx p_b1 #[.bool n_pa,.slice o_pa k_pa c_pa,.bool n_pb,.slice o_pb k_pb c_pb] 45::((([]:List En)++bs)++rs.map (Rw.e w0.heap.size))) wr)
   case atStart=>exact⟨0,rs2,rfl,by omega,q1,by rw[Nat.add_zero,←Elm_0];exact hd2,p1,p2,hL9,hdv,kk,hs⟩
   case round =>
   clear hL9 hd kk p1 p2 hd2 hdv hs
   obtain⟨q,rs,rfl,hqn,hrl,hd,z5,z6,hL9,hdv,kk,hs⟩:=hrel
   have HO2 := ‹∀(a':Act) (w':World),Handed _ _ a' w'→_›
   obtain⟨g2,hg2⟩:∃g,gk=g:=⟨_,rfl⟩
   have Lz5:=hide LP.out.1
   have Lz6:=hide LP.out.2
   by_cases hq:q<n - (k+1)
   ·have HQQ:=hide hq
    have HI:=hide (show k+1+q<n by omega)
    obtain⟨oi,ci,hvi⟩:=hs.rowv (bs:=bx pt #[.slice o n c,.int .i64 (h:Int),.int .i64 (m:Int),.bool odd2] 61::ls w0.heap.size 45 4 (.slice o9 k c9) k xs::bx p_b1 #[.bool n_pa,.slice o_pa k_pa c_pa,.bool n_pb,.slice o_pb k_pb c_pb] 45::(([]:List En)++bs)) hd (p:=k+1+q) (K:=W) (by rw[len_mkM];omega) (by rw[mkM_row (by omega)];simp)
    have LO:Lst wr w0.heap.size 24 1 (.slice o n c) n _:=hs.1.1.1
    obtain⟨gO,curO,rfl,xO,hcO⟩:=LO.box (by omega)
    have eI:=hcO _ _ hvi
    have hcap:=LO.capn
    obtain rfl:oT=some ⟨gO,k+1,none⟩:=by
     have:=HT.out
     rw[if_neg (by omega)] at this
     rw[←this];simp
    clear LO hcO HT
    refine zk fun K14 hK14=>rg [0] ?_
    refine sr (ze (hK14 _ _ ?_))
    refine zk fun K15 hK15 => ?_
    refine ct ?_
    refine wp_skip ?_
    refine hK15 _ _ ?_
    refine zk fun K16 hK16 => ?_
    refine wp_block ?_
    refine zk fun K17 hK17=>rg [0,1,2] ?_
    refine sr ?_
    refine sq ?_
    refine .r1 (xO.cell _ eI) ?_
    refine sm (ze (hK17 _ _ ?_))
    refine zk fun K18 hK18=>rg [0,1,2] ?_
    refine xmr ?_
    refine sm (ze (hK18 _ _ ?_))
    refine wp_block ?_
    have hd6:=hs.2.1
    go_loopg [16] (W - (k+1)) (fun kz s16 wr=>∃(j:Nat) (rs:List Rw),s16 = .int .i64 (j:Int)∧j+kz=W∧k+1≤j∧rs.length=n∧RD wr rs (mkM n W (Elm k A2 F2 (k+1+q) j))∧(rs.map (·.v))[k+1+q]? = some (.slice oi W ci)∧ZC wr (.agg #[.bool n_pa,.slice o_pa k_pa c_pa]) P.1∧ZC wr (.agg #[.bool n_pb,.slice o_pb k_pb c_pb]) P.2∧GD wr xs (pvs A k)∧DivF wr f2 caps2 ([]:List En) (Dt.det k A2)∧KpF w wr ∧
     St w0 (ls w0.heap.size 24 1 (.slice (some ⟨gO,0,none⟩) n c) n (rs.map (·.v))::bx pt #[.slice (some ⟨gO,0,none⟩) n c,.int .i64 (h:Int),.int .i64 (m:Int),.bool odd2] 61::ls w0.heap.size 45 4 (.slice o9 k c9) k xs::bx p_b1 #[.bool n_pa,.slice o_pa k_pa c_pa,.bool n_pb,.slice o_pb k_pb c_pb] 45::((([]:List En)++bs)++rs.map (Rw.e w0.heap.size))) wr)
    case atStart=>exact⟨k+1,rs,by rfl,by omega,Nat.le_refl _,hrl,hd,hvi,z5,z6,hL9,hdv,kk,hs⟩
    case round =>
    clear hrl hvi
    clear z5 z6 hL9 hd kk hdv xO hs
    obtain⟨j,rs,rfl,hjW,hkj,hrl,hd,hri,z5,z6,hL9,hdv,kk,hs⟩:=hrel
    have HRI:=hide hri
    clear hri
    have Lz5:=hide LP.out.1
    have Lz6:=hide LP.out.2
    by_cases hj:j<W
    ·have HJ:=hide hj
     obtain⟨a,gp,cp,xp,b,gq,cq,xq,r2,rfl,hab,hvp,hvq,hxp,hxq,hs⟩:=hs.rows2 (bs:=bx pt #[.slice (some ⟨gO,0,none⟩) n c,.int .i64 (h:Int),.int .i64 (m:Int),.bool odd2] 61::ls w0.heap.size 45 4 (.slice o9 k c9) k xs::bx p_b1 #[.bool n_pa,.slice o_pa k_pa c_pa,.bool n_pb,.slice o_pb k_pb c_pb] 45::(([]:List En)++bs)) hd (p:=k) (q:=k+1+q) (K:=W) (by omega) (by rw[len_mkM];exact HI.out) (by rw[mkM_row HKN.out];simp) (by rw[mkM_row HI.out];simp) (by omega)
     have hri:=HRI.out
     rw[hvq] at hri
     simp only[Option.some.injEq,Value.slice.injEq,true_and] at hri
     obtain⟨rfl,rfl⟩:=hri
     have LO:Lst wr w0.heap.size 24 1 (.slice (some ⟨gO,0,none⟩) n c) n _:=hs.1.2.2.1.1
     obtain⟨gO',curO,eO',xO,hcO⟩:=LO.box (by have:=HI.out;omega)
     simp only[Option.some.injEq,Addr.mk.injEq,and_true] at eO'
     obtain rfl:gO=gO':=eO'
     have eK:=hcO _ _ hvp
     have LQ:Lst wr w0.heap.size 45 4 (.slice (some ⟨gq,0,none⟩) W cq) W xq:=hs.1.1.1
     obtain⟨gq',curQ,eQ,xQ,hcQ⟩:=LQ.box (by omega)
     simp only[Option.some.injEq,Addr.mk.injEq,and_true] at eQ
     obtain rfl:gq=gq':=eQ
     have LPr:Lst wr w0.heap.size 45 4 (.slice (some ⟨gp,0,none⟩) W cp) W xp:=hs.1.2.1.1
     obtain⟨gp',curP,eP,xP,hcP⟩:=LPr.box (by omega)
     simp only[Option.some.injEq,Addr.mk.injEq,and_true] at eP
     obtain rfl:gp=gp':=eP
     have hxq2:=hxq
     rw[mkM_row HI.out] at hxq2
     rw[mkM_row HKN.out] at hxp
     obtain⟨a1,a2,a3,a4,a5,a6,a7,a8,e1,e2,e3,e4,x1,x2⟩:=hxq2.els j (by simpa using hj)
     obtain⟨b1,b2,b3,b4,b5,b6,b7,b8,e5,e6,e7,e8,y1,y2⟩:=hxq2.els k (by simpa using HKW.out)
     obtain⟨d1,d2,d3,d4,d5,d6,d7,d8,e9,e10,e11,e12,y3,y4⟩:=hxp.els j (by simpa using hj)
     rw[show ((List.range W).map (Elm k A2 F2 (k+1+q) j (k+1+q)))[j]'(by simpa using hj)=F2 (k+1+q) j by simp[Elm_here]] at x1 x2
     rw[show ((List.range W).map (Elm k A2 F2 (k+1+q) j (k+1+q)))[k]'(by simpa using HKW.out)=F2 (k+1+q) k by simp[Elm_k]] at y1 y2
     rw[show ((List.range W).map (Elm k A2 F2 (k+1+q) j k))[j]'(by simpa using hj)=F2 k j by simp[Elm_up]] at y3 y4
     have EE:=hide (Elm_div HA2.out HI.out hj (by omega) (by omega) HKN.out HKW.out HDT.out)
     have LX:zl L (F2 (k+1+q) j):=by rw[HA2.out _ HI.out j hj (by omega) (by omega)];exact HB2.out k (by omega) _ HI.out j hj
     have LY:zl L (F2 (k+1+q) k):=by rw[HA2.out _ HI.out k HKW.out (by omega) (by omega)];exact HB2.out k (by omega) _ HI.out k HKW.out
     have LU:zl L (F2 k j):=by rw[HA2.out k HKN.out j hj (by omega) (by omega)];exact HB2.out k (by omega) k HKN.out j hj
     replace x1:=x1.zn LX.1
     replace x2:=x2.zn LX.2
     replace y1:=y1.zn LY.1
     replace y2:=y2.zn LY.2
     replace y3:=y3.zn LU.1
     replace y4:=y4.zn LU.2
     replace e1:=hcQ _ _ e1
     replace e2:=hcQ _ _ e2
     replace e3:=hcQ _ _ e3
     replace e4:=hcQ _ _ e4
     replace e5:=hcQ _ _ e5
     replace e6:=hcQ _ _ e6
     replace e7:=hcQ _ _ e7
     replace e8:=hcQ _ _ e8
     replace e9:=hcP _ _ e9
     replace e10:=hcP _ _ e10
     replace e11:=hcP _ _ e11
     replace e12:=hcP _ _ e12
     obtain⟨X,hX⟩:∃X,F2 (k+1+q) j=X:=⟨_,rfl⟩
     obtain⟨Y,hY⟩:∃Y,F2 (k+1+q) k=Y:=⟨_,rfl⟩
     obtain⟨U,hU⟩:∃U,F2 k j=U:=⟨_,rfl⟩
     obtain⟨V,hV⟩:∃V,Dt.det k A2=V:=⟨_,rfl⟩
     have HT:=hide (Elm_step (k:=k) (A:=A2) (F:=F2) (i:=k+1+q) (j:=j) (by omega) (by omega))
     have HTZ:=hide (show True from trivial)
     obtain⟨Z,hZ⟩:∃Z,Dt.D (k+1) A2 (k+1+q) j=Z:=⟨_,rfl⟩
     have E3:=EE.out
     rw[←HPE.out,hX,hY,hU,hV,hZ] at E3
     rw[hX] at x1 x2 LX
     rw[hY] at y1 y2 LY
     rw[hU] at y3 y4 LU
     rw[hV] at hdv
     have HTS:=HT.out
     rw[hZ] at HTS
     have HS:=hide HTS
     have HV:=hide hV
     have E1:=hide (show X.1*P.1 - X.2*P.2 - (Y.1*U.1 - Y.2*U.2)=(mP V Z).1 from congrArg Prod.fst E3)
     have E2:=hide (show X.1*P.2+X.2*P.1 - (Y.1*U.2+Y.2*U.1)=(mP V Z).2 from congrArg Prod.snd E3)
     have LM:=hide (show zl (L+L+1) (mP X P) from zl_mP LX LP.out)
     have LN:=hide (show zl (L+L+1) (mP Y U) from zl_mP LY LU)
     have LZ:=hide (show zl (L+L+2) (mP V Z) by rw[←E3];exact zl_sPx LM.out LN.out)
     have hent:=hdv.ent
     unfold Ent1 at hent
     clear LO hcO hvp hvq LQ hcQ hxq2 LPr hcP hxp hX hY hU hV hZ EE HT E3 LX LY LU HTS HRI
     refine zk fun K19 hK19 => ?_
     refine zk fun K20 hK20=>rg [0,1,2,3] ?_
     refine xmm ?_
     refine sr ?_
     refine sr (ze (hK20 _ _ ?_))
     refine ct ?_
     refine wp_skip ?_
     refine hK19 _ _ ?_
     refine zk fun K21 hK21 => ?_
     refine wp_block ?_
     refine wp_region_f4 [(0,false),(1,false),(2,false),(3,false),(4,false),(5,false),(6,false),(7,false),(8,false),(10,false),(11,false),(12,false),(13,false),(14,false),(15,false),(16,false),(17,false),(18,false),(19,false),(20,false),(9,true),(21,true),(22,true),(23,true),(24,false)] [25] [] (fun _=>default) [99,99,99,99,99,99,99,0,1,99,99,99,99,0,99,99,99,2,99,99,3,99,99,99,99,99] [(25,0)] (.c xQ (.c hs.g5 (.c xO (.c xP .n)))) fn fun w_7 n7 => ?_
     replace xO:=xO.bl n7;replace xQ:=xQ.bl n7;replace xP:=xP.bl n7;replace hs:=hs.bl n7
     refine fmv ?_
     refine fmv ?_
     refine fmv ?_
     refine fmv ?_
     refine fmv ?_
     refine fmv ?_
     refine f0 ?_
     apply wpFl_ld rfl rfl;(case h1=>intro w' hC K hK;have c0:=Bs.cell hC ((j*4)) e1;have c1:=Bs.cell hC ((j*4)+1) e2;have c2:=Bs.cell hC ((j*4)+2) e3;have c3:=Bs.cell hC ((j*4)+3) e4;go_big_op;exact hK);iterate 4 kernel_rfl
     refine f4 ?_
     refine fmv ?_
     refine fmv ?_
     refine f0 ?_
     apply wpFl_ld rfl rfl;(case h1=>intro w' hC K hK;have c0:=Bs.cell hC ((k*4)) e5;have c1:=Bs.cell hC ((k*4)+1) e6;have c2:=Bs.cell hC ((k*4)+2) e7;have c3:=Bs.cell hC ((k*4)+3) e8;go_big_op;exact hK);iterate 4 kernel_rfl
     refine fmv ?_
     refine fmv ?_
     refine f0 ?_
     apply wpFl_ld rfl rfl;(case h1=>intro w' hC K hK;have c0:=Bs.cell hC (k) eK;go_big_op;exact hK);iterate 4 kernel_rfl
     refine fmv ?_
     refine f0 ?_
     apply wpFl_ld rfl rfl;(case h1=>intro w' hC K hK;have c0:=Bs.cell hC ((j*4)) e9;have c1:=Bs.cell hC ((j*4)+1) e10;have c2:=Bs.cell hC ((j*4)+2) e11;have c3:=Bs.cell hC ((j*4)+3) e12;go_big_op;exact hK);iterate 4 kernel_rfl
     refine fl fun w_8 n8 => ?_
     replace xO:=xO.bl n8;replace xQ:=xQ.bl n8;replace xP:=xP.bl n8;replace hs:=hs.bl n8
     intro K hK
     have k0_2:=(kb n7).b n8
     replace x1:=x1.k k0_2
     replace x2:=x2.k k0_2
     replace z5:=z5.k k0_2
     replace z6:=z6.k k0_2
     go_big_op
     go_fit (gMul_any (.mk' x1 x2) (.mk' (z5.zn Lz5.out) (z6.zn Lz6.out)) HL4.out HL4.out HL4.out HL4.out)
     rintro e w_9 ⟨_,rfl,⟨n_fa,o_fa,k_fa,c_fa,n_fb,o_fb,k_fb,c_fb,rfl,f1,f2⟩,hb_9⟩
     replace xO:=xO.bl hb_9;replace xQ:=xQ.bl hb_9;replace xP:=xP.bl hb_9;replace hs:=hs.bl hb_9
     have Lf1:=hide (f1.lenOf (LM.out.1))
     have Lf2:=hide (f2.lenOf (LM.out.2))
     refine hK _ _ rfl ⟨hb_9,(ai xQ (ai hs.g5 (ai xO (ai xP trivial))))⟩ ?_
     clear hK K
     refine fl fun w_10 n10 => ?_
     replace xO:=xO.bl n10;replace xQ:=xQ.bl n10;replace xP:=xP.bl n10;replace hs:=hs.bl n10
     intro K hK
     have k0_4:=(k0_2.b hb_9).b n10
     replace y1:=y1.k k0_4
     replace y2:=y2.k k0_4
     replace y3:=y3.k k0_4
     replace y4:=y4.k k0_4
     go_big_op
     go_fit (gMul_any (.mk' y1 y2) (.mk' y3 y4) HL4.out HL4.out HL4.out HL4.out)
     rintro e w_11 ⟨_,rfl,⟨n_ga,o_ga,k_ga,c_ga,n_gb,o_gb,k_gb,c_gb,rfl,g1,g2⟩,hb_11⟩
     replace xO:=xO.bl hb_11;replace xQ:=xQ.bl hb_11;replace xP:=xP.bl hb_11;replace hs:=hs.bl hb_11
     have Lg1:=hide (g1.lenOf (LN.out.1))
     have Lg2:=hide (g2.lenOf (LN.out.2))
     refine hK _ _ rfl ⟨hb_11,(ai xQ (ai hs.g5 (ai xO (ai xP trivial))))⟩ ?_
     clear hK K
     refine fl fun w_12 n12 => ?_
     replace xO:=xO.bl n12;replace xQ:=xQ.bl n12;replace xP:=xP.bl n12;replace hs:=hs.bl n12
     intro K hK
     have k3_6:=((kb n10).b hb_11).b n12
     replace f1:=f1.k k3_6
     replace f2:=f2.k k3_6
     have k5_6:=kb n12
     replace g1:=g1.k k5_6
     replace g2:=g2.k k5_6
     go_big_op
     go_fit (gSub_any (.mk' (f1.zn Lf1.out) (f2.zn Lf2.out)) (.mk' (g1.zn Lg1.out) (g2.zn Lg2.out)) HL5.out HL5.out HL5.out HL5.out)
     rintro e w_13 ⟨_,rfl,⟨n_sa,o_sa,k_sa,c_sa,n_sb,o_sb,k_sb,c_sb,rfl,s1,s2⟩,hb_13⟩
     replace xO:=xO.bl hb_13;replace xQ:=xQ.bl hb_13;replace xP:=xP.bl hb_13;replace hs:=hs.bl hb_13
     rw[E1.out] at s1
     rw[E2.out] at s2
     refine hK _ _ rfl ⟨hb_13,(ai xQ (ai hs.g5 (ai xO (ai xP trivial))))⟩ ?_
     clear hK K
     refine fl fun w_14 n14 => ?_
     replace xO:=xO.bl n14;replace xQ:=xQ.bl n14;replace xP:=xP.bl n14;replace hs:=hs.bl n14
     intro K hK
     have k0_8:=(((k0_4.b hb_11).b n12).b hb_13).b n14
     replace hdv:=hdv.k k0_8
     have k7_8:=kb n14
     replace s1:=s1.k k7_8
     replace s2:=s2.k k7_8
     go_big_op
     go_fit (hdv.call (hs.sub (.cons _ (.cons _ (.cons _ (.cons _ (.cons _ (.cons _ ((List.sublist_append_left ([]:List En) bs).trans (List.sublist_append_left _ _))))))))).1 (.mk' s1 s2) LZ.out HL6.out)
     rintro e w_15 ⟨_,rfl,⟨n_ta,o_ta,k_ta,c_ta,n_tb,o_tb,k_tb,c_tb,rfl,t1,t2⟩,hb_15⟩
     replace xO:=xO.bl hb_15;replace xQ:=xQ.bl hb_15;replace xP:=xP.bl hb_15;replace hs:=hs.bl hb_15
     refine hK _ _ rfl ⟨hb_15,(ai xQ (ai hs.g5 (ai xO (ai xP trivial))))⟩ ?_
     clear hK K
     refine f0 ?_
     refine e0 hs ?_;clear hs;intro w_16 hs n16
     clear f1 f2 g1 g2 s1 s2
     replace xO:=xO.bl n16;replace xQ:=xQ.bl n16;replace xP:=xP.bl n16
     refine tl ?_
     refine .i4 0 hs (j:=j) (by exact HJ.out) ?_ (e:=fun _ hB hO=>(ai trivial (ai (hs.g5.frame hO (hs.ne 5 0)) (ai (xO.frame hO (hs.ne 2 0)) (ai (xP.frame hO (hs.ne 1 0)) trivial)))));clear hs;intro w_17 hs kp17 hd17 ho17 hw17;simp only[List.set_cons_zero] at hs
     clear xO
     clear xQ
     clear xP
     apply wpTail_end
     refine hK21 _ _ ?_
     refine rg [0,1,2] ?_
     refine xmr ?_
     refine sm ?_
     apply wpSq_end
     have k0_11:=((k0_8.b hb_15).b n16).t kp17
     replace hd:=hd.k k0_11
     replace hxq:=hxq.k k0_11
     have k9_11:=(kb n16).t kp17
     replace t1:=t1.k k9_11
     replace t2:=t2.k k9_11
     have k2_11:=((((((((kb hb_9).b n10).b hb_11).b n12).b hb_13).b n14).b hb_15).b n16).t kp17
     replace z5:=z5.k k2_11
     replace z6:=z6.k k2_11
     replace hL9:=hL9.k k0_11
     have k8_11:=((kb hb_15).b n16).t kp17
     replace hdv:=hdv.k k8_11
     replace kk:=kk.k k0_11
     refine ‹∀(a':Act) (w':World),Handed _ _ a' w'→_› _ _ ?_
     have hs:=hs.unrows2 (bs:=bx pt #[.slice (some ⟨gO,0,none⟩) n c,.int .i64 (h:Int),.int .i64 (m:Int),.bool odd2] 61::ls w0.heap.size 45 4 (.slice o9 k c9) k xs::bx p_b1 #[.bool n_pa,.slice o_pa k_pa c_pa,.bool n_pb,.slice o_pb k_pb c_pb] 45::(([]:List En)++bs))
     rw[mkM_row HI.out] at hxq
     have hd:=RD.set' (r1:=a++(⟨.slice (some ⟨gp,0,none⟩) W cp,W,xp⟩:Rw)::b) (v:=.slice (some ⟨gq,0,none⟩) W cq) (n:=W) (by simp) (GD.put t1 t2 hxq (q:=j) (by simpa using HJ.out)) (by simpa using hd) hab
     rw[show ((Z.1,Z.2):Int × Int)=Z from rfl,mkM_set HI.out,HS.out] at hd
     rw[←HV.out] at hdv
     go_roundg (gk - 1)
     case rel=>exact⟨j+1,_,by rfl,by omega,by omega,by simpa using hrl,by simpa using hd,by rw[List.map_append,List.map_cons,List.map_append,List.map_cons,←List.cons_append,←List.append_assoc,List.getElem?_append_right (by simpa using Nat.le_of_eq hab)];simp at hab ⊢;simp[←hab],z5,z6,hL9,hdv,kk,hs⟩
     case measure=>omega
    ·obtain rfl:W=j:=by omega
     have HX:=hide hj
     refine zk fun K19 hK19 => ?_
     refine zk fun K20 hK20=>rg [0,1,2,3] ?_
     refine xmm ?_
     refine sr ?_
     refine sr (ze (hK20 _ _ ?_))
     refine cf ?_
     refine wp_exit ?_
     refine hK16 _ _ ?_
     refine rg [0,1] ?_
     refine xrm ?_
     apply wpSq_end
     refine HO2 _ _ ?_
     go_roundg (g2 - 1)
     case rel=>exact⟨q+1,rs,by rfl,by omega,hrl,by rw[show k+1+(q+1)=k+1+q+1 from rfl,←Elm_row];exact hd,z5,z6,hL9,hdv,kk,hs⟩
     case measure=>omega
   ·have hqe:k+1+q=n:=by omega
    have HX:=hide hq
    have HE:=hide hqe
    clear hqe
    refine zk fun K14 hK14=>rg [0] ?_
    refine sr (ze (hK14 _ _ ?_))
    refine zk fun K15 hK15 => ?_
    refine cf ?_
    refine wp_exit ?_
    refine hK12 _ _ ?_
    refine rg [0,1,2,3,4] ?_
    refine sm ?_
    refine sq ?_
    refine .r4 hs.g3.f4 ?_
    refine sq ?_
    refine .al hs ?_;clear hs;intro p_b2 w_6 hs n6 kb_b2
    refine sq ?_
    have k0_1:=kb n6
    replace hL9:=hL9.k k0_1
    replace z5:=z5.k k0_1
    replace z6:=z6.k k0_1
    replace hL9:=hL9.snoc (.mk' z5 z6)
    refine .ap 3 hs hs.g0 ?_;clear hs;intro o_L_7 c_L_7 w_7 hs kp7 hw7;simp only[List.set_cons_succ,List.set_cons_zero] at hs
    refine sm (ze (hK7 _ _ ?_))
    refine rg [0,1,2] ?_
    refine xmr ?_
    refine sm ?_
    apply wpSq_end
    have k0_2:=k0_1.t kp7
    replace hd:=hd.k k0_2
    have k1_2:=kp7
    replace hL9:=hL9.k k1_2
    replace kk:=kk.k k0_2
    refine HO _ _ ?_
    have hs:=hs.sub (show List.Sublist (ls w0.heap.size 24 1 (.slice o n c) n (rs.map (·.v))::bx pt #[.slice o n c,.int .i64 (h:Int),.int .i64 (m:Int),.bool odd2] 61::_::(bs++rs.map (Rw.e w0.heap.size))) _ from .cons _ (.cons_cons _ (.cons_cons _ (.cons_cons _ (.cons _ (List.Sublist.append_right (List.sublist_append_right ([]:List En) bs) _))))))
    go_roundg (g1 - 1)
    case rel=>exact⟨k+1,A2,Elm k A2 F2 n (k+1),odd2,rs,f2,caps2,_,_,_,by rfl,rfl,by rfl,by omega,hide (fun h=>absurd h (by omega)),HQ2,hide Elm_end,hrl,by rw[←HE.out] at hd ⊢;exact hd,by rw[pvs_succ,←pvs_congr HLD.out,←Dt.D_diag,←HPE.out];exact hL9,kk,hs⟩
    case measure=>omega
  ·have t1:0<k:=by omega
   obtain⟨k1,hk1⟩:∃k1,k=k1+1:=⟨k - 1,by omega⟩
   have HK1:=hide hk1
   have LL:Lst w_4 w0.heap.size 45 4 (.slice o9 k c9) k xs:=(hs.1.at (i:=3) rfl).1
   obtain⟨gL,curL,rfl,xL,hcL⟩:=LL.box t1
   have k0_3:=(kp2.b n3).o hd4 ho4
   replace hL9:=hL9.k k0_3
   obtain⟨l1,l2,l3,l4,l5,l6,l7,l8,e1,e2,e3,e4,v1,v2⟩:=hL9.els k1 (by rw[pvs_len];omega)
   rw[show (pvs A k)[k1]'(by rw[pvs_len];omega)=Dt.det k A2 by rw[HLD.out k nl];simp[pvs,hk1]] at v1 v2
   replace e1:=hcL _ _ e1
   replace e2:=hcL _ _ e2
   replace e3:=hcL _ _ e3
   replace e4:=hcL _ _ e4
   have LV:zl L (Dt.det k A2):=by rw[hk1,←Dt.D_diag];exact HB2.out k1 (by omega) k1 (by omega) k1 (by omega)
   replace v1:=v1.zn LV.1
   replace v2:=v2.zn LV.2
   have HN0:=hide (show gN (Dt.det k A2).1 (Dt.det k A2).2≠0 from fun c=>HDT.out (Prod.ext (gN_zero.1 c).1 (gN_zero.1 c).2))
   have HLL:=hide (show L≤10000000 by omega)
   have EK1:(k:Int) - 1=(k1:Int):=by omega
   clear LL hcL hk0 LV hk1
   refine ct ?_
   refine rg [0,1,2,3,4,5,6,7] ?_
   refine xmm ?_
   refine xmr ?_
   refine sr ?_
   refine sq ?_
   refine .r4 ⟨xL.cell _ e1,xL.cell _ e2,xL.cell _ e3,xL.cell _ e4⟩ ?_
   refine sq ?_
   intro K hK
   go_big_op
   go_fit (overNumber_any hs (.mk' v1 v2) HLL.out HLL.out HN0.out)
   have bb5:=hs.b
   rintro e w_5 ⟨f3,caps3,ds3,rfl,hdv,hs',kp5⟩
   clear hs;have hs:=hs';clear hs'
   have bc5:=hs.b
   clear xL
   clear bb5 bc5
   have k0_4:=k0_3.t kp5
   replace hd:=hd.k k0_4
   replace hs:=hs.perm (perm_in (hd:=[_,_,_,_]))
   refine hK _ _ rfl trivial ?_
   clear hK K
   refine sm (ze (hK9 _ _ ?_))
   refine zk fun K12 hK12 => ?_
   refine zk fun K13 hK13=>rg [0,1,2,3,4,5] ?_
   refine xmm ?_
   refine xrr ?_
   refine sr ?_
   refine sm (ze (hK13 _ _ ?_))
   refine wp_block ?_
   generalize hoT:(@ite (Option Addr) (c=k+1) _ o _)=oT
   have HT:=hide hoT
   clear hoT
   have hs:=hs.perm ((List.Perm.swap _ _ _).trans (List.Perm.cons _ ((List.Perm.swap _ _ _).trans (List.Perm.cons _ (List.Perm.swap _ _ _)))))
   have k1_4:=((kb n3).o hd4 ho4).t kp5
   replace hd2:=hd2.k k1_4
   replace p1:=p1.k k1_4
   replace p2:=p2.k k1_4
   have k3_4:=kp5
   replace hL9:=hL9.k k3_4
   replace kk:=kk.k k0_4
   have hd6:=hs.2.1
   go_loopg [43] (n - (k+1)) (fun kz s43 wr=>∃(q:Nat) (rs:List Rw),s43 = .int .i64 (q:Int)∧q+kz=n - (k+1)∧rs.length=n∧RD wr rs (mkM n W (Elm k A2 F2 (k+1+q) (k+1)))∧ZC wr (.agg #[.bool n_pa,.slice o_pa k_pa c_pa]) P.1∧ZC wr (.agg #[.bool n_pb,.slice o_pb k_pb c_pb]) P.2∧GD wr xs (pvs A k)∧DivF wr f3 caps3 ds3 (Dt.det k A2)∧KpF w wr ∧
    St w0 (ls w0.heap.size 24 1 (.slice o n c) n (rs.map (·.v))::bx pt #[.slice o n c,.int .i64 (h:Int),.int .i64 (m:Int),.bool odd2] 61::ls w0.heap.size 45 4 (.slice (some ⟨gL,0,none⟩) k c9) k xs::bx p_b1 #[.bool n_pa,.slice o_pa k_pa c_pa,.bool n_pb,.slice o_pb k_pb c_pb] 45::((ds3++bs)++rs.map (Rw.e w0.heap.size))) wr)
   case atStart=>exact⟨0,rs2,rfl,by omega,q1,by rw[Nat.add_zero,←Elm_0];exact hd2,p1,p2,hL9,hdv,kk,hs⟩
   case round =>
   clear hL9 hd kk p1 p2 hd2 v1 v2 hdv hs
   obtain⟨q,rs,rfl,hqn,hrl,hd,z5,z6,hL9,hdv,kk,hs⟩:=hrel
   have HO2 := ‹∀(a':Act) (w':World),Handed _ _ a' w'→_›
   obtain⟨g2,hg2⟩:∃g,gk=g:=⟨_,rfl⟩
   have Lz5:=hide LP.out.1
   have Lz6:=hide LP.out.2
   by_cases hq:q<n - (k+1)
   ·have HQQ:=hide hq
    have HI:=hide (show k+1+q<n by omega)
    obtain⟨oi,ci,hvi⟩:=hs.rowv (bs:=bx pt #[.slice o n c,.int .i64 (h:Int),.int .i64 (m:Int),.bool odd2] 61::ls w0.heap.size 45 4 (.slice (some ⟨gL,0,none⟩) k c9) k xs::bx p_b1 #[.bool n_pa,.slice o_pa k_pa c_pa,.bool n_pb,.slice o_pb k_pb c_pb] 45::(ds3++bs)) hd (p:=k+1+q) (K:=W) (by rw[len_mkM];omega) (by rw[mkM_row (by omega)];simp)
    have LO:Lst wr w0.heap.size 24 1 (.slice o n c) n _:=hs.1.1.1
    obtain⟨gO,curO,rfl,xO,hcO⟩:=LO.box (by omega)
    have eI:=hcO _ _ hvi
    have hcap:=LO.capn
    obtain rfl:oT=some ⟨gO,k+1,none⟩:=by
     have:=HT.out
     rw[if_neg (by omega)] at this
     rw[←this];simp
    clear LO hcO HT
    refine zk fun K14 hK14=>rg [0] ?_
    refine sr (ze (hK14 _ _ ?_))
    refine zk fun K15 hK15 => ?_
    refine ct ?_
    refine wp_skip ?_
    refine hK15 _ _ ?_
    refine zk fun K16 hK16 => ?_
    refine wp_block ?_
    refine zk fun K17 hK17=>rg [0,1,2] ?_
    refine sr ?_
    refine sq ?_
    refine .r1 (xO.cell _ eI) ?_
    refine sm (ze (hK17 _ _ ?_))
    refine zk fun K18 hK18=>rg [0,1,2] ?_
    refine xmr ?_
    refine sm (ze (hK18 _ _ ?_))
    refine wp_block ?_
    have hd7:=hs.2.1
    go_loopg [16] (W - (k+1)) (fun kz s16 wr=>∃(j:Nat) (rs:List Rw),s16 = .int .i64 (j:Int)∧j+kz=W∧k+1≤j∧rs.length=n∧RD wr rs (mkM n W (Elm k A2 F2 (k+1+q) j))∧(rs.map (·.v))[k+1+q]? = some (.slice oi W ci)∧ZC wr (.agg #[.bool n_pa,.slice o_pa k_pa c_pa]) P.1∧ZC wr (.agg #[.bool n_pb,.slice o_pb k_pb c_pb]) P.2∧GD wr xs (pvs A k)∧DivF wr f3 caps3 ds3 (Dt.det k A2)∧KpF w wr ∧
     St w0 (ls w0.heap.size 24 1 (.slice (some ⟨gO,0,none⟩) n c) n (rs.map (·.v))::bx pt #[.slice (some ⟨gO,0,none⟩) n c,.int .i64 (h:Int),.int .i64 (m:Int),.bool odd2] 61::ls w0.heap.size 45 4 (.slice (some ⟨gL,0,none⟩) k c9) k xs::bx p_b1 #[.bool n_pa,.slice o_pa k_pa c_pa,.bool n_pb,.slice o_pb k_pb c_pb] 45::((ds3++bs)++rs.map (Rw.e w0.heap.size))) wr)
    case atStart=>exact⟨k+1,rs,by rfl,by omega,Nat.le_refl _,hrl,hd,hvi,z5,z6,hL9,hdv,kk,hs⟩
    case round =>
    clear hrl hvi
    clear z5 z6 hL9 hd kk hdv xO hs
    obtain⟨j,rs,rfl,hjW,hkj,hrl,hd,hri,z5,z6,hL9,hdv,kk,hs⟩:=hrel
    have HRI:=hide hri
    clear hri
    have Lz5:=hide LP.out.1
    have Lz6:=hide LP.out.2
    by_cases hj:j<W
    ·have HJ:=hide hj
     obtain⟨a,gp,cp,xp,b,gq,cq,xq,r2,rfl,hab,hvp,hvq,hxp,hxq,hs⟩:=hs.rows2 (bs:=bx pt #[.slice (some ⟨gO,0,none⟩) n c,.int .i64 (h:Int),.int .i64 (m:Int),.bool odd2] 61::ls w0.heap.size 45 4 (.slice (some ⟨gL,0,none⟩) k c9) k xs::bx p_b1 #[.bool n_pa,.slice o_pa k_pa c_pa,.bool n_pb,.slice o_pb k_pb c_pb] 45::(ds3++bs)) hd (p:=k) (q:=k+1+q) (K:=W) (by omega) (by rw[len_mkM];exact HI.out) (by rw[mkM_row HKN.out];simp) (by rw[mkM_row HI.out];simp) (by omega)
     have hri:=HRI.out
     rw[hvq] at hri
     simp only[Option.some.injEq,Value.slice.injEq,true_and] at hri
     obtain⟨rfl,rfl⟩:=hri
     have LO:Lst wr w0.heap.size 24 1 (.slice (some ⟨gO,0,none⟩) n c) n _:=hs.1.2.2.1.1
     obtain⟨gO',curO,eO',xO,hcO⟩:=LO.box (by have:=HI.out;omega)
     simp only[Option.some.injEq,Addr.mk.injEq,and_true] at eO'
     obtain rfl:gO=gO':=eO'
     have eK:=hcO _ _ hvp
     have LQ:Lst wr w0.heap.size 45 4 (.slice (some ⟨gq,0,none⟩) W cq) W xq:=hs.1.1.1
     obtain⟨gq',curQ,eQ,xQ,hcQ⟩:=LQ.box (by omega)
     simp only[Option.some.injEq,Addr.mk.injEq,and_true] at eQ
     obtain rfl:gq=gq':=eQ
     have LPr:Lst wr w0.heap.size 45 4 (.slice (some ⟨gp,0,none⟩) W cp) W xp:=hs.1.2.1.1
     obtain⟨gp',curP,eP,xP,hcP⟩:=LPr.box (by omega)
     simp only[Option.some.injEq,Addr.mk.injEq,and_true] at eP
     obtain rfl:gp=gp':=eP
     have hxq2:=hxq
     rw[mkM_row HI.out] at hxq2
     rw[mkM_row HKN.out] at hxp
     obtain⟨a1,a2,a3,a4,a5,a6,a7,a8,e1,e2,e3,e4,x1,x2⟩:=hxq2.els j (by simpa using hj)
     obtain⟨b1,b2,b3,b4,b5,b6,b7,b8,e5,e6,e7,e8,y1,y2⟩:=hxq2.els k (by simpa using HKW.out)
     obtain⟨d1,d2,d3,d4,d5,d6,d7,d8,e9,e10,e11,e12,y3,y4⟩:=hxp.els j (by simpa using hj)
     rw[show ((List.range W).map (Elm k A2 F2 (k+1+q) j (k+1+q)))[j]'(by simpa using hj)=F2 (k+1+q) j by simp[Elm_here]] at x1 x2
     rw[show ((List.range W).map (Elm k A2 F2 (k+1+q) j (k+1+q)))[k]'(by simpa using HKW.out)=F2 (k+1+q) k by simp[Elm_k]] at y1 y2
     rw[show ((List.range W).map (Elm k A2 F2 (k+1+q) j k))[j]'(by simpa using hj)=F2 k j by simp[Elm_up]] at y3 y4
     have EE:=hide (Elm_div HA2.out HI.out hj (by omega) (by omega) HKN.out HKW.out HDT.out)
     have LX:zl L (F2 (k+1+q) j):=by rw[HA2.out _ HI.out j hj (by omega) (by omega)];exact HB2.out k (by omega) _ HI.out j hj
     have LY:zl L (F2 (k+1+q) k):=by rw[HA2.out _ HI.out k HKW.out (by omega) (by omega)];exact HB2.out k (by omega) _ HI.out k HKW.out
     have LU:zl L (F2 k j):=by rw[HA2.out k HKN.out j hj (by omega) (by omega)];exact HB2.out k (by omega) k HKN.out j hj
     replace x1:=x1.zn LX.1
     replace x2:=x2.zn LX.2
     replace y1:=y1.zn LY.1
     replace y2:=y2.zn LY.2
     replace y3:=y3.zn LU.1
     replace y4:=y4.zn LU.2
     replace e1:=hcQ _ _ e1
     replace e2:=hcQ _ _ e2
     replace e3:=hcQ _ _ e3
     replace e4:=hcQ _ _ e4
     replace e5:=hcQ _ _ e5
     replace e6:=hcQ _ _ e6
     replace e7:=hcQ _ _ e7
     replace e8:=hcQ _ _ e8
     replace e9:=hcP _ _ e9
     replace e10:=hcP _ _ e10
     replace e11:=hcP _ _ e11
     replace e12:=hcP _ _ e12
     obtain⟨X,hX⟩:∃X,F2 (k+1+q) j=X:=⟨_,rfl⟩
     obtain⟨Y,hY⟩:∃Y,F2 (k+1+q) k=Y:=⟨_,rfl⟩
     obtain⟨U,hU⟩:∃U,F2 k j=U:=⟨_,rfl⟩
     obtain⟨V,hV⟩:∃V,Dt.det k A2=V:=⟨_,rfl⟩
     have HT:=hide (Elm_step (k:=k) (A:=A2) (F:=F2) (i:=k+1+q) (j:=j) (by omega) (by omega))
     have HTZ:=hide (show True from trivial)
     obtain⟨Z,hZ⟩:∃Z,Dt.D (k+1) A2 (k+1+q) j=Z:=⟨_,rfl⟩
     have E3:=EE.out
     rw[←HPE.out,hX,hY,hU,hV,hZ] at E3
     rw[hX] at x1 x2 LX
     rw[hY] at y1 y2 LY
     rw[hU] at y3 y4 LU
     rw[hV] at hdv
     have HTS:=HT.out
     rw[hZ] at HTS
     have HS:=hide HTS
     have HV:=hide hV
     have E1:=hide (show X.1*P.1 - X.2*P.2 - (Y.1*U.1 - Y.2*U.2)=(mP V Z).1 from congrArg Prod.fst E3)
     have E2:=hide (show X.1*P.2+X.2*P.1 - (Y.1*U.2+Y.2*U.1)=(mP V Z).2 from congrArg Prod.snd E3)
     have LM:=hide (show zl (L+L+1) (mP X P) from zl_mP LX LP.out)
     have LN:=hide (show zl (L+L+1) (mP Y U) from zl_mP LY LU)
     have LZ:=hide (show zl (L+L+2) (mP V Z) by rw[←E3];exact zl_sPx LM.out LN.out)
     have hent:=hdv.ent
     unfold Ent1 at hent
     clear LO hcO hvp hvq LQ hcQ hxq2 LPr hcP hxp hX hY hU hV hZ EE HT E3 LX LY LU HTS HRI
     refine zk fun K19 hK19 => ?_
     refine zk fun K20 hK20=>rg [0,1,2,3] ?_
     refine xmm ?_
     refine sr ?_
     refine sr (ze (hK20 _ _ ?_))
     refine ct ?_
     refine wp_skip ?_
     refine hK19 _ _ ?_
     refine zk fun K21 hK21 => ?_
     refine wp_block ?_
     refine wp_region_f4 [(0,false),(1,false),(2,false),(3,false),(4,false),(5,false),(6,false),(7,false),(8,false),(10,false),(11,false),(12,false),(13,false),(14,false),(15,false),(16,false),(17,false),(18,false),(19,false),(20,false),(9,true),(21,true),(22,true),(23,true),(24,false)] [25] [] (fun _=>default) [99,99,99,99,99,99,99,0,1,99,99,99,99,0,99,99,99,2,99,99,3,99,99,99,99,99] [(25,0)] (.c xQ (.c hs.g5 (.c xO (.c xP .n)))) fn fun w_8 n8 => ?_
     replace xO:=xO.bl n8;replace xQ:=xQ.bl n8;replace xP:=xP.bl n8;replace hs:=hs.bl n8
     refine fmv ?_
     refine fmv ?_
     refine fmv ?_
     refine fmv ?_
     refine fmv ?_
     refine fmv ?_
     refine f0 ?_
     apply wpFl_ld rfl rfl;(case h1=>intro w' hC K hK;have c0:=Bs.cell hC ((j*4)) e1;have c1:=Bs.cell hC ((j*4)+1) e2;have c2:=Bs.cell hC ((j*4)+2) e3;have c3:=Bs.cell hC ((j*4)+3) e4;go_big_op;exact hK);iterate 4 kernel_rfl
     refine f4 ?_
     refine fmv ?_
     refine fmv ?_
     refine f0 ?_
     apply wpFl_ld rfl rfl;(case h1=>intro w' hC K hK;have c0:=Bs.cell hC ((k*4)) e5;have c1:=Bs.cell hC ((k*4)+1) e6;have c2:=Bs.cell hC ((k*4)+2) e7;have c3:=Bs.cell hC ((k*4)+3) e8;go_big_op;exact hK);iterate 4 kernel_rfl
     refine fmv ?_
     refine fmv ?_
     refine f0 ?_
     apply wpFl_ld rfl rfl;(case h1=>intro w' hC K hK;have c0:=Bs.cell hC (k) eK;go_big_op;exact hK);iterate 4 kernel_rfl
     refine fmv ?_
     refine f0 ?_
     apply wpFl_ld rfl rfl;(case h1=>intro w' hC K hK;have c0:=Bs.cell hC ((j*4)) e9;have c1:=Bs.cell hC ((j*4)+1) e10;have c2:=Bs.cell hC ((j*4)+2) e11;have c3:=Bs.cell hC ((j*4)+3) e12;go_big_op;exact hK);iterate 4 kernel_rfl
     refine fl fun w_9 n9 => ?_
     replace xO:=xO.bl n9;replace xQ:=xQ.bl n9;replace xP:=xP.bl n9;replace hs:=hs.bl n9
     intro K hK
     have k0_2:=(kb n8).b n9
     replace x1:=x1.k k0_2
     replace x2:=x2.k k0_2
     replace z5:=z5.k k0_2
     replace z6:=z6.k k0_2
     go_big_op
     go_fit (gMul_any (.mk' x1 x2) (.mk' (z5.zn Lz5.out) (z6.zn Lz6.out)) HL4.out HL4.out HL4.out HL4.out)
     rintro e w_10 ⟨_,rfl,⟨n_fa,o_fa,k_fa,c_fa,n_fb,o_fb,k_fb,c_fb,rfl,f1,f2⟩,hb_10⟩
     replace xO:=xO.bl hb_10;replace xQ:=xQ.bl hb_10;replace xP:=xP.bl hb_10;replace hs:=hs.bl hb_10
     have Lf1:=hide (f1.lenOf (LM.out.1))
     have Lf2:=hide (f2.lenOf (LM.out.2))
     refine hK _ _ rfl ⟨hb_10,(ai xQ (ai hs.g5 (ai xO (ai xP trivial))))⟩ ?_
     clear hK K
     refine fl fun w_11 n11 => ?_
     replace xO:=xO.bl n11;replace xQ:=xQ.bl n11;replace xP:=xP.bl n11;replace hs:=hs.bl n11
     intro K hK
     have k0_4:=(k0_2.b hb_10).b n11
     replace y1:=y1.k k0_4
     replace y2:=y2.k k0_4
     replace y3:=y3.k k0_4
     replace y4:=y4.k k0_4
     go_big_op
     go_fit (gMul_any (.mk' y1 y2) (.mk' y3 y4) HL4.out HL4.out HL4.out HL4.out)
     rintro e w_12 ⟨_,rfl,⟨n_ga,o_ga,k_ga,c_ga,n_gb,o_gb,k_gb,c_gb,rfl,g1,g2⟩,hb_12⟩
     replace xO:=xO.bl hb_12;replace xQ:=xQ.bl hb_12;replace xP:=xP.bl hb_12;replace hs:=hs.bl hb_12
     have Lg1:=hide (g1.lenOf (LN.out.1))
     have Lg2:=hide (g2.lenOf (LN.out.2))
     refine hK _ _ rfl ⟨hb_12,(ai xQ (ai hs.g5 (ai xO (ai xP trivial))))⟩ ?_
     clear hK K
     refine fl fun w_13 n13 => ?_
     replace xO:=xO.bl n13;replace xQ:=xQ.bl n13;replace xP:=xP.bl n13;replace hs:=hs.bl n13
     intro K hK
     have k3_6:=((kb n11).b hb_12).b n13
     replace f1:=f1.k k3_6
     replace f2:=f2.k k3_6
     have k5_6:=kb n13
     replace g1:=g1.k k5_6
     replace g2:=g2.k k5_6
     go_big_op
     go_fit (gSub_any (.mk' (f1.zn Lf1.out) (f2.zn Lf2.out)) (.mk' (g1.zn Lg1.out) (g2.zn Lg2.out)) HL5.out HL5.out HL5.out HL5.out)
     rintro e w_14 ⟨_,rfl,⟨n_sa,o_sa,k_sa,c_sa,n_sb,o_sb,k_sb,c_sb,rfl,s1,s2⟩,hb_14⟩
     replace xO:=xO.bl hb_14;replace xQ:=xQ.bl hb_14;replace xP:=xP.bl hb_14;replace hs:=hs.bl hb_14
     rw[E1.out] at s1
     rw[E2.out] at s2
     refine hK _ _ rfl ⟨hb_14,(ai xQ (ai hs.g5 (ai xO (ai xP trivial))))⟩ ?_
     clear hK K
     refine fl fun w_15 n15 => ?_
     replace xO:=xO.bl n15;replace xQ:=xQ.bl n15;replace xP:=xP.bl n15;replace hs:=hs.bl n15
     intro K hK
     have k0_8:=(((k0_4.b hb_12).b n13).b hb_14).b n15
     replace hdv:=hdv.k k0_8
     have k7_8:=kb n15
     replace s1:=s1.k k7_8
     replace s2:=s2.k k7_8
     go_big_op
     go_fit (hdv.call (hs.sub (.cons _ (.cons _ (.cons _ (.cons _ (.cons _ (.cons _ ((List.sublist_append_left ds3 bs).trans (List.sublist_append_left _ _))))))))).1 (.mk' s1 s2) LZ.out HL6.out)
     rintro e w_16 ⟨_,rfl,⟨n_ta,o_ta,k_ta,c_ta,n_tb,o_tb,k_tb,c_tb,rfl,t1,t2⟩,hb_16⟩
     replace xO:=xO.bl hb_16;replace xQ:=xQ.bl hb_16;replace xP:=xP.bl hb_16;replace hs:=hs.bl hb_16
     refine hK _ _ rfl ⟨hb_16,(ai xQ (ai hs.g5 (ai xO (ai xP trivial))))⟩ ?_
     clear hK K
     refine f0 ?_
     refine e0 hs ?_;clear hs;intro w_17 hs n17
     clear f1 f2 g1 g2 s1 s2
     replace xO:=xO.bl n17;replace xQ:=xQ.bl n17;replace xP:=xP.bl n17
     refine tl ?_
     refine .i4 0 hs (j:=j) (by exact HJ.out) ?_ (e:=fun _ hB hO=>(ai trivial (ai (hs.g5.frame hO (hs.ne 5 0)) (ai (xO.frame hO (hs.ne 2 0)) (ai (xP.frame hO (hs.ne 1 0)) trivial)))));clear hs;intro w_18 hs kp18 hd18 ho18 hw18;simp only[List.set_cons_zero] at hs
     clear xO
     clear xQ
     clear xP
     apply wpTail_end
     refine hK21 _ _ ?_
     refine rg [0,1,2] ?_
     refine xmr ?_
     refine sm ?_
     apply wpSq_end
     have k0_11:=((k0_8.b hb_16).b n17).t kp18
     replace hd:=hd.k k0_11
     replace hxq:=hxq.k k0_11
     have k9_11:=(kb n17).t kp18
     replace t1:=t1.k k9_11
     replace t2:=t2.k k9_11
     have k2_11:=((((((((kb hb_10).b n11).b hb_12).b n13).b hb_14).b n15).b hb_16).b n17).t kp18
     replace z5:=z5.k k2_11
     replace z6:=z6.k k2_11
     replace hL9:=hL9.k k0_11
     have k8_11:=((kb hb_16).b n17).t kp18
     replace hdv:=hdv.k k8_11
     replace kk:=kk.k k0_11
     refine ‹∀(a':Act) (w':World),Handed _ _ a' w'→_› _ _ ?_
     have hs:=hs.unrows2 (bs:=bx pt #[.slice (some ⟨gO,0,none⟩) n c,.int .i64 (h:Int),.int .i64 (m:Int),.bool odd2] 61::ls w0.heap.size 45 4 (.slice (some ⟨gL,0,none⟩) k c9) k xs::bx p_b1 #[.bool n_pa,.slice o_pa k_pa c_pa,.bool n_pb,.slice o_pb k_pb c_pb] 45::(ds3++bs))
     rw[mkM_row HI.out] at hxq
     have hd:=RD.set' (r1:=a++(⟨.slice (some ⟨gp,0,none⟩) W cp,W,xp⟩:Rw)::b) (v:=.slice (some ⟨gq,0,none⟩) W cq) (n:=W) (by simp) (GD.put t1 t2 hxq (q:=j) (by simpa using HJ.out)) (by simpa using hd) hab
     rw[show ((Z.1,Z.2):Int × Int)=Z from rfl,mkM_set HI.out,HS.out] at hd
     rw[←HV.out] at hdv
     go_roundg (gk - 1)
     case rel=>exact⟨j+1,_,by rfl,by omega,by omega,by simpa using hrl,by simpa using hd,by rw[List.map_append,List.map_cons,List.map_append,List.map_cons,←List.cons_append,←List.append_assoc,List.getElem?_append_right (by simpa using Nat.le_of_eq hab)];simp at hab ⊢;simp[←hab],z5,z6,hL9,hdv,kk,hs⟩
     case measure=>omega
    ·obtain rfl:W=j:=by omega
     have HX:=hide hj
     refine zk fun K19 hK19 => ?_
     refine zk fun K20 hK20=>rg [0,1,2,3] ?_
     refine xmm ?_
     refine sr ?_
     refine sr (ze (hK20 _ _ ?_))
     refine cf ?_
     refine wp_exit ?_
     refine hK16 _ _ ?_
     refine rg [0,1] ?_
     refine xrm ?_
     apply wpSq_end
     refine HO2 _ _ ?_
     go_roundg (g2 - 1)
     case rel=>exact⟨q+1,rs,by rfl,by omega,hrl,by rw[show k+1+(q+1)=k+1+q+1 from rfl,←Elm_row];exact hd,z5,z6,hL9,hdv,kk,hs⟩
     case measure=>omega
   ·have hqe:k+1+q=n:=by omega
    have HX:=hide hq
    have HE:=hide hqe
    clear hqe
    refine zk fun K14 hK14=>rg [0] ?_
    refine sr (ze (hK14 _ _ ?_))
    refine zk fun K15 hK15 => ?_
    refine cf ?_
    refine wp_exit ?_
    refine hK12 _ _ ?_
    refine rg [0,1,2,3,4] ?_
    refine sm ?_
    refine sq ?_
    refine .r4 hs.g3.f4 ?_
    refine sq ?_
    refine .al hs ?_;clear hs;intro p_b2 w_7 hs n7 kb_b2
    refine sq ?_
    have k0_1:=kb n7
    replace hL9:=hL9.k k0_1
    replace z5:=z5.k k0_1
    replace z6:=z6.k k0_1
    replace hL9:=hL9.snoc (.mk' z5 z6)
    refine .ap 3 hs hs.g0 ?_;clear hs;intro o_L_8 c_L_8 w_8 hs kp8 hw8;simp only[List.set_cons_succ,List.set_cons_zero] at hs
    refine sm (ze (hK7 _ _ ?_))
    refine rg [0,1,2] ?_
    refine xmr ?_
    refine sm ?_
    apply wpSq_end
    have k0_2:=k0_1.t kp8
    replace hd:=hd.k k0_2
    have k1_2:=kp8
    replace hL9:=hL9.k k1_2
    replace kk:=kk.k k0_2
    refine HO _ _ ?_
    have hs:=hs.sub (show List.Sublist (ls w0.heap.size 24 1 (.slice o n c) n (rs.map (·.v))::bx pt #[.slice o n c,.int .i64 (h:Int),.int .i64 (m:Int),.bool odd2] 61::_::(bs++rs.map (Rw.e w0.heap.size))) _ from .cons _ (.cons_cons _ (.cons_cons _ (.cons_cons _ (.cons _ (List.Sublist.append_right (List.sublist_append_right ds3 bs) _))))))
    go_roundg (g1 - 1)
    case rel=>exact⟨k+1,A2,Elm k A2 F2 n (k+1),odd2,rs,f3,caps3,_,_,_,by rfl,rfl,by rfl,by omega,hide (fun h=>absurd h (by omega)),HQ2,hide Elm_end,hrl,by rw[←HE.out] at hd ⊢;exact hd,by rw[pvs_succ,←pvs_congr HLD.out,←Dt.D_diag,←HPE.out];exact hL9,kk,hs⟩
    case measure=>omega
 ·have HFin:=hide hFin
  refine ct ?_
  refine wp_exit ?_
  refine hK5 _ _ ?_
  refine zk fun K11 hK11=>rg [0,1] ?_
  refine sm ?_
  refine sm (ze (hK11 _ _ ?_))
  refine wp_ret ?_
  refine hSr _ _ _ ?_
  have k1_3:=(kb n3).o hd4 ho4
  replace hd2:=hd2.k k1_3
  have k0_3:=(kp2.b n3).o hd4 ho4
  replace hL9:=hL9.k k0_3
  replace kk:=kk.k k0_3
  try dsimp only [Exit.then,Exit.inBlock]
  refine bodyPost_ret (v:=(.slice o9 k c9)) (by simp[results,Tryz.results60,go_sem]) rfl ?_
  exact⟨_,_,xs,k,_,_,_,rs2,rfl,hFin,HQ.out,hL9,HA.out,q1,hd2,(hs.sub (.cons _ (List.Sublist.refl _))).perm ((List.Perm.cons _ (List.Perm.swap _ _ _)).trans (List.Perm.swap _ _ _)),kk.kp⟩
end
open Dt in
def sgb (odd:Bool) (p:Int × Int):Int × Int:=if odd then (-p.1,-p.2) else p
theorem sgb_eq (odd:Bool) (p:Int × Int):sgb odd p=if odd then -p else p:=rfl
theorem swr_swp:swr=Dt.swp:=rfl
theorem swr_lt {i k r m:Nat} (hi:i<m) (hk:k<m) (hr:r<m):swr i k r<m:=by unfold swr;split <;> (try split) <;> assumption
theorem swr_low {i k r:Nat} (hi:k≤i) (hr:r<k):swr i k r=r:=by unfold swr;rw[if_neg (by omega),if_neg (by omega)]
section
variable {k i j n W h m:Nat} {A A0 F:Nat→Nat→Int × Int} {odd:Bool}
theorem D_swr (hi:k≤i) (hj:k≤j) {r c:Nat}:Dt.D k (fun r c=>A (swr i k r) (swr j k c)) r c=Dt.D k A (swr i k r) (swr j k c):=by
 unfold Dt.D
 refine Dt.det_congr fun x _ y _ => ?_
 have key:∀ {i r x:Nat},k≤i→swr i k (Dt.bord k r x)=Dt.bord k (swr i k r) x:=fun {i r x} hi=>by
  unfold Dt.bord
  by_cases h:x<k
  ·rw[if_pos h,if_pos h,swr_low hi h]
  ·rw[if_neg h,if_neg h]
 show A (swr i k (Dt.bord k r x)) (swr j k (Dt.bord k c y))=_
 rw[key hi,key hj]
theorem det_swr (hi:k≤i) (hj:k≤j) {s:Nat} (hs:s≤k):Dt.det s (fun r c=>A (swr i k r) (swr j k c))=Dt.det s A:=Dt.det_congr fun x hx y hy=>by
 rw[swr_low hi (by omega),swr_low hj (by omega)]
theorem det_swr2 (hi:i<n) (hj:j<n) (hk:k<n) (h:Dt.det n A=sgb odd (Dt.det n A0)):Dt.det n (fun r c=>A (swr i k r) (swr j k c))=sgb (xo odd i j k) (Dt.det n A0):=by
 have e1:Dt.det n (fun r c=>A (swr i k r) (swr j k c))=if j=k then Dt.det n (fun r c=>A (swr i k r) c) else - Dt.det n (fun r c=>A (swr i k r) c):=by
  by_cases e:j=k
  ·subst e
   rw[if_pos rfl]
   refine Dt.det_congr fun r _ c _ => ?_
   have:swr j j c=c:=by unfold swr;split <;> omega
   rw[this]
  ·rw[if_neg e];exact Dt.det_cols (A:=fun r c=>A (swr i k r) c) e hj hk
 have e2:Dt.det n (fun r c=>A (swr i k r) c)=if i=k then Dt.det n A else - Dt.det n A:=by
  by_cases e:i=k
  ·subst e
   rw[if_pos rfl]
   refine Dt.det_congr fun r _ c _ => ?_
   have:swr i i r=r:=by unfold swr;split <;> omega
   rw[this]
  ·rw[if_neg e];exact(Dt.alt_det (R:=Int × Int) (n:=n)).swap e hi hk A
 rw[e1,e2,h]
 unfold xo
 simp only[sgb_eq]
 by_cases h1:i=k <;> by_cases h2:j=k <;> cases odd <;> simp[h1,h2] <;> grind
def Pmd (h m:Nat) (A0 A:Nat→Nat→Int × Int):Prop:=∃u u' v v':Nat→Nat,(∀i j,A i j=A0 (u i) (v j))∧(∀i,(i<h→u i<h∧u' i<h)∧(h≤i→u i=i)∧u (u' i)=i∧u' (u i)=i)∧∀i,(i<m→v i<m∧v' i<m)∧(m≤i→v i=i)∧v (v' i)=i∧v' (v i)=i
def QP (h m:Nat) (A0:Nat→Nat→Int × Int) (k:Nat) (A:Nat→Nat→Int × Int) (odd:Bool):Prop :=
 k≤h∧k≤m∧Dt.det k A≠0∧Pmd h m A0 A∧(h=m→Dt.det h A=sgb odd (Dt.det h A0))
def FinP (h m:Nat) (A0:Nat→Nat→Int × Int) (k:Nat) (A:Nat→Nat→Int × Int) (odd:Bool):Prop :=
 QP h m A0 k A odd∧∀i,k≤i→i<h→∀j,k≤j→j<m→Dt.D k A i j=0
theorem swr_inv {i k r:Nat}:swr i k (swr i k r)=r:=by rw[swr_swp];exact Dt.swp_swp
theorem Pmd.swr (hp:Pmd h m A0 A) (hi:i<h) (hk:k<h) (hj:j<m) (hk2:k<m):Pmd h m A0 (fun r c=>A (swr i k r) (swr j k c)):=by
 obtain⟨u,u',v,v',hA,hu,hv⟩:=hp
 refine⟨fun r=>u (Go.Proofs.YthmolpepinolkaaGreat.swr i k r),fun r=>Go.Proofs.YthmolpepinolkaaGreat.swr i k (u' r),fun c=>v (Go.Proofs.YthmolpepinolkaaGreat.swr j k c),fun c=>Go.Proofs.YthmolpepinolkaaGreat.swr j k (v' c),fun r c=>hA _ _,fun r=>⟨fun hr=>⟨((hu _).1 (swr_lt hi hk hr)).1,swr_lt hi hk ((hu r).1 hr).2⟩,fun hr => ?_,?_,?_⟩,fun r=>⟨fun hr=>⟨((hv _).1 (swr_lt hj hk2 hr)).1,swr_lt hj hk2 ((hv r).1 hr).2⟩,fun hr => ?_,?_,?_⟩⟩
 ·have:Go.Proofs.YthmolpepinolkaaGreat.swr i k r=r:=by unfold Go.Proofs.YthmolpepinolkaaGreat.swr;rw[if_neg (by omega),if_neg (by omega)]
  simp only[this];exact(hu r).2.1 hr
 ·simp only[swr_inv];exact(hu r).2.2.1
 ·simp only[(hu _).2.2.2,swr_inv]
 ·have:Go.Proofs.YthmolpepinolkaaGreat.swr j k r=r:=by unfold Go.Proofs.YthmolpepinolkaaGreat.swr;rw[if_neg (by omega),if_neg (by omega)]
  simp only[this];exact(hv r).2.1 hr
 ·simp only[swr_inv];exact(hv r).2.2.1
 ·simp only[(hv _).2.2.2,swr_inv]
theorem one_ne:(1:Int × Int)≠0:=by decide
theorem QP.zero:QP h m A0 0 A0 false:=⟨Nat.zero_le _,Nat.zero_le _,one_ne,⟨id,id,id,id,fun _ _=>rfl,fun i=>⟨fun h=>⟨h,h⟩,fun _=>rfl,rfl,rfl⟩,fun i=>⟨fun h=>⟨h,h⟩,fun _=>rfl,rfl,rfl⟩⟩,fun _=>rfl⟩
theorem QP.next (hq:QP h m A0 k A odd) (hi:k≤i) (hi2:i<h) (hj:k≤j) (hj2:j<m) (h0:Dt.D k A i j≠0):QP h m A0 (k+1) (fun r c=>A (swr i k r) (swr j k c)) (xo odd i j k):=by
 obtain⟨h1,h2,h3,h4,h5⟩:=hq
 refine⟨by omega,by omega,?_,h4.swr hi2 (by omega) hj2 (by omega),fun e => ?_⟩
 ·rw[←Dt.D_diag,D_swr hi hj,swr_k,swr_k];exact h0
 ·subst e;exact det_swr2 hi2 hj2 (by omega) (h5 rfl)
theorem Agr.next (ha:Agr n W k A F) (hi:k≤i) (hi2:i<n) (hj:k≤j) (hj2:j<W):Agr n W k (fun r c=>A (swr i k r) (swr j k c)) (fun r c=>F (swr i k r) (swr j k c)):=fun r hr c hc h1 h2=>by
 have g:∀ {i r:Nat},k≤i→k≤r→k≤swr i k r:=fun {i r} hi hr=>by unfold swr;split <;> (try split) <;> omega
 rw[D_swr hi hj]
 exact ha _ (swr_lt hi2 (by omega) hr) _ (swr_lt hj2 (by omega) hc) (g hi h1) (g hj h2)
theorem FinP.rk (hf:FinP h m A0 k A odd):Dt.Rk h m A0 k:=by
 obtain⟨⟨h1,h2,h3,⟨u,u',v,v',hA,hu,hv⟩,h5⟩,h6⟩:=hf
 have:=Dt.rk_of (h:=h) (w:=m) h1 h2 h3 fun i hi j hj=>by
  by_cases e:i<k
  ·exact Dt.D_row0 e
  ·by_cases e2:j<k
   ·exact Dt.D_col0 e2
   ·exact h6 i (by omega) hi j (by omega) hj
 exact this.perm (u:=u) (u':=u') (v:=v) (v':=v') (fun i _ j _=>hA i j) (fun i hi=>⟨((hu i).1 hi).1,((hu i).1 hi).2,(hu i).2.2.1⟩) (fun i hi=>⟨((hv i).1 hi).1,((hv i).1 hi).2,(hv i).2.2.1⟩)
theorem FinP.det (hf:FinP n n A0 k A odd):(k<n→Dt.det n A0=0)∧(k=n→Dt.det n A0=sgb odd (Dt.det n A)):=by
 refine⟨fun h=>(FinP.rk hf).det0 noz one_ne h,fun e => ?_⟩
 have:=hf.1.2.2.2.2 rfl
 rw[this]
 cases odd <;> simp[sgb]
def MinB (n W L:Nat) (A:Nat→Nat→Int × Int):Prop:=∀(s:Nat) (f g:Nat→Nat),(∀r,r<s→f r<n∧g r<W)→(∀r q,r<q→q<s→f r≠f q)→zl L (Dt.det s fun i j=>A (f i) (g j))
theorem Pmd.bd {L:Nat} (hB:MinB n W L A0) (hh:h≤n) (hm:m≤W) (hq:Pmd h m A0 A):∀s i,i<n→∀j,j<W→zl L (Dt.D s A i j):=by
 obtain⟨u,u',v,v',hA,hu,hv⟩:=hq
 intro s i hi j hj
 by_cases e:i<s
 ·rw[Dt.D_row0 e];exact zl_0 _
 by_cases e9:j<s
 ·rw[Dt.D_col0 e9];exact zl_0 _
 ·have hun:∀r,r<n→u r<n:=fun r hr=>by
   by_cases c:r<h
   ·have:=((hu r).1 c).1;omega
   ·rw[(hu r).2.1 (by omega)];exact hr
  have hvn:∀r,r<W→v r<W:=fun r hr=>by
   by_cases c:r<m
   ·have:=((hv r).1 c).1;omega
   ·rw[(hv r).2.1 (by omega)];exact hr
  have e2:Dt.D s A i j=Dt.det (s+1) fun r c=>A0 (u (Dt.bord s i r)) (v (Dt.bord s j c)):=Dt.det_congr fun r _ c _=>hA _ _
  rw[e2]
  refine hB (s+1) (fun r=>u (Dt.bord s i r)) (fun c=>v (Dt.bord s j c)) (fun r hr=>⟨hun _ (by unfold Dt.bord;split <;> omega),hvn _ (by unfold Dt.bord;split <;> omega)⟩) fun r q h1 h2 h3 => ?_
  have h4:=congrArg u' h3
  rw[(hu _).2.2.2,(hu _).2.2.2] at h4
  unfold Dt.bord at h4
  split at h4 <;> split at h4 <;> omega
theorem QP.bd {L:Nat} (hB:MinB n W L A0) (hh:h≤n) (hm:m≤W) (hq:QP h m A0 k A odd):∀s,s≤k→∀i,i<n→∀j,j<W→zl L (Dt.D s A i j):=fun s _=>hq.2.2.2.1.bd hB hh hm s
end
set_option maxHeartbeats 4000000
set_option maxRecDepth 20000
section
variable {w w0:World} {pt n c h m W L:Nat} {odd:Bool} {o:Option Addr} {rs:List Rw} {bs:List En} {A0 F:Nat→Nat→Int × Int} {va:Value} {x y:Int}
theorem pivS_pivot (kb_bt:Hid (w0.heap.size≤pt)) (hh:h≤n) (hm:m≤W) (hn:n≤1000) (hW:W≤3000000) (hB:MinB n W L A0) (hL:L≤3300000) :
  PivS w0 61 #[.pointer (some ⟨pt,0,none⟩)] #[] o n c pt h m W (QP h m A0) (FinP h m A0):=by
 intro k w A F odd rs bs _ hQ hA hl hd hst
 show Calls _ _ #[.pointer (some ⟨pt,0,none⟩),.int .i64 (k:Int)] w _
 refine(pivot_any hst kb_bt hd hh hm hQ.1 hQ.2.1 hn hW (l:=L) (fun i h1 h2 j h3 h4=>by rw[hA i (by omega) j (by omega) h1 h3];exact hQ.bd hB hh hm k nl i (by omega) j (by omega)) (by omega)).mono ?_
 rintro e w' ⟨v,fd,rs',F',odd',p,rfl,h1,hp,h2,h3,h4,h5⟩
 rcases hp with ⟨rfl,i,j,hi,hi2,hj,hj2,h0,rfl,rfl,rfl⟩ | ⟨rfl,rfl,rfl,rfl,hz⟩
 ·have e1:=hA i (by omega) j (by omega) hi hj
  have h9:Dt.D k A i j≠0:=by rw[←e1];exact h0
  refine⟨v,true,rs',fun r c=>A (swr i k r) (swr j k c),_,_,F i j,rfl,h1,.inl ⟨rfl,by omega,by omega,hQ.next hi hi2 hj hj2 h9,hA.next hi (by omega) hj (by omega),?_,?_,fun s hs=>det_swr hi hj hs⟩,h2,h3,h4,h5⟩
  ·rw[D_swr hi hj,swr_k,swr_k];exact e1
  ·rw[det_swr hi hj nl];exact hQ.2.2.1
 ·exact⟨v,false,rs',A,_,_,(0,0),rfl,h1,.inr ⟨rfl,⟨hQ,fun i h1 h2 j h3 h4=>by rw[←hA i (by omega) j (by omega) h1 h3];exact hz i h1 h2 j h3 h4⟩,rfl,rfl,rfl⟩,h2,h3,h4,h5⟩
theorem entP_pivot:EntP 61 #[.pointer (some ⟨pt,0,none⟩)] #[]:=fun _ _=>by kernel_rfl
theorem pivots_any (hst:St w0 (ls w0.heap.size 24 1 (.slice o n c) n (rs.map (·.v))::bx pt #[.slice o n c,.int .i64 (h:Int),.int .i64 (m:Int),.bool false] 61::(bs++rs.map (Rw.e w0.heap.size))) w)
  (kb_bt:Hid (w0.heap.size≤pt)) (hrl:rs.length=n) (hd:RD w rs (mkM n W A0)) (hh:h≤n) (hm:m≤W) (hn:n≤1000) (hW:W≤3000000) (hB:MinB n W L A0) (hL:L≤3300000) :
  Calls Tryz.prog 21 #[.pointer (some ⟨pt,0,none⟩)] w fun e w'=>∃o9 c9 xs r A' F' odd' rs',e = .returned (.slice o9 r c9)∧FinP h m A0 r A' odd'∧GD w' xs (pvs A' r)∧Agr n W r A' F'∧rs'.length=n∧RD w' rs' (mkM n W F') ∧
   St w0 (ls w0.heap.size 45 4 (.slice o9 r c9) r xs::ls w0.heap.size 24 1 (.slice o n c) n (rs'.map (·.v))::bx pt #[.slice o n c,.int .i64 (h:Int),.int .i64 (m:Int),.bool odd'] 61::(bs++rs'.map (Rw.e w0.heap.size))) w'∧Kp w w':=by
 have kk:=KpF.r w
 have HPV:=hide (pivS_pivot (o:=o) (c:=c) kb_bt hh hm hn hW hB hL)
 have HB:=hide (fun k A odd (hq:QP h m A0 k A odd)=>hq.bd hB hh hm)
 have HAg:=hide (show Agr n W 0 A0 A0 from fun i _ j _ _ _=>Dt.D_0.symm)
 clear hB
 go_enter Tryz.func21,Tryz.ntmps21
 have hs:=hst
 clear hst
 refine zk fun K1 hK1=>rg [0] ?_
 refine sm (ze (hK1 _ _ ?_))
 refine zk fun K2 hK2=>rg [0,1,2,3,4,5,6,7] ?_
 refine xmr ?_
 refine sr ?_
 refine sq ?_
 refine .r4 hs.g1.f4 ?_
 refine xmr ?_
 refine sq ?_
 intro K hK
 go_big_op
 go_fit (eliminate_any hs kb_bt entP_pivot HPV.out Has.nil QP.zero HAg.out hrl hd hn hW HB.out hL)
 have bb1:=hs.b
 rintro e w_1 ⟨o9,c9,xs,r,A2,F2,odd2,rs2,rfl,hF,hQ9,hL9,hA2,hl2,hd2,hs',kp1⟩
 clear hs;have hs:=hs';clear hs'
 have bc1:=hs.b
 clear bb1 bc1
 refine hK _ _ rfl trivial ?_
 clear hK K
 refine sm (ze (hK2 _ _ ?_))
 refine wp_ret ?_
 have k0_1:=kp1
 replace kk:=kk.k k0_1
 try dsimp only [Exit.then,Exit.inBlock]
 refine bodyPost_ret (v:=(.slice o9 r c9)) (by simp[results,Tryz.results21,go_sem]) rfl ?_
 exact⟨_,_,xs,r,A2,F2,odd2,rs2,rfl,hF,hL9,hA2,hl2,hd2,hs,kk.kp⟩
theorem dsigned_any (xt:Bs w pt #[.slice o n c,.int .i64 (h:Int),.int .i64 (m:Int),.bool odd] 61) (ha:PC w va x y) (hx:zl L (x,y)) (hL:L≤3300000) :
  Calls Tryz.prog 69 #[.pointer (some ⟨pt,0,none⟩),va] w fun e w'=>∃r,e = .returned r∧PC w' r (sgb odd (x,y)).1 (sgb odd (x,y)).2∧Below w.heap.size w w':=by
 have Lha1:=hide hx.1
 have Lha2:=hide hx.2
 cases odd
 ·show Calls _ _ _ w fun e w'=>∃r,e = .returned r∧PC w' r x y∧_
  obtain⟨n_1a,o_1a,k_1a,c_1a,n_1b,o_1b,k_1b,c_1b,rfl,ha1,ha2⟩:=ha
  go_enter Tryz.func69,Tryz.ntmps69
  have hs:=St.nil w
  have lt_bt:=xt.lt
  have xtz:=xt
  refine zk fun K1 hK1=>rg [0,1] ?_
  refine sq ?_
  refine .al hs ?_;clear hs;intro p_b1 w_1 hs n1 kb_b1
  replace xt:=xt.bl n1
  refine sq ?_
  refine .al hs ?_;clear hs;intro p_b2 w_2 hs n2 kb_b2
  replace xt:=xt.bl n2
  refine ze (hK1 _ _ ?_)
  refine zk fun K2 hK2 => ?_
  refine zk fun K3 hK3=>rg [0,1,2,3] ?_
  refine xmr ?_
  refine sr ?_
  refine sq ?_
  refine .r4 xt.f4 ?_
  refine ze (hK3 _ _ ?_)
  refine cf ?_
  refine wp_skip ?_
  refine hK2 _ _ ?_
  refine zk fun K4 hK4=>rg [0,1] ?_
  refine sq ?_
  refine .r4 hs.g1.f4 ?_
  refine sq ?_
  refine .s4 hs.g0 (fun _=>hs.u0 kb_b2) ?_;clear hs;intro w_3 hs hd3 ho3
  refine ze (hK4 _ _ ?_)
  refine wp_ret ?_
  try dsimp only [Exit.then,Exit.inBlock]
  obtain⟨r0_0,r0_1,r0_2,r0_3⟩:=hs.g0.f4
  refine bodyPost_ret (v:=(.agg #[.bool n_1a,.slice o_1a k_1a c_1a,.bool n_1b,.slice o_1b k_1b c_1b])) (by simp[results,Tryz.results69,go_sem,r0_0,r0_1,r0_2,r0_3]) rfl ?_
  have k0_3:=((kb n1).b n2).o hd3 ho3
  replace ha1:=ha1.k k0_3
  replace ha2:=ha2.k k0_3
  exact⟨_,rfl,.mk' ha1 ha2,hs.b⟩
 ·show Calls _ _ _ w fun e w'=>∃r,e = .returned r∧PC w' r (-x) (-y)∧_
  obtain⟨n_1a,o_1a,k_1a,c_1a,n_1b,o_1b,k_1b,c_1b,rfl,ha1,ha2⟩:=ha
  go_enter Tryz.func69,Tryz.ntmps69
  have hs:=St.nil w
  have lt_bt:=xt.lt
  have xtz:=xt
  refine zk fun K1 hK1=>rg [0,1] ?_
  refine sq ?_
  refine .al hs ?_;clear hs;intro p_b1 w_1 hs n1 kb_b1
  replace xt:=xt.bl n1
  refine sq ?_
  refine .al hs ?_;clear hs;intro p_b2 w_2 hs n2 kb_b2
  replace xt:=xt.bl n2
  refine ze (hK1 _ _ ?_)
  refine zk fun K2 hK2 => ?_
  refine zk fun K3 hK3=>rg [0,1,2,3] ?_
  refine xmr ?_
  refine sr ?_
  refine sq ?_
  refine .r4 xt.f4 ?_
  refine ze (hK3 _ _ ?_)
  refine ct ?_
  refine zk fun K4 hK4=>rg [0,1,2] ?_
  refine sq ?_
  refine .r4 hs.g1.f4 ?_
  refine sq ?_
  intro K hK
  have k0_2:=(kb n1).b n2
  replace ha1:=ha1.k k0_2
  replace ha2:=ha2.k k0_2
  go_big_op
  go_fit (gNeg_any (.mk' (ha1.zn Lha1.out) (ha2.zn Lha2.out)) (by omega) (by omega))
  rintro e w_3 ⟨_,rfl,⟨n_ra,o_ra,k_ra,c_ra,n_rb,o_rb,k_rb,c_rb,rfl,r1,r2⟩,hb_3⟩
  replace hs:=hs.bl hb_3
  refine hK _ _ rfl trivial ?_
  clear hK K
  refine sq ?_
  refine .s4 hs.g0 (fun _=>hs.u0 kb_b2) ?_;clear hs;intro w_4 hs hd4 ho4
  refine ze (hK4 _ _ ?_)
  refine wp_ret ?_
  try dsimp only [Exit.then,Exit.inBlock]
  obtain⟨r0_0,r0_1,r0_2,r0_3⟩:=hs.g0.f4
  refine bodyPost_ret (v:=(.agg #[.bool n_ra,.slice o_ra k_ra c_ra,.bool n_rb,.slice o_rb k_rb c_rb])) (by simp[results,Tryz.results69,go_sem,r0_0,r0_1,r0_2,r0_3]) rfl ?_
  have k3_4:=ko hd4 ho4
  replace r1:=r1.k k3_4
  replace r2:=r2.k k3_4
  exact⟨_,rfl,.mk' r1 r2,hs.b⟩
end
def adjE (n:Nat) (M:Nat→Nat→Int × Int) (i j:Nat):Int × Int:=Dt.sg (i+j)*Dt.det (n - 1) fun r c=>M (Dt.skip j r) (Dt.skip i c)
theorem sg_add {R:Type} [Lean.Grind.CommRing R] (a b:Nat):(Dt.sg a*Dt.sg b:R)=Dt.sg (a+b):=by
 unfold Dt.sg
 rcases Nat.mod_two_eq_zero_or_one a with h | h <;> rcases Nat.mod_two_eq_zero_or_one b with h' | h'
 ·rw[if_pos h,if_pos h',if_pos (by omega)];grind
 ·rw[if_pos h,if_neg (by omega),if_neg (by omega)];grind
 ·rw[if_neg (by omega),if_pos h',if_neg (by omega)];grind
 ·rw[if_neg (by omega),if_neg (by omega),if_pos (by omega)];grind
def cyc (m j r:Nat):Nat:=if r<m then Dt.skip j r else j
theorem sg_succ {R:Type} [Lean.Grind.CommRing R] (a:Nat):(Dt.sg (a+1):R) = - Dt.sg a:=by
 unfold Dt.sg
 rcases Nat.mod_two_eq_zero_or_one a with h | h
 ·rw[if_neg (by omega),if_pos h]
 ·rw[if_pos (by omega),if_neg (by omega)];grind
theorem det_cyc {m:Nat}:∀(d j:Nat) (M:Nat→Nat→Int × Int),j+d=m→Dt.det (m+1) (fun r=>M (cyc m j r))=Dt.sg d*Dt.det (m+1) M
 | 0,j,M,h=>by
  rw[Dt.det_congr (B:=M) fun r hr c _=>by
   unfold cyc Dt.skip
   by_cases e:r<m
   ·rw[if_pos e,if_pos (by omega)]
   ·rw[if_neg e,show j=r by omega]]
  show _=(1:Int × Int)*_
  grind
 | d+1,j,M,h=>by
  have h1:=det_cyc (m:=m) d (j+1) (fun r=>M (Dt.swp j (j+1) r)) (by omega)
  have h2:Dt.det (m+1) (fun r=>M (cyc m j r))=Dt.det (m+1) fun r=>M (Dt.swp j (j+1) (cyc m (j+1) r)):=Dt.det_congr fun r hr c _=>by
   have:cyc m j r=Dt.swp j (j+1) (cyc m (j+1) r):=by
    unfold cyc Dt.swp Dt.skip
    by_cases e:r<m
    ·rw[if_pos e,if_pos e]
     by_cases e2:r<j
     ·have e4:(if r<j+1 then r else r+1)=r:=if_pos (by omega)
      rw[if_pos e2,e4,if_neg (by omega),if_neg (by omega)]
     ·rw[if_neg e2]
      by_cases e3:r=j
      ·have e4:(if r<j+1 then r else r+1)=r:=if_pos (by omega)
       rw[e4,if_pos e3];omega
      ·have e4:(if r<j+1 then r else r+1)=r+1:=if_neg (by omega)
       rw[e4,if_neg (by omega),if_neg (by omega)]
    ·rw[if_neg e,if_neg e,if_neg (by omega),if_pos rfl]
   rw[this]
  rw[h2,h1,(Dt.alt_det (R:=Int × Int) (n:=m+1)).swap (by omega) (by omega) (by omega) M,sg_succ]
  grind
theorem adj_mulr {n i j:Nat} {M:Nat→Nat→Int × Int} (hi:i<n) (hj:j<n):(Dt.sm n fun q=>M i q*adjE n M q j)=if i=j then Dt.det n M else 0:=by
 obtain⟨m,rfl⟩:∃m,n=m+1:=⟨n - 1,by omega⟩
 have h1:Dt.det (m+1) (fun r=>M (if r<m then Dt.skip j r else i))=Dt.sm (m+1) fun q=>Dt.sg (q+m)*(M i q*Dt.det m fun r c=>M (Dt.skip j r) (Dt.skip q c)):=by
  rw[Dt.det_row]
  refine Dt.sm_congr fun q _ => ?_
  rw[if_neg (Nat.lt_irrefl _),Dt.det_congr (B:=fun r c=>M (Dt.skip j r) (Dt.skip q c)) fun r hr c _=>by rw[if_pos hr]]
 have h2:(Dt.sm (m+1) fun q=>M i q*adjE (m+1) M q j)=Dt.sg (j+m)*Dt.det (m+1) (fun r=>M (if r<m then Dt.skip j r else i)):=by
  rw[h1,←Dt.sm_mul]
  refine Dt.sm_congr fun q _ => ?_
  unfold adjE
  rw[show m+1 - 1=m from rfl]
  have e:(Dt.sg (j+m)*Dt.sg (q+m):Int × Int)=Dt.sg (q+j):=by
   rw[sg_add]
   unfold Dt.sg
   rcases Nat.mod_two_eq_zero_or_one (q+j) with h | h
   ·rw[if_pos (by omega),if_pos h]
   ·rw[if_neg (by omega),if_neg (by omega)]
  rw[←e];grind
 rw[h2]
 by_cases c:i=j
 ·subst c
  rw[if_pos rfl]
  have h3:=det_cyc (m:=m) (m - i) i M (by omega)
  unfold cyc at h3
  rw[h3]
  have e:(Dt.sg (i+m)*Dt.sg (m - i):Int × Int)=1:=by
   rw[sg_add];unfold Dt.sg;rw[if_pos (by omega)]
  have e2:∀a b x:Int × Int,a*b=1→a*(b*x)=x:=fun a b x h=>by
   have:a*(b*x)=(a*b)*x:=by grind
   rw[this,h];grind
  exact e2 _ _ _ e
 ·rw[if_neg c]
  have h3:Dt.det (m+1) (fun r=>M (if r<m then Dt.skip j r else i))=0:=by
   refine Dt.det_eq (i:=if i<j then i else i - 1) (j:=m) (by split <;> omega) (by omega) fun x _ => ?_
   rw[if_neg (Nat.lt_irrefl m)]
   have:(if (if i<j then i else i - 1)<m then Dt.skip j (if i<j then i else i - 1) else i)=i:=by
    rw[if_pos (by split <;> omega)]
    unfold Dt.skip
    by_cases e:i<j
    ·rw[if_pos e,if_pos e]
    ·rw[if_neg e,if_neg (by omega)];omega
   rw[this]
  rw[h3];grind
def sN:Nat→(Nat→Nat)→Nat
 | 0,_=>0
 | n+1,f=>sN n f+f n
theorem sN_succ (n:Nat) (f:Nat→Nat):sN (n+1) f=sN n f+f n:=rfl
theorem sN_congr {n:Nat} {f g:Nat→Nat} (h:∀i,i<n→f i=g i):sN n f=sN n g:=by
 induction n with
 | zero=>rfl
 | succ n ih=>rw[sN,sN,ih fun i hi=>h i (by omega),h n (by omega)]
theorem sN_head (n:Nat) (f:Nat→Nat):sN (n+1) f=f 0+sN n fun i=>f (i+1):=by
 induction n with
 | zero=>simp[sN]
 | succ n ih=>rw[sN,ih,sN];omega
theorem sN_one (n c:Nat):sN n (fun _=>c)=n*c:=by
 induction n with
 | zero=>simp[sN]
 | succ n ih=>rw[sN,ih,Nat.succ_mul]
theorem sN_add (n:Nat) (f g:Nat→Nat):sN n (fun i=>f i+g i)=sN n f+sN n g:=by
 induction n with
 | zero=>rfl
 | succ n ih=>simp only[sN];rw[ih];omega
theorem sN_upd {n k:Nat} (hk:k<n) (b:Nat→Nat):sN n (fun i=>if i=k then 0 else b i)+b k=sN n b:=by
 induction n with
 | zero=>omega
 | succ n ih =>
  rw[sN,sN]
  by_cases e:k=n
  ·subst e
   rw[if_pos rfl,sN_congr (g:=b) fun i hi=>if_neg (by omega)];omega
  ·have:=ih (by omega)
   rw[if_neg (by omega)];omega
theorem sN_inj {s n:Nat} {f b:Nat→Nat} (hf:∀r,r<s→f r<n) (hi:∀r q,r<q→q<s→f r≠f q):sN s (fun i=>b (f i))≤sN n b:=by
 induction s generalizing b with
 | zero=>exact Nat.zero_le _
 | succ s ih =>
  have h1:=ih (b:=fun i=>if i=f s then 0 else b i) (fun r hr=>hf r (by omega)) (fun r q h h'=>hi r q h (by omega))
  rw[sN_congr (g:=fun i=>b (f i)) fun i h=>if_neg (hi i s h (by omega))] at h1
  have h2:=sN_upd (hf s (by omega)) b
  rw[sN];omega
theorem sN_skip {n i:Nat} (h:i≤n) (e:Nat→Nat):sN n (fun r=>e (Dt.skip i r))+e i=sN (n+1) e:=by
 induction n with
 | zero =>
  have e0:i=0:=by omega
  subst e0
  simp[sN]
 | succ n ih =>
  by_cases c:i=n+1
  ·subst c
   rw[sN_succ (n+1),sN_congr (g:=e) fun r hr=>by rw[show Dt.skip (n+1) r=r by unfold Dt.skip;rw[if_pos hr]]]
  ·have h1:=ih (by omega)
   rw[sN_succ (n+1),sN_succ n,show Dt.skip i n=n+1 by unfold Dt.skip;rw[if_neg (by omega)]]
   omega
def nrm (p:Int × Int):Nat:=p.1.natAbs+p.2.natAbs
theorem nrm_add (p q:Int × Int):nrm (p+q)≤nrm p+nrm q:=by
 show (p.1+q.1).natAbs+(p.2+q.2).natAbs≤_
 unfold nrm;omega
theorem nrm_mul (p q:Int × Int):nrm (p*q)≤nrm p*nrm q:=by
 show (p.1*q.1 - p.2*q.2).natAbs+(p.1*q.2+p.2*q.1).natAbs≤_
 have h1:(p.1*q.1 - p.2*q.2).natAbs≤p.1.natAbs*q.1.natAbs+p.2.natAbs*q.2.natAbs:=by rw[←Int.natAbs_mul,←Int.natAbs_mul];omega
 have h2:(p.1*q.2+p.2*q.1).natAbs≤p.1.natAbs*q.2.natAbs+p.2.natAbs*q.1.natAbs:=by rw[←Int.natAbs_mul,←Int.natAbs_mul];omega
 unfold nrm
 rw[Nat.add_mul,Nat.mul_add,Nat.mul_add];omega
theorem nrm_sg (n:Nat) (p:Int × Int):nrm (Dt.sg n*p)=nrm p:=by
 unfold Dt.sg
 split
 ·rw[show (1:Int × Int)*p=p by grind]
 ·rw[show (-1:Int × Int)*p = -p by grind]
  show (-p.1).natAbs+(-p.2).natAbs=_
  unfold nrm;omega
theorem nrm_sm {n T:Nat} {f:Nat→Int × Int} (h:∀i,i<n→64*nrm (f i)≤T):64*nrm (Dt.sm n f)≤n*T:=by
 induction n with
 | zero=>show 64*nrm (0,0)≤_;simp[nrm]
 | succ n ih =>
  rw[Dt.sm]
  have h1:=ih fun i hi=>h i (by omega)
  have h2:=h n (by omega)
  have h3:=nrm_add (Dt.sm n f) (f n)
  rw[Nat.succ_mul n T];omega
theorem det_nrm {s:Nat} {M:Nat→Nat→Int × Int} {e:Nat→Nat} (hs:s≤64) (h:∀i,i<s→∀j,j<s→64*nrm (M i j)≤pw (e i)):nrm (Dt.det s M)≤pw (sN s e):=by
 induction s generalizing M e with
 | zero=>show nrm (1,0)≤pw 0;exact Nat.le_refl 1
 | succ s ih =>
  rw[Dt.det]
  have h1:=nrm_sm (n:=s+1) (T:=pw (sN (s+1) e)) (f:=fun i=>Dt.sg (i+s)*(M i s*Dt.det s fun r=>M (Dt.skip i r))) fun i hi=>by
   have hd:=ih (M:=fun r=>M (Dt.skip i r)) (e:=fun r=>e (Dt.skip i r)) (by omega) fun r hr j hj=>h _ (by unfold Dt.skip;split <;> omega) j (by omega)
   rw[nrm_sg]
   refine Nat.le_trans (Nat.mul_le_mul_left 64 (nrm_mul _ _)) ?_
   rw[←sN_skip (Nat.le_of_lt_succ hi) e,Nat.add_comm,pw_add,←Nat.mul_assoc]
   exact Nat.mul_le_mul (h i hi s (by omega)) hd
  have h2:(s+1)*pw (sN (s+1) e)≤64*pw (sN (s+1) e):=Nat.mul_le_mul_right _ hs
  omega
theorem zl_nrm {b:Nat} {p:Int × Int} (h:zl b p):64*nrm p≤pw (b+1):=by
 have h1:=Nat.lt_of_lt_of_le (lt_pw_dig p.1.natAbs) (pw_mono h.1)
 have h2:=Nat.lt_of_lt_of_le (lt_pw_dig p.2.natAbs) (pw_mono h.2)
 rw[pw_add,show pw 1=4294967296 from rfl]
 unfold nrm;omega
theorem nrm_zl {b:Nat} {p:Int × Int} (h:nrm p<pw b):zl b p:=by
 unfold nrm at h
 exact⟨dig_length_le (by omega),dig_length_le (by omega)⟩
theorem minB_of {n W T:Nat} {A:Nat→Nat→Int × Int} {b:Nat→Nat} (hn:n≤64) (hT:sN n b≤T) (hA:∀i,i<n→∀q,q<W→zl (b i) (A i q)):MinB n W (T+65) A:=by
 intro s f g hfg hi
 have hf:∀r,r<s→f r<n:=fun r hr=>(hfg r hr).1
 have h1:s≤n:=by
  have:=sN_inj (b:=fun _=>1) hf hi
  rw[sN_one,sN_one] at this;omega
 have h2:=det_nrm (s:=s) (M:=fun i j=>A (f i) (g j)) (e:=fun i=>b (f i)+1) (by omega) fun i hi j hj=>zl_nrm (hA _ (hf i hi) _ (hfg j hj).2)
 rw[sN_add,sN_one] at h2
 have h3:=sN_inj (b:=b) hf hi
 refine nrm_zl (Nat.lt_of_le_of_lt (Nat.le_trans h2 (pw_mono (show _≤T+64 by omega))) ?_)
 rw[show T+65=T+64+1 from rfl,pw_add (T+64),show pw 1=4294967296 from rfl]
 have:=pw_pos (T+64)
 omega
def Tot (T:Nat) (Ms:List (List (Int × Int))):Prop:=∃b:Nat→Nat,sN Ms.length b≤T∧∀i (hi:i<Ms.length),Bd (b i) Ms[i]
theorem Tot.minB {T n W:Nat} {Ms:List (List (Int × Int))} (h:Tot T Ms) (hn:Ms.length=n) (h64:n≤64):MinB n W (T+65) (at2 Ms):=by
 subst hn
 obtain⟨b,hT,hb⟩:=h
 refine minB_of h64 hT fun i hi q hq => ?_
 have h0:rw_ Ms i=Ms[i]:=by simp[rw_,List.getD,hi]
 unfold at2
 rw[h0]
 rcases Nat.lt_or_ge q Ms[i].length with c | c
 ·have:at1 Ms[i] q=Ms[i][q]:=by simp[at1,List.getD,c]
  rw[this];exact hb i hi _ (List.getElem_mem c)
 ·have:at1 Ms[i] q=(0,0):=by simp[at1,List.getD,c]
  rw[this];exact zl_0 _
theorem det_nrmK {s:Nat} {M:Nat→Nat→Int × Int} {e:Nat→Nat} (hs:s≤1000) (h:∀i,i<s→∀j,j<s→1000*nrm (M i j)≤pw (e i)):nrm (Dt.det s M)≤pw (sN s e):=by
 induction s generalizing M e with
 | zero=>show nrm (1,0)≤pw 0;exact Nat.le_refl 1
 | succ s ih =>
  rw[Dt.det]
  have key:∀ {n:Nat} {f:Nat→Int × Int} {T:Nat},(∀i,i<n→1000*nrm (f i)≤T)→1000*nrm (Dt.sm n f)≤n*T:=by
   intro n f T h
   induction n with
   | zero=>show 1000*nrm (0,0)≤_;simp[nrm]
   | succ n ih =>
    rw[Dt.sm]
    have h1:=ih fun i hi=>h i (by omega)
    have h2:=h n (by omega)
    have h3:=nrm_add (Dt.sm n f) (f n)
    rw[Nat.succ_mul n T];omega
  have h1:=key (n:=s+1) (T:=pw (sN (s+1) e)) (f:=fun i=>Dt.sg (i+s)*(M i s*Dt.det s fun r=>M (Dt.skip i r))) fun i hi=>by
   have hd:=ih (M:=fun r=>M (Dt.skip i r)) (e:=fun r=>e (Dt.skip i r)) (by omega) fun r hr j hj=>h _ (by unfold Dt.skip;split <;> omega) j (by omega)
   rw[nrm_sg]
   refine Nat.le_trans (Nat.mul_le_mul_left 1000 (nrm_mul _ _)) ?_
   rw[←sN_skip (Nat.le_of_lt_succ hi) e,Nat.add_comm,pw_add,←Nat.mul_assoc]
   exact Nat.mul_le_mul (h i hi s (by omega)) hd
  have h2:(s+1)*pw (sN (s+1) e)≤1000*pw (sN (s+1) e):=Nat.mul_le_mul_right _ hs
  omega
theorem zl_nrmK {b:Nat} {p:Int × Int} (h:zl b p):1000*nrm p≤pw (b+1):=by
 have h1:=Nat.lt_of_lt_of_le (lt_pw_dig p.1.natAbs) (pw_mono h.1)
 have h2:=Nat.lt_of_lt_of_le (lt_pw_dig p.2.natAbs) (pw_mono h.2)
 rw[pw_add,show pw 1=4294967296 from rfl]
 unfold nrm;omega
theorem minB_ofK {n W T:Nat} {A:Nat→Nat→Int × Int} {b:Nat→Nat} (hn:n≤1000) (hT:sN n b≤T) (hA:∀i,i<n→∀q,q<W→zl (b i) (A i q)):MinB n W (T+1001) A:=by
 intro s f g hfg hi
 have hf:∀r,r<s→f r<n:=fun r hr=>(hfg r hr).1
 have h1:s≤n:=by
  have:=sN_inj (b:=fun _=>1) hf hi
  rw[sN_one,sN_one] at this;omega
 have h2:=det_nrmK (s:=s) (M:=fun i j=>A (f i) (g j)) (e:=fun i=>b (f i)+1) (by omega) fun i hi j hj=>zl_nrmK (hA _ (hf i hi) _ (hfg j hj).2)
 rw[sN_add,sN_one] at h2
 have h3:=sN_inj (b:=b) hf hi
 refine nrm_zl (Nat.lt_of_le_of_lt (Nat.le_trans h2 (pw_mono (show _≤T+1000 by omega))) ?_)
 rw[show T+1001=T+1000+1 from rfl,pw_add (T+1000),show pw 1=4294967296 from rfl]
 have:=pw_pos (T+1000)
 omega
theorem sN_app {n m:Nat} {f:Nat→Nat}:sN (n+m) f=sN n f+sN m fun i=>f (n+i):=by
 induction m with
 | zero=>rfl
 | succ m ih=>rw[show n+(m+1)=n+m+1 from rfl,sN,ih,sN];omega
def brdG (n K:Nat) (M B:Nat→Nat→Int × Int) (r c:Nat):Int × Int :=
 if r<n then (if c<K then M r c else Dt.one r (c - K)) else if c<K then B (r - n) c else 0
theorem zl_one (r c:Nat):zl 1 (Dt.one (R:=Int × Int) r c):=by
 unfold Dt.one
 split
 ·exact⟨zlen_small8 (z:=1) (by decide),zlen_small8 (z:=0) (by decide)⟩
 ·exact zl_0 1
section
variable {n K nb T D:Nat} {M B:Nat→Nat→Int × Int} {b d:Nat→Nat}
theorem minB_brd (hn:n+nb≤1000) (hT:sN n b≤T) (hD:sN nb d≤D) (hM:∀i,i<n→∀q,q<K→zl (b i) (M i q)) (hB:∀i,i<nb→∀q,q<K→zl (d i) (B i q)):MinB (n+nb) (K+n) (T+D+2001) (brdG n K M B):=by
 have h:=minB_ofK (n:=n+nb) (W:=K+n) (T:=T+D+1000) (A:=brdG n K M B) (b:=fun i=>if i<n then b i+1 else d (i - n)+1) hn (by
  rw[sN_app,sN_congr (g:=fun i=>b i+1) fun i hi=>if_pos hi,sN_congr (n:=nb) (g:=fun i=>d i+1) fun i hi=>by rw[if_neg (by omega),Nat.add_sub_cancel_left],sN_add,sN_add,sN_one,sN_one]
  omega) fun i hi q hq=>by
   unfold brdG
   by_cases c:i<n
   ·simp only[if_pos c]
    by_cases e:q<K
    ·rw[if_pos e];exact zl_up (hM i c q e) (by omega)
    ·rw[if_neg e];exact zl_up (zl_one _ _) (by omega)
   ·simp only[if_neg c]
    by_cases e:q<K
    ·rw[if_pos e];exact zl_up (hB _ (by omega) q e) (by omega)
    ·rw[if_neg e];exact zl_0 _
 exact h
end
namespace Dt
open Lean.Grind
set_option linter.unusedVariables false
section
variable {R:Type} [CommRing R] {h w r s k:Nat} {A:Nat→Nat→R} {f g:Nat→Nat}
theorem minor_big (hs:h<s) (hf:∀i,i<s→f i<h):det s (fun i j=>A (f i) (g j))=0:=by
 have e:=det_mul (n:=s) (fun c j=>if c<h then A c (g j) else 0) (fun i c=>if c=f i then 1 else 0)
 rw[(alt_det (R:=R) (n:=s)).zero (A:=fun c j=>if c<h then A c (g j) else 0) (k:=h) hs (fun c _=>if_neg (Nat.lt_irrefl _)),
  det_congr (A:=mapr s _ _) (B:=fun i j=>A (f i) (g j)) fun i hi j hj=>by
   unfold mapr
   rw[sm_one (k:=f i) (by have:=hf i hi;omega) fun c _ hne=>by simp only[if_neg hne];grind]
   simp only[if_true,if_pos (hf i hi)];grind] at e
 rw[e];grind
theorem rk_exists (h1:(1:R)≠0) (h w:Nat) (A:Nat→Nat→R):∃r,Rk h w A r:=by
 have key:∀d r,h - r=d→(∃f g:Nat→Nat,(∀i,i<r→f i<h∧g i<w)∧det r (fun i j=>A (f i) (g j))≠0)→∃r,Rk h w A r:=by
  intro d
  induction d using Nat.strongRecOn with
  | _ d ih =>
   intro r hd hr
   by_cases hx:∃f g:Nat→Nat,(∀i,i<r+1→f i<h∧g i<w)∧det (r+1) (fun i j=>A (f i) (g j))≠0
   ·have hlt:r<h:=by
     refine Nat.lt_of_not_le fun hle => ?_
     obtain⟨f,g,hfg,hne⟩:=hx
     exact hne (minor_big (h:=h) (by omega) fun i hi=>(hfg i hi).1)
    exact ih (h - (r+1)) (by omega) (r+1) rfl hx
   ·obtain⟨f,g,hfg,hne⟩:=hr
    refine⟨r,f,g,hfg,hne,fun i c => - cofc r (fun x y=>A (if y<r then f y else i) (g x)) c r,det r (fun i j=>A (f i) (g j)),hne,fun i hi j hj => ?_⟩
    have h0:D r (fun x y=>A (if x<r then f x else i) (if y<r then g y else j)) r r=0:=by
     rw[D_diag]
     refine Classical.byContradiction fun hc=>hx ⟨fun x=>if x<r then f x else i,fun y=>if y<r then g y else j,fun x hx => ?_,hc⟩
     by_cases e:x<r
     ·simp only[if_pos e];exact hfg x e
     ·simp only[if_neg e];exact⟨hi,hj⟩
    rw[←D_tr,D_col,det_tr] at h0
    have h2:(sm r fun c => - cofc r (fun x y=>A (if y<r then f y else i) (g x)) c r*A (f c) j)=(-1:R)*sm r fun c=>A (if c<r then f c else i) (if r<r then g r else j)*cofc r (fun x y=>A (if y<r then f y else i) (if x<r then g x else j)) c r:=by
     rw[←sm_mul]
     refine sm_congr fun c hc => ?_
     have h3:cofc r (fun x y=>A (if y<r then f y else i) (g x)) c r=cofc r (fun x y=>A (if y<r then f y else i) (if x<r then g x else j)) c r:=by
      unfold cofc
      rw[det_congr fun x hx y _ => ?_]
      simp only[if_pos hx]
     rw[h3,if_pos hc,if_neg (Nat.lt_irrefl _)];grind
    have h4:det r (fun x y=>A (if x<r then f x else i) (if y<r then g y else j))=det r fun x y=>A (f x) (g y):=det_congr fun x hx y hy=>by rw[if_pos hx,if_pos hy]
    rw[h2]
    rw[h4] at h0
    simp only[Nat.lt_irrefl,if_false] at h0 ⊢
    grind
 exact key h 0 rfl ⟨id,id,fun i hi=>absurd hi (Nat.not_lt_zero _),h1⟩
end
end Dt
end Go.Proofs.YthmolpepinolkaaGreat
