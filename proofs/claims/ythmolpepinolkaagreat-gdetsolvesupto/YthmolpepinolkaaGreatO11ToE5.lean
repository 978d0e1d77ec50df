/- GmatSingle: what its calls tell. -/
import Derived.Test.YthmolpepinolkaaGreatO5ToN5
import Derived.Test.YthmolpepinolkaaGreatDtToO3
namespace Go.Proofs.YthmolpepinolkaaGreat
open Go Go.RowKit Dig
set_option linter.unusedVariables false
def rowed (F:Nat→Nat→Int × Int) (p:Nat) (g:Nat→Int × Int):Nat→Nat→Int × Int:=fun i j=>if i=p then g j else F i j
def swr (i j r:Nat):Nat:=if r=i then j else if r=j then i else r
section
variable {F:Nat→Nat→Int × Int} {g:Nat→Int × Int} {i j n k p:Nat}
theorem mkM_setrow (hp:p<n):(mkM n k F).set p ((List.range k).map g)=mkM n k (rowed F p g):=by
 refine List.ext_getElem (by simp [mkM]) fun i h1 h2 => ?_
 simp only [mkM,List.getElem_set,List.getElem_map,List.getElem_range]
 by_cases e:p=i
 ·subst e;simp [rowed]
 ·rw [if_neg e];simp [rowed,Ne.symm e]
theorem mkM_swap (hi:i<n) (hj:j<n):((mkM n k F).set i ((List.range k).map (F j))).set j ((List.range k).map (F i))=mkM n k (fun r=>F (swr i j r)):=by
 refine List.ext_getElem (by simp [mkM]) fun r h1 h2 => ?_
 simp only [mkM,List.getElem_set,List.getElem_map,List.getElem_range]
 unfold swr
 by_cases e:j=r
 ·subst e
  by_cases e2:j=i
  ·subst e2;simp
  ·simp [e2]
 ·rw [if_neg e]
  by_cases e2:i=r
  ·subst e2;simp
  ·rw [if_neg e2,if_neg (Ne.symm e2),if_neg (Ne.symm e)]
end
theorem RD.set1 {w:World} {r:Rw} {m:List (Int × Int)} (hn:r.n=m.length) (hg:GD w r.xs m):∀ {rs:List Rw} {Ms:List (List (Int × Int))} {p:Nat},RD w rs Ms→RD w (rs.set p r) (Ms.set p m)
 | [],[],p,h=>h
 | _::_,_::_,0,h=>⟨⟨hn,hg⟩,h.2⟩
 | _::_,_::_,p+1,h=>⟨h.1,RD.set1 hn hg h.2⟩
theorem RD.swap {w:World} {rs:List Rw} {n k i j:Nat} {F:Nat→Nat→Int × Int} {vi vj:Value} (hd:RD w rs (mkM n k F)) (hi:i<n) (hj:j<n) (ei:(rs.map (·.v))[i]? = some vi) (ej:(rs.map (·.v))[j]? = some vj) :
  ∃rs',rs'.length=rs.length∧rs'.Perm rs∧rs'.map (·.v)=((rs.map (·.v)).set i vj).set j vi∧RD w rs' (mkM n k fun r=>F (swr i j r)):=by
 have hl:rs.length=n:=by rw [hd.len];exact len_mkM
 obtain ⟨ri,e1,h1,g1⟩:=hd.get i (by rw [len_mkM];exact hi)
 obtain ⟨rj,e2,h2,g2⟩:=hd.get j (by rw [len_mkM];exact hj)
 rw [mkM_row hi] at h1 g1
 rw [mkM_row hj] at h2 g2
 rw [List.getElem?_map,e1] at ei
 rw [List.getElem?_map,e2] at ej
 injection ei with ei
 injection ej with ej
 have q1:rs[i]=ri:=by rw [List.getElem?_eq_getElem (by omega)] at e1;exact Option.some.inj e1
 have q2:rs[j]=rj:=by rw [List.getElem?_eq_getElem (by omega)] at e2;exact Option.some.inj e2
 refine ⟨(rs.set i rj).set j ri,by simp,?_,by rw [List.map_set,List.map_set,←ej,←ei],?_⟩
 ·rw [←q1,←q2];exact List.set_set_perm (by omega) (by omega)
 ·rw [←mkM_swap hi hj]
  exact RD.set1 h1 g1 (RD.set1 h2 g2 hd)
theorem St.swap {w0 w:World} {v:Value} {n:Nat} {rs rs':List Rw} {bs:List En} {vs:List Value} (hs:St w0 (ls w0.heap.size 24 1 v n vs::(bs++rs.map (Rw.e w0.heap.size))) w) (hp:rs'.Perm rs) (hv:rs'.map (·.v)=vs) :
  St w0 (ls w0.heap.size 24 1 v n (rs'.map (·.v))::(bs++rs'.map (Rw.e w0.heap.size))) w:=by
 rw [hv]
 exact hs.perm (List.Perm.cons _ (List.Perm.append_left _ (hp.symm.map _)))
theorem St.newrow {w0 w:World} {x v:Value} {n K p:Nat} {xs:List Value} {rs:List Rw} {bs:List En} (hs:St w0 (ls w0.heap.size 45 4 x K xs::ls w0.heap.size 24 1 v n ((rs.map (·.v)).set p x)::(bs++rs.map (Rw.e w0.heap.size))) w) (hp:p<rs.length) :
  St w0 (ls w0.heap.size 24 1 v n ((rs.set p (⟨x,K,xs⟩:Rw)).map (·.v))::(bs++(rs.set p (⟨x,K,xs⟩:Rw)).map (Rw.e w0.heap.size))) w:=by
 rw [List.map_set]
 refine St.perm ?_ (hs.sub (show List.Sublist (ls w0.heap.size 45 4 x K xs::ls w0.heap.size 24 1 v n ((rs.map (·.v)).set p x)::(bs++(rs.eraseIdx p).map (Rw.e w0.heap.size))) _ from .cons_cons _ (.cons_cons _ (List.Sublist.append_left ((List.eraseIdx_sublist _ _).map _) _))))
 refine (List.Perm.swap _ _ _).trans (List.Perm.cons _ ?_)
 refine (List.perm_middle.symm).trans (List.Perm.append_left _ ?_)
 have:(rs.set p (⟨x,K,xs⟩:Rw)).Perm ((⟨x,K,xs⟩:Rw)::rs.eraseIdx p):=by
  rw [List.set_eq_take_append_cons_drop,if_pos hp,List.eraseIdx_eq_take_drop_succ]
  exact List.perm_middle
 exact (this.map (Rw.e w0.heap.size)).symm
set_option maxHeartbeats 4000000
set_option maxRecDepth 20000
theorem fi_rowed {A:List (List (Int × Int))} {i n k:Nat} (hi:i<n):(mkM n k (fi (at2 A) i 0)).set i ((List.range k).map (at1 (rw_ A i)))=mkM n k (fi (at2 A) i k):=by
 rw [mkM_setrow hi]
 refine mkM_eq rfl rfl fun p _ q hq => ?_
 unfold rowed fi
 by_cases h:p=i
 ·rw [if_pos h,if_pos (by omega),h];rfl
 ·rw [if_neg h]
  by_cases h2:p<i
  ·rw [if_pos (by omega),if_pos (by omega)]
  ·rw [if_neg (by omega),if_neg (by omega)]
section
variable {w:World} {l la na ca n c i k:Nat} {o oa:Option Addr} {A:List (List (Int × Int))} {ps:List (Int × Int)}
theorem rVector_any (h1:SN l w o ps) (hn:ps.length=n) (hl:n≤1000000000) (hl1:l≤20000000) :
  Calls Tryz.prog 158 #[.slice o n c] w fun e w'=>∃o c xs,e = .returned (.slice o n c)∧Lst w' w.heap.size 45 4 (.slice o n c) n xs∧GD w' xs ((List.range n).map (at1 ps))∧Below w.heap.size w w':=by
 have H1:=hide h1
 clear h1
 go_enter Tryz.func158,Tryz.ntmps158
 have hs:=St.nil w
 refine wp_seq_k fun K1 hK1=>rg [0] ?_
 refine sm ?_
 apply wpSq_end
 refine hK1 _ _ ?_
 refine wp_seq_k fun K2 hK2=>rg [0] ?_
 refine sm ?_
 apply wpSq_end
 refine hK2 _ _ ?_
 refine wp_seq_k ?_
 intro K3 hK3
 refine wp_seq_k fun K4 hK4=>rg [0] ?_
 refine sm ?_
 apply wpSq_end
 refine hK4 _ _ ?_
 refine wp_block ?_
 have hd1:=hs.2.1
 go_loopg [3,4] n (fun kk s3 s4 wr=>∃(i:Nat) (o:Option Addr) (c:Nat) (xs:List Value),s4 = .int .i64 (i:Int)∧s3 = .slice o i c∧i+kk=n∧GD wr xs ((List.range i).map (at1 ps)) ∧
  St w [ls w.heap.size 45 4 (.slice o i c) i xs] wr)
 case atStart=>exact ⟨0,none,0,[],rfl,rfl,by omega,GD.nil _,hs.l0 _ _⟩
 case round =>
 clear hs
 obtain ⟨i,ow,cw,xs,rfl,rfl,hik,d,hs⟩:=hrel
 by_cases hi:i<n
 ·obtain ⟨g1,off1,cur1,ty1,fz1,a1,a2,a3,a4,a5,a6,a7,a8,rfl,x1,e1,e2,e3,e4,z1,z2⟩:=H1.out.op (j:=i) (by omega)
  replace z1:ZN wr (.agg #[.bool a1,.slice a2 a3 a4]) (at1 ps i).1 l:=z1.bl hs.b
  replace z2:ZN wr (.agg #[.bool a5,.slice a6 a7 a8]) (at1 ps i).2 l:=z2.bl hs.b
  have lt_kA:=x1.lt
  replace x1:=x1.bl hs.b
  have E1:=hide (mapr_succ (at1 ps) i)
  generalize at1 ps i=p at *
  refine wp_seq_k ?_
  intro K5 hK5
  refine wp_seq_k fun K6 hK6=>rg [0,1,2,3] ?_
  refine sm ?_
  refine sm ?_
  refine sr ?_
  refine sr ?_
  apply wpSq_end
  refine hK6 _ _ ?_
  refine ct ?_
  refine wp_skip ?_
  refine hK5 _ _ ?_
  refine wp_seq_k ?_
  intro K7 hK7
  refine wp_block ?_
  refine rg [0,1,2,3,4,5,6,7,8] ?_
  refine sm ?_
  refine sm ?_
  refine sm ?_
  refine sr ?_
  refine sq ?_
  refine .r4 ⟨x1.cell _ e1,x1.cell _ e2,x1.cell _ e3,x1.cell _ e4⟩ ?_
  refine sq ?_
  intro K hK
  go_big_op
  go_fit (rgCanonical_any (.mk' z1 z2) (by omega) (by omega))
  rintro e w_2 ⟨_,rfl,⟨n_ta,o_ta,k_ta,c_ta,n_tb,o_tb,k_tb,c_tb,rfl,t1,t2⟩,hb_2⟩
  replace x1:=x1.bl hb_2;replace hs:=hs.bl hb_2
  refine hK _ _ rfl trivial ?_
  clear hK K
  refine sq ?_
  refine .al hs ?_;clear hs;intro p_b1 w_3 hs n3 kb_b1
  replace x1:=x1.bl n3
  refine sq ?_
  have k0_2:=(kb hb_2).b n3
  replace d:=d.k k0_2
  have k1_2:=kb n3
  replace t1:=t1.k k1_2
  replace t2:=t2.k k1_2
  replace d:=d.snoc (.mk' t1 t2)
  refine .ap 1 hs hs.g0 ?_;clear hs;intro o_L_4 c_L_4 w_4 hs kp4 hw4;simp only [List.set_cons_succ,List.set_cons_zero] at hs
  replace x1:=x1.lo lt_kA hw4
  refine sm ?_
  apply wpSq_end
  refine hK7 _ _ ?_
  refine rg [0,1,2] ?_
  refine sm ?_
  refine sr ?_
  refine sm ?_
  apply wpSq_end
  have k2_3:=kp4
  replace d:=d.k k2_3
  refine ‹∀(a':Act) (w':World),Handed _ _ a' w'→_› _ _ ?_
  go_roundg (gk - 1)
  case rel=>exact ⟨i+1,_,_,_,by rfl,by rfl,by omega,by rw [E1.out];exact d,hs.sub (.cons _ (List.Sublist.refl _))⟩
  case measure=>omega
 ·obtain rfl:i=n:=by omega
  clear hi
  refine wp_seq_k ?_
  intro K5 hK5
  refine wp_seq_k fun K6 hK6=>rg [0,1,2,3] ?_
  refine sm ?_
  refine sm ?_
  refine sr ?_
  refine sr ?_
  apply wpSq_end
  refine hK6 _ _ ?_
  refine cf ?_
  refine wp_exit ?_
  refine hK3 _ _ ?_
  refine wp_seq_k fun K7 hK7=>rg [0,1] ?_
  refine sm ?_
  refine sm ?_
  apply wpSq_end
  refine hK7 _ _ ?_
  refine wp_ret ?_
  try dsimp only [Exit.then,Exit.inBlock]
  refine bodyPost_ret (v:=(.slice ow i cw)) (by simp [results,Tryz.results158,go_sem]) rfl ?_
  exact ⟨_,_,_,rfl,hs.1.1.1,d,hs.b⟩
theorem rCopy_any (ha:MN la w oa A) (hna:A.length=na) (h:gd A) (hk:wd A=k) (hla:la≤20000000) :
  Calls Tryz.prog 124 #[.slice oa na ca] w fun e w'=>∃o c rs,e = .returned (.slice o na c)∧rs.length=na∧St w (Mx w.heap.size (.slice o na c) rs) w'∧RD w' rs (mkM na k (at2 A))∧Below w.heap.size w w':=by
 have HA:=hide ha
 have hn64:na≤64:=by have:=h.1;omega
 have hk64:k≤64:=by have:=h.2.1;omega
 have HR:=hide (show ∀i,i<na→(rw_ A i).length=k from fun i hi=>by rw [gd_row h (by omega)];exact hk)
 clear ha h
 go_enter Tryz.func124,Tryz.ntmps124
 have hs:=St.nil w
 refine wp_seq_k fun K1 hK1=>rg [0] ?_
 refine sm ?_
 apply wpSq_end
 refine hK1 _ _ ?_
 refine wp_seq_k fun K2 hK2=>rg [0,1,2,3,4,5] ?_
 refine sm ?_
 refine sr ?_
 refine sm ?_
 refine sq ?_
 intro K hK
 have hb:=hs.b
 go_big_op
 go_fit (rCols_any (HA.out.bl stab_n hb) hna hk)
 rintro e w_1 ⟨rfl,hb_1⟩
 clear hb
 replace hs:=hs.bl hb_1
 refine hK _ _ rfl trivial ?_
 clear hK K
 refine sq ?_
 intro K hK
 go_big_op
 go_fit (rNew_any (r:=na) (k:=k) (by omega) (by omega))
 rintro e w_2 ⟨o_O,c_O,rs_O,rfl,hl_O,hs_O,d_O,hb_2⟩
 replace hs:=hs.mx hl_O hs_O;simp only [List.nil_append] at hs
 refine hK _ _ rfl trivial ?_
 clear hK K
 refine sm ?_
 apply wpSq_end
 refine hK2 _ _ ?_
 refine wp_seq_k ?_
 intro K3 hK3
 refine wp_seq_k fun K4 hK4=>rg [0] ?_
 refine sm ?_
 apply wpSq_end
 refine hK4 _ _ ?_
 refine wp_block ?_
 have hd3:=hs.2.1
 go_loopg [4] na (fun kk s4 wr=>∃(i:Nat) (rs:List Rw),s4 = .int .i64 (i:Int)∧i+kk=na∧rs.length=na∧RD wr rs (mkM na k (fi (at2 A) i 0)) ∧
  St w (ls w.heap.size 24 1 (.slice o_O na c_O) na (rs.map (·.v))::([]++rs.map (Rw.e w.heap.size))) wr)
 case atStart=>exact ⟨0,rs_O,rfl,by omega,hl_O,by rw [←fi_0];exact d_O,hs⟩
 case round =>
 clear d_O hs
 obtain ⟨i,rs,rfl,hik,hrl,hd,hs⟩:=hrel
 by_cases hi:i<na
 ·have HX:=hide hi
  obtain ⟨gm,offm,curm,tym,fzm,oi,ci,rfl,x1,e5,s2⟩:=HA.out.row (i:=i) (by omega)
  have HL:=hide (HR.out i hi)
  rw [HL.out] at e5
  have HS:=hide s2
  have lt_kA:=x1.lt
  have x1z:=x1
  replace x1:=x1.bl hs.b
  clear s2
  have LO:Lst wr w.heap.size 24 1 (.slice o_O na c_O) na _:=hs.1.1.1
  obtain ⟨gO,curO,rfl,xO,hcO⟩:=LO.box (by omega)
  clear LO hcO xO
  refine wp_seq_k ?_
  intro K5 hK5
  refine wp_seq_k fun K6 hK6=>rg [0,1,2,3] ?_
  refine sm ?_
  refine sm ?_
  refine sr ?_
  refine sr ?_
  apply wpSq_end
  refine hK6 _ _ ?_
  refine ct ?_
  refine wp_skip ?_
  refine hK5 _ _ ?_
  refine wp_seq_k ?_
  intro K7 hK7
  refine wp_block ?_
  refine rg [0,1,2,3,4,5,6,7,8] ?_
  refine sm ?_
  refine sm ?_
  refine sm ?_
  refine sm ?_
  refine sr ?_
  refine sq ?_
  refine .r1 (x1.cell _ e5) ?_
  refine sq ?_
  intro K hK
  have hb:=hs.b
  go_big_op
  go_fit (rVector_any (HS.out.bl stab_n hb) HL.out (by omega) (by omega))
  rintro e w_4 ⟨o_r,c_r,xs_r,rfl,L_r,d_r,hb_4⟩
  clear hb
  replace x1:=x1.bl hb_4
  replace hs:=hs.la hb_4 L_r
  refine hK _ _ rfl trivial ?_
  clear hK K
  refine sr ?_
  refine sq ?_
  refine .i1 1 hs (j:=i) (by omega) ?_;clear hs;intro w_5 hs kp5 hd5 ho5 hw5;simp only [List.set_cons_succ,List.set_cons_zero] at hs
  replace x1:=x1.lo lt_kA hw5
  apply wpSq_end
  refine hK7 _ _ ?_
  refine rg [0,1,2] ?_
  refine sm ?_
  refine sr ?_
  refine sm ?_
  apply wpSq_end
  have k1_2:=kp5
  replace d_r:=d_r.k k1_2
  have k0_2:=(kb hb_4).t kp5
  replace hd:=hd.k k0_2
  refine ‹∀(a':Act) (w':World),Handed _ _ a' w'→_› _ _ ?_
  have hs:=hs.newrow (bs:=[]) (by omega)
  go_roundg (gk - 1)
  case rel=>exact ⟨i+1,_,by rfl,by omega,by simpa using hrl,by rw [←fi_row,←fi_rowed HX.out];exact RD.set1 (by simp) d_r hd,hs⟩
  case measure=>omega
 ·obtain rfl:na=i:=by omega
  have HX:=hide hi
  refine wp_seq_k ?_
  intro K5 hK5
  refine wp_seq_k fun K6 hK6=>rg [0,1,2,3] ?_
  refine sm ?_
  refine sm ?_
  refine sr ?_
  refine sr ?_
  apply wpSq_end
  refine hK6 _ _ ?_
  refine cf ?_
  refine wp_exit ?_
  refine hK3 _ _ ?_
  refine wp_seq_k fun K7 hK7=>rg [0,1] ?_
  refine sm ?_
  refine sm ?_
  apply wpSq_end
  refine hK7 _ _ ?_
  refine wp_ret ?_
  try dsimp only [Exit.then,Exit.inBlock]
  refine bodyPost_ret (v:=(.slice o_O na c_O)) (by simp [results,Tryz.results124,go_sem]) rfl ?_
  exact ⟨_,_,rs,rfl,hrl,(by unfold Mx;rw [hrl];exact hs),by rw [←fi_end];exact hd,hs.b⟩
end
theorem map_swap {g:Nat→Int × Int} {j k W:Nat} (hj:j<W) (hk:k<W):(((List.range W).map g).set j (g k)).set k (g j)=(List.range W).map fun c=>g (swr j k c):=by
 refine List.ext_getElem (by simp) fun r h1 h2 => ?_
 simp only [List.getElem_set,List.getElem_map,List.getElem_range]
 unfold swr
 by_cases e:k=r
 ·subst e
  by_cases e2:k=j
  ·subst e2;simp
  ·simp [e2]
 ·rw [if_neg e]
  by_cases e2:j=r
  ·subst e2;simp
  ·rw [if_neg e2,if_neg (Ne.symm e2),if_neg (Ne.symm e)]
def cx (F:Nat→Nat→Int × Int) (j k q:Nat):Nat→Nat→Int × Int:=fun r c=>if r<q then F r (swr j k c) else F r c
section
variable {F:Nat→Nat→Int × Int} {j k q n W:Nat}
theorem cx_0:mkM n W F=mkM n W (cx F j k 0):=mkM_eq rfl rfl fun p _ c _=>by unfold cx;rw [if_neg (by omega)]
theorem cx_row:cx F j k q q=F q:=by funext c;unfold cx;rw [if_neg (by omega)]
theorem cx_step (hq:q<n):(mkM n W (cx F j k q)).set q ((List.range W).map fun c=>F q (swr j k c))=mkM n W (cx F j k (q+1)):=by
 rw [mkM_setrow hq]
 refine mkM_eq rfl rfl fun p _ c _ => ?_
 unfold rowed cx
 by_cases h:p=q
 ·rw [if_pos h,if_pos (by omega),h]
 ·rw [if_neg h]
  by_cases h2:p<q
  ·rw [if_pos h2,if_pos (by omega)]
  ·rw [if_neg h2,if_neg (by omega)]
theorem cx_end:mkM n W (cx F j k n)=mkM n W fun r c=>F r (swr j k c):=mkM_eq rfl rfl fun p hp c _=>by unfold cx;rw [if_pos hp]
end
def xo (odd:Bool) (i j k:Nat):Bool:=(odd != ((i:Int) != (k:Int))) != ((j:Int) != (k:Int))
section
variable {w w0:World} {pt n c h m W i j k:Nat} {odd:Bool} {o:Option Addr} {rs:List Rw} {bs:List En} {F:Nat→Nat→Int × Int}
set_option maxHeartbeats 4000000 in
set_option maxRecDepth 20000 in
theorem exchange_any (hst:St w0 (ls w0.heap.size 24 1 (.slice o n c) n (rs.map (·.v))::bx pt #[.slice o n c,.int .i64 (h:Int),.int .i64 (m:Int),.bool odd] 61::(bs++rs.map (Rw.e w0.heap.size))) w)
  (kb_bt:Hid (w0.heap.size≤pt)) (hd:RD w rs (mkM n W F)) (hi:i<n) (hk:k<n) (hj:j<W) (hk2:k<W) (hn:n≤1000) (hW:W≤3000000) :
  Calls Tryz.prog 119 #[.pointer (some ⟨pt,0,none⟩),.int .i64 (i:Int),.int .i64 (j:Int),.int .i64 (k:Int)] w fun e w'=>∃rs',e = .returned (.tuple #[])∧rs'.length=n∧RD w' rs' (mkM n W fun r q=>F (swr i k r) (swr j k q)) ∧
   St w0 (ls w0.heap.size 24 1 (.slice o n c) n (rs'.map (·.v))::bx pt #[.slice o n c,.int .i64 (h:Int),.int .i64 (m:Int),.bool (xo odd i j k)] 61::(bs++rs'.map (Rw.e w0.heap.size))) w'∧Kp w w':=by
 have hl:rs.length=n:=by rw [hd.len];exact len_mkM
 have kk:=KpF.r w
 have LO:Lst w w0.heap.size 24 1 (.slice o n c) n _:=hst.1.1.1
 obtain ⟨gO,curO,rfl,xO,hcO⟩:=LO.box (by omega)
 obtain ⟨oi,ci,hvi⟩:=hst.rowv (bs:=bx pt #[.slice (some ⟨gO,0,none⟩) n c,.int .i64 (h:Int),.int .i64 (m:Int),.bool odd] 61::bs) hd (p:=i) (K:=W) (by rw [len_mkM];exact hi) (by rw [mkM_row hi];simp)
 obtain ⟨ok,ck,hvk⟩:=hst.rowv (bs:=bx pt #[.slice (some ⟨gO,0,none⟩) n c,.int .i64 (h:Int),.int .i64 (m:Int),.bool odd] 61::bs) hd (p:=k) (K:=W) (by rw [len_mkM];exact hk) (by rw [mkM_row hk];simp)
 have eI:=hcO _ _ hvi
 have eK:=hcO _ _ hvk
 have HI:=hide hi
 have HK:=hide hk
 have HJ:=hide hj
 have HK2:=hide hk2
 clear LO hcO
 go_enter Tryz.func119,Tryz.ntmps119
 have hs:=hst
 clear hst
 have lt_kO:=xO.lt
 have xOz:=xO
 refine wp_seq_k ?_
 intro K1 hK1
 refine wp_region_f4 [(0,false),(1,false),(2,false),(3,false),(4,false),(5,false),(6,false),(7,false),(8,false),(9,false),(10,false),(11,false),(12,false),(13,false),(14,false),(15,false),(16,false),(17,false),(18,false),(19,false),(20,false),(21,false),(22,false),(23,false),(24,false)] [25,26,27] [] (fun _=>default) [99,99,99,0,99,99,99,99,0,99,99,99,99,0,99,99,1,99,99,99,0,99,99,1,99,99,99,99] [(25,1),(26,1),(27,1)] (.c hs.g1 (.c xO .n)) fn fun w_1 n1 => ?_
 replace xO:=xO.bl n1;replace hs:=hs.bl n1
 refine fmv ?_
 refine f0 ?_
 refine f0 ?_
 refine f4 ?_
 refine fmv ?_
 refine fmv ?_
 refine f0 ?_
 refine f0 ?_
 refine f4 ?_
 refine fmv ?_
 refine fmv ?_
 refine f0 ?_
 refine f0 ?_
 refine f4 ?_
 refine fmv ?_
 refine f0 ?_
 apply wpFl_ld rfl rfl;(case h1=>intro w' hC K hK;have c0:=Bs.cell hC (k) eK;go_big_op;exact hK);iterate 4 kernel_rfl
 refine fmv ?_
 refine f0 ?_
 refine f0 ?_
 refine f4 ?_
 refine fmv ?_
 refine f0 ?_
 apply wpFl_ld rfl rfl;(case h1=>intro w' hC K hK;have c0:=Bs.cell hC (i) eI;go_big_op;exact hK);iterate 4 kernel_rfl
 refine f0 ?_
 refine e0 hs ?_;clear hs;intro w_2 hs n2
 replace xO:=xO.bl n2
 refine tl ?_
 refine .i1 0 hs (j:=i) (by exact HI.out) ?_ (e:=fun _ hB hO=>(And.intro (hs.g1.frame hO (hs.ne 1 0)) (And.intro True.intro True.intro)));clear hs;intro w_3 hs kp3 hd3 ho3 hw3;simp only [List.set_cons_zero] at hs
 clear xO
 refine tl ?_
 refine .r0 ?_ (e:=(And.intro hs.g1 (And.intro True.intro True.intro)))
 refine tl ?_
 refine .i1 0 hs (j:=k) (by exact HK.out) ?_ (e:=fun _ hB hO=>(And.intro (hs.g1.frame hO (hs.ne 1 0)) (And.intro True.intro True.intro)));clear hs;intro w_4 hs kp4 hd4 ho4 hw4;simp only [List.set_cons_zero] at hs
 apply wpTail_end
 refine hK1 _ _ ?_
 refine wp_seq_k ?_
 intro K2 hK2
 refine wp_seq_k fun K3 hK3=>rg [0,1,2,3,4,5] ?_
 refine sm ?_
 refine sr ?_
 refine sr ?_
 refine sq ?_
 refine .r4 hs.g1.f4 ?_
 refine sr ?_
 refine sm ?_
 apply wpSq_end
 refine hK3 _ _ ?_
 refine wp_block ?_
 have k0_4:=(((kb n1).b n2).t kp3).t kp4
 replace hd:=hd.k k0_4
 obtain ⟨rs1,q1,q2,q3,q4⟩:=RD.swap hd HI.out HK.out hvi hvk
 have hs:=hs.swap (bs:=bx pt #[.slice (some ⟨gO,0,none⟩) n c,.int .i64 (h:Int),.int .i64 (m:Int),.bool odd] 61::bs) q2 q3
 replace kk:=kk.k k0_4
 have hd5:=hs.2.1
 go_loopg [41] n (fun kz s41 wr=>∃(q:Nat) (rs:List Rw),s41 = .int .i64 (q:Int)∧q+kz=n∧rs.length=n∧RD wr rs (mkM n W (cx (fun r=>F (swr i k r)) j k q))∧KpF w wr ∧
  St w0 (ls w0.heap.size 24 1 (.slice (some ⟨gO,0,none⟩) n c) n (rs.map (·.v))::bx pt #[.slice (some ⟨gO,0,none⟩) n c,.int .i64 (h:Int),.int .i64 (m:Int),.bool odd] 61::(bs++rs.map (Rw.e w0.heap.size))) wr)
 case atStart=>exact ⟨0,rs1,rfl,by omega,q1.trans hl,by rw [←cx_0];exact q4,kk,hs⟩
 case round =>
 clear kk hd hs
 obtain ⟨q,rs,rfl,hqn,hrl,hd,kk,hs⟩:=hrel
 by_cases hq:q<n
 ·have HQ:=hide hq
  obtain ⟨r1,gr,cr,xs,r2,rfl,hr1,hrv,hx,hs⟩:=hs.row (bs:=bx pt #[.slice (some ⟨gO,0,none⟩) n c,.int .i64 (h:Int),.int .i64 (m:Int),.bool odd] 61::bs) hd (p:=q) (K:=W) (by rw [len_mkM];exact hq) (by rw [mkM_row hq];simp) (by have:=HJ.out;omega)
  have LO:Lst wr w0.heap.size 24 1 (.slice (some ⟨gO,0,none⟩) n c) n _:=hs.1.2.1.1
  obtain ⟨gO',curO,eO',xO,hcO⟩:=LO.box (by omega)
  simp only [Option.some.injEq,Addr.mk.injEq,and_true] at eO'
  obtain rfl:gO=gO':=eO'
  have eO:=hcO _ _ hrv
  have LR:Lst wr w0.heap.size 45 4 (.slice (some ⟨gr,0,none⟩) W cr) W xs:=hs.1.1.1
  obtain ⟨gr',curR,eR,xR,hcR⟩:=LR.box (by have:=HJ.out;omega)
  simp only [Option.some.injEq,Addr.mk.injEq,and_true] at eR
  obtain rfl:gr=gr':=eR
  have hx2:=hx
  rw [mkM_row hq] at hx2
  obtain ⟨a1,a2,a3,a4,a5,a6,a7,a8,e1,e2,e3,e4,z1,z2⟩:=hx2.els k (by simpa using HK2.out)
  obtain ⟨b1,b2,b3,b4,b5,b6,b7,b8,e5,e6,e7,e8,z3,z4⟩:=hx2.els j (by simpa using HJ.out)
  rw [show ((List.range W).map (cx (fun r=>F (swr i k r)) j k q q))[k]'(by simpa using HK2.out)=F (swr i k q) k by simp [cx_row]] at z1 z2
  rw [show ((List.range W).map (cx (fun r=>F (swr i k r)) j k q q))[j]'(by simpa using HJ.out)=F (swr i k q) j by simp [cx_row]] at z3 z4
  replace e1:=hcR _ _ e1
  replace e2:=hcR _ _ e2
  replace e3:=hcR _ _ e3
  replace e4:=hcR _ _ e4
  replace e5:=hcR _ _ e5
  replace e6:=hcR _ _ e6
  replace e7:=hcR _ _ e7
  replace e8:=hcR _ _ e8
  clear LO hcO hrv LR hcR hx2
  refine wp_seq_k fun K4 hK4=>rg [0] ?_
  refine sr ?_
  apply wpSq_end
  refine hK4 _ _ ?_
  refine wp_seq_k ?_
  intro K5 hK5
  refine ct ?_
  refine wp_skip ?_
  refine hK5 _ _ ?_
  refine wp_seq_k ?_
  intro K6 hK6
  refine wp_block ?_
  refine wp_seq_k fun K7 hK7=>rg [0,1,2] ?_
  refine sr ?_
  refine sq ?_
  refine .r1 (xO.cell _ eO) ?_
  refine sm ?_
  apply wpSq_end
  refine hK7 _ _ ?_
  refine wp_region_f4 [(0,false),(1,false),(2,false),(3,false),(4,false),(5,false),(6,false),(7,false),(8,false),(9,false),(10,false),(11,false),(12,false)] [13,14,15] [] (fun _=>default) [99,99,99,99,99,99,99,0,99,99,99,0,99,99,99,99] [(13,0),(14,0),(15,0)] (.c xR .n) fn fun w_6 n6 => ?_
  replace xO:=xO.bl n6;replace xR:=xR.bl n6;replace hs:=hs.bl n6
  refine fmv ?_
  refine fmv ?_
  refine fmv ?_
  refine fmv ?_
  refine fmv ?_
  refine fmv ?_
  refine f0 ?_
  apply wpFl_ld rfl rfl;(case h1=>intro w' hC K hK;have c0:=Bs.cell hC ((k*4)) e1;have c1:=Bs.cell hC ((k*4)+1) e2;have c2:=Bs.cell hC ((k*4)+2) e3;have c3:=Bs.cell hC ((k*4)+3) e4;go_big_op;exact hK);iterate 4 kernel_rfl
  refine fmv ?_
  refine fmv ?_
  refine f0 ?_
  apply wpFl_ld rfl rfl;(case h1=>intro w' hC K hK;have c0:=Bs.cell hC ((j*4)) e5;have c1:=Bs.cell hC ((j*4)+1) e6;have c2:=Bs.cell hC ((j*4)+2) e7;have c3:=Bs.cell hC ((j*4)+3) e8;go_big_op;exact hK);iterate 4 kernel_rfl
  refine f0 ?_
  refine e0 hs ?_;clear hs;intro w_7 hs n7
  replace xO:=xO.bl n7;replace xR:=xR.bl n7
  refine tl ?_
  refine .i4 0 hs (j:=j) (by exact HJ.out) ?_ (e:=fun _ hB hO=>(And.intro True.intro True.intro));clear hs;intro w_8 hs kp8 hd8 ho8 hw8;simp only [List.set_cons_zero] at hs
  clear xO
  clear xR
  refine tl ?_
  refine .r0 ?_ (e:=(And.intro True.intro True.intro))
  refine tl ?_
  refine .i4 0 hs (j:=k) (by exact HK2.out) ?_ (e:=fun _ hB hO=>(And.intro True.intro True.intro));clear hs;intro w_9 hs kp9 hd9 ho9 hw9;simp only [List.set_cons_zero] at hs
  apply wpTail_end
  refine hK6 _ _ ?_
  refine rg [0,1] ?_
  refine sr ?_
  refine sm ?_
  apply wpSq_end
  have k0_4:=(((kb n6).b n7).t kp8).t kp9
  replace z1:=z1.k k0_4
  replace z2:=z2.k k0_4
  replace z3:=z3.k k0_4
  replace z4:=z4.k k0_4
  replace hx:=hx.k k0_4
  replace hd:=hd.k k0_4
  replace kk:=kk.k k0_4
  refine ‹∀(a':Act) (w':World),Handed _ _ a' w'→_› _ _ ?_
  rw [mkM_row HQ.out,cx_row] at hx
  have hy:=GD.put z3 z4 (q:=k) (GD.put z1 z2 (q:=j) hx (by simpa using HJ.out)) (by simpa using HK2.out)
  rw [show ((F (swr i k q) k).1,(F (swr i k q) k).2)=F (swr i k q) k from rfl,show ((F (swr i k q) j).1,(F (swr i k q) j).2)=F (swr i k q) j from rfl,map_swap (g:=F (swr i k q)) HJ.out HK2.out] at hy
  have hd:=RD.set' (v:=.slice (some ⟨gr,0,none⟩) W cr) (n:=W) (by simp) hy hd hr1
  rw [cx_step (F:=fun r=>F (swr i k r)) HQ.out] at hd
  go_roundg (gk - 1)
  case rel=>exact ⟨q+1,_,by rfl,by omega,by simpa using hrl,hd,kk,hs.unrow (bs:=bx pt #[.slice (some ⟨gO,0,none⟩) n c,.int .i64 (h:Int),.int .i64 (m:Int),.bool odd] 61::bs)⟩
  case measure=>omega
 ·obtain rfl:n=q:=by omega
  have HX:=hide hq
  refine wp_seq_k fun K4 hK4=>rg [0] ?_
  refine sr ?_
  apply wpSq_end
  refine hK4 _ _ ?_
  refine wp_seq_k ?_
  intro K5 hK5
  refine cf ?_
  refine wp_exit ?_
  refine hK2 _ _ ?_
  refine rg [0,1,2,3,4,5,6,7,8,9,10,11,12,13,14,15] ?_
  refine sm ?_
  refine sm ?_
  refine sr ?_
  refine sr ?_
  refine sq ?_
  refine .r4 hs.g1.f4 ?_
  refine sm ?_
  refine sm ?_
  refine sr ?_
  refine sr ?_
  refine sm ?_
  refine sm ?_
  refine sr ?_
  refine sr ?_
  refine sr ?_
  refine sr ?_
  refine sq ?_
  intro K hK
  have xs:=hs.g1
  obtain ⟨d0,d1,d2,d3⟩:=hs.g1.f4
  have f0:=xs.free 3
  go_big_op
  have hd6:=xs.nod rfl rfl
  obtain ⟨w_6,eW,xs',ho6⟩:∃w',(wr.setCell ⟨pt,3,none⟩ (.bool (!((!(odd==((i:Int) != (k:Int))))==((j:Int) != (k:Int))))))=w'∧Bs w' pt #[(.slice (some ⟨gO,0,none⟩) n c),.int .i64 (h:Int),.int .i64 (m:Int),.bool (!((!(odd==((i:Int) != (k:Int))))==((j:Int) != (k:Int))))] 61∧Only pt wr w':=xs.setN [(3,.bool (!((!(odd==((i:Int) != (k:Int))))==((j:Int) != (k:Int)))))]
  rw [eW];clear eW d0 d1 d2 d3 f0 xs
  replace hs:=hs.u1 kb_bt xs' ho6;clear xs'
  refine hK _ _ rfl trivial ?_;clear hK K
  apply wpSq_end
  try simp only [Exit.then,Exit.inBlock,if_true]
  refine bodyPost_end (results_none rfl _ _ _) rfl ?_
  have k0_1:=ko hd6 ho6
  replace hd:=hd.k k0_1
  replace kk:=kk.k k0_1
  exact ⟨rs,rfl,hrl,by rw [←cx_end];exact hd,hs,kk.kp⟩
end
theorem MCin {w0 w:World} {bs:List En} {n c:Nat} {o:Option Addr} {rs:List Rw} {vs:List Value} {Ms:List (List (Int × Int))} (hs:St w0 (ls w0.heap.size 24 1 (.slice o n c) n vs::bs) w) (hv:rs.map (·.v)=vs) (hr:∀r ∈ rs,r.e w0.heap.size ∈ bs) (hn:rs.length=n) (hd:RD w rs Ms):MC w o Ms:=by
 have key:∀ {l:List En},AllE l w→∀e ∈ l,Ok e w:=by
  intro l
  induction l with
  | nil=>intro _ e he;cases he
  | cons a t ih=>intro h e he;rcases List.mem_cons.1 he with rfl | he;exact h.1;exact ih h.2 e he
 have hM:AllE (rs.map (Rw.e w0.heap.size)) w:=by
  have:∀ {rs:List Rw},(∀r ∈ rs,Ok (r.e w0.heap.size) w)→AllE (rs.map (Rw.e w0.heap.size)) w:=by
   intro rs
   induction rs with
   | nil=>intro _;trivial
   | cons a t ih=>intro h;exact ⟨h a (List.mem_cons_self ..),ih fun r hr=>h r (List.mem_cons_of_mem _ hr)⟩
  exact this fun r h=>key hs.1.2 _ (hr r h)
 subst hv hn
 have L:Lst w w0.heap.size 24 1 (.slice o rs.length c) rs.length (rs.map (·.v)):=hs.1.1.1
 have hn:=hd.len
 rcases Nat.eq_zero_or_pos rs.length with h0 | h0
 ·exact .inl (List.eq_nil_of_length_eq_zero (by omega))
 ·obtain ⟨g,cur,rfl,x,hc⟩:=L.box h0
  refine .inr ⟨g,0,cur,_,_,rfl,x,fun i hi => ?_⟩
  obtain ⟨r,h1,h2,h3⟩:=hd.get i hi
  have h4:(rs.map (Rw.e w0.heap.size))[i]? = some (r.e w0.heap.size):=by rw [List.getElem?_map,h1];rfl
  have L2:Lst w w0.heap.size 45 4 r.v r.n r.xs:=(hM.at h4).1
  obtain ⟨o2,c2,e⟩:=L2.shape
  have h5:(rs.map (·.v))[i]? = some r.v:=by rw [List.getElem?_map,h1];rfl
  have:=hc _ _ h5
  rw [e] at L2
  exact ⟨o2,c2,by rw [Nat.zero_add,this,e,h2],(L2.sc h3).2⟩
theorem swr_k {i k:Nat}:swr i k k=i:=by
 unfold swr
 split
 ·rename_i h;exact h
 ·rw [if_pos rfl]
def PvPost (k h m:Nat) (F:Nat→Nat→Int × Int) (odd fd:Bool) (F':Nat→Nat→Int × Int) (odd':Bool) (p:Int × Int):Prop :=
 (fd=true∧∃i j,k≤i∧i<h∧k≤j∧j<m∧F i j≠(0,0)∧F'=(fun r c=>F (swr i k r) (swr j k c))∧odd'=xo odd i j k∧p=F i j) ∨
 (fd=false∧F'=F∧odd'=odd∧p=(0,0)∧∀i,k≤i→i<h→∀j,k≤j→j<m→F i j=(0,0))
section
variable {w w0:World} {pt n c h m W k l:Nat} {odd:Bool} {o:Option Addr} {rs:List Rw} {bs:List En} {F:Nat→Nat→Int × Int}
set_option maxHeartbeats 4000000 in
set_option maxRecDepth 20000 in
theorem pivot_any (hst:St w0 (ls w0.heap.size 24 1 (.slice o n c) n (rs.map (·.v))::bx pt #[.slice o n c,.int .i64 (h:Int),.int .i64 (m:Int),.bool odd] 61::(bs++rs.map (Rw.e w0.heap.size))) w)
  (kb_bt:Hid (w0.heap.size≤pt)) (hd:RD w rs (mkM n W F)) (hh:h≤n) (hm:m≤W) (hk:k≤h) (hk2:k≤m) (hn:n≤1000) (hW:W≤3000000) (hF:∀i,k≤i→i<h→∀j,k≤j→j<m→zl l (F i j)) (hl:l≤20000000) :
  Calls Tryz.prog 61 #[.pointer (some ⟨pt,0,none⟩),.int .i64 (k:Int)] w fun e w'=>∃v fd rs' F' odd' p,e = .returned (.tuple #[v,.bool fd])∧PC w' v p.1 p.2∧PvPost k h m F odd fd F' odd' p∧rs'.length=n∧RD w' rs' (mkM n W F') ∧
   St w0 (ls w0.heap.size 24 1 (.slice o n c) n (rs'.map (·.v))::bx pt #[.slice o n c,.int .i64 (h:Int),.int .i64 (m:Int),.bool odd'] 61::(bs++rs'.map (Rw.e w0.heap.size))) w'∧Kp w w':=by
 have hrl0:rs.length=n:=by rw [hd.len];exact len_mkM
 have kk:=KpF.r w
 have HF:=hide hF
 have HH:=hide hh
 have HM:=hide hm
 have HK1:=hide hk
 have HK2:=hide hk2
 clear hF
 go_enter Tryz.func61,Tryz.ntmps61
 have hs:=hst
 clear hst
 refine wp_seq_k fun K1 hK1=>rg [0,1] ?_
 refine sq ?_
 refine .al hs ?_;clear hs;intro p_b1 w_1 hs n1 kb_b1
 refine sm ?_
 apply wpSq_end
 refine hK1 _ _ ?_
 refine wp_seq_k ?_
 intro K2 hK2
 refine wp_seq_k fun K3 hK3=>rg [0,1] ?_
 refine sm ?_
 refine sm ?_
 apply wpSq_end
 refine hK3 _ _ ?_
 refine wp_block ?_
 have hs:=hs.perm ((List.Perm.swap _ _ _).trans (List.Perm.cons _ (List.Perm.swap _ _ _)))
 have k0_1:=kb n1
 replace hd:=hd.k k0_1
 replace kk:=kk.k k0_1
 have hd2:=hs.2.1
 go_loopg [6] (h - k) (fun kz s6 wr=>∃i:Nat,s6 = .int .i64 (i:Int)∧i+kz=h∧k≤i∧Hid (∀r,k≤r→r<i→∀q,k≤q→q<m→F r q=(0,0))∧RD wr rs (mkM n W F)∧KpF w wr ∧
  St w0 (ls w0.heap.size 24 1 (.slice o n c) n (rs.map (·.v))::bx pt #[.slice o n c,.int .i64 (h:Int),.int .i64 (m:Int),.bool odd] 61::bx p_b1 #[.bool false,.slice none 0 0,.bool false,.slice none 0 0] 45::(bs++rs.map (Rw.e w0.heap.size))) wr)
 case atStart=>exact ⟨k,rfl,by omega,Nat.le_refl _,hide (fun r h1 h2=>absurd h1 (by omega)),hd,kk,hs⟩
 case round =>
 clear kk hd hs
 obtain ⟨i,rfl,hih,hki,HZ,hd,kk,hs⟩:=hrel
 have HO := ‹∀(a':Act) (w':World),Handed _ _ a' w'→_›
 obtain ⟨g1,hg1⟩:∃g,gk=g:=⟨_,rfl⟩
 by_cases hi:i<h
 ·have HI:=hide hi
  have HIN:=hide (show i<n by omega)
  refine wp_seq_k ?_
  intro K4 hK4
  refine wp_seq_k fun K5 hK5=>rg [0,1,2,3,4,5] ?_
  refine sm ?_
  refine sm ?_
  refine sr ?_
  refine sr ?_
  refine sq ?_
  refine .r4 hs.g1.f4 ?_
  refine sr ?_
  apply wpSq_end
  refine hK5 _ _ ?_
  refine ct ?_
  refine wp_skip ?_
  refine hK4 _ _ ?_
  refine wp_seq_k ?_
  intro K6 hK6
  refine wp_block ?_
  refine wp_seq_k fun K7 hK7=>rg [0,1] ?_
  refine sm ?_
  refine sm ?_
  apply wpSq_end
  refine hK7 _ _ ?_
  refine wp_block ?_
  have hd3:=hs.2.1
  go_loopg [7] (m - k) (fun kz s7 wr=>∃j:Nat,s7 = .int .i64 (j:Int)∧j+kz=m∧k≤j∧Hid (∀q,k≤q→q<j→F i q=(0,0))∧RD wr rs (mkM n W F)∧KpF w wr ∧
   St w0 (ls w0.heap.size 24 1 (.slice o n c) n (rs.map (·.v))::bx pt #[.slice o n c,.int .i64 (h:Int),.int .i64 (m:Int),.bool odd] 61::bx p_b1 #[.bool false,.slice none 0 0,.bool false,.slice none 0 0] 45::(bs++rs.map (Rw.e w0.heap.size))) wr)
  case atStart=>exact ⟨k,rfl,by have:=HK2.out;omega,Nat.le_refl _,hide (fun q h1 h2=>absurd h1 (by omega)),hd,kk,hs⟩
  case round =>
  clear hd kk hs
  obtain ⟨j,rfl,hjm,hkj,HZJ,hd,kk,hs⟩:=hrel
  by_cases hj:j<m
  ·have HJ:=hide hj
   have HJW:=hide (show j<W by have:=HM.out;omega)
   obtain ⟨r1,gr,cr,xs,r2,er,hr1,hrv,hx,hs⟩:=hs.row (bs:=bx pt #[.slice o n c,.int .i64 (h:Int),.int .i64 (m:Int),.bool odd] 61::bx p_b1 #[.bool false,.slice none 0 0,.bool false,.slice none 0 0] 45::bs) hd (p:=i) (K:=W) (by rw [len_mkM];exact HIN.out) (by rw [mkM_row HIN.out];simp) (by have:=HJW.out;omega)
   have ER:=hide er
   clear er
   have LO:Lst wr w0.heap.size 24 1 (.slice o n c) n _:=hs.1.2.1.1
   obtain ⟨gO,curO,rfl,xO,hcO⟩:=LO.box (by have:=HIN.out;omega)
   have eO:=hcO _ _ hrv
   have LR:Lst wr w0.heap.size 45 4 (.slice (some ⟨gr,0,none⟩) W cr) W xs:=hs.1.1.1
   obtain ⟨gr',curR,eR,xR,hcR⟩:=LR.box (by have:=HJW.out;omega)
   simp only [Option.some.injEq,Addr.mk.injEq,and_true] at eR
   obtain rfl:gr=gr':=eR
   rw [mkM_row HIN.out] at hx
   obtain ⟨a1,a2,a3,a4,a5,a6,a7,a8,e1,e2,e3,e4,z1,z2⟩:=hx.els j (by simpa using HJW.out)
   rw [show ((List.range W).map (F i))[j]'(by simpa using HJW.out)=F i j by simp] at z1 z2
   replace e1:=hcR _ _ e1
   replace e2:=hcR _ _ e2
   replace e3:=hcR _ _ e3
   replace e4:=hcR _ _ e4
   have LB:=hide (HF.out i hki HI.out j hkj hj)
   replace z1:=z1.zn LB.out.1
   replace z2:=z2.zn LB.out.2
   have HP:=hide (show (F i j=(0,0))=((F i j).1=0∧(F i j).2=0) by rw [Prod.ext_iff])
   obtain ⟨P,hP⟩:∃P,F i j=P:=⟨_,rfl⟩
   have HPE:=hide hP
   rw [hP] at z1 z2 HP LB
   clear LO hcO hrv LR hcR hx hP
   by_cases h0:P.1=0∧P.2=0
   ·have HD:=hide (decide_eq_true h0)
    have HY:=hide (HPE.out.trans (Eq.mpr HP.out h0))
    clear h0
    refine wp_seq_k ?_
    intro K8 hK8
    refine wp_seq_k fun K9 hK9=>rg [0,1,2,3,4,5] ?_
    refine sm ?_
    refine sm ?_
    refine sr ?_
    refine sr ?_
    refine sq ?_
    refine .r4 hs.g2.f4 ?_
    refine sr ?_
    apply wpSq_end
    refine hK9 _ _ ?_
    refine ct ?_
    refine wp_skip ?_
    refine hK8 _ _ ?_
    refine wp_seq_k ?_
    intro K10 hK10
    refine wp_block ?_
    refine wp_seq_k fun K11 hK11=>rg [0,1,2,3,4,5,6,7,8,9,10,11] ?_
    refine sm ?_
    refine sr ?_
    refine sr ?_
    refine sq ?_
    refine .r4 hs.g2.f4 ?_
    refine sm ?_
    refine sr ?_
    refine sq ?_
    refine .r1 (xO.cell _ eO) ?_
    refine sm ?_
    refine sr ?_
    refine sq ?_
    refine .r4 ⟨xR.cell _ e1,xR.cell _ e2,xR.cell _ e3,xR.cell _ e4⟩ ?_
    refine sq ?_
    intro K hK
    go_big_op
    go_fit (isZero_any (.mk' z1 z2) (by omega) (by omega))
    rintro e w_4 ⟨rfl,hb_4⟩
    replace xO:=xO.bl hb_4;replace xR:=xR.bl hb_4;replace hs:=hs.bl hb_4
    rw [HD.out]
    refine hK _ _ rfl trivial ?_
    clear hK K
    refine sr ?_
    apply wpSq_end
    refine hK11 _ _ ?_
    refine cf ?_
    refine wp_skip ?_
    refine hK10 _ _ ?_
    refine rg [0,1,2] ?_
    refine sm ?_
    refine sr ?_
    refine sm ?_
    apply wpSq_end
    have k0_1:=kb hb_4
    replace hd:=hd.k k0_1
    replace kk:=kk.k k0_1
    refine ‹∀(a':Act) (w':World),Handed _ _ a' w'→_› _ _ ?_
    have e9:=ER.out
    subst e9
    have hs:=hs.unrow (bs:=bx pt #[.slice (some ⟨gO,0,none⟩) n c,.int .i64 (h:Int),.int .i64 (m:Int),.bool odd] 61::bx p_b1 #[.bool false,.slice none 0 0,.bool false,.slice none 0 0] 45::bs)
    go_roundg (gk - 1)
    case rel=>exact ⟨j+1,by rfl,by omega,by omega,hide (fun q h1 h2=>by
     rcases Nat.lt_or_ge q j with h3 | h3
     ·exact HZJ.out q h1 h3
     ·obtain rfl:q=j:=by omega
      exact HY.out),hd,kk,hs⟩
    case measure=>omega
   ·have HD:=hide (decide_eq_false h0)
    have HNZ:=hide (show F i j≠(0,0) from fun c=>h0 (Eq.mp HP.out (HPE.out.symm.trans c)))
    clear h0
    refine wp_seq_k ?_
    intro K8 hK8
    refine wp_seq_k fun K9 hK9=>rg [0,1,2,3,4,5] ?_
    refine sm ?_
    refine sm ?_
    refine sr ?_
    refine sr ?_
    refine sq ?_
    refine .r4 hs.g2.f4 ?_
    refine sr ?_
    apply wpSq_end
    refine hK9 _ _ ?_
    refine ct ?_
    refine wp_skip ?_
    refine hK8 _ _ ?_
    refine wp_seq_k ?_
    intro K10 hK10
    refine wp_block ?_
    refine wp_seq_k fun K11 hK11=>rg [0,1,2,3,4,5,6,7,8,9,10,11] ?_
    refine sm ?_
    refine sr ?_
    refine sr ?_
    refine sq ?_
    refine .r4 hs.g2.f4 ?_
    refine sm ?_
    refine sr ?_
    refine sq ?_
    refine .r1 (xO.cell _ eO) ?_
    refine sm ?_
    refine sr ?_
    refine sq ?_
    refine .r4 ⟨xR.cell _ e1,xR.cell _ e2,xR.cell _ e3,xR.cell _ e4⟩ ?_
    refine sq ?_
    intro K hK
    go_big_op
    go_fit (isZero_any (.mk' z1 z2) (by omega) (by omega))
    rintro e w_4 ⟨rfl,hb_4⟩
    replace xO:=xO.bl hb_4;replace xR:=xR.bl hb_4;replace hs:=hs.bl hb_4
    rw [HD.out]
    refine hK _ _ rfl trivial ?_
    clear hK K
    refine sr ?_
    apply wpSq_end
    refine hK11 _ _ ?_
    refine ct ?_
    refine wp_seq_k fun K12 hK12=>rg [0,1,2,3,4] ?_
    refine sm ?_
    refine sm ?_
    refine sm ?_
    refine sm ?_
    have k0_1:=kb hb_4
    replace hd:=hd.k k0_1
    have e9:=ER.out
    subst e9
    have hs:=hs.unrow (bs:=bx pt #[.slice (some ⟨gO,0,none⟩) n c,.int .i64 (h:Int),.int .i64 (m:Int),.bool odd] 61::bx p_b1 #[.bool false,.slice none 0 0,.bool false,.slice none 0 0] 45::bs)
    have HKN:=hide (show k<n by have:=HI.out;omega)
    have HKW:=hide (show k<W by have:=HJW.out;omega)
    refine sq ?_
    intro K hK
    go_big_op
    go_fit (exchange_any hs kb_bt hd HIN.out HKN.out HJW.out HKW.out hn hW)
    have bb5:=hs.b
    rintro e w_5 ⟨rs2,rfl,q1,hd2,hs',kp5⟩
    clear hs;have hs:=hs';clear hs'
    have bc5:=hs.b
    clear xO
    clear xR
    clear bb5 bc5
    obtain ⟨r3,g3,c3,xs3,r4,rfl,hr3,hrv,hx,hs⟩:=hs.row (bs:=bx pt #[.slice (some ⟨gO,0,none⟩) n c,.int .i64 (h:Int),.int .i64 (m:Int),.bool (xo odd i j k)] 61::bx p_b1 #[.bool false,.slice none 0 0,.bool false,.slice none 0 0] 45::bs) hd2 (p:=k) (K:=W) (by rw [len_mkM];exact HKN.out) (by rw [mkM_row HKN.out];simp) (by have:=HKW.out;omega)
    have LO:Lst w_5 w0.heap.size 24 1 (.slice (some ⟨gO,0,none⟩) n c) n _:=hs.1.2.1.1
    obtain ⟨gO',curO',eO',xO,hcO⟩:=LO.box (by have:=HKN.out;omega)
    simp only [Option.some.injEq,Addr.mk.injEq,and_true] at eO'
    obtain rfl:gO=gO':=eO'
    have eO2:=hcO _ _ hrv
    have LR:Lst w_5 w0.heap.size 45 4 (.slice (some ⟨g3,0,none⟩) W c3) W xs3:=hs.1.1.1
    obtain ⟨g4,curR',eR',xR,hcR⟩:=LR.box (by have:=HKW.out;omega)
    simp only [Option.some.injEq,Addr.mk.injEq,and_true] at eR'
    obtain rfl:g3=g4:=eR'
    rw [mkM_row HKN.out] at hx
    obtain ⟨b1,b2,b3,b4,b5,b6,b7,b8,e5,e6,e7,e8,z3,z4⟩:=hx.els k (by simpa using HKW.out)
    rw [show ((List.range W).map (fun q=>F (swr i k k) (swr j k q)))[k]'(by simpa using HKW.out)=F i j by simp [swr_k]] at z3 z4
    replace e5:=hcR _ _ e5
    replace e6:=hcR _ _ e6
    replace e7:=hcR _ _ e7
    replace e8:=hcR _ _ e8
    clear LO hcO LR hcR hx
    refine hK _ _ rfl trivial ?_
    clear hK K
    apply wpSq_end
    refine hK12 _ _ ?_
    refine wp_seq_k fun K13 hK13=>rg [0,1,2,3,4,5,6,7,8,9,10,11] ?_
    refine sm ?_
    refine sr ?_
    refine sr ?_
    refine sq ?_
    refine .r4 hs.g2.f4 ?_
    refine sm ?_
    refine sr ?_
    refine sq ?_
    refine .r1 (xO.cell _ eO2) ?_
    refine sm ?_
    refine sr ?_
    refine sq ?_
    refine .r4 ⟨xR.cell _ e5,xR.cell _ e6,xR.cell _ e7,xR.cell _ e8⟩ ?_
    refine sq ?_
    refine .s4 hs.g3 (fun _=>hs.u3 kb_b1) ?_;clear hs;intro w_6 hs hd6 ho6
    replace xO:=xO.frame ho6 (hs.ne 1 3);replace xR:=xR.frame ho6 (hs.ne 0 3)
    refine sm ?_
    apply wpSq_end
    refine hK13 _ _ ?_
    refine wp_ret ?_
    have k2_3:=ko hd6 ho6
    replace hd2:=hd2.k k2_3
    have k0_3:=(k0_1.t kp5).o hd6 ho6
    replace kk:=kk.k k0_3
    replace z3:=z3.k k2_3
    replace z4:=z4.k k2_3
    try dsimp only [Exit.then,Exit.inBlock]
    obtain ⟨r0_0,r0_1,r0_2,r0_3⟩:=hs.g3.f4
    refine bodyPost_ret (v:=(.tuple #[(.agg #[.bool b1,.slice b2 b3 b4,.bool b5,.slice b6 b7 b8]),(.bool true)])) (by simp [results,Tryz.results61,go_sem,r0_0,r0_1,r0_2,r0_3]) rfl ?_
    exact ⟨_,true,_,_,_,F i j,rfl,.mk' z3 z4,.inl ⟨rfl,i,j,hki,HI.out,hkj,HJ.out,HNZ.out,rfl,rfl,rfl⟩,q1,hd2,(hs.unrow (bs:=_::_::bs)).sub (.cons_cons _ (.cons_cons _ (.cons _ (List.Sublist.refl _)))),kk.kp⟩
  ·obtain rfl:m=j:=by omega
   have HX:=hide hj
   refine wp_seq_k ?_
   intro K8 hK8
   refine wp_seq_k fun K9 hK9=>rg [0,1,2,3,4,5] ?_
   refine sm ?_
   refine sm ?_
   refine sr ?_
   refine sr ?_
   refine sq ?_
   refine .r4 hs.g1.f4 ?_
   refine sr ?_
   apply wpSq_end
   refine hK9 _ _ ?_
   refine cf ?_
   refine wp_exit ?_
   refine hK6 _ _ ?_
   refine rg [0,1,2] ?_
   refine sm ?_
   refine sr ?_
   refine sm ?_
   apply wpSq_end
   refine HO _ _ ?_
   go_roundg (g1 - 1)
   case rel=>exact ⟨i+1,by rfl,by omega,by omega,hide (fun r h1 h2 q h3 h4=>by
    rcases Nat.lt_or_ge r i with h5 | h5
    ·exact HZ.out r h1 h5 q h3 h4
    ·obtain rfl:r=i:=by omega
     exact HZJ.out q h3 h4),hd,kk,hs⟩
   case measure=>omega
 ·obtain rfl:h=i:=by omega
  have HX:=hide hi
  refine wp_seq_k ?_
  intro K4 hK4
  refine wp_seq_k fun K5 hK5=>rg [0,1,2,3,4,5] ?_
  refine sm ?_
  refine sm ?_
  refine sr ?_
  refine sr ?_
  refine sq ?_
  refine .r4 hs.g1.f4 ?_
  refine sr ?_
  apply wpSq_end
  refine hK5 _ _ ?_
  refine cf ?_
  refine wp_exit ?_
  refine hK2 _ _ ?_
  refine wp_seq_k fun K6 hK6=>rg [0,1,2] ?_
  refine sr ?_
  refine sq ?_
  refine .s4 hs.g2 (fun _=>hs.u2 kb_b1) ?_;clear hs;intro w_3 hs hd3 ho3
  refine sm ?_
  apply wpSq_end
  refine hK6 _ _ ?_
  refine wp_ret ?_
  have k0_1:=ko hd3 ho3
  replace hd:=hd.k k0_1
  replace kk:=kk.k k0_1
  try dsimp only [Exit.then,Exit.inBlock]
  obtain ⟨r0_0,r0_1,r0_2,r0_3⟩:=hs.g2.f4
  refine bodyPost_ret (v:=(.tuple #[(.agg #[.bool false,.slice none 0 0,.bool false,.slice none 0 0]),(.bool false)])) (by simp [results,Tryz.results61,go_sem,r0_0,r0_1,r0_2,r0_3]) rfl ?_
  exact ⟨_,false,rs,F,odd,(0,0),rfl,.mk' (zc_zero _) (zc_zero _),.inr ⟨rfl,rfl,rfl,rfl,fun r h1 h2 q h3 h4=>HZ.out r h1 h2 q h3 h4⟩,hrl0,hd,hs.sub (.cons_cons _ (.cons_cons _ (.cons _ (List.Sublist.refl _)))),kk.kp⟩
end
def Agr (n W k:Nat) (A F:Nat→Nat→Int × Int):Prop:=∀i,i<n→∀j,j<W→k≤i→k≤j→F i j=Dt.D k A i j
def Elm (k:Nat) (A F:Nat→Nat→Int × Int) (i j:Nat):Nat→Nat→Int × Int:=fun p q=>if k<p∧k<q∧(p<i∨(p=i∧q<j)) then Dt.D (k+1) A p q else F p q
section
variable {n W k i j:Nat} {A F:Nat→Nat→Int × Int}
theorem Elm_0:mkM n W F=mkM n W (Elm k A F (k+1) (k+1)):=mkM_eq rfl rfl fun p _ q _=>by unfold Elm;rw [if_neg (by omega)]
theorem Elm_here (h:i<i+1):Elm k A F i j i j=F i j:=by unfold Elm;rw [if_neg (by omega)]
theorem Elm_k:Elm k A F i j i k=F i k:=by unfold Elm;rw [if_neg (by omega)]
theorem Elm_up {q:Nat}:Elm k A F i j k q=F k q:=by unfold Elm;rw [if_neg (by omega)]
theorem Elm_step (hi:k<i) (hj:k<j):upd (Elm k A F i j) i j (Dt.D (k+1) A i j)=Elm k A F i (j+1):=by
 funext p q
 unfold upd Elm
 by_cases h:p=i∧q=j
 ·rw [if_pos h,if_pos (by omega),h.1,h.2]
 ·rw [if_neg h]
  by_cases h2:k<p∧k<q∧(p<i∨(p=i∧q<j))
  ·rw [if_pos h2,if_pos (by omega)]
  ·rw [if_neg h2,if_neg (by omega)]
theorem Elm_row:mkM n W (Elm k A F i W)=mkM n W (Elm k A F (i+1) (k+1)):=mkM_eq rfl rfl fun p _ q hq=>by
 unfold Elm
 by_cases h2:k<p∧k<q∧(p<i∨(p=i∧q<W))
 ·rw [if_pos h2,if_pos (by omega)]
 ·rw [if_neg h2,if_neg (by omega)]
theorem Elm_end:Agr n W (k+1) A (Elm k A F n (k+1)):=fun p hp q hq h1 h2=>by unfold Elm;rw [if_pos (by omega)]
theorem Elm_div (h:Agr n W k A F) (hi:i<n) (hj:j<W) (hki:k<i) (hkj:k<j) (hkn:k<n) (hkW:k<W) (hp:Dt.det k A≠0) :
  sP (mP (F i j) (Dt.D k A k k)) (mP (F i k) (F k j))=mP (Dt.det k A) (Dt.D (k+1) A i j):=by
 have h2:=Dt.step noz (k:=k) (A:=A) (i:=i) (j:=j) hp
 rw [h i hi j hj (by omega) (by omega),h i hi k hkW (by omega) (Nat.le_refl _),h k hkn j hj (Nat.le_refl _) (by omega)]
 show (Dt.D k A i j*Dt.D k A k k - Dt.D k A i k*Dt.D k A k j)=Dt.det k A*Dt.D (k+1) A i j
 rw [h2];grind
def pvs (A:Nat→Nat→Int × Int) (k:Nat):List (Int × Int):=(List.range k).map fun m=>Dt.det (m+1) A
theorem pvs_succ:pvs A (k+1)=pvs A k++[Dt.det (k+1) A]:=by unfold pvs;rw [List.range_succ,List.map_append];rfl
theorem pvs_congr {B:Nat→Nat→Int × Int} (h:∀m,m≤k→Dt.det m B=Dt.det m A):pvs A k=pvs B k:=List.map_congr_left fun m hm=>(h _ (by have:=List.mem_range.1 hm;omega)).symm
theorem pvs_len:(pvs A k).length=k:=by simp [pvs]
end
section
variable {w0 w:World} {v:Value} {n p q K:Nat} {rs a b r2:List Rw} {bs:List En} {Ms:List (List (Int × Int))}
theorem St.rows2 (hs:St w0 (ls w0.heap.size 24 1 v n (rs.map (·.v))::(bs++rs.map (Rw.e w0.heap.size))) w) (hd:RD w rs Ms) (hpq:p<q) (hq:q<Ms.length) (hK:Ms[p].length=K) (hK2:Ms[q].length=K) (h0:0<K) :
  ∃a gp cp xp b gq cq xq r2,rs=a++(⟨.slice (some ⟨gp,0,none⟩) K cp,K,xp⟩:Rw)::(b++(⟨.slice (some ⟨gq,0,none⟩) K cq,K,xq⟩:Rw)::r2)∧(a++(⟨.slice (some ⟨gp,0,none⟩) K cp,K,xp⟩:Rw)::b).length=q ∧
   (rs.map (·.v))[p]? = some (.slice (some ⟨gp,0,none⟩) K cp)∧(rs.map (·.v))[q]? = some (.slice (some ⟨gq,0,none⟩) K cq)∧GD w xp Ms[p]∧GD w xq Ms[q] ∧
   St w0 (ls w0.heap.size 45 4 (.slice (some ⟨gq,0,none⟩) K cq) K xq::ls w0.heap.size 45 4 (.slice (some ⟨gp,0,none⟩) K cp) K xp::ls w0.heap.size 24 1 v n (rs.map (·.v))::(bs++(a++(b++r2)).map (Rw.e w0.heap.size))) w:=by
 obtain ⟨r1,gq,cq,xq,r2,rfl,h1,h2,h3,hs⟩:=hs.row hd hq hK2 h0
 obtain ⟨a,r,b',e,h4,h5,h6⟩:=hd.at' (p:=p) (by omega)
 have hb:∃b,r1=a++r::b:=by
  rcases List.append_eq_append_iff.1 e with ⟨c,e1,e2⟩ | ⟨c,e1,e2⟩
  ·exfalso;have:=congrArg List.length e1;simp at this;omega
  ·cases c with
   | nil=>exfalso;simp at e1;have:=congrArg List.length e1;omega
   | cons x t=>simp only [List.cons_append,List.cons.injEq] at e2;exact ⟨t,by rw [e1,e2.1]⟩
 obtain ⟨b,rfl⟩:=hb
 obtain ⟨rv,rn,xp⟩:=r
 simp only at h5 h6
 rw [hK] at h5
 subst h5
 have hs2:=hs.perm (cs:=ls w0.heap.size 45 4 (.slice (some ⟨gq,0,none⟩) rn cq) rn xq::Rw.e w0.heap.size ⟨rv,rn,xp⟩::ls w0.heap.size 24 1 v n (((a++(⟨rv,rn,xp⟩:Rw)::b)++(⟨.slice (some ⟨gq,0,none⟩) rn cq,rn,xq⟩:Rw)::r2).map (·.v))::(bs++(a++(b++r2)).map (Rw.e w0.heap.size))) (by
  refine List.Perm.cons _ ((List.Perm.cons _ ?_).trans (List.Perm.swap _ _ _))
  rw [List.append_assoc,List.cons_append,List.map_append,List.map_cons,List.map_append (l₁:=a),←List.append_assoc,←List.append_assoc]
  exact List.perm_middle)
 have L:Lst w w0.heap.size 45 4 rv rn xp:=hs2.1.2.1.1
 obtain ⟨o,c,rfl⟩:=L.shape
 obtain ⟨gp,cur,rfl,_,_⟩:=L.box h0
 exact ⟨a,gp,c,xp,b,gq,cq,xq,r2,by rw [List.append_assoc];rfl,h1,by rw [List.map_append,List.map_append,List.map_cons,List.append_assoc,List.getElem?_append_right (by simp [h4])];simp [h4],h2,h6,h3,hs2⟩
theorem St.unrows2 {x y:Value} {xp xq xq':List Value} (hs:St w0 (ls w0.heap.size 45 4 y K xq'::ls w0.heap.size 45 4 x K xp::ls w0.heap.size 24 1 v n ((a++(⟨x,K,xp⟩:Rw)::(b++(⟨y,K,xq⟩:Rw)::r2)).map (·.v))::(bs++(a++(b++r2)).map (Rw.e w0.heap.size))) w) :
  St w0 (ls w0.heap.size 24 1 v n ((a++(⟨x,K,xp⟩:Rw)::(b++(⟨y,K,xq'⟩:Rw)::r2)).map (·.v))::(bs++(a++(⟨x,K,xp⟩:Rw)::(b++(⟨y,K,xq'⟩:Rw)::r2)).map (Rw.e w0.heap.size))) w:=by
 have e:(a++(⟨x,K,xp⟩:Rw)::(b++(⟨y,K,xq⟩:Rw)::r2)).map (·.v)=(a++(⟨x,K,xp⟩:Rw)::(b++(⟨y,K,xq'⟩:Rw)::r2)).map (·.v):=by simp
 rw [e] at hs
 refine hs.perm ?_
 refine (List.Perm.cons _ (List.Perm.swap _ _ _)).trans ((List.Perm.swap _ _ _).trans (List.Perm.cons _ ?_))
 have h1:(Rw.e w0.heap.size ⟨y,K,xq'⟩::Rw.e w0.heap.size ⟨x,K,xp⟩::(bs++(a++(b++r2)).map (Rw.e w0.heap.size))).Perm (bs++(a++(⟨x,K,xp⟩:Rw)::(b++(⟨y,K,xq'⟩:Rw)::r2)).map (Rw.e w0.heap.size)):=by
  refine (List.Perm.swap _ _ _).trans ?_
  refine (List.perm_middle (l₁:=bs)).symm.cons _ |>.trans ?_
  refine (List.perm_middle (l₁:=bs)).symm.trans (List.Perm.append_left _ ?_)
  rw [←List.map_cons,←List.map_cons]
  refine List.Perm.map _ ?_
  refine List.Perm.trans ?_ (List.perm_middle (l₁:=a)).symm
  refine List.Perm.cons _ ?_
  rw [←List.append_assoc,←List.append_assoc]
  exact (List.perm_middle (l₁:=a++b)).symm
 exact h1
end
end Go.Proofs.YthmolpepinolkaaGreat
