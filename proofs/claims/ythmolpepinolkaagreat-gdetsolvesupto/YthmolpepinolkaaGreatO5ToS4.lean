/- The reference's New. -/
import Derived.Test.YthmolpepinolkaaGreatI5ToO3
namespace Go.Proofs.YthmolpepinolkaaGreat
open Go Go.RowKit Dig
set_option linter.unusedVariables false
section
variable {w:World} {r k:Nat}
theorem mkM_snoc {F:Nat→Nat→Int × Int} {i:Nat}:mkM (i+1) k F=mkM i k F++[(List.range k).map (F i)]:=mapr_succ _ i
set_option maxHeartbeats 4000000 in
set_option maxRecDepth 20000 in
theorem rNew_any (hr:r≤1000000) (hk:k≤1000000) :
  Calls Tryz.prog 74 #[.int .i64 (r:Int),.int .i64 (k:Int)] w fun e w'=>∃o c rs,e = .returned (.slice o r c)∧rs.length=r∧St w (Mx w.heap.size (.slice o r c) rs) w'∧RD w' rs (mkM r k fun _ _=>(0,0))∧Below w.heap.size w w':=by
 go_enter Tryz.func74,Tryz.ntmps74
 have hs:=St.nil w
 refine zk fun K1 hK1=>rg [0] ?_
 refine sm (ze (hK1 _ _ ?_))
 refine zk fun K2 hK2=>rg [0] ?_
 refine sm (ze (hK2 _ _ ?_))
 refine zk fun K3 hK3 => ?_
 refine zk fun K4 hK4=>rg [0] ?_
 refine sm (ze (hK4 _ _ ?_))
 refine wp_block ?_
 have hd1:=hs.2.1
 go_loopg [5,6] r (fun kk s5 s6 wr=>∃(i:Nat) (o:Option Addr) (c:Nat) (rs:List Rw),s6 = .int .i64 (i:Int)∧s5 = .slice o i c∧i+kk=r∧rs.length=i∧RD wr rs (mkM i k fun _ _=>(0,0))∧St w (ls w.heap.size 24 1 (.slice o i c) i (rs.map (·.v))::rs.map (Rw.e w.heap.size)) wr)
 case atStart=>exact⟨0,none,0,[],rfl,rfl,by omega,rfl,trivial,hs.l0 _ _⟩
 case round =>
 clear hs
 obtain⟨i,o,c,rs,rfl,rfl,hik,hyl,hd,hs⟩:=hrel
 by_cases hi:i<r
 ·have HX:=hide hi
  refine zk fun K5 hK5 => ?_
  refine zk fun K6 hK6=>rg [0,1,2] ?_
  refine xmm ?_
  refine sr (ze (hK6 _ _ ?_))
  refine ct ?_
  refine wp_skip ?_
  refine hK5 _ _ ?_
  refine zk fun K7 hK7 => ?_
  refine wp_block ?_
  refine zk fun K8 hK8=>rg [0,1,2] ?_
  refine sm ?_
  refine sq ?_
  refine .mk (n:=k) hs ?_ (by first | rfl | omega) (by omega);clear hs;intro g_l xs_l w_2 hs e_l n2 kb_l
  refine sm (ze (hK8 _ _ ?_))
  refine zk fun K9 hK9 => ?_
  refine zk fun K10 hK10=>rg [0] ?_
  refine sm (ze (hK10 _ _ ?_))
  refine wp_block ?_
  have HO := ‹∀(a':Act) (w':World),Handed _ _ a' w'→_›
  obtain⟨g1,hg1⟩:∃g,gk=g:=⟨_,rfl⟩
  have k0_1:=kb n2
  replace hd:=hd.k k0_1
  have hd3:=hs.2.1
  go_loopg [8] k (fun kk s8 wr=>∃(j:Nat) (ys zs:List Value),s8 = .int .i64 (j:Int)∧j+kk=k∧RD wr rs (mkM i k fun _ _=>(0,0))∧ys.length=j*4∧GD wr ys ((List.range j).map fun _=>(0,0)) ∧
   St w (ls w.heap.size 45 4 (.slice (some ⟨g_l,0,none⟩) k k) k (ys++zs)::ls w.heap.size 24 1 (.slice o i c) i (rs.map (·.v))::rs.map (Rw.e w.heap.size)) wr)
  case atStart=>exact⟨0,[],xs_l,rfl,by omega,hd,rfl,GD.nil _,hs⟩
  case round =>
  clear hd hs
  obtain⟨j,ys,zs,rfl,hjk,hd,hyz,hz,hs⟩:=hrel
  have hlen:=hs.1.1.1.1.1
  rw[List.length_append,hyz] at hlen
  by_cases hj:j<k
  ·obtain⟨z0,z1,z2,z3,ws,rfl⟩:=four_of (zs:=zs) (by omega)
   refine zk fun K11 hK11 => ?_
   refine zk fun K12 hK12=>rg [0,1,2] ?_
   refine xmm ?_
   refine sr (ze (hK12 _ _ ?_))
   refine ct ?_
   refine wp_skip ?_
   refine hK11 _ _ ?_
   refine zk fun K13 hK13 => ?_
   refine wp_block ?_
   refine rg [0,1,2,3,4] ?_
   refine xmm ?_
   refine sq ?_
   intro K hK
   go_big_op
   go_fit (rgI_any 0 0 _ (by decide) (by decide) (by decide) (by decide))
   rintro e w_4 ⟨_,rfl,⟨n_va,o_va,k_va,c_va,n_vb,o_vb,k_vb,c_vb,rfl,v1,v2⟩,hb_4⟩
   replace hs:=hs.bl hb_4
   refine hK _ _ rfl trivial ?_
   clear hK K
   refine sr ?_
   refine sq ?_
   refine .i4 0 hs (j:=j) (by omega) ?_;clear hs;intro w_5 hs kp5 hd5 ho5 hw5;simp only[List.set_cons_zero] at hs
   refine ze (hK13 _ _ ?_)
   refine rg [0,1,2] ?_
   refine xmr ?_
   refine sm ?_
   apply wpSq_end
   have k0_2:=(kb hb_4).t kp5
   replace hd:=hd.k k0_2
   replace hz:=hz.k k0_2
   have k1_2:=kp5
   replace v1:=v1.k k1_2
   replace v2:=v2.k k1_2
   refine ‹∀(a':Act) (w':World),Handed _ _ a' w'→_› _ _ ?_
   rw[setL_app hyz] at hs
   go_roundg (gk - 1)
   case rel=>exact⟨j+1,_,ws,by rfl,by omega,hd,by simp;omega,by rw[mapr_succ];exact hz.snoc (.mk' v1 v2),hs⟩
   case measure=>omega
  ·obtain rfl:k=j:=by omega
   obtain rfl:zs=[]:=List.eq_nil_of_length_eq_zero (by omega)
   rw[List.append_nil] at hs
   have HX:=hide hj
   refine zk fun K11 hK11 => ?_
   refine zk fun K12 hK12=>rg [0,1,2] ?_
   refine xmm ?_
   refine sr (ze (hK12 _ _ ?_))
   refine cf ?_
   refine wp_exit ?_
   refine hK9 _ _ ?_
   refine rg [0,1,2,3,4] ?_
   refine xmm ?_
   refine sq ?_
   refine .al hs ?_;clear hs;intro p_b1 w_4 hs n4 kb_b1
   refine sq ?_
   refine .ap 2 hs hs.g0 ?_;clear hs;intro o_L_5 c_L_5 w_5 hs kp5 hw5;simp only[List.set_cons_succ,List.set_cons_zero] at hs
   refine sm (ze (hK7 _ _ ?_))
   refine rg [0,1,2] ?_
   refine xmr ?_
   refine sm ?_
   apply wpSq_end
   have k0_2:=(kb n4).t kp5
   replace hd:=hd.k k0_2
   replace hz:=hz.k k0_2
   refine HO _ _ ?_
   have hs:=(hs.sub (.cons _ (List.Sublist.refl _))).perm (cs:=ls w.heap.size 24 1 (.slice o_L_5 (i+1) c_L_5) (i+1) ((rs++[(⟨.slice (some ⟨g_l,0,none⟩) k k,k,ys⟩:Rw)]).map (·.v))::(rs++[(⟨.slice (some ⟨g_l,0,none⟩) k k,k,ys⟩:Rw)]).map (Rw.e w.heap.size)) (by
    rw[List.map_append,List.map_append]
    exact(List.Perm.swap _ _ _).trans (List.Perm.cons _ (List.perm_append_singleton _ _).symm))
   go_roundg (g1 - 1)
   case rel=>exact⟨i+1,_,_,_,by rfl,by rfl,by omega,by simp;omega,by rw[mkM_snoc];exact hd.snoc (by simp) hz,hs⟩
   case measure=>omega
 ·obtain rfl:i=r:=by omega
  have HX:=hide hi
  refine zk fun K5 hK5 => ?_
  refine zk fun K6 hK6=>rg [0,1,2] ?_
  refine xmm ?_
  refine sr (ze (hK6 _ _ ?_))
  refine cf ?_
  refine wp_exit ?_
  refine hK3 _ _ ?_
  refine zk fun K7 hK7=>rg [0,1] ?_
  refine sm ?_
  refine sm (ze (hK7 _ _ ?_))
  refine wp_ret ?_
  try dsimp only [Exit.then,Exit.inBlock]
  refine bodyPost_ret (v:=(.slice o i c)) (by simp[results,Tryz.results74,go_sem]) rfl ?_
  exact⟨_,_,rs,rfl,hyl,(by unfold Mx;rw[hyl];exact hs),hd,hs.b⟩
end
theorem GD.put {w:World} {n1 n2:Bool} {o1 o2:Option Addr} {k1 c1 k2 c2:Nat} {x y:Int} (h1:ZC w (.agg #[.bool n1,.slice o1 k1 c1]) x) (h2:ZC w (.agg #[.bool n2,.slice o2 k2 c2]) y) :
  ∀ {xs:List Value} {ps:List (Int × Int)} {q:Nat},GD w xs ps→q<ps.length →
  GD w (setL xs [(q*4,.bool n1),(q*4+1,.slice o1 k1 c1),(q*4+2,.bool n2),(q*4+3,.slice o2 k2 c2)]) (ps.set q (x,y)):=by
 intro xs
 induction hn:xs.length using Nat.strongRecOn generalizing xs with
 | _ n ih =>
  intro ps q hd hq
  have hl:=hd.len
  match xs,ps,hd with
  | a::b::c::d::xs,p::ps,hd =>
   cases q with
   | zero=>exact⟨.mk' h1 h2,hd.2⟩
   | succ q =>
    have:=ih xs.length (by rw[←hn];simp only[List.length_cons];omega) rfl hd.2 (q:=q) (by simpa using hq)
    simp only[setL,List.set_cons_succ,show (q+1)*4=q*4+1+1+1+1 by omega,List.set_cons_succ,show q*4+1+1+1+1+1=(q*4+1)+1+1+1+1 by omega,show q*4+1+1+1+1+2=(q*4+2)+1+1+1+1 by omega,show q*4+1+1+1+1+3=(q*4+3)+1+1+1+1 by omega]
    exact⟨hd.1,this⟩
  | [],[],_=>exact absurd hq (Nat.not_lt_zero _)
theorem RD.at' {w:World}:∀ {rs:List Rw} {Ms:List (List (Int × Int))} {p:Nat},RD w rs Ms→(hp:p<Ms.length)→∃r1 r r2,rs=r1++r::r2∧r1.length=p∧r.n=Ms[p].length∧GD w r.xs Ms[p]
 | [],[],p,_,hp=>absurd hp (Nat.not_lt_zero _)
 | r::rs,m::Ms,0,h,_=>⟨[],r,rs,rfl,rfl,h.1⟩
 | r::rs,m::Ms,p+1,h,hp=>by
  obtain⟨r1,r',r2,rfl,h1,h2⟩:=RD.at' (p:=p) h.2 (by simpa using hp)
  exact⟨r::r1,r',r2,rfl,by simp[h1],by simpa using h2⟩
theorem RD.set' {w:World} {v:Value} {n:Nat} {xs:List Value} {m:List (Int × Int)} {r:Rw} {r2:List Rw} (hn:n=m.length) (hg:GD w xs m):∀ {r1:List Rw} {Ms:List (List (Int × Int))} {p:Nat},RD w (r1++r::r2) Ms→r1.length=p→RD w (r1++(⟨v,n,xs⟩:Rw)::r2) (Ms.set p m)
 | [],_::Ms,p,h,hp=>by subst hp;exact⟨⟨hn,hg⟩,h.2⟩
 | a::r1,b::Ms,p,h,hp=>by subst hp;exact⟨h.1,RD.set' hn hg h.2 rfl⟩
 | [],[],p,h,_=>h.elim
 | _::_,[],p,h,_=>h.elim
section
variable {w0 w:World} {v:Value} {n p K:Nat} {rs r1 r2:List Rw} {bs:List En} {Ms:List (List (Int × Int))}
theorem St.row (hs:St w0 (ls w0.heap.size 24 1 v n (rs.map (·.v))::(bs++rs.map (Rw.e w0.heap.size))) w) (hd:RD w rs Ms) (hp:p<Ms.length) (hK:Ms[p].length=K) (h0:0<K) :
  ∃r1 g c xs r2,rs=r1++(⟨.slice (some ⟨g,0,none⟩) K c,K,xs⟩:Rw)::r2∧r1.length=p∧(rs.map (·.v))[p]? = some (.slice (some ⟨g,0,none⟩) K c)∧GD w xs Ms[p] ∧
   St w0 (ls w0.heap.size 45 4 (.slice (some ⟨g,0,none⟩) K c) K xs::ls w0.heap.size 24 1 v n (rs.map (·.v))::(bs++(r1++r2).map (Rw.e w0.heap.size))) w:=by
 obtain⟨r1,r,r2,rfl,h1,h2,h3⟩:=hd.at' hp
 obtain⟨rv,rn,xs⟩:=r
 simp only at h2 h3
 rw[hK] at h2
 subst h2
 have hs2:=hs.perm (cs:=Rw.e w0.heap.size ⟨rv,rn,xs⟩::ls w0.heap.size 24 1 v n ((r1++(⟨rv,rn,xs⟩:Rw)::r2).map (·.v))::(bs++(r1++r2).map (Rw.e w0.heap.size))) (by
  refine(List.Perm.cons _ ?_).trans (List.Perm.swap _ _ _)
  rw[List.map_append,List.map_cons,List.map_append,←List.append_assoc,←List.append_assoc]
  exact List.perm_middle)
 have L:Lst w w0.heap.size 45 4 rv rn xs:=hs2.1.1.1
 obtain⟨o,c,rfl⟩:=L.shape
 obtain⟨g,cur,rfl,_,_⟩:=L.box h0
 exact⟨r1,g,c,xs,r2,rfl,h1,by rw[List.map_append,List.map_cons,List.getElem?_append_right (by simp[h1])];simp[h1],h3,hs2⟩
theorem St.unrow {x:Value} {xs xs':List Value} (hs:St w0 (ls w0.heap.size 45 4 x K xs'::ls w0.heap.size 24 1 v n ((r1++(⟨x,K,xs⟩:Rw)::r2).map (·.v))::(bs++(r1++r2).map (Rw.e w0.heap.size))) w) :
  St w0 (ls w0.heap.size 24 1 v n ((r1++(⟨x,K,xs'⟩:Rw)::r2).map (·.v))::(bs++(r1++(⟨x,K,xs'⟩:Rw)::r2).map (Rw.e w0.heap.size))) w:=by
 have e:(r1++(⟨x,K,xs⟩:Rw)::r2).map (·.v)=(r1++(⟨x,K,xs'⟩:Rw)::r2).map (·.v):=by simp
 rw[e] at hs
 refine hs.perm ?_
 refine(List.Perm.swap _ _ _).trans (List.Perm.cons _ ?_)
 rw[List.map_append,List.map_append,List.map_cons,←List.append_assoc,←List.append_assoc]
 exact List.perm_middle.symm
end
def upd (F:Nat→Nat→Int × Int) (p q:Nat) (x:Int × Int):Nat→Nat→Int × Int:=fun i j=>if i=p∧j=q then x else F i j
theorem mkM_set {R K p q:Nat} {F:Nat→Nat→Int × Int} {x:Int × Int} (hp:p<R):(mkM R K F).set p (((List.range K).map (F p)).set q x)=mkM R K (upd F p q x):=by
 refine List.ext_getElem (by simp[mkM]) fun i h1 h2 => ?_
 have hi:i<R:=by simpa [mkM] using h2
 refine List.ext_getElem (by simp only[mkM,List.getElem_set,List.getElem_map,List.getElem_range];split <;> simp) fun j h3 h4 => ?_
 simp only[mkM,List.getElem_set,List.getElem_map,List.getElem_range,upd]
 have hj:j<K:=by simpa [mkM] using h4
 by_cases e:p=i
 ·subst e
  by_cases e2:q=j
  ·subst e2;simp
  ·simp[e2,Ne.symm e2]
 ·simp[e,Ne.symm e]
theorem mkM_row {R K p:Nat} {F:Nat→Nat→Int × Int} (hp:p<R):(mkM R K F)[p]'(by rw[len_mkM];exact hp)=(List.range K).map (F p):=by simp[mkM]
def fi (G:Nat→Nat→Int × Int) (i j:Nat):Nat→Nat→Int × Int:=fun p q=>if p<i∨(p=i∧q<j) then G p q else (0,0)
section
variable {G:Nat→Nat→Int × Int} {i j n k:Nat}
theorem fi_0:(mkM n k fun _ _=>(0,0))=mkM n k (fi G 0 0):=mkM_eq rfl rfl fun p _ q _=>by unfold fi;rw[if_neg (by omega)]
theorem fi_step:upd (fi G i j) i j (G i j)=fi G i (j+1):=by
 funext p q
 unfold upd fi
 by_cases h:p=i∧q=j
 ·rw[if_pos h,if_pos (by omega),h.1,h.2]
 ·rw[if_neg h]
  by_cases h2:p<i∨(p=i∧q<j)
  ·rw[if_pos h2,if_pos (by omega)]
  ·rw[if_neg h2,if_neg (by omega)]
theorem fi_row:mkM n k (fi G i k)=mkM n k (fi G (i+1) 0):=mkM_eq rfl rfl fun p _ q hq=>by
 unfold fi
 by_cases h:p<i+1
 ·rw[if_pos (by omega),if_pos (by omega)]
 ·rw[if_neg (by omega),if_neg (by omega)]
theorem fi_end:mkM n k (fi G n 0)=mkM n k G:=mkM_eq rfl rfl fun p hp q _=>by unfold fi;rw[if_pos (by omega)]
theorem RD.fi {w:World} {r1 r2:List Rw} {r:Rw} {x:Value} {xs:List Value} {n1 n2:Bool} {o1 o2:Option Addr} {k1 c1 k2 c2:Nat} (hd:RD w (r1++r::r2) (mkM n k (Go.Proofs.YthmolpepinolkaaGreat.fi G i j))) (hr:r1.length=i) (hi:i<n) (hj:j<k)
  (hx:GD w xs ((mkM n k (Go.Proofs.YthmolpepinolkaaGreat.fi G i j))[i]'(by rw[len_mkM];exact hi))) (h1:ZC w (.agg #[.bool n1,.slice o1 k1 c1]) (G i j).1) (h2:ZC w (.agg #[.bool n2,.slice o2 k2 c2]) (G i j).2) :
  RD w (r1++(⟨x,k,setL xs [(j*4,.bool n1),(j*4+1,.slice o1 k1 c1),(j*4+2,.bool n2),(j*4+3,.slice o2 k2 c2)]⟩:Rw)::r2) (mkM n k (Go.Proofs.YthmolpepinolkaaGreat.fi G i (j+1))):=by
 rw[mkM_row hi] at hx
 have:=RD.set' (v:=x) (n:=k) (by simp) (GD.put h1 h2 hx (q:=j) (by simpa using hj)) hd hr
 rw[mkM_set hi,show (((G i j).1,(G i j).2):Int × Int)=G i j from rfl,fi_step] at this
 exact this
end
section
variable {w:World} {l n k cm:Nat} {om:Option Addr} {M:List (List (Int × Int))}
set_option maxHeartbeats 4000000 in
set_option maxRecDepth 20000 in
theorem rGram_any (hm:MN l w om M) (hn:M.length=n) (h:gd M) (hk:wd M=k) (hl1:l≤9000000) :
  Calls Tryz.prog 30 #[.slice om n cm] w fun e w'=>∃o c rs,e = .returned (.slice o n c)∧rs.length=n∧St w (Mx w.heap.size (.slice o n c) rs) w'∧RD w' rs (mkM n n fun i j=>sumP k fun q=>mP (at2 M i q) (cP (at2 M j q)))∧Below w.heap.size w w':=by
 obtain⟨G,hG⟩:∃G:Nat→Nat→Int × Int,G=fun i j=>sumP k fun q=>mP (at2 M i q) (cP (at2 M j q)):=⟨_,rfl⟩
 rw[←hG]
 have HG:=hide (fun i j=>congrFun (congrFun hG i) j)
 have HM:=hide hm
 have hn64:n≤64:=by have:=h.1;omega
 have hk64:k≤64:=by have:=h.2.1;omega
 have HR:=hide (show ∀i,i<n→(rw_ M i).length=k from fun i hi=>by rw[gd_row h (by omega)];exact hk)
 clear hm h hG
 go_enter Tryz.func30,Tryz.ntmps30
 have hs:=St.nil w
 refine zk fun K1 hK1=>rg [0] ?_
 refine sm (ze (hK1 _ _ ?_))
 refine zk fun K2 hK2=>rg [0,1,2,3,4,5] ?_
 refine xmr ?_
 refine xmr ?_
 refine sq ?_
 intro K hK
 go_big_op
 go_fit (rNew_any (r:=n) (k:=n) (by omega) (by omega))
 rintro e w_1 ⟨o_O,c_O,rs_O,rfl,hl_O,hs_O,d_O,hb_1⟩
 replace hs:=hs.mx hl_O hs_O;simp only[List.nil_append] at hs
 refine hK _ _ rfl trivial ?_
 clear hK K
 refine sm (ze (hK2 _ _ ?_))
 refine zk fun K3 hK3 => ?_
 refine zk fun K4 hK4=>rg [0] ?_
 refine sm (ze (hK4 _ _ ?_))
 refine wp_block ?_
 have hd2:=hs.2.1
 go_loopg [4] n (fun kk s4 wr=>∃(i:Nat) (rs:List Rw),s4 = .int .i64 (i:Int)∧i+kk=n∧rs.length=n∧RD wr rs (mkM n n (fi G i 0)) ∧
  St w (ls w.heap.size 24 1 (.slice o_O n c_O) n (rs.map (·.v))::([]++rs.map (Rw.e w.heap.size))) wr)
 case atStart=>exact⟨0,rs_O,rfl,by omega,hl_O,by rw[←fi_0];exact d_O,hs⟩
 case round =>
 clear d_O hs
 obtain⟨i,rs,rfl,hik,hrl,hd,hs⟩:=hrel
 have HO := ‹∀(a':Act) (w':World),Handed _ _ a' w'→_›
 obtain⟨g1,hg1⟩:∃g,gk=g:=⟨_,rfl⟩
 by_cases hi:i<n
 ·have HX:=hide hi
  refine zk fun K5 hK5 => ?_
  refine zk fun K6 hK6=>rg [0,1,2,3] ?_
  refine xmm ?_
  refine sr ?_
  refine sr (ze (hK6 _ _ ?_))
  refine ct ?_
  refine wp_skip ?_
  refine hK5 _ _ ?_
  refine zk fun K7 hK7 => ?_
  refine wp_block ?_
  refine zk fun K8 hK8=>rg [0] ?_
  refine sm (ze (hK8 _ _ ?_))
  refine wp_block ?_
  have hd3:=hs.2.1
  go_loopg [5] n (fun kk s5 wr=>∃(j:Nat) (rs:List Rw),s5 = .int .i64 (j:Int)∧j+kk=n∧rs.length=n∧RD wr rs (mkM n n (fi G i j)) ∧
   St w (ls w.heap.size 24 1 (.slice o_O n c_O) n (rs.map (·.v))::([]++rs.map (Rw.e w.heap.size))) wr)
  case atStart=>exact⟨0,rs,rfl,by omega,hrl,hd,hs⟩
  case round =>
  clear hd hs
  clear hrl
  obtain⟨j,rs,rfl,hjk,hrl,hd,hs⟩:=hrel
  by_cases hj:j<n
  ·have HJ:=hide hj
   obtain⟨gm,offm,curm,tym,fzm,oi,ci,rfl,x1,e5,s2⟩:=HM.out.row (i:=i) (by have:=HX.out;omega)
   obtain⟨gm',offm',curm',tym',fzm',oj,cj,em,x1',e6,s3⟩:=HM.out.row (i:=j) (by omega)
   simp only[Option.some.injEq,Addr.mk.injEq,and_true] at em
   obtain⟨rfl,rfl⟩:=em
   have ec:curm'=curm:=by
    have h1:w.heap[gm]? = _:=x1
    have h2:w.heap[gm]? = _:=x1'
    rw[h1] at h2
    simp only[Option.some.injEq,Obj.cells.injEq] at h2
    exact h2.1.symm
   subst ec
   rw[HR.out i HX.out] at e5
   rw[HR.out j HJ.out] at e6
   have HS2:=hide s2
   have HS3:=hide s3
   clear s2 s3 x1'
   have x1z:=x1
   have lt_kM:=x1.lt
   replace x1:=x1.bl hs.b
   obtain⟨r1,gr,cr,xs,r2,rfl,hr1,hrv,hx,hs⟩:=hs.row (bs:=[]) hd (p:=i) (K:=n) (by rw[len_mkM];exact HX.out) (by rw[mkM_row HX.out];simp) (by omega)
   have LO:Lst wr w.heap.size 24 1 (.slice o_O n c_O) n _:=hs.1.2.1.1
   obtain⟨gO,curO,rfl,xO,hcO⟩:=LO.box (by omega)
   have eO:=hcO _ _ hrv
   clear LO hcO hrv
   refine zk fun K9 hK9 => ?_
   refine zk fun K10 hK10=>rg [0,1,2,3] ?_
   refine xmm ?_
   refine sr ?_
   refine sr (ze (hK10 _ _ ?_))
   refine ct ?_
   refine wp_skip ?_
   refine hK9 _ _ ?_
   refine zk fun K11 hK11 => ?_
   refine wp_block ?_
   refine wp_region_f4 [(0,false),(1,false),(2,false),(3,false),(4,false),(5,false),(6,false),(7,false),(8,false),(9,false),(10,false),(11,false),(12,false),(13,true),(14,false)] [15] [] (fun _=>default) [99,99,99,0,99,99,99,99,1,99,99,99,1,99,99,99] [] (.c xO (.c x1 .n)) fn fun w_4 n4 => ?_
   replace x1:=x1.bl n4;replace xO:=xO.bl n4;replace hs:=hs.bl n4
   refine fmv ?_
   refine fmv ?_
   refine f0 ?_
   apply wpFl_ld rfl rfl;(case h1=>intro w' hC K hK;have c0:=Bs.cell hC (i) eO;go_big_op;exact hK);iterate 4 kernel_rfl
   refine fmv ?_
   refine fmv ?_
   refine fmv ?_
   refine f0 ?_
   apply wpFl_ld rfl rfl;(case h1=>intro w' hC K hK;have c0:=Bs.cell hC ((offm+i)) e5;go_big_op;exact hK);iterate 4 kernel_rfl
   refine fmv ?_
   refine fmv ?_
   refine f0 ?_
   apply wpFl_ld rfl rfl;(case h1=>intro w' hC K hK;have c0:=Bs.cell hC ((offm+j)) e6;go_big_op;exact hK);iterate 4 kernel_rfl
   refine fl fun w_5 n5 => ?_
   replace x1:=x1.bl n5;replace xO:=xO.bl n5;replace hs:=hs.bl n5
   intro K hK
   have hb:=hs.b
   go_big_op
   go_fit (rDot_any (HS2.out.bl stab_n hb) (HS3.out.bl stab_n hb) (HR.out i HX.out) (HR.out j HJ.out) (by omega) (by omega) (by omega))
   rintro e w_6 ⟨_,rfl,⟨n_fa,o_fa,k_fa,c_fa,n_fb,o_fb,k_fb,c_fb,rfl,f1,f2⟩,hb_6⟩
   clear hb
   replace x1:=x1.bl hb_6;replace xO:=xO.bl hb_6;replace hs:=hs.bl hb_6
   refine hK _ _ rfl ⟨hb_6,(ai xO (ai x1 trivial))⟩ ?_
   clear hK K
   refine f0 ?_
   refine e0 hs ?_;clear hs;intro w_7 hs n7
   replace x1:=x1.bl n7;replace xO:=xO.bl n7
   refine tl ?_
   refine .i4 0 hs (j:=j) (by omega) ?_ (e:=fun _ hB hO=>(ai (xO.frame hO (hs.ne 1 0)) (ai (x1z.bl hB) trivial)));clear hs;intro w_8 hs kp8 hd8 ho8 hw8;simp only[List.set_cons_zero] at hs
   replace x1:=x1.lo lt_kM hw8
   clear xO
   apply wpTail_end
   refine hK11 _ _ ?_
   refine rg [0,1,2] ?_
   refine xmr ?_
   refine sm ?_
   apply wpSq_end
   have k0_5:=((((kb n4).b n5).b hb_6).b n7).t kp8
   replace hd:=hd.k k0_5
   replace hx:=hx.k k0_5
   have k3_5:=(kb n7).t kp8
   replace f1:=f1.k k3_5
   replace f2:=f2.k k3_5
   refine ‹∀(a':Act) (w':World),Handed _ _ a' w'→_› _ _ ?_
   go_roundg (gk - 1)
   case rel=>exact⟨j+1,_,by rfl,by omega,by simpa using hrl,RD.fi hd hr1 HX.out HJ.out hx (by rw[HG.out];exact f1) (by rw[HG.out];exact f2),hs.unrow (bs:=[])⟩
   case measure=>omega
  ·obtain rfl:n=j:=by omega
   have HJ:=hide hj
   refine zk fun K9 hK9 => ?_
   refine zk fun K10 hK10=>rg [0,1,2,3] ?_
   refine xmm ?_
   refine sr ?_
   refine sr (ze (hK10 _ _ ?_))
   refine cf ?_
   refine wp_exit ?_
   refine hK7 _ _ ?_
   refine rg [0,1,2] ?_
   refine xmr ?_
   refine sm ?_
   apply wpSq_end
   refine HO _ _ ?_
   go_roundg (g1 - 1)
   case rel=>exact⟨i+1,rs,by rfl,by omega,hrl,by rw[←fi_row];exact hd,hs⟩
   case measure=>omega
 ·obtain rfl:n=i:=by omega
  have HX:=hide hi
  refine zk fun K5 hK5 => ?_
  refine zk fun K6 hK6=>rg [0,1,2,3] ?_
  refine xmm ?_
  refine sr ?_
  refine sr (ze (hK6 _ _ ?_))
  refine cf ?_
  refine wp_exit ?_
  refine hK3 _ _ ?_
  refine zk fun K7 hK7=>rg [0,1] ?_
  refine sm ?_
  refine sm (ze (hK7 _ _ ?_))
  refine wp_ret ?_
  try dsimp only [Exit.then,Exit.inBlock]
  refine bodyPost_ret (v:=(.slice o_O n c_O)) (by simp[results,Tryz.results30,go_sem]) rfl ?_
  exact⟨_,_,rs,rfl,hrl,(by unfold Mx;rw[hrl];exact hs),by rw[←fi_end];exact hd,hs.b⟩
end
section
variable {G:Nat→Nat→Int × Int} {i j n k:Nat}
theorem St.rowv {w0 w:World} {v:Value} {m p K:Nat} {rs:List Rw} {bs:List En} {Ms:List (List (Int × Int))} (hs:St w0 (ls w0.heap.size 24 1 v m (rs.map (·.v))::(bs++rs.map (Rw.e w0.heap.size))) w) (hd:RD w rs Ms) (hp:p<Ms.length) (hK:Ms[p].length=K) :
  ∃o c,(rs.map (·.v))[p]? = some (.slice o K c):=by
 obtain⟨r1,r,r2,rfl,h1,h2,h3⟩:=hd.at' hp
 have h4:(ls w0.heap.size 24 1 v m ((r1++r::r2).map (·.v))::(bs++(r1++r::r2).map (Rw.e w0.heap.size)))[1+(bs.length+p)]? = some (r.e w0.heap.size):=by
  rw[Nat.add_comm 1,List.getElem?_cons_succ,List.getElem?_append_right (by omega),show bs.length+p - bs.length=p by omega,List.getElem?_map,List.getElem?_append_right (by omega)]
  simp[h1]
 have L:Lst w w0.heap.size 45 4 r.v r.n r.xs:=(hs.1.at h4).1
 obtain⟨o,c,e⟩:=L.shape
 exact⟨o,c,by rw[List.map_append,List.map_cons,List.getElem?_append_right (by simp[h1])];simp[h1,e,h2,hK]⟩
end
def rowed (F:Nat→Nat→Int × Int) (p:Nat) (g:Nat→Int × Int):Nat→Nat→Int × Int:=fun i j=>if i=p then g j else F i j
def swr (i j r:Nat):Nat:=if r=i then j else if r=j then i else r
section
variable {F:Nat→Nat→Int × Int} {g:Nat→Int × Int} {i j n k p:Nat}
theorem mkM_setrow (hp:p<n):(mkM n k F).set p ((List.range k).map g)=mkM n k (rowed F p g):=by
 refine List.ext_getElem (by simp[mkM]) fun i h1 h2 => ?_
 simp only[mkM,List.getElem_set,List.getElem_map,List.getElem_range]
 by_cases e:p=i
 ·subst e;simp[rowed]
 ·rw[if_neg e];simp[rowed,Ne.symm e]
theorem mkM_swap (hi:i<n) (hj:j<n):((mkM n k F).set i ((List.range k).map (F j))).set j ((List.range k).map (F i))=mkM n k (fun r=>F (swr i j r)):=by
 refine List.ext_getElem (by simp[mkM]) fun r h1 h2 => ?_
 simp only[mkM,List.getElem_set,List.getElem_map,List.getElem_range]
 unfold swr
 by_cases e:j=r
 ·subst e
  by_cases e2:j=i
  ·subst e2;simp
  ·simp[e2]
 ·rw[if_neg e]
  by_cases e2:i=r
  ·subst e2;simp
  ·rw[if_neg e2,if_neg (Ne.symm e2),if_neg (Ne.symm e)]
end
theorem RD.set1 {w:World} {r:Rw} {m:List (Int × Int)} (hn:r.n=m.length) (hg:GD w r.xs m):∀ {rs:List Rw} {Ms:List (List (Int × Int))} {p:Nat},RD w rs Ms→RD w (rs.set p r) (Ms.set p m)
 | [],[],p,h=>h
 | _::_,_::_,0,h=>⟨⟨hn,hg⟩,h.2⟩
 | _::_,_::_,p+1,h=>⟨h.1,RD.set1 hn hg h.2⟩
theorem RD.swap {w:World} {rs:List Rw} {n k i j:Nat} {F:Nat→Nat→Int × Int} {vi vj:Value} (hd:RD w rs (mkM n k F)) (hi:i<n) (hj:j<n) (ei:(rs.map (·.v))[i]? = some vi) (ej:(rs.map (·.v))[j]? = some vj) :
  ∃rs',rs'.length=rs.length∧rs'.Perm rs∧rs'.map (·.v)=((rs.map (·.v)).set i vj).set j vi∧RD w rs' (mkM n k fun r=>F (swr i j r)):=by
 have hl:rs.length=n:=by rw[hd.len];exact len_mkM
 obtain⟨ri,e1,h1,g1⟩:=hd.get i (by rw[len_mkM];exact hi)
 obtain⟨rj,e2,h2,g2⟩:=hd.get j (by rw[len_mkM];exact hj)
 rw[mkM_row hi] at h1 g1
 rw[mkM_row hj] at h2 g2
 rw[List.getElem?_map,e1] at ei
 rw[List.getElem?_map,e2] at ej
 injection ei with ei
 injection ej with ej
 have q1:rs[i]=ri:=by rw[List.getElem?_eq_getElem (by omega)] at e1;exact Option.some.inj e1
 have q2:rs[j]=rj:=by rw[List.getElem?_eq_getElem (by omega)] at e2;exact Option.some.inj e2
 refine⟨(rs.set i rj).set j ri,by simp,?_,by rw[List.map_set,List.map_set,←ej,←ei],?_⟩
 ·rw[←q1,←q2];exact List.set_set_perm (by omega) (by omega)
 ·rw[←mkM_swap hi hj]
  exact RD.set1 h1 g1 (RD.set1 h2 g2 hd)
theorem St.swap {w0 w:World} {v:Value} {n:Nat} {rs rs':List Rw} {bs:List En} {vs:List Value} (hs:St w0 (ls w0.heap.size 24 1 v n vs::(bs++rs.map (Rw.e w0.heap.size))) w) (hp:rs'.Perm rs) (hv:rs'.map (·.v)=vs) :
  St w0 (ls w0.heap.size 24 1 v n (rs'.map (·.v))::(bs++rs'.map (Rw.e w0.heap.size))) w:=by
 rw[hv]
 exact hs.perm (List.Perm.cons _ (List.Perm.append_left _ (hp.symm.map _)))
theorem St.newrow {w0 w:World} {x v:Value} {n K p:Nat} {xs:List Value} {rs:List Rw} {bs:List En} (hs:St w0 (ls w0.heap.size 45 4 x K xs::ls w0.heap.size 24 1 v n ((rs.map (·.v)).set p x)::(bs++rs.map (Rw.e w0.heap.size))) w) (hp:p<rs.length) :
  St w0 (ls w0.heap.size 24 1 v n ((rs.set p (⟨x,K,xs⟩:Rw)).map (·.v))::(bs++(rs.set p (⟨x,K,xs⟩:Rw)).map (Rw.e w0.heap.size))) w:=by
 rw[List.map_set]
 refine St.perm ?_ (hs.sub (show List.Sublist (ls w0.heap.size 45 4 x K xs::ls w0.heap.size 24 1 v n ((rs.map (·.v)).set p x)::(bs++(rs.eraseIdx p).map (Rw.e w0.heap.size))) _ from .cons_cons _ (.cons_cons _ (List.Sublist.append_left ((List.eraseIdx_sublist _ _).map _) _))))
 refine(List.Perm.swap _ _ _).trans (List.Perm.cons _ ?_)
 refine(List.perm_middle.symm).trans (List.Perm.append_left _ ?_)
 have:(rs.set p (⟨x,K,xs⟩:Rw)).Perm ((⟨x,K,xs⟩:Rw)::rs.eraseIdx p):=by
  rw[List.set_eq_take_append_cons_drop,if_pos hp,List.eraseIdx_eq_take_drop_succ]
  exact List.perm_middle
 exact(this.map (Rw.e w0.heap.size)).symm
set_option maxHeartbeats 4000000
set_option maxRecDepth 20000
theorem fi_rowed {A:List (List (Int × Int))} {i n k:Nat} (hi:i<n):(mkM n k (fi (at2 A) i 0)).set i ((List.range k).map (at1 (rw_ A i)))=mkM n k (fi (at2 A) i k):=by
 rw[mkM_setrow hi]
 refine mkM_eq rfl rfl fun p _ q hq => ?_
 unfold rowed fi
 by_cases h:p=i
 ·rw[if_pos h,if_pos (by omega),h];rfl
 ·rw[if_neg h]
  by_cases h2:p<i
  ·rw[if_pos (by omega),if_pos (by omega)]
  ·rw[if_neg (by omega),if_neg (by omega)]
section
variable {w:World} {l la na ca n c i k:Nat} {o oa:Option Addr} {A:List (List (Int × Int))} {ps:List (Int × Int)}
theorem rVector_any (h1:SN l w o ps) (hn:ps.length=n) (hl:n≤1000000000) (hl1:l≤20000000) :
  Calls Tryz.prog 158 #[.slice o n c] w fun e w'=>∃o c xs,e = .returned (.slice o n c)∧Lst w' w.heap.size 45 4 (.slice o n c) n xs∧GD w' xs ((List.range n).map (at1 ps))∧Below w.heap.size w w':=by
 have H1:=hide h1
 clear h1
 go_enter Tryz.func158,Tryz.ntmps158
 have hs:=St.nil w
 refine zk fun K1 hK1=>rg [0] ?_
 refine sm (ze (hK1 _ _ ?_))
 refine zk fun K2 hK2=>rg [0] ?_
 refine sm (ze (hK2 _ _ ?_))
 refine zk fun K3 hK3 => ?_
 refine zk fun K4 hK4=>rg [0] ?_
 refine sm (ze (hK4 _ _ ?_))
 refine wp_block ?_
 have hd1:=hs.2.1
 go_loopg [3,4] n (fun kk s3 s4 wr=>∃(i:Nat) (o:Option Addr) (c:Nat) (xs:List Value),s4 = .int .i64 (i:Int)∧s3 = .slice o i c∧i+kk=n∧GD wr xs ((List.range i).map (at1 ps)) ∧
  St w [ls w.heap.size 45 4 (.slice o i c) i xs] wr)
 case atStart=>exact⟨0,none,0,[],rfl,rfl,by omega,GD.nil _,hs.l0 _ _⟩
 case round =>
 clear hs
 obtain⟨i,ow,cw,xs,rfl,rfl,hik,d,hs⟩:=hrel
 by_cases hi:i<n
 ·obtain⟨g1,off1,cur1,ty1,fz1,a1,a2,a3,a4,a5,a6,a7,a8,rfl,x1,e1,e2,e3,e4,z1,z2⟩:=H1.out.op (j:=i) (by omega)
  replace z1:ZN wr (.agg #[.bool a1,.slice a2 a3 a4]) (at1 ps i).1 l:=z1.bl hs.b
  replace z2:ZN wr (.agg #[.bool a5,.slice a6 a7 a8]) (at1 ps i).2 l:=z2.bl hs.b
  have lt_kA:=x1.lt
  replace x1:=x1.bl hs.b
  have E1:=hide (mapr_succ (at1 ps) i)
  generalize at1 ps i=p at *
  refine zk fun K5 hK5 => ?_
  refine zk fun K6 hK6=>rg [0,1,2,3] ?_
  refine xmm ?_
  refine sr ?_
  refine sr (ze (hK6 _ _ ?_))
  refine ct ?_
  refine wp_skip ?_
  refine hK5 _ _ ?_
  refine zk fun K7 hK7 => ?_
  refine wp_block ?_
  refine rg [0,1,2,3,4,5,6,7,8] ?_
  refine xmm ?_
  refine xmr ?_
  refine sq ?_
  refine .r4 ⟨x1.cell _ e1,x1.cell _ e2,x1.cell _ e3,x1.cell _ e4⟩ ?_
  refine sq ?_
  intro K hK
  go_big_op
  go_fit (rgCanonical_any (.mk' z1 z2) (by omega) (by omega))
  rintro e w_2 ⟨_,rfl,⟨n_ta,o_ta,k_ta,c_ta,n_tb,o_tb,k_tb,c_tb,rfl,t1,t2⟩,hb_2⟩
  replace x1:=x1.bl hb_2;replace hs:=hs.bl hb_2
  refine hK _ _ rfl trivial ?_
  clear hK K
  refine sq ?_
  refine .al hs ?_;clear hs;intro p_b1 w_3 hs n3 kb_b1
  replace x1:=x1.bl n3
  refine sq ?_
  have k0_2:=(kb hb_2).b n3
  replace d:=d.k k0_2
  have k1_2:=kb n3
  replace t1:=t1.k k1_2
  replace t2:=t2.k k1_2
  replace d:=d.snoc (.mk' t1 t2)
  refine .ap 1 hs hs.g0 ?_;clear hs;intro o_L_4 c_L_4 w_4 hs kp4 hw4;simp only[List.set_cons_succ,List.set_cons_zero] at hs
  replace x1:=x1.lo lt_kA hw4
  refine sm (ze (hK7 _ _ ?_))
  refine rg [0,1,2] ?_
  refine xmr ?_
  refine sm ?_
  apply wpSq_end
  have k2_3:=kp4
  replace d:=d.k k2_3
  refine ‹∀(a':Act) (w':World),Handed _ _ a' w'→_› _ _ ?_
  go_roundg (gk - 1)
  case rel=>exact⟨i+1,_,_,_,by rfl,by rfl,by omega,by rw[E1.out];exact d,hs.sub (.cons _ (List.Sublist.refl _))⟩
  case measure=>omega
 ·obtain rfl:i=n:=by omega
  clear hi
  refine zk fun K5 hK5 => ?_
  refine zk fun K6 hK6=>rg [0,1,2,3] ?_
  refine xmm ?_
  refine sr ?_
  refine sr (ze (hK6 _ _ ?_))
  refine cf ?_
  refine wp_exit ?_
  refine hK3 _ _ ?_
  refine zk fun K7 hK7=>rg [0,1] ?_
  refine sm ?_
  refine sm (ze (hK7 _ _ ?_))
  refine wp_ret ?_
  try dsimp only [Exit.then,Exit.inBlock]
  refine bodyPost_ret (v:=(.slice ow i cw)) (by simp[results,Tryz.results158,go_sem]) rfl ?_
  exact⟨_,_,_,rfl,hs.1.1.1,d,hs.b⟩
theorem rCopy_any (ha:MN la w oa A) (hna:A.length=na) (h:gd A) (hk:wd A=k) (hla:la≤20000000) :
  Calls Tryz.prog 124 #[.slice oa na ca] w fun e w'=>∃o c rs,e = .returned (.slice o na c)∧rs.length=na∧St w (Mx w.heap.size (.slice o na c) rs) w'∧RD w' rs (mkM na k (at2 A))∧Below w.heap.size w w':=by
 have HA:=hide ha
 have hn64:na≤64:=by have:=h.1;omega
 have hk64:k≤64:=by have:=h.2.1;omega
 have HR:=hide (show ∀i,i<na→(rw_ A i).length=k from fun i hi=>by rw[gd_row h (by omega)];exact hk)
 clear ha h
 go_enter Tryz.func124,Tryz.ntmps124
 have hs:=St.nil w
 refine zk fun K1 hK1=>rg [0] ?_
 refine sm (ze (hK1 _ _ ?_))
 refine zk fun K2 hK2=>rg [0,1,2,3,4,5] ?_
 refine xmr ?_
 refine sm ?_
 refine sq ?_
 intro K hK
 have hb:=hs.b
 go_big_op
 go_fit (rCols_any (HA.out.bl stab_n hb) hna hk)
 rintro e w_1 ⟨rfl,hb_1⟩
 clear hb
 replace hs:=hs.bl hb_1
 refine hK _ _ rfl trivial ?_
 clear hK K
 refine sq ?_
 intro K hK
 go_big_op
 go_fit (rNew_any (r:=na) (k:=k) (by omega) (by omega))
 rintro e w_2 ⟨o_O,c_O,rs_O,rfl,hl_O,hs_O,d_O,hb_2⟩
 replace hs:=hs.mx hl_O hs_O;simp only[List.nil_append] at hs
 refine hK _ _ rfl trivial ?_
 clear hK K
 refine sm (ze (hK2 _ _ ?_))
 refine zk fun K3 hK3 => ?_
 refine zk fun K4 hK4=>rg [0] ?_
 refine sm (ze (hK4 _ _ ?_))
 refine wp_block ?_
 have hd3:=hs.2.1
 go_loopg [4] na (fun kk s4 wr=>∃(i:Nat) (rs:List Rw),s4 = .int .i64 (i:Int)∧i+kk=na∧rs.length=na∧RD wr rs (mkM na k (fi (at2 A) i 0)) ∧
  St w (ls w.heap.size 24 1 (.slice o_O na c_O) na (rs.map (·.v))::([]++rs.map (Rw.e w.heap.size))) wr)
 case atStart=>exact⟨0,rs_O,rfl,by omega,hl_O,by rw[←fi_0];exact d_O,hs⟩
 case round =>
 clear d_O hs
 obtain⟨i,rs,rfl,hik,hrl,hd,hs⟩:=hrel
 by_cases hi:i<na
 ·have HX:=hide hi
  obtain⟨gm,offm,curm,tym,fzm,oi,ci,rfl,x1,e5,s2⟩:=HA.out.row (i:=i) (by omega)
  have HL:=hide (HR.out i hi)
  rw[HL.out] at e5
  have HS:=hide s2
  have lt_kA:=x1.lt
  have x1z:=x1
  replace x1:=x1.bl hs.b
  clear s2
  have LO:Lst wr w.heap.size 24 1 (.slice o_O na c_O) na _:=hs.1.1.1
  obtain⟨gO,curO,rfl,xO,hcO⟩:=LO.box (by omega)
  clear LO hcO xO
  refine zk fun K5 hK5 => ?_
  refine zk fun K6 hK6=>rg [0,1,2,3] ?_
  refine xmm ?_
  refine sr ?_
  refine sr (ze (hK6 _ _ ?_))
  refine ct ?_
  refine wp_skip ?_
  refine hK5 _ _ ?_
  refine zk fun K7 hK7 => ?_
  refine wp_block ?_
  refine rg [0,1,2,3,4,5,6,7,8] ?_
  refine xmm ?_
  refine xmm ?_
  refine sr ?_
  refine sq ?_
  refine .r1 (x1.cell _ e5) ?_
  refine sq ?_
  intro K hK
  have hb:=hs.b
  go_big_op
  go_fit (rVector_any (HS.out.bl stab_n hb) HL.out (by omega) (by omega))
  rintro e w_4 ⟨o_r,c_r,xs_r,rfl,L_r,d_r,hb_4⟩
  clear hb
  replace x1:=x1.bl hb_4
  replace hs:=hs.la hb_4 L_r
  refine hK _ _ rfl trivial ?_
  clear hK K
  refine sr ?_
  refine sq ?_
  refine .i1 1 hs (j:=i) (by omega) ?_;clear hs;intro w_5 hs kp5 hd5 ho5 hw5;simp only[List.set_cons_succ,List.set_cons_zero] at hs
  replace x1:=x1.lo lt_kA hw5
  refine ze (hK7 _ _ ?_)
  refine rg [0,1,2] ?_
  refine xmr ?_
  refine sm ?_
  apply wpSq_end
  have k1_2:=kp5
  replace d_r:=d_r.k k1_2
  have k0_2:=(kb hb_4).t kp5
  replace hd:=hd.k k0_2
  refine ‹∀(a':Act) (w':World),Handed _ _ a' w'→_› _ _ ?_
  have hs:=hs.newrow (bs:=[]) (by omega)
  go_roundg (gk - 1)
  case rel=>exact⟨i+1,_,by rfl,by omega,by simpa using hrl,by rw[←fi_row,←fi_rowed HX.out];exact RD.set1 (by simp) d_r hd,hs⟩
  case measure=>omega
 ·obtain rfl:na=i:=by omega
  have HX:=hide hi
  refine zk fun K5 hK5 => ?_
  refine zk fun K6 hK6=>rg [0,1,2,3] ?_
  refine xmm ?_
  refine sr ?_
  refine sr (ze (hK6 _ _ ?_))
  refine cf ?_
  refine wp_exit ?_
  refine hK3 _ _ ?_
  refine zk fun K7 hK7=>rg [0,1] ?_
  refine sm ?_
  refine sm (ze (hK7 _ _ ?_))
  refine wp_ret ?_
  try dsimp only [Exit.then,Exit.inBlock]
  refine bodyPost_ret (v:=(.slice o_O na c_O)) (by simp[results,Tryz.results124,go_sem]) rfl ?_
  exact⟨_,_,rs,rfl,hrl,(by unfold Mx;rw[hrl];exact hs),by rw[←fi_end];exact hd,hs.b⟩
end
end Go.Proofs.YthmolpepinolkaaGreat
