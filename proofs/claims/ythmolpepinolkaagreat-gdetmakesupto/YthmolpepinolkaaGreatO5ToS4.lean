/- The reference's New. -/
import Derived.Test.YthmolpepinolkaaGreatI5ToO3
namespace Go.Proofs.YthmolpepinolkaaGreat
open Go Go.RowKit Dig
set_option linter.unusedVariables false
theorem GD.put {w:World} {n1 n2:Bool} {o1 o2:Option Addr} {k1 c1 k2 c2:Nat} {x y:Int} (h1:ZC w (.agg #[.bool n1,.slice o1 k1 c1]) x) (h2:ZC w (.agg #[.bool n2,.slice o2 k2 c2]) y) :
  ∀ {xs:List Value} {ps:List (Int × Int)} {q:Nat},GD w xs ps→q<ps.length →
  GD w (setL xs [(q*4,.bool n1),(q*4+1,.slice o1 k1 c1),(q*4+2,.bool n2),(q*4+3,.slice o2 k2 c2)]) (ps.set q (x,y)):=by
 intro xs
 induction hn:xs.length using Nat.strongRecOn generalizing xs with
 | _ n ih =>
  intro ps q hd hq
  have hl:=hd.len
  match xs,ps,hd with
  | a::b::c::d::xs,p::ps,hd =>
   cases q with
   | zero=>exact⟨.mk' h1 h2,hd.2⟩
   | succ q =>
    have:=ih xs.length (by rw[←hn];simp only[List.length_cons];omega) rfl hd.2 (q:=q) (by simpa using hq)
    simp only[setL,List.set_cons_succ,show (q+1)*4=q*4+1+1+1+1 by omega,List.set_cons_succ,show q*4+1+1+1+1+1=(q*4+1)+1+1+1+1 by omega,show q*4+1+1+1+1+2=(q*4+2)+1+1+1+1 by omega,show q*4+1+1+1+1+3=(q*4+3)+1+1+1+1 by omega]
    exact⟨hd.1,this⟩
  | [],[],_=>exact absurd hq (Nat.not_lt_zero _)
theorem RD.at' {w:World}:∀ {rs:List Rw} {Ms:List (List (Int × Int))} {p:Nat},RD w rs Ms→(hp:p<Ms.length)→∃r1 r r2,rs=r1++r::r2∧r1.length=p∧r.n=Ms[p].length∧GD w r.xs Ms[p]
 | [],[],p,_,hp=>absurd hp (Nat.not_lt_zero _)
 | r::rs,m::Ms,0,h,_=>⟨[],r,rs,rfl,rfl,h.1⟩
 | r::rs,m::Ms,p+1,h,hp=>by
  obtain⟨r1,r',r2,rfl,h1,h2⟩:=RD.at' (p:=p) h.2 (by simpa using hp)
  exact⟨r::r1,r',r2,rfl,by simp[h1],by simpa using h2⟩
theorem RD.set' {w:World} {v:Value} {n:Nat} {xs:List Value} {m:List (Int × Int)} {r:Rw} {r2:List Rw} (hn:n=m.length) (hg:GD w xs m):∀ {r1:List Rw} {Ms:List (List (Int × Int))} {p:Nat},RD w (r1++r::r2) Ms→r1.length=p→RD w (r1++(⟨v,n,xs⟩:Rw)::r2) (Ms.set p m)
 | [],_::Ms,p,h,hp=>by subst hp;exact⟨⟨hn,hg⟩,h.2⟩
 | a::r1,b::Ms,p,h,hp=>by subst hp;exact⟨h.1,RD.set' hn hg h.2 rfl⟩
 | [],[],p,h,_=>h.elim
 | _::_,[],p,h,_=>h.elim
section
variable {w0 w:World} {v:Value} {n p K:Nat} {rs r1 r2:List Rw} {bs:List En} {Ms:List (List (Int × Int))}
theorem St.row (hs:St w0 (ls w0.heap.size 24 1 v n (rs.map (·.v))::(bs++rs.map (Rw.e w0.heap.size))) w) (hd:RD w rs Ms) (hp:p<Ms.length) (hK:Ms[p].length=K) (h0:0<K) :
  ∃r1 g c xs r2,rs=r1++(⟨.slice (some ⟨g,0,none⟩) K c,K,xs⟩:Rw)::r2∧r1.length=p∧(rs.map (·.v))[p]? = some (.slice (some ⟨g,0,none⟩) K c)∧GD w xs Ms[p] ∧
   St w0 (ls w0.heap.size 45 4 (.slice (some ⟨g,0,none⟩) K c) K xs::ls w0.heap.size 24 1 v n (rs.map (·.v))::(bs++(r1++r2).map (Rw.e w0.heap.size))) w:=by
 obtain⟨r1,r,r2,rfl,h1,h2,h3⟩:=hd.at' hp
 obtain⟨rv,rn,xs⟩:=r
 simp only at h2 h3
 rw[hK] at h2
 subst h2
 have hs2:=hs.perm (cs:=Rw.e w0.heap.size ⟨rv,rn,xs⟩::ls w0.heap.size 24 1 v n ((r1++(⟨rv,rn,xs⟩:Rw)::r2).map (·.v))::(bs++(r1++r2).map (Rw.e w0.heap.size))) (by
  refine(List.Perm.cons _ ?_).trans (List.Perm.swap _ _ _)
  rw[List.map_append,List.map_cons,List.map_append,←List.append_assoc,←List.append_assoc]
  exact List.perm_middle)
 have L:Lst w w0.heap.size 45 4 rv rn xs:=hs2.1.1.1
 obtain⟨o,c,rfl⟩:=L.shape
 obtain⟨g,cur,rfl,_,_⟩:=L.box h0
 exact⟨r1,g,c,xs,r2,rfl,h1,by rw[List.map_append,List.map_cons,List.getElem?_append_right (by simp[h1])];simp[h1],h3,hs2⟩
theorem St.unrow {x:Value} {xs xs':List Value} (hs:St w0 (ls w0.heap.size 45 4 x K xs'::ls w0.heap.size 24 1 v n ((r1++(⟨x,K,xs⟩:Rw)::r2).map (·.v))::(bs++(r1++r2).map (Rw.e w0.heap.size))) w) :
  St w0 (ls w0.heap.size 24 1 v n ((r1++(⟨x,K,xs'⟩:Rw)::r2).map (·.v))::(bs++(r1++(⟨x,K,xs'⟩:Rw)::r2).map (Rw.e w0.heap.size))) w:=by
 have e:(r1++(⟨x,K,xs⟩:Rw)::r2).map (·.v)=(r1++(⟨x,K,xs'⟩:Rw)::r2).map (·.v):=by simp
 rw[e] at hs
 refine hs.perm ?_
 refine(List.Perm.swap _ _ _).trans (List.Perm.cons _ ?_)
 rw[List.map_append,List.map_append,List.map_cons,←List.append_assoc,←List.append_assoc]
 exact List.perm_middle.symm
end
def upd (F:Nat→Nat→Int × Int) (p q:Nat) (x:Int × Int):Nat→Nat→Int × Int:=fun i j=>if i=p∧j=q then x else F i j
theorem mkM_set {R K p q:Nat} {F:Nat→Nat→Int × Int} {x:Int × Int} (hp:p<R):(mkM R K F).set p (((List.range K).map (F p)).set q x)=mkM R K (upd F p q x):=by
 refine List.ext_getElem (by simp[mkM]) fun i h1 h2 => ?_
 have hi:i<R:=by simpa [mkM] using h2
 refine List.ext_getElem (by simp only[mkM,List.getElem_set,List.getElem_map,List.getElem_range];split <;> simp) fun j h3 h4 => ?_
 simp only[mkM,List.getElem_set,List.getElem_map,List.getElem_range,upd]
 have hj:j<K:=by simpa [mkM] using h4
 by_cases e:p=i
 ·subst e
  by_cases e2:q=j
  ·subst e2;simp
  ·simp[e2,Ne.symm e2]
 ·simp[e,Ne.symm e]
theorem mkM_row {R K p:Nat} {F:Nat→Nat→Int × Int} (hp:p<R):(mkM R K F)[p]'(by rw[len_mkM];exact hp)=(List.range K).map (F p):=by simp[mkM]
section
variable {G:Nat→Nat→Int × Int} {i j n k:Nat}
theorem St.rowv {w0 w:World} {v:Value} {m p K:Nat} {rs:List Rw} {bs:List En} {Ms:List (List (Int × Int))} (hs:St w0 (ls w0.heap.size 24 1 v m (rs.map (·.v))::(bs++rs.map (Rw.e w0.heap.size))) w) (hd:RD w rs Ms) (hp:p<Ms.length) (hK:Ms[p].length=K) :
  ∃o c,(rs.map (·.v))[p]? = some (.slice o K c):=by
 obtain⟨r1,r,r2,rfl,h1,h2,h3⟩:=hd.at' hp
 have h4:(ls w0.heap.size 24 1 v m ((r1++r::r2).map (·.v))::(bs++(r1++r::r2).map (Rw.e w0.heap.size)))[1+(bs.length+p)]? = some (r.e w0.heap.size):=by
  rw[Nat.add_comm 1,List.getElem?_cons_succ,List.getElem?_append_right (by omega),show bs.length+p - bs.length=p by omega,List.getElem?_map,List.getElem?_append_right (by omega)]
  simp[h1]
 have L:Lst w w0.heap.size 45 4 r.v r.n r.xs:=(hs.1.at h4).1
 obtain⟨o,c,e⟩:=L.shape
 exact⟨o,c,by rw[List.map_append,List.map_cons,List.getElem?_append_right (by simp[h1])];simp[h1,e,h2,hK]⟩
end
def rowed (F:Nat→Nat→Int × Int) (p:Nat) (g:Nat→Int × Int):Nat→Nat→Int × Int:=fun i j=>if i=p then g j else F i j
def swr (i j r:Nat):Nat:=if r=i then j else if r=j then i else r
section
variable {F:Nat→Nat→Int × Int} {g:Nat→Int × Int} {i j n k p:Nat}
theorem mkM_setrow (hp:p<n):(mkM n k F).set p ((List.range k).map g)=mkM n k (rowed F p g):=by
 refine List.ext_getElem (by simp[mkM]) fun i h1 h2 => ?_
 simp only[mkM,List.getElem_set,List.getElem_map,List.getElem_range]
 by_cases e:p=i
 ·subst e;simp[rowed]
 ·rw[if_neg e];simp[rowed,Ne.symm e]
theorem mkM_swap (hi:i<n) (hj:j<n):((mkM n k F).set i ((List.range k).map (F j))).set j ((List.range k).map (F i))=mkM n k (fun r=>F (swr i j r)):=by
 refine List.ext_getElem (by simp[mkM]) fun r h1 h2 => ?_
 simp only[mkM,List.getElem_set,List.getElem_map,List.getElem_range]
 unfold swr
 by_cases e:j=r
 ·subst e
  by_cases e2:j=i
  ·subst e2;simp
  ·simp[e2]
 ·rw[if_neg e]
  by_cases e2:i=r
  ·subst e2;simp
  ·rw[if_neg e2,if_neg (Ne.symm e2),if_neg (Ne.symm e)]
end
theorem RD.set1 {w:World} {r:Rw} {m:List (Int × Int)} (hn:r.n=m.length) (hg:GD w r.xs m):∀ {rs:List Rw} {Ms:List (List (Int × Int))} {p:Nat},RD w rs Ms→RD w (rs.set p r) (Ms.set p m)
 | [],[],p,h=>h
 | _::_,_::_,0,h=>⟨⟨hn,hg⟩,h.2⟩
 | _::_,_::_,p+1,h=>⟨h.1,RD.set1 hn hg h.2⟩
theorem RD.swap {w:World} {rs:List Rw} {n k i j:Nat} {F:Nat→Nat→Int × Int} {vi vj:Value} (hd:RD w rs (mkM n k F)) (hi:i<n) (hj:j<n) (ei:(rs.map (·.v))[i]? = some vi) (ej:(rs.map (·.v))[j]? = some vj) :
  ∃rs',rs'.length=rs.length∧rs'.Perm rs∧rs'.map (·.v)=((rs.map (·.v)).set i vj).set j vi∧RD w rs' (mkM n k fun r=>F (swr i j r)):=by
 have hl:rs.length=n:=by rw[hd.len];exact len_mkM
 obtain⟨ri,e1,h1,g1⟩:=hd.get i (by rw[len_mkM];exact hi)
 obtain⟨rj,e2,h2,g2⟩:=hd.get j (by rw[len_mkM];exact hj)
 rw[mkM_row hi] at h1 g1
 rw[mkM_row hj] at h2 g2
 rw[List.getElem?_map,e1] at ei
 rw[List.getElem?_map,e2] at ej
 injection ei with ei
 injection ej with ej
 have q1:rs[i]=ri:=by rw[List.getElem?_eq_getElem (by omega)] at e1;exact Option.some.inj e1
 have q2:rs[j]=rj:=by rw[List.getElem?_eq_getElem (by omega)] at e2;exact Option.some.inj e2
 refine⟨(rs.set i rj).set j ri,by simp,?_,by rw[List.map_set,List.map_set,←ej,←ei],?_⟩
 ·rw[←q1,←q2];exact List.set_set_perm (by omega) (by omega)
 ·rw[←mkM_swap hi hj]
  exact RD.set1 h1 g1 (RD.set1 h2 g2 hd)
theorem St.swap {w0 w:World} {v:Value} {n:Nat} {rs rs':List Rw} {bs:List En} {vs:List Value} (hs:St w0 (ls w0.heap.size 24 1 v n vs::(bs++rs.map (Rw.e w0.heap.size))) w) (hp:rs'.Perm rs) (hv:rs'.map (·.v)=vs) :
  St w0 (ls w0.heap.size 24 1 v n (rs'.map (·.v))::(bs++rs'.map (Rw.e w0.heap.size))) w:=by
 rw[hv]
 exact hs.perm (List.Perm.cons _ (List.Perm.append_left _ (hp.symm.map _)))
end Go.Proofs.YthmolpepinolkaaGreat
