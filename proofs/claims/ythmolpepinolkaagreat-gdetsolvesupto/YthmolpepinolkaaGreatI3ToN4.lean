/- gmat.product: the product of two vectors. -/
import Derived.Test.YthmolpepinolkaaGreatG3ToM5
namespace Go.Proofs.YthmolpepinolkaaGreat
open Go Go.RowKit Dig
set_option linter.unusedVariables false
theorem zlen_addM {x y:Int} {l:Nat} (hx:(dig x.natAbs).length≤l) (hy:(dig y.natAbs).length≤l):(dig (x+y).natAbs).length≤l+1:=by
 refine dig_length_le ?_
 have h1:=Nat.lt_of_lt_of_le (lt_pw_dig x.natAbs) (pw_mono hx)
 have h2:=Nat.lt_of_lt_of_le (lt_pw_dig y.natAbs) (pw_mono hy)
 have h3:(x+y).natAbs≤x.natAbs+y.natAbs:=Int.natAbs_add_le x y
 simp only [pw];omega
theorem zlen_subM {x y:Int} {l:Nat} (hx:(dig x.natAbs).length≤l) (hy:(dig y.natAbs).length≤l):(dig (x - y).natAbs).length≤l+1:=by
 rw [Int.sub_eq_add_neg]
 exact zlen_addM hx (by rw [Int.natAbs_neg];exact hy)
def sumP:Nat→(Nat→Int × Int)→Int × Int
 | 0,_=>(0,0)
 | k+1,f=>aP (sumP k f) (f k)
def zl (l:Nat) (p:Int × Int):Prop:=(dig p.1.natAbs).length≤l∧(dig p.2.natAbs).length≤l
theorem zl_mP {p q:Int × Int} {l m:Nat} (hp:zl l p) (hq:zl m q):zl (l+m+1) (mP p q) :=
 ⟨zlen_subM (zlen_mul hp.1 hq.1) (zlen_mul hp.2 hq.2),zlen_addM (zlen_mul hp.1 hq.2) (zlen_mul hp.2 hq.1)⟩
theorem zl_cP {p:Int × Int} {l:Nat} (hp:zl l p):zl l (cP p):=⟨hp.1,by show (dig (-p.2).natAbs).length≤l;rw [Int.natAbs_neg];exact hp.2⟩
theorem zl_up {p:Int × Int} {l m:Nat} (hp:zl l p) (h:l≤m):zl m p:=⟨Nat.le_trans hp.1 h,Nat.le_trans hp.2 h⟩
theorem zl_aP {p q:Int × Int} {l:Nat} (hp:zl l p) (hq:zl l q):zl (l+1) (aP p q):=⟨zlen_addM hp.1 hq.1,zlen_addM hp.2 hq.2⟩
theorem zl_0 (l:Nat):zl l (0,0):=by
 have:(dig (Int.natAbs 0)).length≤l:=by rw [show dig (Int.natAbs 0)=[] from dig_eq_nil.2 rfl];exact Nat.zero_le _
 exact ⟨this,this⟩
theorem zl_sum {f:Nat→Int × Int} {l:Nat}:∀ {k:Nat},(∀i,i<k→zl l (f i))→zl (l+k) (sumP k f)
 | 0,_=>zl_0 _
 | k+1,h=>zl_aP (l:=l+k) (zl_sum fun i hi=>h i (by omega)) (zl_up (h k (by omega)) (Nat.le_add_right l k))
theorem Bd.at1 {l i:Nat} {ps:List (Int × Int)} (h:Bd l ps):zl l (at1 ps i):=by
 rcases Nat.lt_or_ge i ps.length with hi | hi
 ·rw [at1_eq hi];exact h _ (List.getElem_mem hi)
 ·rw [Go.Proofs.YthmolpepinolkaaGreat.at1,List.getD,List.getElem?_eq_none hi];exact zl_0 _
theorem gd_row {A:List (List (Int × Int))} {i:Nat} (h:gd A) (hi:i<A.length):(rw_ A i).length=wd A:=by rw [rw_eq hi];exact h.2.2 _ (List.getElem_mem hi)
theorem BdM.at2 {l i j:Nat} {Ms:List (List (Int × Int))} (h:BdM l Ms):zl l (at2 Ms i j):=by
 rcases Nat.lt_or_ge i Ms.length with hi | hi
 ·rw [Go.Proofs.YthmolpepinolkaaGreat.at2,rw_eq hi];exact Bd.at1 (h _ (List.getElem_mem hi))
 ·rw [Go.Proofs.YthmolpepinolkaaGreat.at2,rw_,List.getD,List.getElem?_eq_none hi];exact Bd.at1 (ps:=[]) fun p hp=>by cases hp
set_option maxHeartbeats 4000000
set_option maxRecDepth 20000
def one2 (i j:Nat):Int × Int:=if i=j then (1,0) else (0,0)
section
variable {w:World} {l la lb n na nb cm ca cb i j:Nat} {om oa ob:Option Addr} {Ms A B:List (List (Int × Int))} {vg:Value} {u v:Int}
theorem ident1 (hi:i≤1000) (hj:j≤1000) :
  Calls Tryz.prog 116 (#[.int .i64 (i:Int),.int .i64 (j:Int)] ++ #[]) w fun e w'=>∃v,e = .returned v∧PC w' v (one2 i j).1 (one2 i j).2∧Below w.heap.size w w':=by
 show Calls _ _ #[.int .i64 (i:Int),.int .i64 (j:Int)] w _
 by_cases h:i=j
 ·have e:one2 i j=(1,0):=if_pos h
  have t1:((i:Int)==(j:Int))=true:=by rw [h];simp
  rw [e]
  clear e h
  go_enter Tryz.func116,Tryz.ntmps116
  have hs:=St.nil w
  refine wp_seq_k fun K1 hK1=>rg [0] ?_
  refine sq ?_
  refine .al hs ?_;clear hs;intro p_b1 w_1 hs n1 kb_b1
  apply wpSq_end
  refine hK1 _ _ ?_
  refine wp_seq_k ?_
  intro K2 hK2
  refine wp_seq_k fun K3 hK3=>rg [0,1,2] ?_
  refine sm ?_
  refine sm ?_
  refine sr ?_
  apply wpSq_end
  refine hK3 _ _ ?_
  refine ct ?_
  refine wp_seq_k fun K4 hK4=>rg [0,1] ?_
  refine sq ?_
  intro K hK
  go_big_op
  go_fit (gFrom_any 1 0 _ (by omega) (by omega) (by omega) (by omega))
  rintro e w_2 ⟨_,rfl,⟨n_ga,o_ga,k_ga,c_ga,n_gb,o_gb,k_gb,c_gb,rfl,g1,g2⟩,hb_2⟩
  replace hs:=hs.bl hb_2
  refine hK _ _ rfl trivial ?_
  clear hK K
  refine sq ?_
  refine .s4 hs.g0 (fun _=>hs.u0 kb_b1) ?_;clear hs;intro w_3 hs hd3 ho3
  apply wpSq_end
  refine hK4 _ _ ?_
  refine wp_ret ?_
  try dsimp only [Exit.then,Exit.inBlock]
  obtain ⟨r0_0,r0_1,r0_2,r0_3⟩:=hs.g0.f4
  refine bodyPost_ret (v:=(.agg #[.bool n_ga,.slice o_ga k_ga c_ga,.bool n_gb,.slice o_gb k_gb c_gb])) (by simp [results,Tryz.results116,go_sem,r0_0,r0_1,r0_2,r0_3]) rfl ?_
  have k2_3:=ko hd3 ho3
  replace g1:=g1.k k2_3
  replace g2:=g2.k k2_3
  exact ⟨_,rfl,.mk' g1 g2,hs.b⟩
 ·have e:one2 i j=(0,0):=if_neg h
  have t1:((i:Int)==(j:Int))=false:=beq_eq_false_iff_ne.2 (by omega)
  rw [e]
  clear e
  go_enter Tryz.func116,Tryz.ntmps116
  have hs:=St.nil w
  refine wp_seq_k fun K1 hK1=>rg [0] ?_
  refine sq ?_
  refine .al hs ?_;clear hs;intro p_b1 w_1 hs n1 kb_b1
  apply wpSq_end
  refine hK1 _ _ ?_
  refine wp_seq_k ?_
  intro K2 hK2
  refine wp_seq_k fun K3 hK3=>rg [0,1,2] ?_
  refine sm ?_
  refine sm ?_
  refine sr ?_
  apply wpSq_end
  refine hK3 _ _ ?_
  refine cf ?_
  refine wp_skip ?_
  refine hK2 _ _ ?_
  refine wp_seq_k fun K4 hK4=>rg [0,1] ?_
  refine sr ?_
  refine sq ?_
  refine .s4 hs.g0 (fun _=>hs.u0 kb_b1) ?_;clear hs;intro w_2 hs hd2 ho2
  apply wpSq_end
  refine hK4 _ _ ?_
  refine wp_ret ?_
  try dsimp only [Exit.then,Exit.inBlock]
  obtain ⟨r0_0,r0_1,r0_2,r0_3⟩:=hs.g0.f4
  refine bodyPost_ret (v:=(.agg #[.bool false,.slice none 0 0,.bool false,.slice none 0 0])) (by simp [results,Tryz.results116,go_sem,r0_0,r0_1,r0_2,r0_3]) rfl ?_
  exact ⟨_,rfl,.mk' (zc_zero w_2) (zc_zero w_2),hs.b⟩
theorem mIdent_ok (hn:n≤64) :
  Calls Tryz.prog 57 #[.int .i64 (n:Int)] w fun e w'=>∃o c rs,e = .returned (.tuple #[.slice o n c,.int .i64 0])∧rs.length=n∧St w (Mx w.heap.size (.slice o n c) rs) w'∧RD w' rs (mkM n n one2)∧Below w.heap.size w w':=by
 go_enter Tryz.func57,Tryz.ntmps57
 have hs:=St.nil w
 refine wp_seq_k fun K1 hK1=>rg [0,1] ?_
 refine sm ?_
 refine sm ?_
 apply wpSq_end
 refine hK1 _ _ ?_
 refine wp_seq_k ?_
 intro K2 hK2
 refine wp_seq_k fun K3 hK3=>rg [0,1] ?_
 refine sm ?_
 refine sr ?_
 apply wpSq_end
 refine hK3 _ _ ?_
 refine cf ?_
 refine wp_skip ?_
 refine hK2 _ _ ?_
 refine wp_seq_k ?_
 intro K4 hK4
 refine wp_seq_k fun K5 hK5=>rg [0,1] ?_
 refine sm ?_
 refine sr ?_
 apply wpSq_end
 refine hK5 _ _ ?_
 refine cf ?_
 refine wp_skip ?_
 refine hK4 _ _ ?_
 refine wp_seq_k fun K6 hK6=>rg [0,1,2,3,4] ?_
 refine sm ?_
 refine sm ?_
 refine sq ?_
 intro K hK
 go_big_op
 go_fit (matrix_any (F:=one2) (fun _ _ _↦by kernel_rfl) (fun i j w1 hi hj h1↦ident1 (by omega) (by omega)) (by omega) (by omega))
 rintro e w_1 ⟨o_r,c_r,rs_r,rfl,hl_r,hs_r,d_r,hb_1⟩
 replace hs:=hs.mx hl_r hs_r;simp only [List.nil_append] at hs
 refine hK _ _ rfl trivial ?_
 clear hK K
 refine sm ?_
 refine sm ?_
 apply wpSq_end
 refine hK6 _ _ ?_
 refine wp_ret ?_
 try dsimp only [Exit.then,Exit.inBlock]
 refine bodyPost_ret (v:=(.tuple #[(.slice o_r n c_r),(.int .i64 0)])) (by simp [results,Tryz.results57,go_sem]) rfl ?_
 exact ⟨_,_,_,rfl,hl_r,(by unfold Mx;rw [hl_r];exact hs),d_r,hs.b⟩
theorem mSize_ok (ha:MN la w oa A) (hna:A.length=na) (h:gd A) {k:Nat} (hk:wd A=k) :
  Calls Tryz.prog 19 #[.slice oa na ca] w fun e w'=>e = .returned (.tuple #[.int .i64 (na:Int),.int .i64 (k:Int),.int .i64 0])∧Below w.heap.size w w':=by
 have HA:=hide ha
 have hn64:na≤64:=by have:=h.1;omega
 clear ha
 go_enter Tryz.func19,Tryz.ntmps19
 have hs:=St.nil w
 refine wp_seq_k fun K1 hK1=>rg [0,1,2] ?_
 refine sm ?_
 refine sm ?_
 refine sm ?_
 apply wpSq_end
 refine hK1 _ _ ?_
 refine wp_seq_k ?_
 intro K2 hK2
 refine wp_seq_k fun K3 hK3=>rg [0,1,2] ?_
 refine sm ?_
 refine sq ?_
 intro K hK
 have hb:=hs.b
 go_big_op
 go_fit (good_yes (HA.out.bl stab_n hb) hna (by omega) h)
 rintro e w_1 ⟨rfl,hb_1⟩
 clear hb
 replace hs:=hs.bl hb_1
 refine hK _ _ rfl trivial ?_
 clear hK K
 refine sr ?_
 apply wpSq_end
 refine hK3 _ _ ?_
 refine cf ?_
 refine wp_skip ?_
 refine hK2 _ _ ?_
 refine wp_seq_k fun K4 hK4=>rg [0,1,2,3,4,5,6] ?_
 refine sm ?_
 refine sr ?_
 refine sm ?_
 refine sq ?_
 intro K hK
 have hb:=hs.b
 go_big_op
 go_fit (width_any (HA.out.bl stab_n hb) hna hk)
 rintro e w_2 ⟨rfl,hb_2⟩
 clear hb
 replace hs:=hs.bl hb_2
 refine hK _ _ rfl trivial ?_
 clear hK K
 refine sm ?_
 refine sm ?_
 refine sm ?_
 apply wpSq_end
 refine hK4 _ _ ?_
 refine wp_ret ?_
 try dsimp only [Exit.then,Exit.inBlock]
 refine bodyPost_ret (v:=(.tuple #[(.int .i64 ((na:Nat):Int)),(.int .i64 (k:Int)),(.int .i64 0)])) (by simp [results,Tryz.results19,go_sem]) rfl ?_
 exact ⟨rfl,hs.b⟩
theorem mSize_bad (ha:MN la w oa A) (hna:A.length=na) (h:¬gd A) (hla:na≤1000000000) :
  Calls Tryz.prog 19 #[.slice oa na ca] w fun e w'=>e = .returned (.tuple #[.int .i64 0,.int .i64 0,.int .i64 4])∧Below w.heap.size w w':=by
 have HA:=hide ha
 clear ha
 go_enter Tryz.func19,Tryz.ntmps19
 have hs:=St.nil w
 refine wp_seq_k fun K1 hK1=>rg [0,1,2] ?_
 refine sm ?_
 refine sm ?_
 refine sm ?_
 apply wpSq_end
 refine hK1 _ _ ?_
 refine wp_seq_k ?_
 intro K2 hK2
 refine wp_seq_k fun K3 hK3=>rg [0,1,2] ?_
 refine sm ?_
 refine sq ?_
 intro K hK
 have hb:=hs.b
 go_big_op
 go_fit (good_no (HA.out.bl stab_n hb) hna hla h)
 rintro e w_1 ⟨rfl,hb_1⟩
 clear hb
 replace hs:=hs.bl hb_1
 refine hK _ _ rfl trivial ?_
 clear hK K
 refine sr ?_
 apply wpSq_end
 refine hK3 _ _ ?_
 refine ct ?_
 refine wp_seq_k fun K4 hK4=>rg [0,1,2] ?_
 refine sm ?_
 refine sm ?_
 refine sm ?_
 apply wpSq_end
 refine hK4 _ _ ?_
 refine wp_ret ?_
 try dsimp only [Exit.then,Exit.inBlock]
 refine bodyPost_ret (v:=(.tuple #[(.int .i64 0),(.int .i64 0),(.int .i64 4)])) (by simp [results,Tryz.results19,go_sem]) rfl ?_
 exact ⟨rfl,hs.b⟩
end
theorem zlen_small8 {z:Int} (h:z.natAbs<4294967296):(dig z.natAbs).length≤1:=dig_length_le (by rw [show pw 1=4294967296 from rfl];exact h)
theorem sc2 {w:World} {p:Nat} {ty:TypeId} {fz:Nat × Nat} {n1 n2 n3 n4:Bool} {o1 o2 o3 o4:Option Addr} {k1 c1 k2 c2 k3 c3 k4 c4:Nat} {x y z u:Int}
  (hx:Bs w p #[.bool n1,.slice o1 k1 c1,.bool n2,.slice o2 k2 c2,.bool n3,.slice o3 k3 c3,.bool n4,.slice o4 k4 c4] ty fz)
  (h1:ZC w (.agg #[.bool n1,.slice o1 k1 c1]) x) (h2:ZC w (.agg #[.bool n2,.slice o2 k2 c2]) y) (h3:ZC w (.agg #[.bool n3,.slice o3 k3 c3]) z) (h4:ZC w (.agg #[.bool n4,.slice o4 k4 c4]) u):SC w (some ⟨p,0,none⟩) [(x,y),(z,u)] :=
 .inr ⟨p,0,_,ty,fz,rfl,hx,fun i hi=>match i,hi with
  | 0,_=>⟨n1,o1,k1,c1,n2,o2,k2,c2,rfl,rfl,rfl,rfl,h1,h2⟩
  | 1,_=>⟨n3,o3,k3,c3,n4,o4,k4,c4,rfl,rfl,rfl,rfl,h3,h4⟩⟩
theorem mc2 {w:World} {p:Nat} {ty:TypeId} {fz:Nat × Nat} {o1 o2:Option Addr} {c1 c2:Nat} {r1 r2:List (Int × Int)}
  (hx:Bs w p #[.slice o1 r1.length c1,.slice o2 r2.length c2] ty fz) (h1:SC w o1 r1) (h2:SC w o2 r2):MC w (some ⟨p,0,none⟩) [r1,r2] :=
 .inr ⟨p,0,_,ty,fz,rfl,hx,fun i hi=>match i,hi with
  | 0,_=>⟨o1,c1,rfl,h1⟩
  | 1,_=>⟨o2,c2,rfl,h2⟩⟩
theorem MC.bl {w w':World} {o:Option Addr} {Ms:List (List (Int × Int))} (h:MC w o Ms) (hb:Below w.heap.size w w'):MC w' o Ms:=MV.bl stab_c h hb
theorem gd_simple:gd [[(1,0),(2,0)],[(0,1),(0,0)]]:=⟨by decide,by decide,by decide⟩
theorem bd_small {Ms:List (List (Int × Int))} (h:∀r ∈ Ms,∀p ∈ r,p.1.natAbs<4294967296∧p.2.natAbs<4294967296):BdM 1 Ms:=fun r hr p hp=>⟨zlen_small8 (h r hr p hp).1,zlen_small8 (h r hr p hp).2⟩
def nP (p:Int × Int):Int:=p.1*p.1+p.2*p.2
def lenS:Nat→(Nat→Int)→Int
 | 0,_=>0
 | k+1,f=>lenS k f+f k
section
variable {a b c d:Int × Int} {f g:Nat→Int × Int} {k n r i j:Nat} {F G:Nat→Nat→Int × Int} {A B C:List (List (Int × Int))}
theorem mP_assoc:mP (mP a b) c=mP a (mP b c):=Prod.ext (by simp only [mP];grind) (by simp only [mP];grind)
theorem mP_comm:mP a b=mP b a:=Prod.ext (by simp only [mP];grind) (by simp only [mP];grind)
theorem mP_addl:mP (aP a b) c=aP (mP a c) (mP b c):=Prod.ext (by simp only [mP,aP];grind) (by simp only [mP,aP];grind)
theorem mP_addr:mP a (aP b c)=aP (mP a b) (mP a c):=Prod.ext (by simp only [mP,aP];grind) (by simp only [mP,aP];grind)
theorem aP_four:aP (aP a b) (aP c d)=aP (aP a c) (aP b d):=Prod.ext (by simp only [aP];grind) (by simp only [aP];grind)
theorem cP_mP:cP (mP a b)=mP (cP a) (cP b):=Prod.ext (by simp only [mP,cP];grind) (by simp only [mP,cP];grind)
theorem cP_aP:cP (aP a b)=aP (cP a) (cP b):=Prod.ext rfl (by simp only [aP,cP];grind)
theorem cP_cP:cP (cP a)=a:=Prod.ext rfl (by simp only [cP];grind)
theorem mP_0l:mP (0,0) c=(0,0):=Prod.ext (by simp only [mP];grind) (by simp only [mP];grind)
theorem mP_0r:mP c (0,0)=(0,0):=Prod.ext (by simp only [mP];grind) (by simp only [mP];grind)
theorem sumP_congr:∀ {k:Nat},(∀i,i<k→f i=g i)→sumP k f=sumP k g
 | 0,_=>rfl
 | k+1,h=>by rw [sumP,sumP,sumP_congr fun i hi=>h i (by omega),h k (by omega)]
theorem sumP_l:∀ {k:Nat},mP c (sumP k f)=sumP k fun i=>mP c (f i)
 | 0=>mP_0r
 | k+1=>by rw [sumP,sumP,mP_addr,sumP_l]
theorem sumP_r:∀ {k:Nat},mP (sumP k f) c=sumP k fun i=>mP (f i) c
 | 0=>mP_0l
 | k+1=>by rw [sumP,sumP,mP_addl,sumP_r]
theorem sumP_add:∀ {k:Nat},(sumP k fun i=>aP (f i) (g i))=aP (sumP k f) (sumP k g)
 | 0=>rfl
 | k+1=>by rw [sumP,sumP,sumP,sumP_add,aP_four]
theorem sumP_0:∀ {k:Nat},(sumP k fun _=>((0:Int),(0:Int)))=(0,0)
 | 0=>rfl
 | k+1=>by rw [sumP,sumP_0];rfl
theorem sumP_comm:∀ {k n:Nat},(sumP k fun i=>sumP n fun j=>F i j)=sumP n fun j=>sumP k fun i=>F i j
 | 0,n=>sumP_0.symm
 | k+1,n=>by rw [sumP,sumP_comm,←sumP_add];rfl
theorem cP_sum:∀ {k:Nat},cP (sumP k f)=sumP k fun i=>cP (f i)
 | 0=>rfl
 | k+1=>by rw [sumP,sumP,cP_aP,cP_sum]
theorem dot_len:∀ {k:Nat},(sumP k fun i=>mP (f i) (cP (f i)))=(lenS k fun i=>nP (f i),0)
 | 0=>rfl
 | k+1=>by rw [sumP,dot_len];exact Prod.ext (by simp only [aP,mP,cP,nP,lenS];grind) (by simp only [aP,mP,cP];grind)
theorem len_mkM:(mkM r k F).length=r:=by simp [mkM]
theorem wd_mkM (h:0<r∨k=0):wd (mkM r k F)=k:=by
 unfold wd mkM
 cases r with
 | zero=>have:k=0:=by omega
      subst this;rfl
 | succ r=>rw [List.range_succ_eq_map];simp
theorem at2_mkM (hi:i<r) (hj:j<k):at2 (mkM r k F) i j=F i j:=by simp [at2,rw_,at1,mkM,List.getD,hi,hj]
theorem gd_mkM (hr:r≤64) (hk:k≤64):gd (mkM r k F):=by
 refine ⟨by rw [len_mkM];exact hr,?_,?_⟩
 ·rcases Nat.eq_zero_or_pos r with h | h
  ·subst h;exact Nat.zero_le _
  ·rw [wd_mkM (.inl h)];exact hk
 ·intro q hq
  have h:0<r:=by
   rcases Nat.eq_zero_or_pos r with h | h
   ·subst h;cases hq
   ·exact h
  rw [wd_mkM (.inl h)]
  obtain ⟨i,hi,rfl⟩:=List.mem_map.1 hq
  simp
theorem mkM_eq {r' k':Nat} (hr:r=r') (hk:k=k') (h:∀i,i<r→∀j,j<k→F i j=G i j):mkM r k F=mkM r' k' G:=by
 subst hr hk
 exact List.map_congr_left fun i hi=>List.map_congr_left fun j hj=>h i (List.mem_range.1 hi) j (List.mem_range.1 hj)
theorem at2_bd {l:Nat} (h:BdM l A):zl l (at2 A i j):=by
 unfold at2 rw_
 rcases Nat.lt_or_ge i A.length with hi | hi
 ·rw [List.getD,List.getElem?_eq_getElem hi]
  exact Bd.at1 (h _ (List.getElem_mem hi))
 ·rw [List.getD,List.getElem?_eq_none hi]
  exact zl_0 _
end
end Go.Proofs.YthmolpepinolkaaGreat
