/- gmat.build at rows; gmat.matrix. -/
import Derived.Test.YthmolpepinolkaaGreatWkToM1
namespace Go.Proofs.YthmolpepinolkaaGreat
open Go Go.RowKit Dig
set_option maxHeartbeats 4000000
set_option maxRecDepth 20000
set_option linter.unusedVariables false
theorem set_mid {α:Type} {ys zs:List α} {z c:α} {i:Nat} (h:ys.length=i):(ys++z::zs).set i c=(ys++[c])++zs:=by
 rw [List.set_append_right _ _ (by omega),show i - ys.length=0 by omega,List.set_cons_zero];simp
section
variable {w:World} {f n:Nat} {caps:Array Value}
theorem buildL_any {F:Nat→List (Int × Int)} (hf:Ent1 f caps) (h:TelL w f caps n F) (hn:n≤1000000) :
  Calls Tryz.prog 153 #[.int .i64 (n:Int),.func (.func f) #[] caps] w fun e w'=>∃o c rs,e = .returned (.slice o n c)∧rs.length=n∧St w (Mx w.heap.size (.slice o n c) rs) w'∧RD w' rs ((List.range n).map F)∧Below w.heap.size w w':=by
 unfold Ent1 at hf
 go_enter Tryz.func153,Tryz.ntmps153
 have hs:=St.nil w
 refine wp_seq_k fun K1 hK1=>rg [0] ?_
 refine sm ?_
 apply wpSq_end
 refine hK1 _ _ ?_
 refine wp_seq_k fun K2 hK2=>rg [0,1,2] ?_
 refine sm ?_
 refine sq ?_
 refine .mk (n:=n) hs ?_ (by first | rfl | omega) (by omega);clear hs;intro g_l xs_l w_1 hs e_l n1 kb_l
 refine sm ?_
 apply wpSq_end
 refine hK2 _ _ ?_
 refine wp_seq_k ?_
 intro K3 hK3
 refine wp_seq_k fun K4 hK4=>rg [0,1,2] ?_
 refine sm ?_
 refine sr ?_
 refine sm ?_
 apply wpSq_end
 refine hK4 _ _ ?_
 refine wp_block ?_
 have hd2:=hs.2.1
 go_loopg [11] n (fun k s11 wr=>∃(i:Nat) (rs:List Rw) (zs:List Value),s11 = .int .i64 (i:Int)∧i+k=n∧St w (ls w.heap.size 24 1 (.slice (some ⟨g_l,0,none⟩) n n) n (rs.map (·.v)++zs)::rs.map (Rw.e w.heap.size)) wr∧rs.length=i∧RD wr rs ((List.range i).map F))
 case atStart=>exact ⟨0,[],xs_l,rfl,by omega,hs,rfl,trivial⟩
 case round =>
 clear hs
 obtain ⟨i,rs,zs,rfl,hik,hs,hyl,hd⟩:=hrel
 have hlen:=hs.1.1.1.1.1
 rw [List.length_append,List.length_map,hyl] at hlen
 by_cases hi:i<n
 ·obtain ⟨z0,ws,rfl⟩:∃z0 ws,zs=z0::ws:=List.exists_cons_of_length_pos (by omega)
  refine wp_seq_k fun K5 hK5=>rg [0] ?_
  refine sr ?_
  apply wpSq_end
  refine hK5 _ _ ?_
  refine wp_seq_k ?_
  intro K6 hK6
  refine ct ?_
  refine wp_skip ?_
  refine hK6 _ _ ?_
  refine wp_seq_k ?_
  intro K7 hK7
  refine wp_block ?_
  refine wp_seq_k fun K8 hK8=>rg [0,1] ?_
  refine sm ?_
  refine sm ?_
  apply wpSq_end
  refine hK8 _ _ ?_
  refine rg [0,1,2,3,4,5,6] ?_
  refine sm ?_
  refine sm ?_
  refine sm ?_
  refine sm ?_
  refine sq ?_
  intro K hK
  have hb:=hs.b
  go_big_op
  go_fit (h i _ hi hb)
  rintro e w_3 ⟨o_r,c_r,xs_r,rfl,L_r,d_r,hb_3⟩
  clear hb
  replace hs:=hs.la hb_3 L_r
  refine hK _ _ rfl trivial ?_
  clear hK K
  refine sr ?_
  refine sq ?_
  refine .i1 1 hs (j:=i) (by omega) ?_;clear hs;intro w_4 hs kp4 hd4 ho4 hw4;simp only [List.set_cons_succ,List.set_cons_zero] at hs
  apply wpSq_end
  refine hK7 _ _ ?_
  refine rg [0,1] ?_
  refine sr ?_
  refine sm ?_
  apply wpSq_end
  have k0_2:=(kb hb_3).t kp4
  replace hd:=hd.k k0_2
  have k1_2:=kp4
  replace d_r:=d_r.k k1_2
  refine ‹∀(a':Act) (w':World),Handed _ _ a' w'→_› _ _ ?_
  rw [set_mid (by rw [List.length_map];exact hyl)] at hs
  have hs:=hs.perm (cs:=ls w.heap.size 24 1 (.slice (some ⟨g_l,0,none⟩) n n) n ((rs++[(⟨.slice o_r (F i).length c_r,(F i).length,xs_r⟩:Rw)]).map (·.v)++ws)::(rs++[(⟨.slice o_r (F i).length c_r,(F i).length,xs_r⟩:Rw)]).map (Rw.e w.heap.size)) (by
   rw [List.map_append,List.map_append]
   exact (List.Perm.swap _ _ _).trans (List.Perm.cons _ (List.perm_append_singleton _ _).symm))
  go_roundg (gk - 1)
  case rel=>exact ⟨i+1,_,ws,by rfl,by omega,hs,by simp;omega,by rw [mapr_succ];exact hd.snoc rfl d_r⟩
  case measure=>omega
 ·obtain rfl:n=i:=by omega
  obtain rfl:zs=[]:=List.eq_nil_of_length_eq_zero (by omega)
  rw [List.append_nil] at hs
  have HX:=hide hi
  refine wp_seq_k fun K5 hK5=>rg [0] ?_
  refine sr ?_
  apply wpSq_end
  refine hK5 _ _ ?_
  refine wp_seq_k ?_
  intro K6 hK6
  refine cf ?_
  refine wp_exit ?_
  refine hK3 _ _ ?_
  refine wp_seq_k fun K7 hK7=>rg [0,1] ?_
  refine sm ?_
  refine sm ?_
  apply wpSq_end
  refine hK7 _ _ ?_
  refine wp_ret ?_
  try dsimp only [Exit.then,Exit.inBlock]
  refine bodyPost_ret (v:=(.slice (some ⟨g_l,0,none⟩) n n)) (by simp [results,Tryz.results153,go_sem]) rfl ?_
  exact ⟨_,_,rs,rfl,hyl,(by unfold Mx;rw [hyl];exact hs),hd,hs.b⟩
def Tel2 (w:World) (f:Nat) (caps:Array Value) (r c:Nat) (F:Nat→Nat→Int × Int):Prop :=
 ∀(i j:Nat) (w1:World),i<r→j<c→Below w.heap.size w w1→Calls Tryz.prog f (#[.int .i64 (i:Int),.int .i64 (j:Int)]++caps) w1 fun e w2=>∃v,e = .returned v∧PC w2 v (F i j).1 (F i j).2∧Below w1.heap.size w1 w2
theorem Tel2.at {w w':World} {r c:Nat} {F:Nat→Nat→Int × Int} (h:Tel2 w f caps r c F) (hb:Below w.heap.size w w'):Tel2 w' f caps r c F:=fun i j w1 hi hj h1=>h i j w1 hi hj (tmm hb h1)
theorem matrix11 {r c pn pi:Nat} {i j:Nat} {F:Nat→Nat→Int × Int} (hf:Ent2 f caps) (h:Tel2 w f caps r c F) (hi:i<r) (hj:j<c) (x1:Bs w pn #[.func (.func f) #[] caps] 68) (x2:Bs w pi #[.int .i64 (i:Int)] 3) :
  Calls Tryz.prog 155 (#[.int .i64 (j:Int)] ++ #[.pointer (some ⟨pn,0,none⟩),.pointer (some ⟨pi,0,none⟩)]) w fun e w'=>∃v,e = .returned v∧PC w' v (F i j).1 (F i j).2∧Below w.heap.size w w':=by
 unfold Ent2 at hf
 show Calls _ _ #[.int .i64 (j:Int),.pointer (some ⟨pn,0,none⟩),.pointer (some ⟨pi,0,none⟩)] w _
 go_enter Tryz.func155,Tryz.ntmps155
 have hs:=St.nil w
 have lt_bn:=x1.lt
 have x1z:=x1
 have lt_bi:=x2.lt
 have x2z:=x2
 refine wp_seq_k fun K1 hK1=>rg [0] ?_
 refine sq ?_
 refine .al hs ?_;clear hs;intro p_b1 w_1 hs n1 kb_b1
 replace x1:=x1.bl n1;replace x2:=x2.bl n1
 apply wpSq_end
 refine hK1 _ _ ?_
 refine wp_seq_k fun K2 hK2=>rg [0,1,2,3,4] ?_
 refine sq ?_
 refine .r1 x1.f1 ?_
 refine sq ?_
 refine .r1 x2.f1 ?_
 refine sm ?_
 refine sq ?_
 intro K hK
 have hb:=hs.b
 go_big_op
 go_fit (h i j _ hi hj hb)
 rintro e w_2 ⟨_,rfl,⟨n_va,o_va,k_va,c_va,n_vb,o_vb,k_vb,c_vb,rfl,v1,v2⟩,hb_2⟩
 clear hb
 replace hs:=hs.bl hb_2
 refine hK _ _ rfl trivial ?_
 clear hK K
 refine sq ?_
 refine .s4 hs.g0 (fun _=>hs.u0 kb_b1) ?_;clear hs;intro w_3 hs hd3 ho3
 apply wpSq_end
 refine hK2 _ _ ?_
 refine wp_ret ?_
 try dsimp only [Exit.then,Exit.inBlock]
 obtain ⟨r0_0,r0_1,r0_2,r0_3⟩:=hs.g0.f4
 refine bodyPost_ret (v:=(.agg #[.bool n_va,.slice o_va k_va c_va,.bool n_vb,.slice o_vb k_vb c_vb])) (by simp [results,Tryz.results155,go_sem,r0_0,r0_1,r0_2,r0_3]) rfl ?_
 have k2_3:=ko hd3 ho3
 replace v1:=v1.k k2_3
 replace v2:=v2.k k2_3
 exact ⟨_,rfl,.mk' v1 v2,hs.b⟩
theorem matrix1 {r c pn pc:Nat} {i:Nat} {F:Nat→Nat→Int × Int} (hf:Ent2 f caps) (h:Tel2 w f caps r c F) (hi:i<r) (hc:c≤1000000) (x1:Bs w pn #[.func (.func f) #[] caps] 68) (x2:Bs w pc #[.int .i64 (c:Int)] 3) :
  Calls Tryz.prog 154 (#[.int .i64 (i:Int)] ++ #[.pointer (some ⟨pc,0,none⟩),.pointer (some ⟨pn,0,none⟩)]) w fun e w'=>∃o cc xs,e = .returned (.slice o c cc)∧Lst w' w.heap.size 45 4 (.slice o c cc) c xs∧GD w' xs ((List.range c).map (F i))∧Below w.heap.size w w':=by
 show Calls _ _ #[.int .i64 (i:Int),.pointer (some ⟨pc,0,none⟩),.pointer (some ⟨pn,0,none⟩)] w _
 go_enter Tryz.func154,Tryz.ntmps154
 have hs:=St.nil w
 have lt_bc:=x2.lt
 have x2z:=x2
 have lt_bn:=x1.lt
 have x1z:=x1
 refine wp_seq_k fun K1 hK1=>rg [0,1] ?_
 refine sq ?_
 refine .al hs ?_;clear hs;intro p_b1 w_1 hs n1 kb_b1
 replace x2:=x2.bl n1;replace x1:=x1.bl n1
 refine sm ?_
 apply wpSq_end
 refine hK1 _ _ ?_
 refine wp_seq_k fun K2 hK2=>rg [0,1,2,3] ?_
 refine sq ?_
 refine .r1 x2.f1 ?_
 refine sr ?_
 refine sq ?_
 intro K hK
 have hb:=hs.b
 have x_b1:=hs.g0
 go_big_op
 go_fit (buildG_any (fun _ _↦by kernel_rfl) (fun j w1 hj h1↦matrix11 hf (h.at (tmm hb h1)) hi hj (x1.bl h1) (x_b1.bl h1)) hc)
 rintro e w_2 ⟨o_r,c_r,xs_r,rfl,L_r,d_r,hb_2⟩
 clear hb x_b1
 replace x1:=x1.bl hb_2
 replace hs:=hs.la hb_2 L_r
 refine hK _ _ rfl trivial ?_
 clear hK K
 refine sm ?_
 apply wpSq_end
 refine hK2 _ _ ?_
 refine wp_ret ?_
 try dsimp only [Exit.then,Exit.inBlock]
 refine bodyPost_ret (v:=(.slice o_r c c_r)) (by simp [results,Tryz.results154,go_sem]) rfl ?_
 exact ⟨_,_,_,rfl,hs.1.1.1,d_r,hs.b⟩
theorem matrix_any {r c:Nat} {F:Nat→Nat→Int × Int} (hf:Ent2 f caps) (h:Tel2 w f caps r c F) (hr:r≤1000000) (hc:c≤1000000) :
  Calls Tryz.prog 115 #[.int .i64 (r:Int),.int .i64 (c:Int),.func (.func f) #[] caps] w fun e w'=>∃o cc rs,e = .returned (.slice o r cc)∧rs.length=r∧St w (Mx w.heap.size (.slice o r cc) rs) w'∧RD w' rs ((List.range r).map fun i=>(List.range c).map (F i))∧Below w.heap.size w w':=by
 go_enter Tryz.func115,Tryz.ntmps115
 have hs:=St.nil w
 refine wp_seq_k fun K1 hK1=>rg [0,1,2] ?_
 refine sq ?_
 refine .al hs ?_;clear hs;intro p_b1 w_1 hs n1 kb_b1
 refine sq ?_
 refine .al hs ?_;clear hs;intro p_b2 w_2 hs n2 kb_b2
 refine sm ?_
 apply wpSq_end
 refine hK1 _ _ ?_
 refine wp_seq_k fun K2 hK2=>rg [0,1,2,3] ?_
 refine sm ?_
 refine sr ?_
 refine sq ?_
 intro K hK
 have hb:=hs.b
 have x_b2:=hs.g0
 have x_b1:=hs.g1
 go_big_op
 go_fit (buildL_any (F:=fun i↦(List.range c).map (F i)) (fun _ _↦by kernel_rfl) (fun i w1 hi h1↦by have:=matrix1 hf (h.at (tmm hb h1)) hi hc (x_b2.bl h1) (x_b1.bl h1);simpa using this) hr)
 rintro e w_3 ⟨o_r,c_r,rs_r,rfl,hl_r,hs_r,d_r,hb_3⟩
 clear hb x_b2 x_b1
 replace hs:=hs.mx hl_r hs_r;simp only [List.cons_append,List.nil_append] at hs
 refine hK _ _ rfl trivial ?_
 clear hK K
 refine sm ?_
 apply wpSq_end
 refine hK2 _ _ ?_
 refine wp_ret ?_
 try dsimp only [Exit.then,Exit.inBlock]
 refine bodyPost_ret (v:=(.slice o_r r c_r)) (by simp [results,Tryz.results115,go_sem]) rfl ?_
 exact ⟨_,_,_,rfl,hl_r,(by unfold Mx;rw [hl_r];exact hs.sub (.cons_cons _ (.cons _ (.cons _ (List.Sublist.refl _))))),d_r,hs.b⟩
end
def wd (Ms:List (List (Int × Int))):Nat:=(Ms.headD []).length
def gd (Ms:List (List (Int × Int))):Prop:=Ms.length≤64∧wd Ms≤64∧∀r ∈ Ms,r.length=wd Ms
instance (Ms:List (List (Int × Int))):Decidable (gd Ms):=inferInstanceAs (Decidable (_∧_∧_))
theorem wd_0 {Ms:List (List (Int × Int))} (h:0<Ms.length):Ms[0].length=wd Ms:=by
 match Ms,h with
 | r::Ms,_=>rfl
theorem wd_nil {Ms:List (List (Int × Int))} (h:Ms.length=0):wd Ms=0:=by rw [List.eq_nil_of_length_eq_zero h];rfl
section
variable {w:World} {l:Nat} {om:Option Addr} {n k cm:Nat} {Ms:List (List (Int × Int))}
theorem width_any (hm:MN l w om Ms) (hn:Ms.length=n) (hk:wd Ms=k) :
  Calls Tryz.prog 55 #[.slice om n cm] w fun e w'=>e = .returned (.int .i64 (k:Int))∧Below w.heap.size w w':=by
 rcases Nat.eq_zero_or_pos n with h0 | h0
 ·have hk0:0=k:=by rw [←hk,wd_nil (hn.trans h0)]
  subst hk0 h0
  clear hk hn hm
  go_enter Tryz.func55,Tryz.ntmps55
  have hs:=St.nil w
  refine wp_seq_k fun K1 hK1=>rg [0] ?_
  refine sm ?_
  apply wpSq_end
  refine hK1 _ _ ?_
  refine wp_seq_k ?_
  intro K2 hK2
  refine wp_seq_k fun K3 hK3=>rg [0,1,2] ?_
  refine sm ?_
  refine sr ?_
  refine sr ?_
  apply wpSq_end
  refine hK3 _ _ ?_
  refine ct ?_
  refine wp_seq_k fun K4 hK4=>rg [0] ?_
  refine sm ?_
  apply wpSq_end
  refine hK4 _ _ ?_
  refine wp_ret ?_
  try dsimp only [Exit.then,Exit.inBlock]
  refine bodyPost_ret (v:=(.int .i64 0)) (by simp [results,Tryz.results55,go_sem]) rfl ?_
  exact ⟨rfl,hs.b⟩
 ·obtain ⟨g,off,cur,ty,fz,rfl,x,hr⟩:=hm.box (by omega)
  obtain ⟨o0,c0,e0,s0⟩:=hr 0 (by omega)
  rw [wd_0 (by omega),hk,Nat.add_zero] at e0
  clear hm hr s0 hk hn
  go_enter Tryz.func55,Tryz.ntmps55
  have hs:=St.nil w
  refine wp_seq_k fun K1 hK1=>rg [0] ?_
  refine sm ?_
  apply wpSq_end
  refine hK1 _ _ ?_
  refine wp_seq_k ?_
  intro K2 hK2
  refine wp_seq_k fun K3 hK3=>rg [0,1,2] ?_
  refine sm ?_
  refine sr ?_
  refine sr ?_
  apply wpSq_end
  refine hK3 _ _ ?_
  refine cf ?_
  refine wp_skip ?_
  refine hK2 _ _ ?_
  refine wp_seq_k fun K4 hK4=>rg [0,1,2,3,4] ?_
  refine sm ?_
  refine sr ?_
  refine sq ?_
  refine .r1 (x.cell _ e0) ?_
  refine sr ?_
  refine sm ?_
  apply wpSq_end
  refine hK4 _ _ ?_
  refine wp_ret ?_
  try dsimp only [Exit.then,Exit.inBlock]
  refine bodyPost_ret (v:=(.int .i64 ((k:Nat):Int))) (by simp [results,Tryz.results55,go_sem]) rfl ?_
  exact ⟨rfl,hs.b⟩
theorem good_any (hm:MN l w om Ms) (hn:Ms.length=n) (hl:n≤1000000000) :
  Calls Tryz.prog 51 #[.slice om n cm] w fun e w'=>e = .returned (.bool (decide (gd Ms)))∧Below w.heap.size w w':=by
 obtain ⟨k,hk⟩:∃k,wd Ms=k:=⟨_,rfl⟩
 have hw:=fun (w':World) (hb:Below w.heap.size w w')=>width_any (cm:=cm) (hm.bl stab_n hb) hn hk
 have HG:=hide (show (n≤64∧k≤64∧∀r ∈ Ms,r.length=k) ↔ gd Ms by unfold gd;rw [hk,hn])
 by_cases hn64:64<n
 ·have hg:decide (gd Ms)=false:=decide_eq_false fun h=>by have:=(HG.out.2 h).1;omega
  have Hg:=hide hg
  clear hg
  have t1:((64:Int)<(n:Int))=True:=eq_true (by omega)
  go_enter Tryz.func51,Tryz.ntmps51
  have hs:=St.nil w
  refine wp_seq_k fun K1 hK1=>rg [0] ?_
  refine sm ?_
  apply wpSq_end
  refine hK1 _ _ ?_
  refine wp_seq_k ?_
  intro K2 hK2
  refine wp_seq_k fun K3 hK3=>rg [0,1,2,3,4,5,6,7] ?_
  refine sm ?_
  refine sr ?_
  refine sr ?_
  refine sm ?_
  refine sk ?_
  refine sk ?_
  refine sk ?_
  refine sr ?_
  apply wpSq_end
  refine hK3 _ _ ?_
  refine ct ?_
  refine wp_seq_k fun K4 hK4=>rg [0] ?_
  refine sm ?_
  apply wpSq_end
  refine hK4 _ _ ?_
  refine wp_ret ?_
  try dsimp only [Exit.then,Exit.inBlock]
  refine bodyPost_ret (v:=(.bool false)) (by simp [results,Tryz.results51,go_sem]) rfl ?_
  exact ⟨by rw [Hg.out],hs.b⟩
 ·by_cases hk64:64<k
  ·have hg:decide (gd Ms)=false:=decide_eq_false fun h=>by have:=(HG.out.2 h).2.1;omega
   have Hg:=hide hg
   clear hg
   have t1:((64:Int)<(n:Int))=False:=eq_false (by omega)
   have t2:((64:Int)<(k:Int))=True:=eq_true (by omega)
   go_enter Tryz.func51,Tryz.ntmps51
   have hs:=St.nil w
   refine wp_seq_k fun K1 hK1=>rg [0] ?_
   refine sm ?_
   apply wpSq_end
   refine hK1 _ _ ?_
   refine wp_seq_k ?_
   intro K2 hK2
   refine wp_seq_k fun K3 hK3=>rg [0,1,2,3,4,5,6,7] ?_
   refine sm ?_
   refine sr ?_
   refine sr ?_
   refine sm ?_
   refine sm ?_
   refine sq ?_
   intro K hK
   have hb:=hs.b
   go_big_op
   go_fit (hw _ hb)
   rintro e w_1 ⟨rfl,hb_1⟩
   clear hb
   replace hs:=hs.bl hb_1
   refine hK _ _ rfl trivial ?_
   clear hK K
   refine sr ?_
   refine sr ?_
   apply wpSq_end
   refine hK3 _ _ ?_
   refine ct ?_
   refine wp_seq_k fun K4 hK4=>rg [0] ?_
   refine sm ?_
   apply wpSq_end
   refine hK4 _ _ ?_
   refine wp_ret ?_
   try dsimp only [Exit.then,Exit.inBlock]
   refine bodyPost_ret (v:=(.bool false)) (by simp [results,Tryz.results51,go_sem]) rfl ?_
   exact ⟨by rw [Hg.out],hs.b⟩
  ·have X:n=0∨∃g off cur ty fz,om=some ⟨g,off,none⟩∧Bs w g cur ty fz∧Rws (RN l) w cur off Ms:=hm.imp (fun e=>by rw [←hn,e];rfl) id
   have t1:((64:Int)<(n:Int))=False:=eq_false (by omega)
   have t2:((64:Int)<(k:Int))=False:=eq_false (by omega)
   go_enter Tryz.func51,Tryz.ntmps51
   have hs:=St.nil w
   refine wp_seq_k fun K1 hK1=>rg [0] ?_
   refine sm ?_
   apply wpSq_end
   refine hK1 _ _ ?_
   refine wp_seq_k ?_
   intro K2 hK2
   refine wp_seq_k fun K3 hK3=>rg [0,1,2,3,4,5,6,7] ?_
   refine sm ?_
   refine sr ?_
   refine sr ?_
   refine sm ?_
   refine sm ?_
   refine sq ?_
   intro K hK
   have hb:=hs.b
   go_big_op
   go_fit (hw _ hb)
   rintro e w_1 ⟨rfl,hb_1⟩
   clear hb
   replace hs:=hs.bl hb_1
   refine hK _ _ rfl trivial ?_
   clear hK K
   refine sr ?_
   refine sr ?_
   apply wpSq_end
   refine hK3 _ _ ?_
   refine cf ?_
   refine wp_skip ?_
   refine hK2 _ _ ?_
   refine wp_seq_k ?_
   intro K4 hK4
   refine wp_seq_k fun K5 hK5=>rg [0,1,2] ?_
   refine sm ?_
   refine sr ?_
   refine sm ?_
   apply wpSq_end
   refine hK5 _ _ ?_
   refine wp_block ?_
   have hd2:=hs.2.1
   go_loopg [15] n (fun kk s15 wr=>∃i:Nat,s15 = .int .i64 (i:Int)∧i+kk=n∧Hid (∀j (hj:j<Ms.length),j<i→Ms[j].length=k)∧St w [] wr)
   case atStart=>exact ⟨0,rfl,by omega,hide fun j _ h=>absurd h (Nat.not_lt_zero j),hs⟩
   case round =>
   clear hs
   obtain ⟨i,rfl,hik,HJ,hs⟩:=hrel
   by_cases hi:i<n
   ·obtain ⟨g,off,cur,ty,fz,rfl,x,hr⟩:=X.resolve_left (by omega)
    obtain ⟨oi,ci,ei,si⟩:=hr i (by omega)
    have x1:=x.bl hs.b
    have HI:=hide (show ∀k',Ms[i].length=k'→k'=k→∀j (hj:j<Ms.length),j<i+1→Ms[j].length=k from fun k' e1 e2 j hj h=>by
     rcases Nat.lt_succ_iff_lt_or_eq.1 h with h | h
     ·exact HJ.out j hj h
     ·subst h;omega)
    have HN:=hide (show Ms[i].length≠k→decide (gd Ms)=false from fun h=>decide_eq_false fun hg=>h ((HG.out.2 hg).2.2 _ (List.getElem_mem _)))
    obtain ⟨kr,hkr⟩:∃kr,Ms[i].length=kr:=⟨_,rfl⟩
    rw [hkr] at ei HN
    replace HI:=hide (HI.out kr hkr)
    clear hkr si X
    refine wp_seq_k fun K6 hK6=>rg [0] ?_
    refine sr ?_
    apply wpSq_end
    refine hK6 _ _ ?_
    refine wp_seq_k ?_
    intro K7 hK7
    refine ct ?_
    refine wp_skip ?_
    refine hK7 _ _ ?_
    refine wp_seq_k ?_
    intro K8 hK8
    refine wp_block ?_
    refine wp_seq_k fun K9 hK9=>rg [0,1,2] ?_
    refine sr ?_
    refine sq ?_
    refine .r1 (x1.cell _ ei) ?_
    refine sm ?_
    apply wpSq_end
    refine hK9 _ _ ?_
    refine wp_seq_k fun K10 hK10=>rg [0,1,2,3,4] ?_
    refine sm ?_
    refine sr ?_
    refine sm ?_
    refine sq ?_
    intro K hK
    have hb:=hs.b
    go_big_op
    go_fit (hw _ hb)
    rintro e w_3 ⟨rfl,hb_3⟩
    clear hb
    replace x1:=x1.bl hb_3;replace hs:=hs.bl hb_3
    refine hK _ _ rfl trivial ?_
    clear hK K
    refine sr ?_
    apply wpSq_end
    refine hK10 _ _ ?_
    by_cases hkk:kr=k
    ·have HK:=hide hkk
     have t3:((kr:Int) != (k:Int))=false:=by rw [hkk];simp
     refine cf ?_
     refine wp_skip ?_
     refine hK8 _ _ ?_
     refine rg [0,1] ?_
     refine sr ?_
     refine sm ?_
     apply wpSq_end
     refine ‹∀(a':Act) (w':World),Handed _ _ a' w'→_› _ _ ?_
     go_roundg (gk - 1)
     case rel=>exact ⟨i+1,by rfl,by omega,hide (HI.out hkk),hs⟩
     case measure=>omega
    ·have Hg:=hide (HN.out hkk)
     have t3:((kr:Int) != (k:Int))=true:=bne_iff_ne.2 (by omega)
     refine ct ?_
     refine wp_seq_k fun K11 hK11=>rg [0] ?_
     refine sm ?_
     apply wpSq_end
     refine hK11 _ _ ?_
     refine wp_ret ?_
     try dsimp only [Exit.then,Exit.inBlock]
     refine bodyPost_ret (v:=(.bool false)) (by simp [results,Tryz.results51,go_sem]) rfl ?_
     exact ⟨by rw [Hg.out],hs.b⟩
   ·have HX:=hide hi
    have Hg:=hide (show decide (gd Ms)=true from decide_eq_true (HG.out.1 ⟨by omega,by omega,fun r hr=>by
     obtain ⟨j,hj,rfl⟩:=List.getElem_of_mem hr
     exact HJ.out j hj (by omega)⟩))
    refine wp_seq_k fun K6 hK6=>rg [0] ?_
    refine sr ?_
    apply wpSq_end
    refine hK6 _ _ ?_
    refine wp_seq_k ?_
    intro K7 hK7
    refine cf ?_
    refine wp_exit ?_
    refine hK4 _ _ ?_
    refine wp_seq_k fun K8 hK8=>rg [0] ?_
    refine sm ?_
    apply wpSq_end
    refine hK8 _ _ ?_
    refine wp_ret ?_
    try dsimp only [Exit.then,Exit.inBlock]
    refine bodyPost_ret (v:=(.bool true)) (by simp [results,Tryz.results51,go_sem]) rfl ?_
    exact ⟨by rw [Hg.out],hs.b⟩
theorem good_yes (hm:MN l w om Ms) (hn:Ms.length=n) (hl:n≤1000000000) (h:gd Ms) :
  Calls Tryz.prog 51 #[.slice om n cm] w fun e w'=>e = .returned (.bool true)∧Below w.heap.size w w':=by
 have:=good_any (cm:=cm) hm hn hl;rw [decide_eq_true h] at this;exact this
theorem good_no (hm:MN l w om Ms) (hn:Ms.length=n) (hl:n≤1000000000) (h:¬gd Ms) :
  Calls Tryz.prog 51 #[.slice om n cm] w fun e w'=>e = .returned (.bool false)∧Below w.heap.size w w':=by
 have:=good_any (cm:=cm) hm hn hl;rw [decide_eq_false h] at this;exact this
variable {la lb na nb ca cb:Nat} {oa ob:Option Addr} {A B:List (List (Int × Int))}
end
def aP (p q:Int × Int):Int × Int:=(p.1+q.1,p.2+q.2)
def sP (p q:Int × Int):Int × Int:=(p.1 - q.1,p.2 - q.2)
def mP (p q:Int × Int):Int × Int:=(p.1*q.1 - p.2*q.2,p.1*q.2+p.2*q.1)
def cP (p:Int × Int):Int × Int:=(p.1,-p.2)
def rw_ (Ms:List (List (Int × Int))) (i:Nat):List (Int × Int):=Ms.getD i []
def at1 (ps:List (Int × Int)) (j:Nat):Int × Int:=ps.getD j (0,0)
def at2 (Ms:List (List (Int × Int))) (i j:Nat):Int × Int:=at1 (rw_ Ms i) j
def mkM (r c:Nat) (F:Nat→Nat→Int × Int):List (List (Int × Int)):=(List.range r).map fun i=>(List.range c).map (F i)
theorem rw_eq {Ms:List (List (Int × Int))} {i:Nat} (hi:i<Ms.length):rw_ Ms i=Ms[i]:=by simp [rw_,List.getD,hi]
theorem at1_eq {ps:List (Int × Int)} {i:Nat} (hi:i<ps.length):at1 ps i=ps[i]:=by simp [at1,List.getD,hi]
theorem SV.op {l:Nat} {w:World} {o:Option Addr} {ps:List (Int × Int)} {j:Nat} (h:SN l w o ps) (hj:j<ps.length) :
  ∃g off cur ty fz n1 o1 k1 c1 n2 o2 k2 c2,o=some ⟨g,off,none⟩∧Bs w g cur ty fz∧cur[off+j*4]? = some (.bool n1)∧cur[off+j*4+1]? = some (.slice o1 k1 c1)∧cur[off+j*4+2]? = some (.bool n2)∧cur[off+j*4+3]? = some (.slice o2 k2 c2) ∧
   ZN w (.agg #[.bool n1,.slice o1 k1 c1]) (at1 ps j).1 l∧ZN w (.agg #[.bool n2,.slice o2 k2 c2]) (at1 ps j).2 l:=by
 obtain ⟨g,off,cur,ty,fz,rfl,x,hr⟩:=h.box (by omega)
 obtain ⟨n1,o1,k1,c1,n2,o2,k2,c2,e1,e2,e3,e4,h1,h2⟩:=hr j hj
 rw [←at1_eq hj] at h1 h2
 exact ⟨g,off,cur,ty,fz,n1,o1,k1,c1,n2,o2,k2,c2,rfl,x,e1,e2,e3,e4,h1,h2⟩
theorem MV.row {l:Nat} {w:World} {om:Option Addr} {Ms:List (List (Int × Int))} {i:Nat} (h:MN l w om Ms) (hi:i<Ms.length) :
  ∃g off cur ty fz oi ci,om=some ⟨g,off,none⟩∧Bs w g cur ty fz∧cur[off+i]? = some (.slice oi (rw_ Ms i).length ci)∧SN l w oi (rw_ Ms i):=by
 obtain ⟨g,off,cur,ty,fz,rfl,x,hr⟩:=h.box (by omega)
 obtain ⟨o,c,e,hs⟩:=hr i hi
 rw [←rw_eq hi] at e hs
 exact ⟨g,off,cur,ty,fz,o,c,rfl,x,e,hs⟩
theorem MV.op {l:Nat} {w:World} {om:Option Addr} {Ms:List (List (Int × Int))} {i j:Nat} (h:MN l w om Ms) (hi:i<Ms.length) (hj:j<(rw_ Ms i).length) :
  ∃g off cur ty fz g2 off2 cur2 ty2 fz2 ci n1 o1 k1 c1 n2 o2 k2 c2,om=some ⟨g,off,none⟩∧Bs w g cur ty fz∧cur[off+i]? = some (.slice (some ⟨g2,off2,none⟩) (rw_ Ms i).length ci)∧Bs w g2 cur2 ty2 fz2 ∧
   cur2[off2+j*4]? = some (.bool n1)∧cur2[off2+j*4+1]? = some (.slice o1 k1 c1)∧cur2[off2+j*4+2]? = some (.bool n2)∧cur2[off2+j*4+3]? = some (.slice o2 k2 c2) ∧
   ZN w (.agg #[.bool n1,.slice o1 k1 c1]) (at2 Ms i j).1 l∧ZN w (.agg #[.bool n2,.slice o2 k2 c2]) (at2 Ms i j).2 l:=by
 obtain ⟨g,off,cur,ty,fz,oi,ci,rfl,x,e,hs⟩:=h.row hi
 obtain ⟨g2,off2,cur2,ty2,fz2,n1,o1,k1,c1,n2,o2,k2,c2,rfl,x2,r⟩:=hs.op hj
 exact ⟨g,off,cur,ty,fz,g2,off2,cur2,ty2,fz2,ci,n1,o1,k1,c1,n2,o2,k2,c2,rfl,x,e,x2,r⟩
def gT1 (x y u v:Int):Int:=x*u - y * -v
def gT2 (x y u v:Int):Int:=x * -v+y*u
def gQ1 (x y u v:Int):Int:=rnd (gT1 x y u v) (gN u v)
def gQ2 (x y u v:Int):Int:=rnd (gT2 x y u v) (gN u v)
def gR1 (x y u v:Int):Int:=x - (gQ1 x y u v*u - gQ2 x y u v*v)
def gR2 (x y u v:Int):Int:=y - (gQ1 x y u v*v+gQ2 x y u v*u)
theorem gN_zero {u v:Int}:gN u v=0 ↔ u=0∧v=0:=by
 unfold gN
 have h1:=mul_self_nonneg' u
 have h2:=mul_self_nonneg' v
 constructor
 ·intro h
  have e1:u*u=0:=by omega
  have e2:v*v=0:=by omega
  exact ⟨(Int.mul_eq_zero.1 e1).elim id id,(Int.mul_eq_zero.1 e2).elim id id⟩
 ·rintro ⟨rfl,rfl⟩;rfl
theorem gN_nonneg (u v:Int):0≤gN u v:=by
 unfold gN;have h1:=mul_self_nonneg' u;have h2:=mul_self_nonneg' v;omega
end Go.Proofs.YthmolpepinolkaaGreat
