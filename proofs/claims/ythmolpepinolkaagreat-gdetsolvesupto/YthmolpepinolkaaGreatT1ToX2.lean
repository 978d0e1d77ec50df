/- Texts with a sign: CutPrefix, the references Is and Parse. -/
import Derived.Test.YthmolpepinolkaaGreatZ13ToR10
import Derived.Test.YthmolpepinolkaaGreatR11
import Derived.Test.YthmolpepinolkaaGreatR12
import Derived.Test.YthmolpepinolkaaGreatQ5
import Derived.Test.YthmolpepinolkaaGreatWkToM1
namespace Go.Proofs.YthmolpepinolkaaGreat
open Go Go.RowKit Dig
set_option linter.unusedVariables false
theorem low_unique {a b c d:Int} (h:low a b) (k:low c d) (e:a*d=c*b):a=c∧b=d:=by
 have cop:∀ {a b d:Int},Int.gcd a b=1→b ∣ a*d→b ∣ d:=by
  intro a b d hg hd
  have h1:b.natAbs ∣ a.natAbs*d.natAbs:=by rw [←Int.natAbs_mul];exact Int.natAbs_dvd_natAbs.2 hd
  have hc:Nat.Coprime b.natAbs a.natAbs:=by
   rw [Nat.coprime_comm];exact hg
  exact Int.natAbs_dvd_natAbs.1 (hc.dvd_of_dvd_mul_left h1)
 have h1:b ∣ d:=cop h.2 ⟨c,by rw [e,Int.mul_comm]⟩
 have h2:d ∣ b:=cop k.2 ⟨a,by rw [←e,Int.mul_comm]⟩
 have hbd:b=d:=Int.dvd_antisymm (Int.le_of_lt h.1) (Int.le_of_lt k.1) h1 h2
 refine ⟨?_,hbd⟩
 rw [hbd] at e
 exact Int.eq_of_mul_eq_mul_right (by have:=k.1;omega) e
theorem q_congr {x y u v:Int} (hy:y≠0) (hv:v≠0) (h:x*v=u*y):qN x y=qN u v∧qD x y=qD u v:=by
 refine low_unique (low_q hy) (low_q hv) ?_
 have h1:=qN_eq (x:=x) (y:=y)
 have h2:=qD_eq (x:=x) (y:=y)
 have h3:=qN_eq (x:=u) (y:=v)
 have h4:=qD_eq (x:=u) (y:=v)
 have g1:=qg_ne (x:=x) hy
 have g2:=qg_ne (x:=u) hv
 generalize qN x y=a at *
 generalize qD x y=b at *
 generalize qN u v=c at *
 generalize qD u v=d at *
 generalize qg x y=g at *
 generalize qg u v=k at *
 have:(a*d)*(g*k)=(c*b)*(g*k):=by
  have e1:(a*d)*(g*k)=(a*g)*(d*k):=by rw [Int.mul_assoc,Int.mul_assoc,Int.mul_left_comm d g k]
  have e2:(c*b)*(g*k)=(c*k)*(b*g):=by rw [Int.mul_assoc,Int.mul_assoc,Int.mul_comm g k,Int.mul_left_comm b k g]
  rw [e1,e2,←h1,←h2,←h3,←h4];exact h
 exact Int.eq_of_mul_eq_mul_right (Int.mul_ne_zero g1 g2) this
theorem q_cross {x y:Int} (hy:y≠0):qN x y*y=x*qD x y:=by
 have h1:=qN_eq (x:=x) (y:=y)
 have h2:=qD_eq (x:=x) (y:=y)
 generalize qN x y=a at *
 generalize qD x y=b at *
 generalize qg x y=g at *
 rw [h1,h2,Int.mul_assoc,Int.mul_comm g b]
section
variable {w:World} {va vb:Value} {x y u v:Int} {l m k n:Nat}
set_option maxHeartbeats 4000000 in
set_option maxRecDepth 20000 in
theorem rfSub_any (ha:PN w va x l y m) (hq:PN w vb u k v n) (hl:l≤9000000) (hm:m≤9000000) (hk:k≤9000000) (hn:n≤9000000) (hy:y≠0) (hv:v≠0) :
  Calls Tryz.prog 135 #[va,vb] w fun e w'=>∃r,e = .returned r∧PC w' r (qN (opSub (x*v) (u*y)) (y*v)) (qD (opSub (x*v) (u*y)) (y*v))∧Below w.heap.size w w':=by
 have HV:=hide hv
 have hd:=qD_pos (x := -u) hv
 have HD:=hide (show y*qD (-u) v≠0 from Int.mul_ne_zero hy (by omega))
 have HE:=hide (q_congr (x:=opAdd (x*qD (-u) v) (qN (-u) v*y)) (y:=y*qD (-u) v) (u:=opSub (x*v) (u*y)) (v:=y*v) HD.out (Int.mul_ne_zero hy hv) (by
  have:=q_cross (x := -u) hv
  generalize qD (-u) v=d at *
  generalize qN (-u) v=t at *
  unfold opAdd opSub
  have e1:t*y*(y*v) = -(u*y)*(y*d):=by
   rw [show t*y*(y*v)=(t*v)*(y*y) by rw [Int.mul_assoc,Int.mul_assoc,Int.mul_left_comm v,Int.mul_comm v y],this]
   rw [Int.neg_mul,Int.neg_mul,Int.neg_mul,Int.mul_assoc,Int.mul_assoc,Int.mul_left_comm d,Int.mul_comm d y]
  have e2:x*d*(y*v)=x*v*(y*d):=by
   rw [Int.mul_assoc,Int.mul_assoc,Int.mul_left_comm d,Int.mul_left_comm v,Int.mul_comm d v]
  rw [Int.add_mul,e1,e2,Int.sub_mul,Int.neg_mul];omega))
 rw [←HE.out.1,←HE.out.2]
 clear hy hv hd
 obtain ⟨n_0a,o_0a,k_0a,c_0a,n_0b,o_0b,k_0b,c_0b,rfl,ha1,ha2⟩:=ha
 obtain ⟨n_1a,o_1a,k_1a,c_1a,n_1b,o_1b,k_1b,c_1b,rfl,hq1,hq2⟩:=hq
 go_enter Tryz.func135,Tryz.ntmps135
 have hs:=St.nil w
 refine wp_seq_k fun K1 hK1=>rg [0,1,2] ?_
 refine sq ?_
 refine .al hs ?_;clear hs;intro p_b1 w_1 hs n1 kb_b1
 refine sq ?_
 refine .al hs ?_;clear hs;intro p_b2 w_2 hs n2 kb_b2
 refine sq ?_
 refine .al hs ?_;clear hs;intro p_b3 w_3 hs n3 kb_b3
 apply wpSq_end
 refine hK1 _ _ ?_
 refine wp_seq_k ?_
 intro K2 hK2
 refine wp_region_f4 [(0,false),(1,false),(2,true),(3,true)] [4] [] (fun _=>default) [0,1,99,99,99] [] (.c hs.g2 (.c hs.g1 .n)) fn fun w_4 n4 => ?_
 replace hs:=hs.bl n4
 refine f4 ?_
 refine f4 ?_
 refine fl fun w_5 n5 => ?_
 replace hs:=hs.bl n5
 intro K hK
 have k0_5:=((((kb n1).b n2).b n3).b n4).b n5
 replace hq1:=hq1.k k0_5
 replace hq2:=hq2.k k0_5
 go_big_op
 go_fit (rfNeg_any (PN.mk' hq1 hq2) (by omega) (by omega) HV.out)
 rintro e w_6 ⟨_,rfl,⟨n_ga,o_ga,k_ga,c_ga,n_gb,o_gb,k_gb,c_gb,rfl,g1,g2⟩,hb_6⟩
 replace hs:=hs.bl hb_6
 have Lg1:=hide (g1.lenOf (qN_len (HV.out) (zlen_neg (hq1.len))))
 have Lg2:=hide (g2.lenOf (qD_len (HV.out) (hq2.len)))
 refine hK _ _ rfl ⟨hb_6,(And.intro hs.g2 (And.intro hs.g1 trivial))⟩ ?_
 clear hK K
 refine fl fun w_7 n7 => ?_
 replace hs:=hs.bl n7
 intro K hK
 have k0_7:=(k0_5.b hb_6).b n7
 replace ha1:=ha1.k k0_7
 replace ha2:=ha2.k k0_7
 have k6_7:=kb n7
 replace g1:=g1.k k6_7
 replace g2:=g2.k k6_7
 go_big_op
 go_fit (rfAdd_any (PN.mk' ha1 ha2) (PN.mk' (g1.zn Lg1.out) (g2.zn Lg2.out)) (by omega) (by omega) (by omega) (by omega) HD.out)
 rintro e w_8 ⟨_,rfl,⟨n_ka,o_ka,k_ka,c_ka,n_kb,o_kb,k_kb,c_kb,rfl,k1,k2⟩,hb_8⟩
 replace hs:=hs.bl hb_8
 refine hK _ _ rfl ⟨hb_8,(And.intro hs.g2 (And.intro hs.g1 trivial))⟩ ?_
 clear hK K
 refine e0 hs ?_;clear hs;intro w_9 hs n9
 refine tl ?_
 refine .s4 hs.g0 (fun _=>hs.u0 kb_b3) ?_ (e:=fun _ hs=>(And.intro hs.g2 (And.intro hs.g1 True.intro)));clear hs;intro w_10 hs hd10 ho10
 apply wpTail_end
 refine hK2 _ _ ?_
 refine wp_ret ?_
 try dsimp only [Exit.then,Exit.inBlock]
 obtain ⟨r0_0,r0_1,r0_2,r0_3⟩:=hs.g0.f4
 refine bodyPost_ret (v:=(.agg #[.bool n_ka,.slice o_ka k_ka c_ka,.bool n_kb,.slice o_kb k_kb c_kb])) (by simp [results,Tryz.results135,go_sem,r0_0,r0_1,r0_2,r0_3]) rfl ?_
 have k8_10:=(kb n9).o hd10 ho10
 replace k1:=k1.k k8_10
 replace k2:=k2.k k8_10
 exact ⟨_,rfl,.mk' k1 k2,hs.b⟩
end
def rv (x y:Int):Rat:=(x:Rat)/(y:Rat)
theorem cast_ne {y:Int} (h:y≠0):(y:Rat)≠0:=by
 intro h0;exact h (by exact_mod_cast h0)
theorem rv_eq {x y u v:Int} (hy:y≠0) (hv:v≠0):rv x y=rv u v ↔ x*v=u*y:=by
 have h1:=cast_ne hy
 have h2:=cast_ne hv
 rw [←Rat.intCast_inj,Rat.intCast_mul,Rat.intCast_mul]
 unfold rv
 constructor <;> intro h <;> grind
theorem rv_add {x y u v:Int} (hy:y≠0) (hv:v≠0):rv (x*v+u*y) (y*v)=rv x y+rv u v:=by
 have h1:=cast_ne hy
 have h2:=cast_ne hv
 unfold rv
 rw [Rat.intCast_add,Rat.intCast_mul,Rat.intCast_mul,Rat.intCast_mul];grind
theorem rv_sub {x y u v:Int} (hy:y≠0) (hv:v≠0):rv (x*v - u*y) (y*v)=rv x y - rv u v:=by
 have h1:=cast_ne hy
 have h2:=cast_ne hv
 unfold rv
 rw [Rat.intCast_sub,Rat.intCast_mul,Rat.intCast_mul,Rat.intCast_mul];grind
theorem rv_mul (x y u v:Int):rv (x*u) (y*v)=rv x y*rv u v:=by
 unfold rv
 rw [Rat.intCast_mul,Rat.intCast_mul];grind
theorem rv_quo (x y u v:Int):rv (x*v) (u*y)=rv x y/rv u v:=by
 unfold rv
 rw [Rat.intCast_mul,Rat.intCast_mul];grind
theorem rv_low {x y:Int} (hy:y≠0):rv (qN x y) (qD x y)=rv x y :=
 (rv_eq (by have:=qD_pos (x:=x) hy;omega) hy).2 (q_cross hy)
theorem low_rv {a b c d:Int} (h:low a b) (k:low c d) (e:rv a b=rv c d):a=c∧b=d :=
 low_unique h k ((rv_eq (by have:=h.1;omega) (by have:=k.1;omega)).1 e)
theorem rv_opAdd {x y u v:Int} (hy:y≠0) (hv:v≠0):rv (opAdd (x*v) (u*y)) (y*v)=rv x y+rv u v:=rv_add hy hv
theorem rv_opSub {x y u v:Int} (hy:y≠0) (hv:v≠0):rv (opSub (x*v) (u*y)) (y*v)=rv x y - rv u v:=rv_sub hy hv
theorem rat_low (r:Rat):low r.num r.den:=⟨by have:=r.den_pos;omega,by have:=r.reduced;unfold Nat.Coprime at this;unfold Int.gcd;rw [Int.natAbs_natCast];exact this⟩
theorem den_ne (r:Rat):(r.den:Int)≠0:=by have:=r.den_pos;omega
theorem rv_self (r:Rat):rv r.num r.den=r:=by
 have h:=Rat.num_divInt_den r
 rw [Rat.divInt_eq_div] at h
 exact h
theorem q_num {x y:Int} (hy:y≠0):qN x y=(rv x y).num∧qD x y=((rv x y).den:Int) :=
 low_rv (low_q hy) (rat_low _) (by rw [rv_low hy,rv_self])
theorem q_eq {x y:Int} {r:Rat} (hy:y≠0) (e:rv x y=r):qN x y=r.num∧qD x y=(r.den:Int):=e ▸ q_num hy
theorem r_len {x y:Int} {r:Rat} {l m:Nat} (hy:y≠0) (e:rv x y=r) (hl:(dig x.natAbs).length≤l) (hm:(dig y.natAbs).length≤m):(dig r.num.natAbs).length≤l∧(dig (r.den:Int).natAbs).length≤m:=by
 rw [←(q_eq hy e).1,←(q_eq hy e).2]
 exact ⟨qN_len hy hl,qD_len hy hm⟩
def CN (w:World) (va:Value) (x:Int) (l:Nat) (y:Int) (m:Nat) (u:Int) (k:Nat) (v:Int) (n:Nat):Prop :=
 ∃n1 o1 k1 c1 n2 o2 k2 c2 n3 o3 k3 c3 n4 o4 k4 c4,va = .agg #[.bool n1,.slice o1 k1 c1,.bool n2,.slice o2 k2 c2,.bool n3,.slice o3 k3 c3,.bool n4,.slice o4 k4 c4]∧ZN w (.agg #[.bool n1,.slice o1 k1 c1]) x l∧ZN w (.agg #[.bool n2,.slice o2 k2 c2]) y m∧ZN w (.agg #[.bool n3,.slice o3 k3 c3]) u k∧ZN w (.agg #[.bool n4,.slice o4 k4 c4]) v n
def CC (w:World) (va:Value) (x y u v:Int):Prop :=
 ∃n1 o1 k1 c1 n2 o2 k2 c2 n3 o3 k3 c3 n4 o4 k4 c4,va = .agg #[.bool n1,.slice o1 k1 c1,.bool n2,.slice o2 k2 c2,.bool n3,.slice o3 k3 c3,.bool n4,.slice o4 k4 c4]∧ZC w (.agg #[.bool n1,.slice o1 k1 c1]) x∧ZC w (.agg #[.bool n2,.slice o2 k2 c2]) y∧ZC w (.agg #[.bool n3,.slice o3 k3 c3]) u∧ZC w (.agg #[.bool n4,.slice o4 k4 c4]) v
section
variable {w w':World} {va:Value} {x y u v:Int} {l m k n:Nat} {n1 n2 n3 n4:Bool} {o1 o2 o3 o4:Option Addr} {k1 c1 k2 c2 k3 c3 k4 c4:Nat}
theorem CN.mk' (h1:ZN w (.agg #[.bool n1,.slice o1 k1 c1]) x l) (h2:ZN w (.agg #[.bool n2,.slice o2 k2 c2]) y m) (h3:ZN w (.agg #[.bool n3,.slice o3 k3 c3]) u k) (h4:ZN w (.agg #[.bool n4,.slice o4 k4 c4]) v n) :
  CN w (.agg #[.bool n1,.slice o1 k1 c1,.bool n2,.slice o2 k2 c2,.bool n3,.slice o3 k3 c3,.bool n4,.slice o4 k4 c4]) x l y m u k v n:=⟨_,_,_,_,_,_,_,_,_,_,_,_,_,_,_,_,rfl,h1,h2,h3,h4⟩
theorem CC.mk' (h1:ZC w (.agg #[.bool n1,.slice o1 k1 c1]) x) (h2:ZC w (.agg #[.bool n2,.slice o2 k2 c2]) y) (h3:ZC w (.agg #[.bool n3,.slice o3 k3 c3]) u) (h4:ZC w (.agg #[.bool n4,.slice o4 k4 c4]) v) :
  CC w (.agg #[.bool n1,.slice o1 k1 c1,.bool n2,.slice o2 k2 c2,.bool n3,.slice o3 k3 c3,.bool n4,.slice o4 k4 c4]) x y u v:=⟨_,_,_,_,_,_,_,_,_,_,_,_,_,_,_,_,rfl,h1,h2,h3,h4⟩
end
section
variable {P:Program} {o:Oper} {a:Act} {w w0:World} {B:Exit→Act→World→Prop} {E:World→Prop} {G:Act→World→Prop} {bs:List En}
theorem Stp.i8 {g n c j:Nat} {ty:TypeId} {xs:List Value} {c0 c1 c2 c3 c4 c5 c6 c7:Value} {a':Act} (i:Nat) (hs:St w0 bs w) (hj:j<n)
  (h:∀w',St w0 (bs.set i (ls w0.heap.size ty 8 (.slice (some ⟨g,0,none⟩) n c) n (setL xs [(j*8,c0),(j*8+1,c1),(j*8+2,c2),(j*8+3,c3),(j*8+4,c4),(j*8+5,c5),(j*8+6,c6),(j*8+7,c7)]))) w'→Kp w w'→NoD w g→Only g w w'→Below w0.heap.size w w'→G a' w')
  (hi:bs[i]? = some (ls w0.heap.size ty 8 (.slice (some ⟨g,0,none⟩) n c) n xs):=by rfl)
  (h1:∀d0 d1 d2 d3 d4 d5 d6 d7,w.cell? ⟨g,j*8,none⟩=some d0→w.cell? ⟨g,j*8+1,none⟩=some d1→w.cell? ⟨g,j*8+2,none⟩=some d2→w.cell? ⟨g,j*8+3,none⟩=some d3→w.cell? ⟨g,j*8+4,none⟩=some d4→w.cell? ⟨g,j*8+5,none⟩=some d5→w.cell? ⟨g,j*8+6,none⟩=some d6→w.cell? ⟨g,j*8+7,none⟩=some d7→w.frozen? ⟨g,j*8,none⟩=false→w.frozen? ⟨g,j*8+1,none⟩=false→w.frozen? ⟨g,j*8+2,none⟩=false→w.frozen? ⟨g,j*8+3,none⟩=false→w.frozen? ⟨g,j*8+4,none⟩=false→w.frozen? ⟨g,j*8+5,none⟩=false→w.frozen? ⟨g,j*8+6,none⟩=false→w.frozen? ⟨g,j*8+7,none⟩=false →
   ∀K:Act→World→Prop,K a' ((((((((w.setCell ⟨g,j*8,none⟩ c0).setCell ⟨g,j*8+1,none⟩ c1).setCell ⟨g,j*8+2,none⟩ c2).setCell ⟨g,j*8+3,none⟩ c3).setCell ⟨g,j*8+4,none⟩ c4).setCell ⟨g,j*8+5,none⟩ c5).setCell ⟨g,j*8+6,none⟩ c6).setCell ⟨g,j*8+7,none⟩ c7)→o.wp P a w K B:=by intro d0 d1 d2 d3 d4 d5 d6 d7 e0 e1 e2 e3 e4 e5 e6 e7 f0 f1 f2 f3 f4 f5 f6 f7 K hK;go_big_op;exact hK)
  (e:∀w',Below w0.heap.size w0 w'→Only g w w'→E w':=by exact fun _ _ _=>trivial) (hd:a'.defers=a.defers:=by rfl) (hn:[c0,c1,c2,c3,c4,c5,c6,c7].all nd=true:=by rfl) (ht:(ty==119)=false:=by rfl):Stp P o a w B E G:=fun K hK=>by
 obtain ⟨hs2,h3,h4⟩:=hs.put i hi [(j*8,c0),(j*8+1,c1),(j*8+2,c2),(j*8+3,c3),(j*8+4,c4),(j*8+5,c5),(j*8+6,c6),(j*8+7,c7)] (fun p hp=>by
  simp only [List.all_cons,List.all_nil,Bool.and_eq_true,and_true] at hn
  obtain ⟨n0,n1,n2,n3,n4,n5,n6,n7⟩:=hn
  simp only [List.mem_cons,List.not_mem_nil,or_false] at hp
  rcases hp with rfl | rfl | rfl | rfl | rfl | rfl | rfl | rfl
  ·exact ⟨by show j*8<n*8;omega,n0⟩
  ·exact ⟨by show j*8+1<n*8;omega,n1⟩
  ·exact ⟨by show j*8+2<n*8;omega,n2⟩
  ·exact ⟨by show j*8+3<n*8;omega,n3⟩
  ·exact ⟨by show j*8+4<n*8;omega,n4⟩
  ·exact ⟨by show j*8+5<n*8;omega,n5⟩
  ·exact ⟨by show j*8+6<n*8;omega,n6⟩
  ·exact ⟨by show j*8+7<n*8;omega,n7⟩) ht
 have L:=(hs.1.at hi).1
 obtain ⟨d0,e0,f0⟩:=Lst.cellAt (B0:=w0.heap.size) L (j:=j*8) (by omega)
 obtain ⟨d1,e1,f1⟩:=Lst.cellAt (B0:=w0.heap.size) L (j:=j*8+1) (by omega)
 obtain ⟨d2,e2,f2⟩:=Lst.cellAt (B0:=w0.heap.size) L (j:=j*8+2) (by omega)
 obtain ⟨d3,e3,f3⟩:=Lst.cellAt (B0:=w0.heap.size) L (j:=j*8+3) (by omega)
 obtain ⟨d4,e4,f4⟩:=Lst.cellAt (B0:=w0.heap.size) L (j:=j*8+4) (by omega)
 obtain ⟨d5,e5,f5⟩:=Lst.cellAt (B0:=w0.heap.size) L (j:=j*8+5) (by omega)
 obtain ⟨d6,e6,f6⟩:=Lst.cellAt (B0:=w0.heap.size) L (j:=j*8+6) (by omega)
 obtain ⟨d7,e7,f7⟩:=Lst.cellAt (B0:=w0.heap.size) L (j:=j*8+7) (by omega)
 exact h1 d0 d1 d2 d3 d4 d5 d6 d7 e0 e1 e2 e3 e4 e5 e6 e7 f0 f1 f2 f3 f4 f5 f6 f7 K (hK _ _ hd (e _ hs2.b h4) (h _ hs2 (ko h3 h4) h3 h4 (h4.below ((hs.1.at hi).1.1.lt g rfl).1)))
end
def CD (w:World):List Value→List (Rat × Rat)→Prop
 | [],[]=>True
 | c1::c2::c3::c4::c5::c6::c7::c8::xs,p::ps=>CC w (.agg #[c1,c2,c3,c4,c5,c6,c7,c8]) p.1.num p.1.den p.2.num p.2.den∧CD w xs ps
 | _,_=>False
theorem CC.k {w w':World} {v:Value} {x y u z:Int} (h:CC w v x y u z) (k:Kp w w'):CC w' v x y u z:=by
 obtain ⟨n1,o1,k1,c1,n2,o2,k2,c2,n3,o3,k3,c3,n4,o4,k4,c4,rfl,h1,h2,h3,h4⟩:=h
 exact .mk' (h1.k k) (h2.k k) (h3.k k) (h4.k k)
theorem CD.k' {w w':World} (k:Kp w w'):∀ {xs:List Value} {ps:List (Rat × Rat)},CD w xs ps→CD w' xs ps
 | [],[],_=>trivial
 | _::_::_::_::_::_::_::_::_,_::_,h=>⟨h.1.k k,CD.k' k h.2⟩
theorem CD.k {w w':World} {xs:List Value} {ps:List (Rat × Rat)} (h:CD w xs ps) (k:Kp w w'):CD w' xs ps:=CD.k' k h
theorem CD.nil (w:World):CD w [] []:=trivial
theorem CD.snoc' {w:World} {c1 c2 c3 c4 c5 c6 c7 c8:Value} {p:Rat × Rat} (h2:CC w (.agg #[c1,c2,c3,c4,c5,c6,c7,c8]) p.1.num p.1.den p.2.num p.2.den):∀ {xs:List Value} {ps:List (Rat × Rat)},CD w xs ps→CD w (xs++[c1,c2,c3,c4,c5,c6,c7,c8]) (ps++[p])
 | [],[],_=>⟨h2,trivial⟩
 | _::_::_::_::_::_::_::_::_,_::_,h=>⟨h.1,CD.snoc' h2 h.2⟩
theorem CD.snoc {w:World} {xs:List Value} {ps:List (Rat × Rat)} {c1 c2 c3 c4 c5 c6 c7 c8:Value} {p:Rat × Rat} (h:CD w xs ps) (h2:CC w (.agg #[c1,c2,c3,c4,c5,c6,c7,c8]) p.1.num p.1.den p.2.num p.2.den):CD w (xs++[c1,c2,c3,c4,c5,c6,c7,c8]) (ps++[p]):=CD.snoc' h2 h
theorem CD.get {w:World}:∀ {xs:List Value} {ps:List (Rat × Rat)} {i:Nat},CD w xs ps→(h:i<ps.length)→∃c1 c2 c3 c4 c5 c6 c7 c8,xs[i*8]? = some c1∧xs[i*8+1]? = some c2∧xs[i*8+2]? = some c3∧xs[i*8+3]? = some c4∧xs[i*8+4]? = some c5∧xs[i*8+5]? = some c6∧xs[i*8+6]? = some c7∧xs[i*8+7]? = some c8∧CC w (.agg #[c1,c2,c3,c4,c5,c6,c7,c8]) ps[i].1.num ps[i].1.den ps[i].2.num ps[i].2.den
 | [],[],_,_,hi=>absurd hi (Nat.not_lt_zero _)
 | c1::c2::c3::c4::c5::c6::c7::c8::xs,p::ps,0,h,_=>⟨c1,c2,c3,c4,c5,c6,c7,c8,rfl,rfl,rfl,rfl,rfl,rfl,rfl,rfl,h.1⟩
 | c1::c2::c3::c4::c5::c6::c7::c8::xs,p::ps,i+1,h,hi=>by
  obtain ⟨d1,d2,d3,d4,d5,d6,d7,d8,e1,e2,e3,e4,e5,e6,e7,e8,hp⟩:=CD.get (i:=i) h.2 (by simpa using hi)
  have e:∀j,(c1::c2::c3::c4::c5::c6::c7::c8::xs)[(i+1)*8+j]? = xs[i*8+j]?:=fun j=>by
   rw [show (i+1)*8+j=i*8+j+1+1+1+1+1+1+1+1 by omega];rfl
  exact ⟨d1,d2,d3,d4,d5,d6,d7,d8,(e 0).trans e1,(e 1).trans e2,(e 2).trans e3,(e 3).trans e4,(e 4).trans e5,(e 5).trans e6,(e 6).trans e7,(e 7).trans e8,hp⟩
theorem setL_app8 {ys ws:List Value} {j:Nat} {z0 z1 z2 z3 z4 z5 z6 z7 c0 c1 c2 c3 c4 c5 c6 c7:Value} (h:ys.length=j*8):setL (ys++(z0::z1::z2::z3::z4::z5::z6::z7::ws)) [(j*8,c0),(j*8+1,c1),(j*8+2,c2),(j*8+3,c3),(j*8+4,c4),(j*8+5,c5),(j*8+6,c6),(j*8+7,c7)]=(ys++[c0,c1,c2,c3,c4,c5,c6,c7])++ws:=by
 simp only [setL]
 rw [←h]
 simp [List.set_append_right]
theorem eight_of {zs:List Value} (h:8≤zs.length):∃z0 z1 z2 z3 z4 z5 z6 z7 ws,zs=z0::z1::z2::z3::z4::z5::z6::z7::ws:=by
 match zs,h with
 | z0::z1::z2::z3::z4::z5::z6::z7::ws,_=>exact ⟨z0,z1,z2,z3,z4,z5,z6,z7,ws,rfl⟩
def LQ (w:World) (o:Option Addr) (ps:List (Rat × Rat)):Prop :=
 ps=[]∨∃g off cur ty fz,o=some ⟨g,off,none⟩∧Bs w g cur ty fz∧∀i (hi:i<ps.length),∃c1 c2 c3 c4 c5 c6 c7 c8,cur[off+i*8]? = some c1∧cur[off+i*8+1]? = some c2∧cur[off+i*8+2]? = some c3∧cur[off+i*8+3]? = some c4∧cur[off+i*8+4]? = some c5∧cur[off+i*8+5]? = some c6∧cur[off+i*8+6]? = some c7∧cur[off+i*8+7]? = some c8∧CC w (.agg #[c1,c2,c3,c4,c5,c6,c7,c8]) ps[i].1.num ps[i].1.den ps[i].2.num ps[i].2.den
theorem LQ.of {w:World} {B n c:Nat} {o:Option Addr} {ty:TypeId} {xs:List Value} {ps:List (Rat × Rat)} (h:Lst w B ty 8 (.slice o n c) n xs) (hz:CD w xs ps) (hn:ps.length=n):LQ w o ps:=by
 rcases Nat.eq_zero_or_pos n with h0 | h0
 ·exact .inl (List.eq_nil_of_length_eq_zero (by omega))
 ·obtain ⟨g,cur,rfl,x,hc⟩:=h.box h0
  refine .inr ⟨g,0,cur,_,_,rfl,x,fun i hi => ?_⟩
  obtain ⟨c1,c2,c3,c4,c5,c6,c7,c8,e1,e2,e3,e4,e5,e6,e7,e8,e9⟩:=hz.get hi
  exact ⟨c1,c2,c3,c4,c5,c6,c7,c8,by rw [Nat.zero_add];exact hc _ _ e1,by rw [Nat.zero_add];exact hc _ _ e2,by rw [Nat.zero_add];exact hc _ _ e3,by rw [Nat.zero_add];exact hc _ _ e4,by rw [Nat.zero_add];exact hc _ _ e5,by rw [Nat.zero_add];exact hc _ _ e6,by rw [Nat.zero_add];exact hc _ _ e7,by rw [Nat.zero_add];exact hc _ _ e8,e9⟩
theorem LQ.bl {w w':World} {o:Option Addr} {ps:List (Rat × Rat)} (h:LQ w o ps) (hb:Below w.heap.size w w'):LQ w' o ps:=by
 rcases h with h | ⟨g,off,cur,ty,fz,rfl,x,d⟩
 ·exact .inl h
 ·refine .inr ⟨g,off,cur,ty,fz,rfl,x.bl hb,fun i hi => ?_⟩
  obtain ⟨c1,c2,c3,c4,c5,c6,c7,c8,e1,e2,e3,e4,e5,e6,e7,e8,e9⟩:=d i hi
  exact ⟨c1,c2,c3,c4,c5,c6,c7,c8,e1,e2,e3,e4,e5,e6,e7,e8,e9.k (kb hb)⟩
set_option maxHeartbeats 4000000
set_option maxRecDepth 20000
section
variable {w:World} {va vb:Value} {x y u v:Int} {l m k n:Nat}
theorem fmake_r (ha:ZN w va x l) (hq:ZN w vb y m) (hl:l≤100000000) (hm:m≤100000000) (h0:y≠0) :
  Calls Tryz.prog 93 #[va,vb] w fun e w'=>∃v,e = .returned (.tuple #[v,.int .i64 0])∧PC w' v (rv x y).num (rv x y).den∧Below w.heap.size w w':=by
 have:=fmake_any ha hq hl hm h0
 rw [(q_num h0).1,(q_num h0).2] at this
 exact this
theorem selQ1 (ha:CN w va x l y m u k v n) :
  Calls Tryz.prog 149 #[va] w fun e w'=>∃r,e = .returned r∧PN w' r x l y m∧Below w.heap.size w w':=by
 obtain ⟨n_0a,o_0a,k_0a,c_0a,n_0b,o_0b,k_0b,c_0b,n_0c,o_0c,k_0c,c_0c,n_0d,o_0d,k_0d,c_0d,rfl,ha1,ha2,ha3,ha4⟩:=ha
 go_enter Tryz.func149,Tryz.ntmps149
 have hs:=St.nil w
 refine wp_seq_k fun K1 hK1=>rg [0,1] ?_
 refine sq ?_
 refine .al hs ?_;clear hs;intro p_b1 w_1 hs n1 kb_b1
 refine sq ?_
 refine .al hs ?_;clear hs;intro p_b2 w_2 hs n2 kb_b2
 apply wpSq_end
 refine hK1 _ _ ?_
 refine wp_seq_k fun K2 hK2=>rg [0,1,2] ?_
 refine sr ?_
 refine sq ?_
 refine .r4 ⟨hs.g1.cell 0 rfl,hs.g1.cell 1 rfl,hs.g1.cell 2 rfl,hs.g1.cell 3 rfl⟩ ?_
 refine sq ?_
 refine .s4 hs.g0 (fun _=>hs.u0 kb_b2) ?_;clear hs;intro w_3 hs hd3 ho3
 apply wpSq_end
 refine hK2 _ _ ?_
 refine wp_ret ?_
 try dsimp only [Exit.then,Exit.inBlock]
 obtain ⟨r0_0,r0_1,r0_2,r0_3⟩:=hs.g0.f4
 refine bodyPost_ret (v:=(.agg #[.bool n_0a,.slice o_0a k_0a c_0a,.bool n_0b,.slice o_0b k_0b c_0b])) (by simp [results,Tryz.results149,go_sem,r0_0,r0_1,r0_2,r0_3]) rfl ?_
 have k0_3:=((kb n1).b n2).o hd3 ho3
 replace ha1:=ha1.k k0_3
 replace ha2:=ha2.k k0_3
 exact ⟨_,rfl,.mk' ha1 ha2,hs.b⟩
theorem selQ2 (ha:CN w va x l y m u k v n) :
  Calls Tryz.prog 150 #[va] w fun e w'=>∃r,e = .returned r∧PN w' r u k v n∧Below w.heap.size w w':=by
 obtain ⟨n_0a,o_0a,k_0a,c_0a,n_0b,o_0b,k_0b,c_0b,n_0c,o_0c,k_0c,c_0c,n_0d,o_0d,k_0d,c_0d,rfl,ha1,ha2,ha3,ha4⟩:=ha
 go_enter Tryz.func150,Tryz.ntmps150
 have hs:=St.nil w
 refine wp_seq_k fun K1 hK1=>rg [0,1] ?_
 refine sq ?_
 refine .al hs ?_;clear hs;intro p_b1 w_1 hs n1 kb_b1
 refine sq ?_
 refine .al hs ?_;clear hs;intro p_b2 w_2 hs n2 kb_b2
 apply wpSq_end
 refine hK1 _ _ ?_
 refine wp_seq_k fun K2 hK2=>rg [0,1,2] ?_
 refine sr ?_
 refine sq ?_
 refine .r4 ⟨hs.g1.cell 4 rfl,hs.g1.cell 5 rfl,hs.g1.cell 6 rfl,hs.g1.cell 7 rfl⟩ ?_
 refine sq ?_
 refine .s4 hs.g0 (fun _=>hs.u0 kb_b2) ?_;clear hs;intro w_3 hs hd3 ho3
 apply wpSq_end
 refine hK2 _ _ ?_
 refine wp_ret ?_
 try dsimp only [Exit.then,Exit.inBlock]
 obtain ⟨r0_0,r0_1,r0_2,r0_3⟩:=hs.g0.f4
 refine bodyPost_ret (v:=(.agg #[.bool n_0c,.slice o_0c k_0c c_0c,.bool n_0d,.slice o_0d k_0d c_0d])) (by simp [results,Tryz.results150,go_sem,r0_0,r0_1,r0_2,r0_3]) rfl ?_
 have k0_3:=((kb n1).b n2).o hd3 ho3
 replace ha3:=ha3.k k0_3
 replace ha4:=ha4.k k0_3
 exact ⟨_,rfl,.mk' ha3 ha4,hs.b⟩
theorem over_c (ha:PN w va x l y m) (hd:ZN w vb u k) :
  Calls Tryz.prog 40 #[va,vb] w fun e w'=>∃r,e = .returned r∧CN w' r x l u k y m u k∧Below w.heap.size w w':=by
 obtain ⟨n_0a,o_0a,k_0a,c_0a,n_0b,o_0b,k_0b,c_0b,rfl,ha1,ha2⟩:=ha
 obtain ⟨n_1,o_1,k_1,c_1,rfl⟩:=hd.open2
 go_enter Tryz.func40,Tryz.ntmps40
 have hs:=St.nil w
 refine wp_seq_k fun K1 hK1=>rg [0,1,2] ?_
 refine sq ?_
 refine .al hs ?_;clear hs;intro p_b1 w_1 hs n1 kb_b1
 refine sq ?_
 refine .al hs ?_;clear hs;intro p_b2 w_2 hs n2 kb_b2
 refine sq ?_
 refine .al hs ?_;clear hs;intro p_b3 w_3 hs n3 kb_b3
 apply wpSq_end
 refine hK1 _ _ ?_
 refine wp_seq_k fun K2 hK2=>rg [0,1,2,3,4,5,6,7,8,9] ?_
 refine sr ?_
 refine sq ?_
 refine .r4 hs.g2.f4 ?_
 refine sq ?_
 refine .r2 hs.g1.f2 ?_
 refine sr ?_
 refine sr ?_
 refine sq ?_
 refine .r4 hs.g2.f4 ?_
 refine sq ?_
 refine .r2 hs.g1.f2 ?_
 refine sr ?_
 refine sr ?_
 refine sq ?_
 intro K hK
 have xs:=hs.g0
 have d0:w_3.cell? ⟨p_b3,0,none⟩=some (.bool false):=hs.g0.cell 0 rfl
 have d1:w_3.cell? ⟨p_b3,1,none⟩=some (.slice none 0 0):=hs.g0.cell 1 rfl
 have d2:w_3.cell? ⟨p_b3,2,none⟩=some (.bool false):=hs.g0.cell 2 rfl
 have d3:w_3.cell? ⟨p_b3,3,none⟩=some (.slice none 0 0):=hs.g0.cell 3 rfl
 have d4:w_3.cell? ⟨p_b3,4,none⟩=some (.bool false):=hs.g0.cell 4 rfl
 have d5:w_3.cell? ⟨p_b3,5,none⟩=some (.slice none 0 0):=hs.g0.cell 5 rfl
 have d6:w_3.cell? ⟨p_b3,6,none⟩=some (.bool false):=hs.g0.cell 6 rfl
 have d7:w_3.cell? ⟨p_b3,7,none⟩=some (.slice none 0 0):=hs.g0.cell 7 rfl
 have f0:=xs.free 0;have f1:=xs.free 1;have f2:=xs.free 2;have f3:=xs.free 3;have f4:=xs.free 4;have f5:=xs.free 5;have f6:=xs.free 6;have f7:=xs.free 7
 go_big_op
 have hd4:=xs.nod rfl rfl
 obtain ⟨w_4_0,eW,xs_0,ho_0⟩:∃w',((((w_3.setCell ⟨p_b3,0,none⟩ (.bool n_0a)).setCell ⟨p_b3,1,none⟩ (.slice o_0a k_0a c_0a)).setCell ⟨p_b3,2,none⟩ (.bool n_1)).setCell ⟨p_b3,3,none⟩ (.slice o_1 k_1 c_1))=w'∧Bs w' p_b3 #[.bool n_0a,.slice o_0a k_0a c_0a,.bool n_1,.slice o_1 k_1 c_1,.bool false,.slice none 0 0,.bool false,.slice none 0 0] 41∧Only p_b3 w_3 w':=xs.setN [(0,.bool n_0a),(1,.slice o_0a k_0a c_0a),(2,.bool n_1),(3,.slice o_1 k_1 c_1)]
 rw [eW];clear eW
 obtain ⟨w_4,eW,xs',ho_4⟩:∃w',((((w_4_0.setCell ⟨p_b3,4,none⟩ (.bool n_0b)).setCell ⟨p_b3,5,none⟩ (.slice o_0b k_0b c_0b)).setCell ⟨p_b3,6,none⟩ (.bool n_1)).setCell ⟨p_b3,7,none⟩ (.slice o_1 k_1 c_1))=w'∧Bs w' p_b3 #[.bool n_0a,.slice o_0a k_0a c_0a,.bool n_1,.slice o_1 k_1 c_1,.bool n_0b,.slice o_0b k_0b c_0b,.bool n_1,.slice o_1 k_1 c_1] 41∧Only p_b3 w_4_0 w':=xs_0.setN [(4,.bool n_0b),(5,.slice o_0b k_0b c_0b),(6,.bool n_1),(7,.slice o_1 k_1 c_1)]
 rw [eW];clear eW xs_0
 have ho4:=(ho_0.trans ho_4)
 clear ho_0 ho_4 d0 d1 d2 d3 d4 d5 d6 d7 f0 f1 f2 f3 f4 f5 f6 f7 xs
 replace hs:=hs.u0 kb_b3 xs' ho4;clear xs'
 refine hK _ _ rfl trivial ?_;clear hK K
 apply wpSq_end
 refine hK2 _ _ ?_
 refine wp_ret ?_
 try dsimp only [Exit.then,Exit.inBlock]
 have r0_0:w_4.cell? ⟨p_b3,0,none⟩=some (.bool n_0a):=hs.g0.cell 0 rfl
 have r0_1:w_4.cell? ⟨p_b3,1,none⟩=some (.slice o_0a k_0a c_0a):=hs.g0.cell 1 rfl
 have r0_2:w_4.cell? ⟨p_b3,2,none⟩=some (.bool n_1):=hs.g0.cell 2 rfl
 have r0_3:w_4.cell? ⟨p_b3,3,none⟩=some (.slice o_1 k_1 c_1):=hs.g0.cell 3 rfl
 have r0_4:w_4.cell? ⟨p_b3,4,none⟩=some (.bool n_0b):=hs.g0.cell 4 rfl
 have r0_5:w_4.cell? ⟨p_b3,5,none⟩=some (.slice o_0b k_0b c_0b):=hs.g0.cell 5 rfl
 have r0_6:w_4.cell? ⟨p_b3,6,none⟩=some (.bool n_1):=hs.g0.cell 6 rfl
 have r0_7:w_4.cell? ⟨p_b3,7,none⟩=some (.slice o_1 k_1 c_1):=hs.g0.cell 7 rfl
 refine bodyPost_ret (v:=(.agg #[.bool n_0a,.slice o_0a k_0a c_0a,.bool n_1,.slice o_1 k_1 c_1,.bool n_0b,.slice o_0b k_0b c_0b,.bool n_1,.slice o_1 k_1 c_1])) (by simp [results,Tryz.results40,go_sem,r0_0,r0_1,r0_2,r0_3,r0_4,r0_5,r0_6,r0_7]) rfl ?_
 have k0_4:=(((kb n1).b n2).b n3).o hd4 ho4
 replace ha1:=ha1.k k0_4
 replace hd:=hd.k k0_4
 replace ha2:=ha2.k k0_4
 exact ⟨_,rfl,.mk' ha1 hd ha2 hd,hs.b⟩
end
section
variable {w:World} {f:Nat} {caps:Array Value} {a b c d:Int}
def Tells (w:World) (f:Nat) (caps:Array Value) (s:Nat) (a b:Int):Prop :=
 ∀w1,Below w.heap.size w w1→Calls Tryz.prog f (#[.func (.func s) #[] #[]]++caps) w1 fun e w2=>∃r,e = .returned (.tuple #[r,.int .i64 0])∧PC w2 r a b∧Below w1.heap.size w1 w2
def Enters (f:Nat) (caps:Array Value):Prop:=∀v w1,Sem.run Tryz.prog (callFunc f (#[v]++caps)) w1 = .ok (.enter f (#[v]++caps)) w1
theorem bothQ_ok (hf:Enters f caps) (hc1:Tells w f caps 149 a b) (hc2:Tells w f caps 150 c d) :
  Calls Tryz.prog 101 #[.func (.func f) #[] caps] w fun e w'=>∃r s,e = .returned (.tuple #[r,s,.int .i64 0])∧PC w' r a b∧PC w' s c d∧Below w.heap.size w w':=by
 unfold Enters at hf
 go_enter Tryz.func101,Tryz.ntmps101
 have hs:=St.nil w
 refine wp_seq_k fun K1 hK1=>rg [0,1,2] ?_
 refine sq ?_
 refine .al hs ?_;clear hs;intro p_b1 w_1 hs n1 kb_b1
 refine sq ?_
 refine .al hs ?_;clear hs;intro p_b2 w_2 hs n2 kb_b2
 refine sm ?_
 apply wpSq_end
 refine hK1 _ _ ?_
 refine wp_seq_k fun K2 hK2=>rg [0] ?_
 refine sq ?_
 refine .al hs ?_;clear hs;intro p_b3 w_3 hs n3 kb_b3
 apply wpSq_end
 refine hK2 _ _ ?_
 refine wp_seq_k fun K3 hK3=>rg [0,1,2,3,4,5,6] ?_
 refine sm ?_
 refine sq ?_
 intro K hK
 have hb:=hs.b
 go_big_op
 go_fit (hc1 _ hb)
 rintro e w_4 ⟨_,rfl,⟨n_ga,o_ga,k_ga,c_ga,n_gb,o_gb,k_gb,c_gb,rfl,g1,g2⟩,hb_4⟩
 clear hb
 replace hs:=hs.bl hb_4
 refine hK _ _ rfl trivial ?_
 clear hK K
 refine sm ?_
 refine sr ?_
 refine sr ?_
 refine sq ?_
 refine .s4 hs.g2 (fun _=>hs.u2 kb_b1) ?_;clear hs;intro w_5 hs hd5 ho5
 refine sm ?_
 apply wpSq_end
 refine hK3 _ _ ?_
 refine wp_seq_k ?_
 intro K4 hK4
 refine wp_seq_k fun K5 hK5=>rg [0,1] ?_
 refine sm ?_
 refine sr ?_
 apply wpSq_end
 refine hK5 _ _ ?_
 refine cf ?_
 refine wp_skip ?_
 refine hK4 _ _ ?_
 refine wp_seq_k fun K6 hK6=>rg [0,1,2,3,4,5,6] ?_
 refine sm ?_
 refine sq ?_
 intro K hK
 have hb:=hs.b
 go_big_op
 go_fit (hc2 _ hb)
 rintro e w_6 ⟨_,rfl,⟨n_ha,o_ha,k_ha,c_ha,n_hb,o_hb,k_hb,c_hb,rfl,h1,h2⟩,hb_6⟩
 clear hb
 replace hs:=hs.bl hb_6
 refine hK _ _ rfl trivial ?_
 clear hK K
 refine sm ?_
 refine sr ?_
 refine sr ?_
 refine sq ?_
 refine .s4 hs.g1 (fun _=>hs.u1 kb_b2) ?_;clear hs;intro w_7 hs hd7 ho7
 refine sm ?_
 apply wpSq_end
 refine hK6 _ _ ?_
 refine wp_seq_k ?_
 intro K7 hK7
 refine wp_seq_k fun K8 hK8=>rg [0,1] ?_
 refine sm ?_
 refine sr ?_
 apply wpSq_end
 refine hK8 _ _ ?_
 refine cf ?_
 refine wp_skip ?_
 refine hK7 _ _ ?_
 refine wp_seq_k ?_
 intro K9 hK9
 refine wp_region_f4 [(0,false),(1,false)] [2,3,4] [] (fun _=>default) [0,1,99,99,99] [(2,0),(3,0),(3,1),(4,0),(4,1)] (.c hs.g2 (.c hs.g1 .n)) fn fun w_8 n8 => ?_
 replace hs:=hs.bl n8
 refine f4 ?_
 refine f4 ?_
 refine e0 hs ?_;clear hs;intro w_9 hs n9
 refine tl ?_
 refine .s4 hs.g2 (fun _=>hs.u2 kb_b1) ?_ (e:=fun _ hs=>(And.intro True.intro (And.intro hs.g1 True.intro)));clear hs;intro w_10 hs hd10 ho10
 refine tl ?_
 refine .s4 hs.g1 (fun _=>hs.u1 kb_b2) ?_ (e:=fun _ hs=>(And.intro True.intro (And.intro True.intro True.intro)));clear hs;intro w_11 hs hd11 ho11
 refine tl ?_
 refine .mv ?_ (e:=(And.intro True.intro (And.intro True.intro True.intro)))
 apply wpTail_end
 refine hK9 _ _ ?_
 refine wp_ret ?_
 try dsimp only [Exit.then,Exit.inBlock]
 obtain ⟨r0_0,r0_1,r0_2,r0_3⟩:=hs.g2.f4
 obtain ⟨r4_0,r4_1,r4_2,r4_3⟩:=hs.g1.f4
 refine bodyPost_ret (v:=(.tuple #[(.agg #[.bool n_ga,.slice o_ga k_ga c_ga,.bool n_gb,.slice o_gb k_gb c_gb]),(.agg #[.bool n_ha,.slice o_ha k_ha c_ha,.bool n_hb,.slice o_hb k_hb c_hb]),(.int .i64 0)])) (by simp [results,Tryz.results101,go_sem,r0_0,r0_1,r0_2,r0_3,r4_0,r4_1,r4_2,r4_3]) rfl ?_
 have k4_11:=((((((ko hd5 ho5).b hb_6).o hd7 ho7).b n8).b n9).o hd10 ho10).o hd11 ho11
 replace g1:=g1.k k4_11
 replace g2:=g2.k k4_11
 have k6_11:=((((ko hd7 ho7).b n8).b n9).o hd10 ho10).o hd11 ho11
 replace h1:=h1.k k6_11
 replace h2:=h2.k k6_11
 exact ⟨_,_,rfl,.mk' g1 g2,.mk' h1 h2,hs.b⟩
theorem Tells.at {w w':World} {s:Nat} (h:Tells w f caps s a b) (hb:Below w.heap.size w w'):Tells w' f caps s a b:=fun w1 h1=>h w1 (tmm hb h1)
theorem number_ok (hf:Enters f caps) (hc1:Tells w f caps 149 a b) (hc2:Tells w f caps 150 c d) :
  Calls Tryz.prog 45 #[.func (.func f) #[] caps] w fun e w'=>∃r,e = .returned (.tuple #[r,.int .i64 0])∧CC w' r a b c d∧Below w.heap.size w w':=by
 go_enter Tryz.func45,Tryz.ntmps45
 have hs:=St.nil w
 refine wp_seq_k fun K1 hK1=>rg [0,1] ?_
 refine sq ?_
 refine .al hs ?_;clear hs;intro p_b1 w_1 hs n1 kb_b1
 refine sm ?_
 apply wpSq_end
 refine hK1 _ _ ?_
 refine wp_seq_k fun K2 hK2=>rg [0,1,2,3,4,5,6,7,8,9,10] ?_
 refine sm ?_
 refine sq ?_
 intro K hK
 have hb:=hs.b
 go_big_op
 go_fit (bothQ_ok hf (hc1.at hb) (hc2.at hb))
 rintro e w_2 ⟨_,_,rfl,⟨n_ga,o_ga,k_ga,c_ga,n_gb,o_gb,k_gb,c_gb,rfl,g1,g2⟩,⟨n_ha,o_ha,k_ha,c_ha,n_hb,o_hb,k_hb,c_hb,rfl,h1,h2⟩,hb_2⟩
 clear hb
 replace hs:=hs.bl hb_2
 refine hK _ _ rfl trivial ?_
 clear hK K
 refine sm ?_
 refine sr ?_
 refine sr ?_
 refine sr ?_
 refine sq ?_
 refine .al hs ?_;clear hs;intro p_b2 w_3 hs n3 kb_b2
 refine sq ?_
 refine .al hs ?_;clear hs;intro p_b3 w_4 hs n4 kb_b3
 refine sq ?_
 refine .s4 hs.g1 (fun _=>hs.u1 kb_b2) ?_;clear hs;intro w_5 hs hd5 ho5
 refine sq ?_
 refine .s4 hs.g0 (fun _=>hs.u0 kb_b3) ?_;clear hs;intro w_6 hs hd6 ho6
 refine sm ?_
 apply wpSq_end
 refine hK2 _ _ ?_
 refine wp_seq_k fun K3 hK3=>rg [0,1,2,3,4,5] ?_
 refine sq ?_
 refine .r4 hs.g1.f4 ?_
 refine sq ?_
 refine .r4 hs.g0.f4 ?_
 refine sr ?_
 refine sm ?_
 refine sq ?_
 intro K hK
 have xs:=hs.g2
 have d0:w_6.cell? ⟨p_b1,0,none⟩=some (.bool false):=hs.g2.cell 0 rfl
 have d1:w_6.cell? ⟨p_b1,1,none⟩=some (.slice none 0 0):=hs.g2.cell 1 rfl
 have d2:w_6.cell? ⟨p_b1,2,none⟩=some (.bool false):=hs.g2.cell 2 rfl
 have d3:w_6.cell? ⟨p_b1,3,none⟩=some (.slice none 0 0):=hs.g2.cell 3 rfl
 have d4:w_6.cell? ⟨p_b1,4,none⟩=some (.bool false):=hs.g2.cell 4 rfl
 have d5:w_6.cell? ⟨p_b1,5,none⟩=some (.slice none 0 0):=hs.g2.cell 5 rfl
 have d6:w_6.cell? ⟨p_b1,6,none⟩=some (.bool false):=hs.g2.cell 6 rfl
 have d7:w_6.cell? ⟨p_b1,7,none⟩=some (.slice none 0 0):=hs.g2.cell 7 rfl
 have f0:=xs.free 0;have f1:=xs.free 1;have f2:=xs.free 2;have f3:=xs.free 3;have f4:=xs.free 4;have f5:=xs.free 5;have f6:=xs.free 6;have f7:=xs.free 7
 go_big_op
 have hd7:=xs.nod rfl rfl
 obtain ⟨w_7_0,eW,xs_0,ho_0⟩:∃w',((((w_6.setCell ⟨p_b1,0,none⟩ (.bool n_ga)).setCell ⟨p_b1,1,none⟩ (.slice o_ga k_ga c_ga)).setCell ⟨p_b1,2,none⟩ (.bool n_gb)).setCell ⟨p_b1,3,none⟩ (.slice o_gb k_gb c_gb))=w'∧Bs w' p_b1 #[.bool n_ga,.slice o_ga k_ga c_ga,.bool n_gb,.slice o_gb k_gb c_gb,.bool false,.slice none 0 0,.bool false,.slice none 0 0] 41∧Only p_b1 w_6 w':=xs.setN [(0,.bool n_ga),(1,.slice o_ga k_ga c_ga),(2,.bool n_gb),(3,.slice o_gb k_gb c_gb)]
 rw [eW];clear eW
 obtain ⟨w_7,eW,xs',ho_4⟩:∃w',((((w_7_0.setCell ⟨p_b1,4,none⟩ (.bool n_ha)).setCell ⟨p_b1,5,none⟩ (.slice o_ha k_ha c_ha)).setCell ⟨p_b1,6,none⟩ (.bool n_hb)).setCell ⟨p_b1,7,none⟩ (.slice o_hb k_hb c_hb))=w'∧Bs w' p_b1 #[.bool n_ga,.slice o_ga k_ga c_ga,.bool n_gb,.slice o_gb k_gb c_gb,.bool n_ha,.slice o_ha k_ha c_ha,.bool n_hb,.slice o_hb k_hb c_hb] 41∧Only p_b1 w_7_0 w':=xs_0.setN [(4,.bool n_ha),(5,.slice o_ha k_ha c_ha),(6,.bool n_hb),(7,.slice o_hb k_hb c_hb)]
 rw [eW];clear eW xs_0
 have ho7:=(ho_0.trans ho_4)
 clear ho_0 ho_4 d0 d1 d2 d3 d4 d5 d6 d7 f0 f1 f2 f3 f4 f5 f6 f7 xs
 replace hs:=hs.u2 kb_b1 xs' ho7;clear xs'
 refine hK _ _ rfl trivial ?_;clear hK K
 refine sm ?_
 apply wpSq_end
 refine hK3 _ _ ?_
 refine wp_ret ?_
 try dsimp only [Exit.then,Exit.inBlock]
 have r0_0:w_7.cell? ⟨p_b1,0,none⟩=some (.bool n_ga):=hs.g2.cell 0 rfl
 have r0_1:w_7.cell? ⟨p_b1,1,none⟩=some (.slice o_ga k_ga c_ga):=hs.g2.cell 1 rfl
 have r0_2:w_7.cell? ⟨p_b1,2,none⟩=some (.bool n_gb):=hs.g2.cell 2 rfl
 have r0_3:w_7.cell? ⟨p_b1,3,none⟩=some (.slice o_gb k_gb c_gb):=hs.g2.cell 3 rfl
 have r0_4:w_7.cell? ⟨p_b1,4,none⟩=some (.bool n_ha):=hs.g2.cell 4 rfl
 have r0_5:w_7.cell? ⟨p_b1,5,none⟩=some (.slice o_ha k_ha c_ha):=hs.g2.cell 5 rfl
 have r0_6:w_7.cell? ⟨p_b1,6,none⟩=some (.bool n_hb):=hs.g2.cell 6 rfl
 have r0_7:w_7.cell? ⟨p_b1,7,none⟩=some (.slice o_hb k_hb c_hb):=hs.g2.cell 7 rfl
 refine bodyPost_ret (v:=(.tuple #[(.agg #[.bool n_ga,.slice o_ga k_ga c_ga,.bool n_gb,.slice o_gb k_gb c_gb,.bool n_ha,.slice o_ha k_ha c_ha,.bool n_hb,.slice o_hb k_hb c_hb]),(.int .i64 0)])) (by simp [results,Tryz.results45,go_sem,r0_0,r0_1,r0_2,r0_3,r0_4,r0_5,r0_6,r0_7]) rfl ?_
 have k2_7:=((((kb n3).b n4).o hd5 ho5).o hd6 ho6).o hd7 ho7
 replace g1:=g1.k k2_7
 replace g2:=g2.k k2_7
 replace h1:=h1.k k2_7
 replace h2:=h2.k k2_7
 exact ⟨_,rfl,.mk' g1 g2 h1 h2,hs.b⟩
end
end Go.Proofs.YthmolpepinolkaaGreat
