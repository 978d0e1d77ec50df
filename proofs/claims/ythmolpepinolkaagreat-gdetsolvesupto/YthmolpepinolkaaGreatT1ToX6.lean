/- Texts with a sign: CutPrefix, the references Is and Parse. -/
import Derived.Test.YthmolpepinolkaaGreatR11
import Derived.Test.YthmolpepinolkaaGreatR12
import Derived.Test.YthmolpepinolkaaGreatQ5
namespace Go.Proofs.YthmolpepinolkaaGreat
open Go Go.RowKit Dig
set_option linter.unusedVariables false
theorem low_unique {a b c d:Int} (h:low a b) (k:low c d) (e:a*d=c*b):a=c∧b=d:=by
 have cop:∀ {a b d:Int},Int.gcd a b=1→b ∣ a*d→b ∣ d:=by
  intro a b d hg hd
  have h1:b.natAbs ∣ a.natAbs*d.natAbs:=by rw[←Int.natAbs_mul];exact Int.natAbs_dvd_natAbs.2 hd
  have hc:Nat.Coprime b.natAbs a.natAbs:=by
   rw[Nat.coprime_comm];exact hg
  exact Int.natAbs_dvd_natAbs.1 (hc.dvd_of_dvd_mul_left h1)
 have h1:b ∣ d:=cop h.2 ⟨c,by rw[e,Int.mul_comm]⟩
 have h2:d ∣ b:=cop k.2 ⟨a,by rw[←e,Int.mul_comm]⟩
 have hbd:b=d:=Int.dvd_antisymm (Int.le_of_lt h.1) (Int.le_of_lt k.1) h1 h2
 refine⟨?_,hbd⟩
 rw[hbd] at e
 exact Int.eq_of_mul_eq_mul_right (by have:=k.1;omega) e
theorem q_congr {x y u v:Int} (hy:y≠0) (hv:v≠0) (h:x*v=u*y):qN x y=qN u v∧qD x y=qD u v:=by
 refine low_unique (low_q hy) (low_q hv) ?_
 have h1:=qN_eq (x:=x) (y:=y)
 have h2:=qD_eq (x:=x) (y:=y)
 have h3:=qN_eq (x:=u) (y:=v)
 have h4:=qD_eq (x:=u) (y:=v)
 have g1:=qg_ne (x:=x) hy
 have g2:=qg_ne (x:=u) hv
 generalize qN x y=a at *
 generalize qD x y=b at *
 generalize qN u v=c at *
 generalize qD u v=d at *
 generalize qg x y=g at *
 generalize qg u v=k at *
 have:(a*d)*(g*k)=(c*b)*(g*k):=by
  have e1:(a*d)*(g*k)=(a*g)*(d*k):=by rw[Int.mul_assoc,Int.mul_assoc,Int.mul_left_comm d g k]
  have e2:(c*b)*(g*k)=(c*k)*(b*g):=by rw[Int.mul_assoc,Int.mul_assoc,Int.mul_comm g k,Int.mul_left_comm b k g]
  rw[e1,e2,←h1,←h2,←h3,←h4];exact h
 exact Int.eq_of_mul_eq_mul_right (Int.mul_ne_zero g1 g2) this
theorem q_cross {x y:Int} (hy:y≠0):qN x y*y=x*qD x y:=by
 have h1:=qN_eq (x:=x) (y:=y)
 have h2:=qD_eq (x:=x) (y:=y)
 generalize qN x y=a at *
 generalize qD x y=b at *
 generalize qg x y=g at *
 rw[h1,h2,Int.mul_assoc,Int.mul_comm g b]
section
variable {w:World} {va vb:Value} {x y u v:Int} {l m k n:Nat}
set_option maxHeartbeats 4000000 in
set_option maxRecDepth 20000 in
theorem rfSub_any (ha:PN w va x l y m) (hq:PN w vb u k v n) (hl:l≤9000000) (hm:m≤9000000) (hk:k≤9000000) (hn:n≤9000000) (hy:y≠0) (hv:v≠0) :
  Calls Tryz.prog 135 #[va,vb] w fun e w'=>∃r,e = .returned r∧PC w' r (qN (opSub (x*v) (u*y)) (y*v)) (qD (opSub (x*v) (u*y)) (y*v))∧Below w.heap.size w w':=by
 have HV:=hide hv
 have hd:=qD_pos (x := -u) hv
 have HD:=hide (show y*qD (-u) v≠0 from Int.mul_ne_zero hy (by omega))
 have HE:=hide (q_congr (x:=opAdd (x*qD (-u) v) (qN (-u) v*y)) (y:=y*qD (-u) v) (u:=opSub (x*v) (u*y)) (v:=y*v) HD.out (Int.mul_ne_zero hy hv) (by
  have:=q_cross (x := -u) hv
  generalize qD (-u) v=d at *
  generalize qN (-u) v=t at *
  unfold opAdd opSub
  have e1:t*y*(y*v) = -(u*y)*(y*d):=by
   rw[show t*y*(y*v)=(t*v)*(y*y) by rw[Int.mul_assoc,Int.mul_assoc,Int.mul_left_comm v,Int.mul_comm v y],this]
   rw[Int.neg_mul,Int.neg_mul,Int.neg_mul,Int.mul_assoc,Int.mul_assoc,Int.mul_left_comm d,Int.mul_comm d y]
  have e2:x*d*(y*v)=x*v*(y*d):=by
   rw[Int.mul_assoc,Int.mul_assoc,Int.mul_left_comm d,Int.mul_left_comm v,Int.mul_comm d v]
  rw[Int.add_mul,e1,e2,Int.sub_mul,Int.neg_mul];omega))
 rw[←HE.out.1,←HE.out.2]
 clear hy hv hd
 obtain⟨n_0a,o_0a,k_0a,c_0a,n_0b,o_0b,k_0b,c_0b,rfl,ha1,ha2⟩:=ha
 obtain⟨n_1a,o_1a,k_1a,c_1a,n_1b,o_1b,k_1b,c_1b,rfl,hq1,hq2⟩:=hq
 go_enter Tryz.func135,Tryz.ntmps135
 have hs:=St.nil w
 refine zk fun K1 hK1=>rg [0,1,2] ?_
 refine sq ?_
 refine .al hs ?_;clear hs;intro p_b1 w_1 hs n1 kb_b1
 refine sq ?_
 refine .al hs ?_;clear hs;intro p_b2 w_2 hs n2 kb_b2
 refine sq ?_
 refine .al hs ?_;clear hs;intro p_b3 w_3 hs n3 kb_b3
 refine ze (hK1 _ _ ?_)
 refine zk fun K2 hK2 => ?_
 refine wp_region_f4 [(0,false),(1,false),(2,true),(3,true)] [4] [] (fun _=>default) [0,1,99,99,99] [] (.c hs.g2 (.c hs.g1 .n)) fn fun w_4 n4 => ?_
 replace hs:=hs.bl n4
 refine f4 ?_
 refine f4 ?_
 refine fl fun w_5 n5 => ?_
 replace hs:=hs.bl n5
 intro K hK
 have k0_5:=((((kb n1).b n2).b n3).b n4).b n5
 replace hq1:=hq1.k k0_5
 replace hq2:=hq2.k k0_5
 go_big_op
 go_fit (rfNeg_any (PN.mk' hq1 hq2) (by omega) (by omega) HV.out)
 rintro e w_6 ⟨_,rfl,⟨n_ga,o_ga,k_ga,c_ga,n_gb,o_gb,k_gb,c_gb,rfl,g1,g2⟩,hb_6⟩
 replace hs:=hs.bl hb_6
 have Lg1:=hide (g1.lenOf (qN_len (HV.out) (zlen_neg (hq1.len))))
 have Lg2:=hide (g2.lenOf (qD_len (HV.out) (hq2.len)))
 refine hK _ _ rfl ⟨hb_6,(ai hs.g2 (ai hs.g1 trivial))⟩ ?_
 clear hK K
 refine fl fun w_7 n7 => ?_
 replace hs:=hs.bl n7
 intro K hK
 have k0_7:=(k0_5.b hb_6).b n7
 replace ha1:=ha1.k k0_7
 replace ha2:=ha2.k k0_7
 have k6_7:=kb n7
 replace g1:=g1.k k6_7
 replace g2:=g2.k k6_7
 go_big_op
 go_fit (rfAdd_any (PN.mk' ha1 ha2) (PN.mk' (g1.zn Lg1.out) (g2.zn Lg2.out)) (by omega) (by omega) (by omega) (by omega) HD.out)
 rintro e w_8 ⟨_,rfl,⟨n_ka,o_ka,k_ka,c_ka,n_kb,o_kb,k_kb,c_kb,rfl,k1,k2⟩,hb_8⟩
 replace hs:=hs.bl hb_8
 refine hK _ _ rfl ⟨hb_8,(ai hs.g2 (ai hs.g1 trivial))⟩ ?_
 clear hK K
 refine e0 hs ?_;clear hs;intro w_9 hs n9
 refine tl ?_
 refine .s4 hs.g0 (fun _=>hs.u0 kb_b3) ?_ (e:=fun _ hs=>(ai hs.g2 (ai hs.g1 trivial)));clear hs;intro w_10 hs hd10 ho10
 apply wpTail_end
 refine hK2 _ _ ?_
 refine wp_ret ?_
 try dsimp only [Exit.then,Exit.inBlock]
 obtain⟨r0_0,r0_1,r0_2,r0_3⟩:=hs.g0.f4
 refine bodyPost_ret (v:=(.agg #[.bool n_ka,.slice o_ka k_ka c_ka,.bool n_kb,.slice o_kb k_kb c_kb])) (by simp[results,Tryz.results135,go_sem,r0_0,r0_1,r0_2,r0_3]) rfl ?_
 have k8_10:=(kb n9).o hd10 ho10
 replace k1:=k1.k k8_10
 replace k2:=k2.k k8_10
 exact⟨_,rfl,.mk' k1 k2,hs.b⟩
end
def rv (x y:Int):Rat:=(x:Rat)/(y:Rat)
theorem cast_ne {y:Int} (h:y≠0):(y:Rat)≠0:=by
 intro h0;exact h (by exact_mod_cast h0)
theorem rv_eq {x y u v:Int} (hy:y≠0) (hv:v≠0):rv x y=rv u v ↔ x*v=u*y:=by
 have h1:=cast_ne hy
 have h2:=cast_ne hv
 rw[←Rat.intCast_inj,Rat.intCast_mul,Rat.intCast_mul]
 unfold rv
 constructor <;> intro h <;> grind
theorem rv_add {x y u v:Int} (hy:y≠0) (hv:v≠0):rv (x*v+u*y) (y*v)=rv x y+rv u v:=by
 have h1:=cast_ne hy
 have h2:=cast_ne hv
 unfold rv
 rw[Rat.intCast_add,Rat.intCast_mul,Rat.intCast_mul,Rat.intCast_mul];grind
theorem rv_sub {x y u v:Int} (hy:y≠0) (hv:v≠0):rv (x*v - u*y) (y*v)=rv x y - rv u v:=by
 have h1:=cast_ne hy
 have h2:=cast_ne hv
 unfold rv
 rw[Rat.intCast_sub,Rat.intCast_mul,Rat.intCast_mul,Rat.intCast_mul];grind
theorem rv_mul (x y u v:Int):rv (x*u) (y*v)=rv x y*rv u v:=by
 unfold rv
 rw[Rat.intCast_mul,Rat.intCast_mul];grind
theorem rv_quo (x y u v:Int):rv (x*v) (u*y)=rv x y/rv u v:=by
 unfold rv
 rw[Rat.intCast_mul,Rat.intCast_mul];grind
theorem rv_low {x y:Int} (hy:y≠0):rv (qN x y) (qD x y)=rv x y :=
 (rv_eq (by have:=qD_pos (x:=x) hy;omega) hy).2 (q_cross hy)
theorem low_rv {a b c d:Int} (h:low a b) (k:low c d) (e:rv a b=rv c d):a=c∧b=d :=
 low_unique h k ((rv_eq (by have:=h.1;omega) (by have:=k.1;omega)).1 e)
theorem rv_opAdd {x y u v:Int} (hy:y≠0) (hv:v≠0):rv (opAdd (x*v) (u*y)) (y*v)=rv x y+rv u v:=rv_add hy hv
theorem rv_opSub {x y u v:Int} (hy:y≠0) (hv:v≠0):rv (opSub (x*v) (u*y)) (y*v)=rv x y - rv u v:=rv_sub hy hv
theorem rat_low (r:Rat):low r.num r.den:=⟨by have:=r.den_pos;omega,by have:=r.reduced;unfold Nat.Coprime at this;unfold Int.gcd;rw[Int.natAbs_natCast];exact this⟩
theorem den_ne (r:Rat):(r.den:Int)≠0:=by have:=r.den_pos;omega
theorem rv_self (r:Rat):rv r.num r.den=r:=by
 have h:=Rat.num_divInt_den r
 rw[Rat.divInt_eq_div] at h
 exact h
theorem q_num {x y:Int} (hy:y≠0):qN x y=(rv x y).num∧qD x y=((rv x y).den:Int) :=
 low_rv (low_q hy) (rat_low _) (by rw[rv_low hy,rv_self])
theorem q_eq {x y:Int} {r:Rat} (hy:y≠0) (e:rv x y=r):qN x y=r.num∧qD x y=(r.den:Int):=e ▸ q_num hy
theorem r_len {x y:Int} {r:Rat} {l m:Nat} (hy:y≠0) (e:rv x y=r) (hl:(dig x.natAbs).length≤l) (hm:(dig y.natAbs).length≤m):(dig r.num.natAbs).length≤l∧(dig (r.den:Int).natAbs).length≤m:=by
 rw[←(q_eq hy e).1,←(q_eq hy e).2]
 exact⟨qN_len hy hl,qD_len hy hm⟩
def CN (w:World) (va:Value) (x:Int) (l:Nat) (y:Int) (m:Nat) (u:Int) (k:Nat) (v:Int) (n:Nat):Prop :=
 ∃n1 o1 k1 c1 n2 o2 k2 c2 n3 o3 k3 c3 n4 o4 k4 c4,va = .agg #[.bool n1,.slice o1 k1 c1,.bool n2,.slice o2 k2 c2,.bool n3,.slice o3 k3 c3,.bool n4,.slice o4 k4 c4]∧ZN w (.agg #[.bool n1,.slice o1 k1 c1]) x l∧ZN w (.agg #[.bool n2,.slice o2 k2 c2]) y m∧ZN w (.agg #[.bool n3,.slice o3 k3 c3]) u k∧ZN w (.agg #[.bool n4,.slice o4 k4 c4]) v n
def CC (w:World) (va:Value) (x y u v:Int):Prop :=
 ∃n1 o1 k1 c1 n2 o2 k2 c2 n3 o3 k3 c3 n4 o4 k4 c4,va = .agg #[.bool n1,.slice o1 k1 c1,.bool n2,.slice o2 k2 c2,.bool n3,.slice o3 k3 c3,.bool n4,.slice o4 k4 c4]∧ZC w (.agg #[.bool n1,.slice o1 k1 c1]) x∧ZC w (.agg #[.bool n2,.slice o2 k2 c2]) y∧ZC w (.agg #[.bool n3,.slice o3 k3 c3]) u∧ZC w (.agg #[.bool n4,.slice o4 k4 c4]) v
section
variable {w w':World} {va:Value} {x y u v:Int} {l m k n:Nat} {n1 n2 n3 n4:Bool} {o1 o2 o3 o4:Option Addr} {k1 c1 k2 c2 k3 c3 k4 c4:Nat}
theorem CN.mk' (h1:ZN w (.agg #[.bool n1,.slice o1 k1 c1]) x l) (h2:ZN w (.agg #[.bool n2,.slice o2 k2 c2]) y m) (h3:ZN w (.agg #[.bool n3,.slice o3 k3 c3]) u k) (h4:ZN w (.agg #[.bool n4,.slice o4 k4 c4]) v n) :
  CN w (.agg #[.bool n1,.slice o1 k1 c1,.bool n2,.slice o2 k2 c2,.bool n3,.slice o3 k3 c3,.bool n4,.slice o4 k4 c4]) x l y m u k v n:=⟨_,_,_,_,_,_,_,_,_,_,_,_,_,_,_,_,rfl,h1,h2,h3,h4⟩
theorem CC.mk' (h1:ZC w (.agg #[.bool n1,.slice o1 k1 c1]) x) (h2:ZC w (.agg #[.bool n2,.slice o2 k2 c2]) y) (h3:ZC w (.agg #[.bool n3,.slice o3 k3 c3]) u) (h4:ZC w (.agg #[.bool n4,.slice o4 k4 c4]) v) :
  CC w (.agg #[.bool n1,.slice o1 k1 c1,.bool n2,.slice o2 k2 c2,.bool n3,.slice o3 k3 c3,.bool n4,.slice o4 k4 c4]) x y u v:=⟨_,_,_,_,_,_,_,_,_,_,_,_,_,_,_,_,rfl,h1,h2,h3,h4⟩
end
section
variable {P:Program} {o:Oper} {a:Act} {w w0:World} {B:Exit→Act→World→Prop} {E:World→Prop} {G:Act→World→Prop} {bs:List En}
theorem Stp.i8 {g n c j:Nat} {ty:TypeId} {xs:List Value} {c0 c1 c2 c3 c4 c5 c6 c7:Value} {a':Act} (i:Nat) (hs:St w0 bs w) (hj:j<n)
  (h:∀w',St w0 (bs.set i (ls w0.heap.size ty 8 (.slice (some ⟨g,0,none⟩) n c) n (setL xs [(j*8,c0),(j*8+1,c1),(j*8+2,c2),(j*8+3,c3),(j*8+4,c4),(j*8+5,c5),(j*8+6,c6),(j*8+7,c7)]))) w'→Kp w w'→NoD w g→Only g w w'→Below w0.heap.size w w'→G a' w')
  (hi:bs[i]? = some (ls w0.heap.size ty 8 (.slice (some ⟨g,0,none⟩) n c) n xs):=by rfl)
  (h1:∀d0 d1 d2 d3 d4 d5 d6 d7,w.cell? ⟨g,j*8,none⟩=some d0→w.cell? ⟨g,j*8+1,none⟩=some d1→w.cell? ⟨g,j*8+2,none⟩=some d2→w.cell? ⟨g,j*8+3,none⟩=some d3→w.cell? ⟨g,j*8+4,none⟩=some d4→w.cell? ⟨g,j*8+5,none⟩=some d5→w.cell? ⟨g,j*8+6,none⟩=some d6→w.cell? ⟨g,j*8+7,none⟩=some d7→w.frozen? ⟨g,j*8,none⟩=false→w.frozen? ⟨g,j*8+1,none⟩=false→w.frozen? ⟨g,j*8+2,none⟩=false→w.frozen? ⟨g,j*8+3,none⟩=false→w.frozen? ⟨g,j*8+4,none⟩=false→w.frozen? ⟨g,j*8+5,none⟩=false→w.frozen? ⟨g,j*8+6,none⟩=false→w.frozen? ⟨g,j*8+7,none⟩=false →
   ∀K:Act→World→Prop,K a' ((((((((w.setCell ⟨g,j*8,none⟩ c0).setCell ⟨g,j*8+1,none⟩ c1).setCell ⟨g,j*8+2,none⟩ c2).setCell ⟨g,j*8+3,none⟩ c3).setCell ⟨g,j*8+4,none⟩ c4).setCell ⟨g,j*8+5,none⟩ c5).setCell ⟨g,j*8+6,none⟩ c6).setCell ⟨g,j*8+7,none⟩ c7)→o.wp P a w K B:=by intro d0 d1 d2 d3 d4 d5 d6 d7 e0 e1 e2 e3 e4 e5 e6 e7 f0 f1 f2 f3 f4 f5 f6 f7 K hK;go_big_op;exact hK)
  (e:∀w',Below w0.heap.size w0 w'→Only g w w'→E w':=by exact fun _ _ _=>trivial) (hd:a'.defers=a.defers:=by rfl) (hn:[c0,c1,c2,c3,c4,c5,c6,c7].all nd=true:=by rfl) (ht:(ty==119)=false:=by rfl):Stp P o a w B E G:=fun K hK=>by
 obtain⟨hs2,h3,h4⟩:=hs.put i hi [(j*8,c0),(j*8+1,c1),(j*8+2,c2),(j*8+3,c3),(j*8+4,c4),(j*8+5,c5),(j*8+6,c6),(j*8+7,c7)] (fun p hp=>by
  simp only[List.all_cons,List.all_nil,Bool.and_eq_true,and_true] at hn
  obtain⟨n0,n1,n2,n3,n4,n5,n6,n7⟩:=hn
  simp only[List.mem_cons,List.not_mem_nil,or_false] at hp
  rcases hp with rfl | rfl | rfl | rfl | rfl | rfl | rfl | rfl
  ·exact⟨by show j*8<n*8;omega,n0⟩
  ·exact⟨by show j*8+1<n*8;omega,n1⟩
  ·exact⟨by show j*8+2<n*8;omega,n2⟩
  ·exact⟨by show j*8+3<n*8;omega,n3⟩
  ·exact⟨by show j*8+4<n*8;omega,n4⟩
  ·exact⟨by show j*8+5<n*8;omega,n5⟩
  ·exact⟨by show j*8+6<n*8;omega,n6⟩
  ·exact⟨by show j*8+7<n*8;omega,n7⟩) ht
 have L:=(hs.1.at hi).1
 obtain⟨d0,e0,f0⟩:=Lst.cellAt (B0:=w0.heap.size) L (j:=j*8) (by omega)
 obtain⟨d1,e1,f1⟩:=Lst.cellAt (B0:=w0.heap.size) L (j:=j*8+1) (by omega)
 obtain⟨d2,e2,f2⟩:=Lst.cellAt (B0:=w0.heap.size) L (j:=j*8+2) (by omega)
 obtain⟨d3,e3,f3⟩:=Lst.cellAt (B0:=w0.heap.size) L (j:=j*8+3) (by omega)
 obtain⟨d4,e4,f4⟩:=Lst.cellAt (B0:=w0.heap.size) L (j:=j*8+4) (by omega)
 obtain⟨d5,e5,f5⟩:=Lst.cellAt (B0:=w0.heap.size) L (j:=j*8+5) (by omega)
 obtain⟨d6,e6,f6⟩:=Lst.cellAt (B0:=w0.heap.size) L (j:=j*8+6) (by omega)
 obtain⟨d7,e7,f7⟩:=Lst.cellAt (B0:=w0.heap.size) L (j:=j*8+7) (by omega)
 exact h1 d0 d1 d2 d3 d4 d5 d6 d7 e0 e1 e2 e3 e4 e5 e6 e7 f0 f1 f2 f3 f4 f5 f6 f7 K (hK _ _ hd (e _ hs2.b h4) (h _ hs2 (ko h3 h4) h3 h4 (h4.below ((hs.1.at hi).1.1.lt g rfl).1)))
end
def CD (w:World):List Value→List (Rat × Rat)→Prop
 | [],[]=>True
 | c1::c2::c3::c4::c5::c6::c7::c8::xs,p::ps=>CC w (.agg #[c1,c2,c3,c4,c5,c6,c7,c8]) p.1.num p.1.den p.2.num p.2.den∧CD w xs ps
 | _,_=>False
theorem CC.k {w w':World} {v:Value} {x y u z:Int} (h:CC w v x y u z) (k:Kp w w'):CC w' v x y u z:=by
 obtain⟨n1,o1,k1,c1,n2,o2,k2,c2,n3,o3,k3,c3,n4,o4,k4,c4,rfl,h1,h2,h3,h4⟩:=h
 exact .mk' (h1.k k) (h2.k k) (h3.k k) (h4.k k)
theorem CD.k' {w w':World} (k:Kp w w'):∀ {xs:List Value} {ps:List (Rat × Rat)},CD w xs ps→CD w' xs ps
 | [],[],_=>trivial
 | _::_::_::_::_::_::_::_::_,_::_,h=>⟨h.1.k k,CD.k' k h.2⟩
theorem CD.k {w w':World} {xs:List Value} {ps:List (Rat × Rat)} (h:CD w xs ps) (k:Kp w w'):CD w' xs ps:=CD.k' k h
theorem CD.nil (w:World):CD w [] []:=trivial
theorem CD.snoc' {w:World} {c1 c2 c3 c4 c5 c6 c7 c8:Value} {p:Rat × Rat} (h2:CC w (.agg #[c1,c2,c3,c4,c5,c6,c7,c8]) p.1.num p.1.den p.2.num p.2.den):∀ {xs:List Value} {ps:List (Rat × Rat)},CD w xs ps→CD w (xs++[c1,c2,c3,c4,c5,c6,c7,c8]) (ps++[p])
 | [],[],_=>⟨h2,trivial⟩
 | _::_::_::_::_::_::_::_::_,_::_,h=>⟨h.1,CD.snoc' h2 h.2⟩
theorem CD.snoc {w:World} {xs:List Value} {ps:List (Rat × Rat)} {c1 c2 c3 c4 c5 c6 c7 c8:Value} {p:Rat × Rat} (h:CD w xs ps) (h2:CC w (.agg #[c1,c2,c3,c4,c5,c6,c7,c8]) p.1.num p.1.den p.2.num p.2.den):CD w (xs++[c1,c2,c3,c4,c5,c6,c7,c8]) (ps++[p]):=CD.snoc' h2 h
theorem CD.get {w:World}:∀ {xs:List Value} {ps:List (Rat × Rat)} {i:Nat},CD w xs ps→(h:i<ps.length)→∃c1 c2 c3 c4 c5 c6 c7 c8,xs[i*8]? = some c1∧xs[i*8+1]? = some c2∧xs[i*8+2]? = some c3∧xs[i*8+3]? = some c4∧xs[i*8+4]? = some c5∧xs[i*8+5]? = some c6∧xs[i*8+6]? = some c7∧xs[i*8+7]? = some c8∧CC w (.agg #[c1,c2,c3,c4,c5,c6,c7,c8]) ps[i].1.num ps[i].1.den ps[i].2.num ps[i].2.den
 | [],[],_,_,hi=>absurd hi (Nat.not_lt_zero _)
 | c1::c2::c3::c4::c5::c6::c7::c8::xs,p::ps,0,h,_=>⟨c1,c2,c3,c4,c5,c6,c7,c8,rfl,rfl,rfl,rfl,rfl,rfl,rfl,rfl,h.1⟩
 | c1::c2::c3::c4::c5::c6::c7::c8::xs,p::ps,i+1,h,hi=>by
  obtain⟨d1,d2,d3,d4,d5,d6,d7,d8,e1,e2,e3,e4,e5,e6,e7,e8,hp⟩:=CD.get (i:=i) h.2 (by simpa using hi)
  have e:∀j,(c1::c2::c3::c4::c5::c6::c7::c8::xs)[(i+1)*8+j]? = xs[i*8+j]?:=fun j=>by
   rw[show (i+1)*8+j=i*8+j+1+1+1+1+1+1+1+1 by omega];rfl
  exact⟨d1,d2,d3,d4,d5,d6,d7,d8,(e 0).trans e1,(e 1).trans e2,(e 2).trans e3,(e 3).trans e4,(e 4).trans e5,(e 5).trans e6,(e 6).trans e7,(e 7).trans e8,hp⟩
theorem setL_app8 {ys ws:List Value} {j:Nat} {z0 z1 z2 z3 z4 z5 z6 z7 c0 c1 c2 c3 c4 c5 c6 c7:Value} (h:ys.length=j*8):setL (ys++(z0::z1::z2::z3::z4::z5::z6::z7::ws)) [(j*8,c0),(j*8+1,c1),(j*8+2,c2),(j*8+3,c3),(j*8+4,c4),(j*8+5,c5),(j*8+6,c6),(j*8+7,c7)]=(ys++[c0,c1,c2,c3,c4,c5,c6,c7])++ws:=by
 simp only[setL]
 rw[←h]
 simp[List.set_append_right]
theorem eight_of {zs:List Value} (h:8≤zs.length):∃z0 z1 z2 z3 z4 z5 z6 z7 ws,zs=z0::z1::z2::z3::z4::z5::z6::z7::ws:=by
 match zs,h with
 | z0::z1::z2::z3::z4::z5::z6::z7::ws,_=>exact⟨z0,z1,z2,z3,z4,z5,z6,z7,ws,rfl⟩
def LQ (w:World) (o:Option Addr) (ps:List (Rat × Rat)):Prop :=
 ps=[]∨∃g off cur ty fz,o=some ⟨g,off,none⟩∧Bs w g cur ty fz∧∀i (hi:i<ps.length),∃c1 c2 c3 c4 c5 c6 c7 c8,cur[off+i*8]? = some c1∧cur[off+i*8+1]? = some c2∧cur[off+i*8+2]? = some c3∧cur[off+i*8+3]? = some c4∧cur[off+i*8+4]? = some c5∧cur[off+i*8+5]? = some c6∧cur[off+i*8+6]? = some c7∧cur[off+i*8+7]? = some c8∧CC w (.agg #[c1,c2,c3,c4,c5,c6,c7,c8]) ps[i].1.num ps[i].1.den ps[i].2.num ps[i].2.den
theorem LQ.of {w:World} {B n c:Nat} {o:Option Addr} {ty:TypeId} {xs:List Value} {ps:List (Rat × Rat)} (h:Lst w B ty 8 (.slice o n c) n xs) (hz:CD w xs ps) (hn:ps.length=n):LQ w o ps:=by
 rcases Nat.eq_zero_or_pos n with h0 | h0
 ·exact .inl (List.eq_nil_of_length_eq_zero (by omega))
 ·obtain⟨g,cur,rfl,x,hc⟩:=h.box h0
  refine .inr ⟨g,0,cur,_,_,rfl,x,fun i hi => ?_⟩
  obtain⟨c1,c2,c3,c4,c5,c6,c7,c8,e1,e2,e3,e4,e5,e6,e7,e8,e9⟩:=hz.get hi
  exact⟨c1,c2,c3,c4,c5,c6,c7,c8,by rw[Nat.zero_add];exact hc _ _ e1,by rw[Nat.zero_add];exact hc _ _ e2,by rw[Nat.zero_add];exact hc _ _ e3,by rw[Nat.zero_add];exact hc _ _ e4,by rw[Nat.zero_add];exact hc _ _ e5,by rw[Nat.zero_add];exact hc _ _ e6,by rw[Nat.zero_add];exact hc _ _ e7,by rw[Nat.zero_add];exact hc _ _ e8,e9⟩
theorem LQ.bl {w w':World} {o:Option Addr} {ps:List (Rat × Rat)} (h:LQ w o ps) (hb:Below w.heap.size w w'):LQ w' o ps:=by
 rcases h with h | ⟨g,off,cur,ty,fz,rfl,x,d⟩
 ·exact .inl h
 ·refine .inr ⟨g,off,cur,ty,fz,rfl,x.bl hb,fun i hi => ?_⟩
  obtain⟨c1,c2,c3,c4,c5,c6,c7,c8,e1,e2,e3,e4,e5,e6,e7,e8,e9⟩:=d i hi
  exact⟨c1,c2,c3,c4,c5,c6,c7,c8,e1,e2,e3,e4,e5,e6,e7,e8,e9.k (kb hb)⟩
set_option maxHeartbeats 4000000
set_option maxRecDepth 20000
section
variable {w:World} {va vb:Value} {x y u v:Int} {l m k n:Nat}
theorem fmake_r (ha:ZN w va x l) (hq:ZN w vb y m) (hl:l≤100000000) (hm:m≤100000000) (h0:y≠0) :
  Calls Tryz.prog 93 #[va,vb] w fun e w'=>∃v,e = .returned (.tuple #[v,.int .i64 0])∧PC w' v (rv x y).num (rv x y).den∧Below w.heap.size w w':=by
 have:=fmake_any ha hq hl hm h0
 rw[(q_num h0).1,(q_num h0).2] at this
 exact this
theorem selQ1 (ha:CN w va x l y m u k v n) :
  Calls Tryz.prog 149 #[va] w fun e w'=>∃r,e = .returned r∧PN w' r x l y m∧Below w.heap.size w w':=by
 obtain⟨n_0a,o_0a,k_0a,c_0a,n_0b,o_0b,k_0b,c_0b,n_0c,o_0c,k_0c,c_0c,n_0d,o_0d,k_0d,c_0d,rfl,ha1,ha2,ha3,ha4⟩:=ha
 go_enter Tryz.func149,Tryz.ntmps149
 have hs:=St.nil w
 refine zk fun K1 hK1=>rg [0,1] ?_
 refine sq ?_
 refine .al hs ?_;clear hs;intro p_b1 w_1 hs n1 kb_b1
 refine sq ?_
 refine .al hs ?_;clear hs;intro p_b2 w_2 hs n2 kb_b2
 refine ze (hK1 _ _ ?_)
 refine zk fun K2 hK2=>rg [0,1,2] ?_
 refine sr ?_
 refine sq ?_
 refine .r4 ⟨hs.g1.cell 0 rfl,hs.g1.cell 1 rfl,hs.g1.cell 2 rfl,hs.g1.cell 3 rfl⟩ ?_
 refine sq ?_
 refine .s4 hs.g0 (fun _=>hs.u0 kb_b2) ?_;clear hs;intro w_3 hs hd3 ho3
 refine ze (hK2 _ _ ?_)
 refine wp_ret ?_
 try dsimp only [Exit.then,Exit.inBlock]
 obtain⟨r0_0,r0_1,r0_2,r0_3⟩:=hs.g0.f4
 refine bodyPost_ret (v:=(.agg #[.bool n_0a,.slice o_0a k_0a c_0a,.bool n_0b,.slice o_0b k_0b c_0b])) (by simp[results,Tryz.results149,go_sem,r0_0,r0_1,r0_2,r0_3]) rfl ?_
 have k0_3:=((kb n1).b n2).o hd3 ho3
 replace ha1:=ha1.k k0_3
 replace ha2:=ha2.k k0_3
 exact⟨_,rfl,.mk' ha1 ha2,hs.b⟩
theorem selQ2 (ha:CN w va x l y m u k v n) :
  Calls Tryz.prog 150 #[va] w fun e w'=>∃r,e = .returned r∧PN w' r u k v n∧Below w.heap.size w w':=by
 obtain⟨n_0a,o_0a,k_0a,c_0a,n_0b,o_0b,k_0b,c_0b,n_0c,o_0c,k_0c,c_0c,n_0d,o_0d,k_0d,c_0d,rfl,ha1,ha2,ha3,ha4⟩:=ha
 go_enter Tryz.func150,Tryz.ntmps150
 have hs:=St.nil w
 refine zk fun K1 hK1=>rg [0,1] ?_
 refine sq ?_
 refine .al hs ?_;clear hs;intro p_b1 w_1 hs n1 kb_b1
 refine sq ?_
 refine .al hs ?_;clear hs;intro p_b2 w_2 hs n2 kb_b2
 refine ze (hK1 _ _ ?_)
 refine zk fun K2 hK2=>rg [0,1,2] ?_
 refine sr ?_
 refine sq ?_
 refine .r4 ⟨hs.g1.cell 4 rfl,hs.g1.cell 5 rfl,hs.g1.cell 6 rfl,hs.g1.cell 7 rfl⟩ ?_
 refine sq ?_
 refine .s4 hs.g0 (fun _=>hs.u0 kb_b2) ?_;clear hs;intro w_3 hs hd3 ho3
 refine ze (hK2 _ _ ?_)
 refine wp_ret ?_
 try dsimp only [Exit.then,Exit.inBlock]
 obtain⟨r0_0,r0_1,r0_2,r0_3⟩:=hs.g0.f4
 refine bodyPost_ret (v:=(.agg #[.bool n_0c,.slice o_0c k_0c c_0c,.bool n_0d,.slice o_0d k_0d c_0d])) (by simp[results,Tryz.results150,go_sem,r0_0,r0_1,r0_2,r0_3]) rfl ?_
 have k0_3:=((kb n1).b n2).o hd3 ho3
 replace ha3:=ha3.k k0_3
 replace ha4:=ha4.k k0_3
 exact⟨_,rfl,.mk' ha3 ha4,hs.b⟩
theorem over_c (ha:PN w va x l y m) (hd:ZN w vb u k) :
  Calls Tryz.prog 40 #[va,vb] w fun e w'=>∃r,e = .returned r∧CN w' r x l u k y m u k∧Below w.heap.size w w':=by
 obtain⟨n_0a,o_0a,k_0a,c_0a,n_0b,o_0b,k_0b,c_0b,rfl,ha1,ha2⟩:=ha
 obtain⟨n_1,o_1,k_1,c_1,rfl⟩:=hd.open2
 go_enter Tryz.func40,Tryz.ntmps40
 have hs:=St.nil w
 refine zk fun K1 hK1=>rg [0,1,2] ?_
 refine sq ?_
 refine .al hs ?_;clear hs;intro p_b1 w_1 hs n1 kb_b1
 refine sq ?_
 refine .al hs ?_;clear hs;intro p_b2 w_2 hs n2 kb_b2
 refine sq ?_
 refine .al hs ?_;clear hs;intro p_b3 w_3 hs n3 kb_b3
 refine ze (hK1 _ _ ?_)
 refine zk fun K2 hK2=>rg [0,1,2,3,4,5,6,7,8,9] ?_
 refine sr ?_
 refine sq ?_
 refine .r4 hs.g2.f4 ?_
 refine sq ?_
 refine .r2 hs.g1.f2 ?_
 refine xrr ?_
 refine sq ?_
 refine .r4 hs.g2.f4 ?_
 refine sq ?_
 refine .r2 hs.g1.f2 ?_
 refine xrr ?_
 refine sq ?_
 intro K hK
 have xs:=hs.g0
 have d0:w_3.cell? ⟨p_b3,0,none⟩=some (.bool false):=hs.g0.cell 0 rfl
 have d1:w_3.cell? ⟨p_b3,1,none⟩=some (.slice none 0 0):=hs.g0.cell 1 rfl
 have d2:w_3.cell? ⟨p_b3,2,none⟩=some (.bool false):=hs.g0.cell 2 rfl
 have d3:w_3.cell? ⟨p_b3,3,none⟩=some (.slice none 0 0):=hs.g0.cell 3 rfl
 have d4:w_3.cell? ⟨p_b3,4,none⟩=some (.bool false):=hs.g0.cell 4 rfl
 have d5:w_3.cell? ⟨p_b3,5,none⟩=some (.slice none 0 0):=hs.g0.cell 5 rfl
 have d6:w_3.cell? ⟨p_b3,6,none⟩=some (.bool false):=hs.g0.cell 6 rfl
 have d7:w_3.cell? ⟨p_b3,7,none⟩=some (.slice none 0 0):=hs.g0.cell 7 rfl
 have f0:=xs.free 0;have f1:=xs.free 1;have f2:=xs.free 2;have f3:=xs.free 3;have f4:=xs.free 4;have f5:=xs.free 5;have f6:=xs.free 6;have f7:=xs.free 7
 go_big_op
 have hd4:=xs.nod rfl rfl
 obtain⟨w_4_0,eW,xs_0,ho_0⟩:∃w',((((w_3.setCell ⟨p_b3,0,none⟩ (.bool n_0a)).setCell ⟨p_b3,1,none⟩ (.slice o_0a k_0a c_0a)).setCell ⟨p_b3,2,none⟩ (.bool n_1)).setCell ⟨p_b3,3,none⟩ (.slice o_1 k_1 c_1))=w'∧Bs w' p_b3 #[.bool n_0a,.slice o_0a k_0a c_0a,.bool n_1,.slice o_1 k_1 c_1,.bool false,.slice none 0 0,.bool false,.slice none 0 0] 41∧Only p_b3 w_3 w':=xs.setN [(0,.bool n_0a),(1,.slice o_0a k_0a c_0a),(2,.bool n_1),(3,.slice o_1 k_1 c_1)]
 rw[eW];clear eW
 obtain⟨w_4,eW,xs',ho_4⟩:∃w',((((w_4_0.setCell ⟨p_b3,4,none⟩ (.bool n_0b)).setCell ⟨p_b3,5,none⟩ (.slice o_0b k_0b c_0b)).setCell ⟨p_b3,6,none⟩ (.bool n_1)).setCell ⟨p_b3,7,none⟩ (.slice o_1 k_1 c_1))=w'∧Bs w' p_b3 #[.bool n_0a,.slice o_0a k_0a c_0a,.bool n_1,.slice o_1 k_1 c_1,.bool n_0b,.slice o_0b k_0b c_0b,.bool n_1,.slice o_1 k_1 c_1] 41∧Only p_b3 w_4_0 w':=xs_0.setN [(4,.bool n_0b),(5,.slice o_0b k_0b c_0b),(6,.bool n_1),(7,.slice o_1 k_1 c_1)]
 rw[eW];clear eW xs_0
 have ho4:=(ho_0.trans ho_4)
 clear ho_0 ho_4 d0 d1 d2 d3 d4 d5 d6 d7 f0 f1 f2 f3 f4 f5 f6 f7 xs
 replace hs:=hs.u0 kb_b3 xs' ho4;clear xs'
 refine hK _ _ rfl trivial ?_;clear hK K
 refine ze (hK2 _ _ ?_)
 refine wp_ret ?_
 try dsimp only [Exit.then,Exit.inBlock]
 have r0_0:w_4.cell? ⟨p_b3,0,none⟩=some (.bool n_0a):=hs.g0.cell 0 rfl
 have r0_1:w_4.cell? ⟨p_b3,1,none⟩=some (.slice o_0a k_0a c_0a):=hs.g0.cell 1 rfl
 have r0_2:w_4.cell? ⟨p_b3,2,none⟩=some (.bool n_1):=hs.g0.cell 2 rfl
 have r0_3:w_4.cell? ⟨p_b3,3,none⟩=some (.slice o_1 k_1 c_1):=hs.g0.cell 3 rfl
 have r0_4:w_4.cell? ⟨p_b3,4,none⟩=some (.bool n_0b):=hs.g0.cell 4 rfl
 have r0_5:w_4.cell? ⟨p_b3,5,none⟩=some (.slice o_0b k_0b c_0b):=hs.g0.cell 5 rfl
 have r0_6:w_4.cell? ⟨p_b3,6,none⟩=some (.bool n_1):=hs.g0.cell 6 rfl
 have r0_7:w_4.cell? ⟨p_b3,7,none⟩=some (.slice o_1 k_1 c_1):=hs.g0.cell 7 rfl
 refine bodyPost_ret (v:=(.agg #[.bool n_0a,.slice o_0a k_0a c_0a,.bool n_1,.slice o_1 k_1 c_1,.bool n_0b,.slice o_0b k_0b c_0b,.bool n_1,.slice o_1 k_1 c_1])) (by simp[results,Tryz.results40,go_sem,r0_0,r0_1,r0_2,r0_3,r0_4,r0_5,r0_6,r0_7]) rfl ?_
 have k0_4:=(((kb n1).b n2).b n3).o hd4 ho4
 replace ha1:=ha1.k k0_4
 replace hd:=hd.k k0_4
 replace ha2:=ha2.k k0_4
 exact⟨_,rfl,.mk' ha1 hd ha2 hd,hs.b⟩
end
section
variable {w:World} {f:Nat} {caps:Array Value} {a b c d:Int}
def Tells (w:World) (f:Nat) (caps:Array Value) (s:Nat) (a b:Int):Prop :=
 ∀w1,Below w.heap.size w w1→Calls Tryz.prog f (#[.func (.func s) #[] #[]]++caps) w1 fun e w2=>∃r,e = .returned (.tuple #[r,.int .i64 0])∧PC w2 r a b∧Below w1.heap.size w1 w2
def Enters (f:Nat) (caps:Array Value):Prop:=∀v w1,Sem.run Tryz.prog (callFunc f (#[v]++caps)) w1 = .ok (.enter f (#[v]++caps)) w1
theorem bothQ_ok (hf:Enters f caps) (hc1:Tells w f caps 149 a b) (hc2:Tells w f caps 150 c d) :
  Calls Tryz.prog 101 #[.func (.func f) #[] caps] w fun e w'=>∃r s,e = .returned (.tuple #[r,s,.int .i64 0])∧PC w' r a b∧PC w' s c d∧Below w.heap.size w w':=by
 unfold Enters at hf
 go_enter Tryz.func101,Tryz.ntmps101
 have hs:=St.nil w
 refine zk fun K1 hK1=>rg [0,1,2] ?_
 refine sq ?_
 refine .al hs ?_;clear hs;intro p_b1 w_1 hs n1 kb_b1
 refine sq ?_
 refine .al hs ?_;clear hs;intro p_b2 w_2 hs n2 kb_b2
 refine sm (ze (hK1 _ _ ?_))
 refine zk fun K2 hK2=>rg [0] ?_
 refine sq ?_
 refine .al hs ?_;clear hs;intro p_b3 w_3 hs n3 kb_b3
 refine ze (hK2 _ _ ?_)
 refine zk fun K3 hK3=>rg [0,1,2,3,4,5,6] ?_
 refine sm ?_
 refine sq ?_
 intro K hK
 have hb:=hs.b
 go_big_op
 go_fit (hc1 _ hb)
 rintro e w_4 ⟨_,rfl,⟨n_ga,o_ga,k_ga,c_ga,n_gb,o_gb,k_gb,c_gb,rfl,g1,g2⟩,hb_4⟩
 clear hb
 replace hs:=hs.bl hb_4
 refine hK _ _ rfl trivial ?_
 clear hK K
 refine xmr ?_
 refine sr ?_
 refine sq ?_
 refine .s4 hs.g2 (fun _=>hs.u2 kb_b1) ?_;clear hs;intro w_5 hs hd5 ho5
 refine sm (ze (hK3 _ _ ?_))
 refine zk fun K4 hK4 => ?_
 refine zk fun K5 hK5=>rg [0,1] ?_
 refine sm ?_
 refine sr (ze (hK5 _ _ ?_))
 refine cf ?_
 refine wp_skip ?_
 refine hK4 _ _ ?_
 refine zk fun K6 hK6=>rg [0,1,2,3,4,5,6] ?_
 refine sm ?_
 refine sq ?_
 intro K hK
 have hb:=hs.b
 go_big_op
 go_fit (hc2 _ hb)
 rintro e w_6 ⟨_,rfl,⟨n_ha,o_ha,k_ha,c_ha,n_hb,o_hb,k_hb,c_hb,rfl,h1,h2⟩,hb_6⟩
 clear hb
 replace hs:=hs.bl hb_6
 refine hK _ _ rfl trivial ?_
 clear hK K
 refine xmr ?_
 refine sr ?_
 refine sq ?_
 refine .s4 hs.g1 (fun _=>hs.u1 kb_b2) ?_;clear hs;intro w_7 hs hd7 ho7
 refine sm (ze (hK6 _ _ ?_))
 refine zk fun K7 hK7 => ?_
 refine zk fun K8 hK8=>rg [0,1] ?_
 refine sm ?_
 refine sr (ze (hK8 _ _ ?_))
 refine cf ?_
 refine wp_skip ?_
 refine hK7 _ _ ?_
 refine zk fun K9 hK9 => ?_
 refine wp_region_f4 [(0,false),(1,false)] [2,3,4] [] (fun _=>default) [0,1,99,99,99] [(2,0),(3,0),(3,1),(4,0),(4,1)] (.c hs.g2 (.c hs.g1 .n)) fn fun w_8 n8 => ?_
 replace hs:=hs.bl n8
 refine f4 ?_
 refine f4 ?_
 refine e0 hs ?_;clear hs;intro w_9 hs n9
 refine tl ?_
 refine .s4 hs.g2 (fun _=>hs.u2 kb_b1) ?_ (e:=fun _ hs=>(ai trivial (ai hs.g1 trivial)));clear hs;intro w_10 hs hd10 ho10
 refine tl ?_
 refine .s4 hs.g1 (fun _=>hs.u1 kb_b2) ?_ (e:=fun _ hs=>(ai trivial (ai trivial trivial)));clear hs;intro w_11 hs hd11 ho11
 refine tl ?_
 refine .mv ?_ (e:=(ai trivial (ai trivial trivial)))
 apply wpTail_end
 refine hK9 _ _ ?_
 refine wp_ret ?_
 try dsimp only [Exit.then,Exit.inBlock]
 obtain⟨r0_0,r0_1,r0_2,r0_3⟩:=hs.g2.f4
 obtain⟨r4_0,r4_1,r4_2,r4_3⟩:=hs.g1.f4
 refine bodyPost_ret (v:=(.tuple #[(.agg #[.bool n_ga,.slice o_ga k_ga c_ga,.bool n_gb,.slice o_gb k_gb c_gb]),(.agg #[.bool n_ha,.slice o_ha k_ha c_ha,.bool n_hb,.slice o_hb k_hb c_hb]),(.int .i64 0)])) (by simp[results,Tryz.results101,go_sem,r0_0,r0_1,r0_2,r0_3,r4_0,r4_1,r4_2,r4_3]) rfl ?_
 have k4_11:=((((((ko hd5 ho5).b hb_6).o hd7 ho7).b n8).b n9).o hd10 ho10).o hd11 ho11
 replace g1:=g1.k k4_11
 replace g2:=g2.k k4_11
 have k6_11:=((((ko hd7 ho7).b n8).b n9).o hd10 ho10).o hd11 ho11
 replace h1:=h1.k k6_11
 replace h2:=h2.k k6_11
 exact⟨_,_,rfl,.mk' g1 g2,.mk' h1 h2,hs.b⟩
theorem Tells.at {w w':World} {s:Nat} (h:Tells w f caps s a b) (hb:Below w.heap.size w w'):Tells w' f caps s a b:=fun w1 h1=>h w1 (tmm hb h1)
theorem number_ok (hf:Enters f caps) (hc1:Tells w f caps 149 a b) (hc2:Tells w f caps 150 c d) :
  Calls Tryz.prog 45 #[.func (.func f) #[] caps] w fun e w'=>∃r,e = .returned (.tuple #[r,.int .i64 0])∧CC w' r a b c d∧Below w.heap.size w w':=by
 go_enter Tryz.func45,Tryz.ntmps45
 have hs:=St.nil w
 refine zk fun K1 hK1=>rg [0,1] ?_
 refine sq ?_
 refine .al hs ?_;clear hs;intro p_b1 w_1 hs n1 kb_b1
 refine sm (ze (hK1 _ _ ?_))
 refine zk fun K2 hK2=>rg [0,1,2,3,4,5,6,7,8,9,10] ?_
 refine sm ?_
 refine sq ?_
 intro K hK
 have hb:=hs.b
 go_big_op
 go_fit (bothQ_ok hf (hc1.at hb) (hc2.at hb))
 rintro e w_2 ⟨_,_,rfl,⟨n_ga,o_ga,k_ga,c_ga,n_gb,o_gb,k_gb,c_gb,rfl,g1,g2⟩,⟨n_ha,o_ha,k_ha,c_ha,n_hb,o_hb,k_hb,c_hb,rfl,h1,h2⟩,hb_2⟩
 clear hb
 replace hs:=hs.bl hb_2
 refine hK _ _ rfl trivial ?_
 clear hK K
 refine xmr ?_
 refine xrr ?_
 refine sq ?_
 refine .al hs ?_;clear hs;intro p_b2 w_3 hs n3 kb_b2
 refine sq ?_
 refine .al hs ?_;clear hs;intro p_b3 w_4 hs n4 kb_b3
 refine sq ?_
 refine .s4 hs.g1 (fun _=>hs.u1 kb_b2) ?_;clear hs;intro w_5 hs hd5 ho5
 refine sq ?_
 refine .s4 hs.g0 (fun _=>hs.u0 kb_b3) ?_;clear hs;intro w_6 hs hd6 ho6
 refine sm (ze (hK2 _ _ ?_))
 refine zk fun K3 hK3=>rg [0,1,2,3,4,5] ?_
 refine sq ?_
 refine .r4 hs.g1.f4 ?_
 refine sq ?_
 refine .r4 hs.g0.f4 ?_
 refine xrm ?_
 refine sq ?_
 intro K hK
 have xs:=hs.g2
 have d0:w_6.cell? ⟨p_b1,0,none⟩=some (.bool false):=hs.g2.cell 0 rfl
 have d1:w_6.cell? ⟨p_b1,1,none⟩=some (.slice none 0 0):=hs.g2.cell 1 rfl
 have d2:w_6.cell? ⟨p_b1,2,none⟩=some (.bool false):=hs.g2.cell 2 rfl
 have d3:w_6.cell? ⟨p_b1,3,none⟩=some (.slice none 0 0):=hs.g2.cell 3 rfl
 have d4:w_6.cell? ⟨p_b1,4,none⟩=some (.bool false):=hs.g2.cell 4 rfl
 have d5:w_6.cell? ⟨p_b1,5,none⟩=some (.slice none 0 0):=hs.g2.cell 5 rfl
 have d6:w_6.cell? ⟨p_b1,6,none⟩=some (.bool false):=hs.g2.cell 6 rfl
 have d7:w_6.cell? ⟨p_b1,7,none⟩=some (.slice none 0 0):=hs.g2.cell 7 rfl
 have f0:=xs.free 0;have f1:=xs.free 1;have f2:=xs.free 2;have f3:=xs.free 3;have f4:=xs.free 4;have f5:=xs.free 5;have f6:=xs.free 6;have f7:=xs.free 7
 go_big_op
 have hd7:=xs.nod rfl rfl
 obtain⟨w_7_0,eW,xs_0,ho_0⟩:∃w',((((w_6.setCell ⟨p_b1,0,none⟩ (.bool n_ga)).setCell ⟨p_b1,1,none⟩ (.slice o_ga k_ga c_ga)).setCell ⟨p_b1,2,none⟩ (.bool n_gb)).setCell ⟨p_b1,3,none⟩ (.slice o_gb k_gb c_gb))=w'∧Bs w' p_b1 #[.bool n_ga,.slice o_ga k_ga c_ga,.bool n_gb,.slice o_gb k_gb c_gb,.bool false,.slice none 0 0,.bool false,.slice none 0 0] 41∧Only p_b1 w_6 w':=xs.setN [(0,.bool n_ga),(1,.slice o_ga k_ga c_ga),(2,.bool n_gb),(3,.slice o_gb k_gb c_gb)]
 rw[eW];clear eW
 obtain⟨w_7,eW,xs',ho_4⟩:∃w',((((w_7_0.setCell ⟨p_b1,4,none⟩ (.bool n_ha)).setCell ⟨p_b1,5,none⟩ (.slice o_ha k_ha c_ha)).setCell ⟨p_b1,6,none⟩ (.bool n_hb)).setCell ⟨p_b1,7,none⟩ (.slice o_hb k_hb c_hb))=w'∧Bs w' p_b1 #[.bool n_ga,.slice o_ga k_ga c_ga,.bool n_gb,.slice o_gb k_gb c_gb,.bool n_ha,.slice o_ha k_ha c_ha,.bool n_hb,.slice o_hb k_hb c_hb] 41∧Only p_b1 w_7_0 w':=xs_0.setN [(4,.bool n_ha),(5,.slice o_ha k_ha c_ha),(6,.bool n_hb),(7,.slice o_hb k_hb c_hb)]
 rw[eW];clear eW xs_0
 have ho7:=(ho_0.trans ho_4)
 clear ho_0 ho_4 d0 d1 d2 d3 d4 d5 d6 d7 f0 f1 f2 f3 f4 f5 f6 f7 xs
 replace hs:=hs.u2 kb_b1 xs' ho7;clear xs'
 refine hK _ _ rfl trivial ?_;clear hK K
 refine sm (ze (hK3 _ _ ?_))
 refine wp_ret ?_
 try dsimp only [Exit.then,Exit.inBlock]
 have r0_0:w_7.cell? ⟨p_b1,0,none⟩=some (.bool n_ga):=hs.g2.cell 0 rfl
 have r0_1:w_7.cell? ⟨p_b1,1,none⟩=some (.slice o_ga k_ga c_ga):=hs.g2.cell 1 rfl
 have r0_2:w_7.cell? ⟨p_b1,2,none⟩=some (.bool n_gb):=hs.g2.cell 2 rfl
 have r0_3:w_7.cell? ⟨p_b1,3,none⟩=some (.slice o_gb k_gb c_gb):=hs.g2.cell 3 rfl
 have r0_4:w_7.cell? ⟨p_b1,4,none⟩=some (.bool n_ha):=hs.g2.cell 4 rfl
 have r0_5:w_7.cell? ⟨p_b1,5,none⟩=some (.slice o_ha k_ha c_ha):=hs.g2.cell 5 rfl
 have r0_6:w_7.cell? ⟨p_b1,6,none⟩=some (.bool n_hb):=hs.g2.cell 6 rfl
 have r0_7:w_7.cell? ⟨p_b1,7,none⟩=some (.slice o_hb k_hb c_hb):=hs.g2.cell 7 rfl
 refine bodyPost_ret (v:=(.tuple #[(.agg #[.bool n_ga,.slice o_ga k_ga c_ga,.bool n_gb,.slice o_gb k_gb c_gb,.bool n_ha,.slice o_ha k_ha c_ha,.bool n_hb,.slice o_hb k_hb c_hb]),(.int .i64 0)])) (by simp[results,Tryz.results45,go_sem,r0_0,r0_1,r0_2,r0_3,r0_4,r0_5,r0_6,r0_7]) rfl ?_
 have k2_7:=((((kb n3).b n4).o hd5 ho5).o hd6 ho6).o hd7 ho7
 replace g1:=g1.k k2_7
 replace g2:=g2.k k2_7
 replace h1:=h1.k k2_7
 replace h2:=h2.k k2_7
 exact⟨_,rfl,.mk' g1 g2 h1 h2,hs.b⟩
end
section
variable {w:World} {va vb:Value} {x y u v p q s t:Int} {l m k n l2 m2 k2 n2:Nat}
def BC (w:World) (pa:Nat) (x:Int) (l:Nat) (y:Int) (m:Nat) (u:Int) (k:Nat) (v:Int) (n:Nat):Prop :=
 ∃n1 o1 k1 c1 n2 o2 k2 c2 n3 o3 k3 c3 n4 o4 k4 c4,Bs w pa #[.bool n1,.slice o1 k1 c1,.bool n2,.slice o2 k2 c2,.bool n3,.slice o3 k3 c3,.bool n4,.slice o4 k4 c4] 41∧ZN w (.agg #[.bool n1,.slice o1 k1 c1]) x l∧ZN w (.agg #[.bool n2,.slice o2 k2 c2]) y m∧ZN w (.agg #[.bool n3,.slice o3 k3 c3]) u k∧ZN w (.agg #[.bool n4,.slice o4 k4 c4]) v n
theorem BC.mk' {pa:Nat} {n1 n2 n3 n4:Bool} {o1 o2 o3 o4:Option Addr} {k1 c1 k2 c2 k3 c3 k4 c4:Nat} (hb:Bs w pa #[.bool n1,.slice o1 k1 c1,.bool n2,.slice o2 k2 c2,.bool n3,.slice o3 k3 c3,.bool n4,.slice o4 k4 c4] 41) (h1:ZN w (.agg #[.bool n1,.slice o1 k1 c1]) x l) (h2:ZN w (.agg #[.bool n2,.slice o2 k2 c2]) y m) (h3:ZN w (.agg #[.bool n3,.slice o3 k3 c3]) u k) (h4:ZN w (.agg #[.bool n4,.slice o4 k4 c4]) v n):BC w pa x l y m u k v n :=
 ⟨_,_,_,_,_,_,_,_,_,_,_,_,_,_,_,_,hb,h1,h2,h3,h4⟩
theorem low1_ok1 {pa:Nat} (hp:BC w pa x l y m u k v n) (hl:l≤100000000) (hm:m≤100000000) (hk:k≤100000000) (hn:n≤100000000) (h0:y≠0) :
  Calls Tryz.prog 92 (#[.func (.func 149) #[] #[]] ++ #[.pointer (some ⟨pa,0,none⟩)]) w fun e w'=>∃r,e = .returned (.tuple #[r,.int .i64 0])∧PC w' r (rv x y).num (rv x y).den∧Below w.heap.size w w':=by
 have H0:=hide h0
 clear h0
 obtain⟨n1,o1,k1,c1,n2,o2,k2,c2,n3,o3,k3,c3,n4,o4,k4,c4,xa,h1,h2,h3,h4⟩:=hp
 show Calls Tryz.prog 92 #[.func (.func 149) #[] #[],.pointer (some ⟨pa,0,none⟩)] w _
 go_enter Tryz.func92,Tryz.ntmps92
 have hs:=St.nil w
 have lt_xa:=xa.lt
 have xaz:=xa
 refine zk fun K1 hK1=>rg [0,1] ?_
 refine sq ?_
 refine .al hs ?_;clear hs;intro p_b1 w_1 hs n1 kb_b1
 replace xa:=xa.bl n1
 refine sm (ze (hK1 _ _ ?_))
 refine zk fun K2 hK2 => ?_
 refine wp_region_f4 [(0,false),(1,false),(4,false),(5,false),(2,true),(3,false),(6,true),(7,false),(8,true),(9,false),(10,false)] [11,12] [] (fun _=>default) [99,0,99,99,99,0,99,99,99,99,99,99,99] [] (.c xa .n) fn fun w_2 n2 => ?_
 replace xa:=xa.bl n2;replace hs:=hs.bl n2
 refine fmv ?_
 apply wpFl_ld rfl rfl;(case h1=>intro w' hC K hK;have c0:=Bs.cell hC 0 rfl;have c1:=Bs.cell hC 1 rfl;have c2:=Bs.cell hC 2 rfl;have c3:=Bs.cell hC 3 rfl;have c4:=Bs.cell hC 4 rfl;have c5:=Bs.cell hC 5 rfl;have c6:=Bs.cell hC 6 rfl;have c7:=Bs.cell hC 7 rfl;go_big_op;exact hK);iterate 4 kernel_rfl
 refine fmv ?_
 apply wpFl_ld rfl rfl;(case h1=>intro w' hC K hK;have c0:=Bs.cell hC 0 rfl;have c1:=Bs.cell hC 1 rfl;have c2:=Bs.cell hC 2 rfl;have c3:=Bs.cell hC 3 rfl;have c4:=Bs.cell hC 4 rfl;have c5:=Bs.cell hC 5 rfl;have c6:=Bs.cell hC 6 rfl;have c7:=Bs.cell hC 7 rfl;go_big_op;exact hK);iterate 4 kernel_rfl
 refine fl fun w_3 n3 => ?_
 replace xa:=xa.bl n3;replace hs:=hs.bl n3
 intro K hK
 have k0_3:=((kb n1).b n2).b n3
 replace h1:=h1.k k0_3
 replace h2:=h2.k k0_3
 replace h3:=h3.k k0_3
 replace h4:=h4.k k0_3
 go_big_op
 go_fit (selQ1 (.mk' h1 h2 h3 h4))
 rintro e w_4 ⟨_,rfl,⟨n_gaa,o_gaa,k_gaa,c_gaa,n_gab,o_gab,k_gab,c_gab,rfl,ga1,ga2⟩,hb_4⟩
 replace xa:=xa.bl hb_4;replace hs:=hs.bl hb_4
 refine hK _ _ rfl ⟨hb_4,(ai xa trivial)⟩ ?_
 clear hK K
 apply wpFl_ld rfl rfl;(case h1=>intro w' hC K hK;go_big_op;rw[(?eX:Sem.run _ (Instr.field _ _ _) _=Result.ok (.agg #[.bool n_gaa,.slice o_gaa k_gaa c_gaa]) w')];(case eX=>kernel_rfl);simp only[Result.andThen,Oper.upon,Act.put,List.setIfInBounds_toArray,List.set_cons_succ,List.set_cons_zero];exact hK);iterate 4 kernel_rfl
 refine fl fun w_5 n5 => ?_
 replace xa:=xa.bl n5;replace hs:=hs.bl n5
 intro K hK
 have k3_5:=(kb hb_4).b n5
 replace h1:=h1.k k3_5
 replace h2:=h2.k k3_5
 replace h3:=h3.k k3_5
 replace h4:=h4.k k3_5
 go_big_op
 go_fit (selQ1 (.mk' h1 h2 h3 h4))
 rintro e w_6 ⟨_,rfl,⟨n_gba,o_gba,k_gba,c_gba,n_gbb,o_gbb,k_gbb,c_gbb,rfl,gb1,gb2⟩,hb_6⟩
 replace xa:=xa.bl hb_6;replace hs:=hs.bl hb_6
 refine hK _ _ rfl ⟨hb_6,(ai xa trivial)⟩ ?_
 clear hK K
 apply wpFl_ld rfl rfl;(case h1=>intro w' hC K hK;go_big_op;rw[(?eX:Sem.run _ (Instr.field _ _ _) _=Result.ok (.agg #[.bool n_gbb,.slice o_gbb k_gbb c_gbb]) w')];(case eX=>kernel_rfl);simp only[Result.andThen,Oper.upon,Act.put,List.setIfInBounds_toArray,List.set_cons_succ,List.set_cons_zero];exact hK);iterate 4 kernel_rfl
 refine fl fun w_7 n7 => ?_
 replace xa:=xa.bl n7;replace hs:=hs.bl n7
 intro K hK
 have k4_7:=((kb n5).b hb_6).b n7
 replace ga1:=ga1.k k4_7
 have k6_7:=kb n7
 replace gb2:=gb2.k k6_7
 go_big_op
 go_fit (fmake_r ga1 gb2 (by omega) (by omega) H0.out)
 rintro e w_8 ⟨_,rfl,⟨n_ra,o_ra,k_ra,c_ra,n_rb,o_rb,k_rb,c_rb,rfl,r1,r2⟩,hb_8⟩
 replace xa:=xa.bl hb_8;replace hs:=hs.bl hb_8
 refine hK _ _ rfl ⟨hb_8,(ai xa trivial)⟩ ?_
 clear hK K
 refine f0 ?_
 refine f0 ?_
 refine e0 hs ?_;clear hs;intro w_9 hs n9
 replace xa:=xa.bl n9
 refine tl ?_
 refine .s4 hs.g0 (fun _=>hs.u0 kb_b1) ?_ (e:=fun _ hs=>(ai (xaz.bl hs.b) trivial));clear hs;intro w_10 hs hd10 ho10
 replace xa:=xa.frame ho10 (Nat.ne_of_lt (Nat.lt_of_lt_of_le lt_xa kb_b1))
 refine tl ?_
 refine .mv ?_ (e:=(ai (xaz.bl hs.b) trivial))
 apply wpTail_end
 refine hK2 _ _ ?_
 refine wp_ret ?_
 try dsimp only [Exit.then,Exit.inBlock]
 obtain⟨r0_0,r0_1,r0_2,r0_3⟩:=hs.g0.f4
 refine bodyPost_ret (v:=(.tuple #[(.agg #[.bool n_ra,.slice o_ra k_ra c_ra,.bool n_rb,.slice o_rb k_rb c_rb]),(.int .i64 0)])) (by simp[results,Tryz.results92,go_sem,r0_0,r0_1,r0_2,r0_3]) rfl ?_
 have k8_10:=(kb n9).o hd10 ho10
 replace r1:=r1.k k8_10
 replace r2:=r2.k k8_10
 exact⟨_,rfl,.mk' r1 r2,hs.b⟩
theorem low1_ok2 {pa:Nat} (hp:BC w pa x l y m u k v n) (hl:l≤100000000) (hm:m≤100000000) (hk:k≤100000000) (hn:n≤100000000) (h0:v≠0) :
  Calls Tryz.prog 92 (#[.func (.func 150) #[] #[]] ++ #[.pointer (some ⟨pa,0,none⟩)]) w fun e w'=>∃r,e = .returned (.tuple #[r,.int .i64 0])∧PC w' r (rv u v).num (rv u v).den∧Below w.heap.size w w':=by
 have H0:=hide h0
 clear h0
 obtain⟨n1,o1,k1,c1,n2,o2,k2,c2,n3,o3,k3,c3,n4,o4,k4,c4,xa,h1,h2,h3,h4⟩:=hp
 show Calls Tryz.prog 92 #[.func (.func 150) #[] #[],.pointer (some ⟨pa,0,none⟩)] w _
 go_enter Tryz.func92,Tryz.ntmps92
 have hs:=St.nil w
 have lt_xa:=xa.lt
 have xaz:=xa
 refine zk fun K1 hK1=>rg [0,1] ?_
 refine sq ?_
 refine .al hs ?_;clear hs;intro p_b1 w_1 hs n1 kb_b1
 replace xa:=xa.bl n1
 refine sm (ze (hK1 _ _ ?_))
 refine zk fun K2 hK2 => ?_
 refine wp_region_f4 [(0,false),(1,false),(4,false),(5,false),(2,true),(3,false),(6,true),(7,false),(8,true),(9,false),(10,false)] [11,12] [] (fun _=>default) [99,0,99,99,99,0,99,99,99,99,99,99,99] [] (.c xa .n) fn fun w_2 n2 => ?_
 replace xa:=xa.bl n2;replace hs:=hs.bl n2
 refine fmv ?_
 apply wpFl_ld rfl rfl;(case h1=>intro w' hC K hK;have c0:=Bs.cell hC 0 rfl;have c1:=Bs.cell hC 1 rfl;have c2:=Bs.cell hC 2 rfl;have c3:=Bs.cell hC 3 rfl;have c4:=Bs.cell hC 4 rfl;have c5:=Bs.cell hC 5 rfl;have c6:=Bs.cell hC 6 rfl;have c7:=Bs.cell hC 7 rfl;go_big_op;exact hK);iterate 4 kernel_rfl
 refine fmv ?_
 apply wpFl_ld rfl rfl;(case h1=>intro w' hC K hK;have c0:=Bs.cell hC 0 rfl;have c1:=Bs.cell hC 1 rfl;have c2:=Bs.cell hC 2 rfl;have c3:=Bs.cell hC 3 rfl;have c4:=Bs.cell hC 4 rfl;have c5:=Bs.cell hC 5 rfl;have c6:=Bs.cell hC 6 rfl;have c7:=Bs.cell hC 7 rfl;go_big_op;exact hK);iterate 4 kernel_rfl
 refine fl fun w_3 n3 => ?_
 replace xa:=xa.bl n3;replace hs:=hs.bl n3
 intro K hK
 have k0_3:=((kb n1).b n2).b n3
 replace h1:=h1.k k0_3
 replace h2:=h2.k k0_3
 replace h3:=h3.k k0_3
 replace h4:=h4.k k0_3
 go_big_op
 go_fit (selQ2 (.mk' h1 h2 h3 h4))
 rintro e w_4 ⟨_,rfl,⟨n_gaa,o_gaa,k_gaa,c_gaa,n_gab,o_gab,k_gab,c_gab,rfl,ga1,ga2⟩,hb_4⟩
 replace xa:=xa.bl hb_4;replace hs:=hs.bl hb_4
 refine hK _ _ rfl ⟨hb_4,(ai xa trivial)⟩ ?_
 clear hK K
 apply wpFl_ld rfl rfl;(case h1=>intro w' hC K hK;go_big_op;rw[(?eX:Sem.run _ (Instr.field _ _ _) _=Result.ok (.agg #[.bool n_gaa,.slice o_gaa k_gaa c_gaa]) w')];(case eX=>kernel_rfl);simp only[Result.andThen,Oper.upon,Act.put,List.setIfInBounds_toArray,List.set_cons_succ,List.set_cons_zero];exact hK);iterate 4 kernel_rfl
 refine fl fun w_5 n5 => ?_
 replace xa:=xa.bl n5;replace hs:=hs.bl n5
 intro K hK
 have k3_5:=(kb hb_4).b n5
 replace h1:=h1.k k3_5
 replace h2:=h2.k k3_5
 replace h3:=h3.k k3_5
 replace h4:=h4.k k3_5
 go_big_op
 go_fit (selQ2 (.mk' h1 h2 h3 h4))
 rintro e w_6 ⟨_,rfl,⟨n_gba,o_gba,k_gba,c_gba,n_gbb,o_gbb,k_gbb,c_gbb,rfl,gb1,gb2⟩,hb_6⟩
 replace xa:=xa.bl hb_6;replace hs:=hs.bl hb_6
 refine hK _ _ rfl ⟨hb_6,(ai xa trivial)⟩ ?_
 clear hK K
 apply wpFl_ld rfl rfl;(case h1=>intro w' hC K hK;go_big_op;rw[(?eX:Sem.run _ (Instr.field _ _ _) _=Result.ok (.agg #[.bool n_gbb,.slice o_gbb k_gbb c_gbb]) w')];(case eX=>kernel_rfl);simp only[Result.andThen,Oper.upon,Act.put,List.setIfInBounds_toArray,List.set_cons_succ,List.set_cons_zero];exact hK);iterate 4 kernel_rfl
 refine fl fun w_7 n7 => ?_
 replace xa:=xa.bl n7;replace hs:=hs.bl n7
 intro K hK
 have k4_7:=((kb n5).b hb_6).b n7
 replace ga1:=ga1.k k4_7
 have k6_7:=kb n7
 replace gb2:=gb2.k k6_7
 go_big_op
 go_fit (fmake_r ga1 gb2 (by omega) (by omega) H0.out)
 rintro e w_8 ⟨_,rfl,⟨n_ra,o_ra,k_ra,c_ra,n_rb,o_rb,k_rb,c_rb,rfl,r1,r2⟩,hb_8⟩
 replace xa:=xa.bl hb_8;replace hs:=hs.bl hb_8
 refine hK _ _ rfl ⟨hb_8,(ai xa trivial)⟩ ?_
 clear hK K
 refine f0 ?_
 refine f0 ?_
 refine e0 hs ?_;clear hs;intro w_9 hs n9
 replace xa:=xa.bl n9
 refine tl ?_
 refine .s4 hs.g0 (fun _=>hs.u0 kb_b1) ?_ (e:=fun _ hs=>(ai (xaz.bl hs.b) trivial));clear hs;intro w_10 hs hd10 ho10
 replace xa:=xa.frame ho10 (Nat.ne_of_lt (Nat.lt_of_lt_of_le lt_xa kb_b1))
 refine tl ?_
 refine .mv ?_ (e:=(ai (xaz.bl hs.b) trivial))
 apply wpTail_end
 refine hK2 _ _ ?_
 refine wp_ret ?_
 try dsimp only [Exit.then,Exit.inBlock]
 obtain⟨r0_0,r0_1,r0_2,r0_3⟩:=hs.g0.f4
 refine bodyPost_ret (v:=(.tuple #[(.agg #[.bool n_ra,.slice o_ra k_ra c_ra,.bool n_rb,.slice o_rb k_rb c_rb]),(.int .i64 0)])) (by simp[results,Tryz.results92,go_sem,r0_0,r0_1,r0_2,r0_3]) rfl ?_
 have k8_10:=(kb n9).o hd10 ho10
 replace r1:=r1.k k8_10
 replace r2:=r2.k k8_10
 exact⟨_,rfl,.mk' r1 r2,hs.b⟩
theorem low_ok (ha:CN w va x l y m u k v n) (hl:l≤100000000) (hm:m≤100000000) (hk:k≤100000000) (hn:n≤100000000) (hy:y≠0) (hv:v≠0) :
  Calls Tryz.prog 39 #[va] w fun e w'=>∃r,e = .returned (.tuple #[r,.int .i64 0])∧CC w' r (rv x y).num (rv x y).den (rv u v).num (rv u v).den∧Below w.heap.size w w':=by
 have HY:=hide hy
 have HV:=hide hv
 clear hy hv
 obtain⟨n_0a,o_0a,k_0a,c_0a,n_0b,o_0b,k_0b,c_0b,n_0c,o_0c,k_0c,c_0c,n_0d,o_0d,k_0d,c_0d,rfl,ha1,ha2,ha3,ha4⟩:=ha
 go_enter Tryz.func39,Tryz.ntmps39
 have hs:=St.nil w
 refine zk fun K1 hK1=>rg [0,1,2] ?_
 refine sq ?_
 refine .al hs ?_;clear hs;intro p_b1 w_1 hs n1 kb_b1
 refine sq ?_
 refine .al hs ?_;clear hs;intro p_b2 w_2 hs n2 kb_b2
 refine sm (ze (hK1 _ _ ?_))
 refine zk fun K2 hK2=>rg [0,1,2,3,4,5] ?_
 refine sr ?_
 refine sq ?_
 intro K hK
 have x_b1:=hs.g1
 have k0_2:=(kb n1).b n2
 replace ha1:=ha1.k k0_2
 replace ha2:=ha2.k k0_2
 replace ha3:=ha3.k k0_2
 replace ha4:=ha4.k k0_2
 go_big_op
 go_fit (number_ok (fun _ _↦by kernel_rfl) (fun w1 h↦low1_ok1 (.mk' (x_b1.bl h) (ha1.bl h) (ha2.bl h) (ha3.bl h) (ha4.bl h)) hl hm hk hn HY.out) (fun w1 h↦low1_ok2 (.mk' (x_b1.bl h) (ha1.bl h) (ha2.bl h) (ha3.bl h) (ha4.bl h)) hl hm hk hn HV.out))
 rintro e w_3 ⟨_,rfl,⟨n_r1,o_r1,k_r1,c_r1,n_r2,o_r2,k_r2,c_r2,n_r3,o_r3,k_r3,c_r3,n_r4,o_r4,k_r4,c_r4,rfl,r1,r2,r3,r4⟩,hb_3⟩
 clear x_b1
 replace hs:=hs.bl hb_3
 refine hK _ _ rfl trivial ?_
 clear hK K
 refine xrr ?_
 refine sq ?_
 intro K hK
 have xs:=hs.g0
 have d0:w_3.cell? ⟨p_b2,0,none⟩=some (.bool false):=hs.g0.cell 0 rfl
 have d1:w_3.cell? ⟨p_b2,1,none⟩=some (.slice none 0 0):=hs.g0.cell 1 rfl
 have d2:w_3.cell? ⟨p_b2,2,none⟩=some (.bool false):=hs.g0.cell 2 rfl
 have d3:w_3.cell? ⟨p_b2,3,none⟩=some (.slice none 0 0):=hs.g0.cell 3 rfl
 have d4:w_3.cell? ⟨p_b2,4,none⟩=some (.bool false):=hs.g0.cell 4 rfl
 have d5:w_3.cell? ⟨p_b2,5,none⟩=some (.slice none 0 0):=hs.g0.cell 5 rfl
 have d6:w_3.cell? ⟨p_b2,6,none⟩=some (.bool false):=hs.g0.cell 6 rfl
 have d7:w_3.cell? ⟨p_b2,7,none⟩=some (.slice none 0 0):=hs.g0.cell 7 rfl
 have f0:=xs.free 0;have f1:=xs.free 1;have f2:=xs.free 2;have f3:=xs.free 3;have f4:=xs.free 4;have f5:=xs.free 5;have f6:=xs.free 6;have f7:=xs.free 7
 go_big_op
 have hd4:=xs.nod rfl rfl
 obtain⟨w_4_0,eW,xs_0,ho_0⟩:∃w',((((w_3.setCell ⟨p_b2,0,none⟩ (.bool n_r1)).setCell ⟨p_b2,1,none⟩ (.slice o_r1 k_r1 c_r1)).setCell ⟨p_b2,2,none⟩ (.bool n_r2)).setCell ⟨p_b2,3,none⟩ (.slice o_r2 k_r2 c_r2))=w'∧Bs w' p_b2 #[.bool n_r1,.slice o_r1 k_r1 c_r1,.bool n_r2,.slice o_r2 k_r2 c_r2,.bool false,.slice none 0 0,.bool false,.slice none 0 0] 41∧Only p_b2 w_3 w':=xs.setN [(0,.bool n_r1),(1,.slice o_r1 k_r1 c_r1),(2,.bool n_r2),(3,.slice o_r2 k_r2 c_r2)]
 rw[eW];clear eW
 obtain⟨w_4,eW,xs',ho_4⟩:∃w',((((w_4_0.setCell ⟨p_b2,4,none⟩ (.bool n_r3)).setCell ⟨p_b2,5,none⟩ (.slice o_r3 k_r3 c_r3)).setCell ⟨p_b2,6,none⟩ (.bool n_r4)).setCell ⟨p_b2,7,none⟩ (.slice o_r4 k_r4 c_r4))=w'∧Bs w' p_b2 #[.bool n_r1,.slice o_r1 k_r1 c_r1,.bool n_r2,.slice o_r2 k_r2 c_r2,.bool n_r3,.slice o_r3 k_r3 c_r3,.bool n_r4,.slice o_r4 k_r4 c_r4] 41∧Only p_b2 w_4_0 w':=xs_0.setN [(4,.bool n_r3),(5,.slice o_r3 k_r3 c_r3),(6,.bool n_r4),(7,.slice o_r4 k_r4 c_r4)]
 rw[eW];clear eW xs_0
 have ho4:=(ho_0.trans ho_4)
 clear ho_0 ho_4 d0 d1 d2 d3 d4 d5 d6 d7 f0 f1 f2 f3 f4 f5 f6 f7 xs
 replace hs:=hs.u0 kb_b2 xs' ho4;clear xs'
 refine hK _ _ rfl trivial ?_;clear hK K
 refine sm (ze (hK2 _ _ ?_))
 refine wp_ret ?_
 try dsimp only [Exit.then,Exit.inBlock]
 have r0_0:w_4.cell? ⟨p_b2,0,none⟩=some (.bool n_r1):=hs.g0.cell 0 rfl
 have r0_1:w_4.cell? ⟨p_b2,1,none⟩=some (.slice o_r1 k_r1 c_r1):=hs.g0.cell 1 rfl
 have r0_2:w_4.cell? ⟨p_b2,2,none⟩=some (.bool n_r2):=hs.g0.cell 2 rfl
 have r0_3:w_4.cell? ⟨p_b2,3,none⟩=some (.slice o_r2 k_r2 c_r2):=hs.g0.cell 3 rfl
 have r0_4:w_4.cell? ⟨p_b2,4,none⟩=some (.bool n_r3):=hs.g0.cell 4 rfl
 have r0_5:w_4.cell? ⟨p_b2,5,none⟩=some (.slice o_r3 k_r3 c_r3):=hs.g0.cell 5 rfl
 have r0_6:w_4.cell? ⟨p_b2,6,none⟩=some (.bool n_r4):=hs.g0.cell 6 rfl
 have r0_7:w_4.cell? ⟨p_b2,7,none⟩=some (.slice o_r4 k_r4 c_r4):=hs.g0.cell 7 rfl
 refine bodyPost_ret (v:=(.tuple #[(.agg #[.bool n_r1,.slice o_r1 k_r1 c_r1,.bool n_r2,.slice o_r2 k_r2 c_r2,.bool n_r3,.slice o_r3 k_r3 c_r3,.bool n_r4,.slice o_r4 k_r4 c_r4]),(.int .i64 0)])) (by simp[results,Tryz.results39,go_sem,r0_0,r0_1,r0_2,r0_3,r0_4,r0_5,r0_6,r0_7]) rfl ?_
 have k3_4:=ko hd4 ho4
 replace r1:=r1.k k3_4
 replace r2:=r2.k k3_4
 replace r3:=r3.k k3_4
 replace r4:=r4.k k3_4
 exact⟨_,rfl,.mk' r1 r2 r3 r4,hs.b⟩
end
def odF (y v:Int):Int:=v.fdiv (Int.gcd y v)
def odG (y v:Int):Int:=y.fdiv (Int.gcd y v)
theorem od_len {y v:Int} {m n:Nat} (hy:(dig y.natAbs).length≤m) (hv:(dig v.natAbs).length≤n):(dig (odF y v).natAbs).length≤n∧(dig (odG y v).natAbs).length≤m:=by
 unfold odF odG
 by_cases h:(Int.gcd y v:Int)=0
 ·have h1:Int.gcd y v=0:=by exact_mod_cast h
  obtain⟨rfl,rfl⟩:=Int.gcd_eq_zero_iff.1 h1
  rw[Int.zero_fdiv]
  exact⟨hv,hy⟩
 ·exact⟨fdiv_len h hv,fdiv_len h hy⟩
theorem od_ne {y v:Int} (hy:y≠0) (hv:v≠0):odF y v≠0∧odG y v≠0∧y*odF y v=v*odG y v:=by
 have h1:=Int.fdiv_mul_cancel (Int.gcd_dvd_left y v)
 have h2:=Int.fdiv_mul_cancel (Int.gcd_dvd_right y v)
 unfold odF odG
 generalize (Int.gcd y v:Int)=g at *
 generalize y.fdiv g=a at *
 generalize v.fdiv g=b at *
 refine⟨fun h=>hv (by rw[←h2,h,Int.zero_mul]),fun h=>hy (by rw[←h1,h,Int.zero_mul]),?_⟩
 rw[←h1,←h2]
 grind
theorem rv_scale {x y f:Int} (hy:y≠0) (hf:f≠0):rv (x*f) (y*f)=rv x y :=
 (rv_eq (Int.mul_ne_zero hy hf) hy).2 (by grind)
section
variable {x y u v p q s t:Int}
theorem od_rv (hy:y≠0) (hv:v≠0):y*odF y v≠0∧rv (x*odF y v) (y*odF y v)=rv x y∧rv (u*odG y v) (y*odF y v)=rv u v:=by
 obtain⟨h1,h2,h3⟩:=od_ne hy hv
 exact⟨Int.mul_ne_zero hy h1,rv_scale hy h1,by rw[h3];exact rv_scale hv h2⟩
theorem quo_rv {X Y D P S E:Int} (hD:D≠0) (hE:E≠0) (hN:gN P S≠0) :
  rv ((X*E - Y*0)*P - (X*0+Y*E) * -S) (D*gN P S)=(rv X D*rv P E - rv Y D * -rv S E)/(rv P E*rv P E+rv S E*rv S E) ∧
  rv ((X*E - Y*0) * -S+(X*0+Y*E)*P) (D*gN P S)=(rv X D * -rv S E+rv Y D*rv P E)/(rv P E*rv P E+rv S E*rv S E):=by
 have h1:=cast_ne hD
 have h2:=cast_ne hE
 have h3:=cast_ne hN
 unfold gN at h3 ⊢
 rw[Rat.intCast_add,Rat.intCast_mul,Rat.intCast_mul] at h3
 unfold rv
 simp only[Rat.intCast_add,Rat.intCast_sub,Rat.intCast_mul,Rat.intCast_neg]
 generalize (X:Rat)=a at *
 generalize (Y:Rat)=b at *
 generalize (D:Rat)=c at *
 generalize (P:Rat)=d at *
 generalize (S:Rat)=e at *
 generalize (E:Rat)=f at *
 obtain⟨n,hn⟩:∃n,d*d+e*e=n:=⟨_,rfl⟩
 rw[hn] at h3 ⊢
 have h4:d/f*(d/f)+e/f*(e/f)=n/(f*f):=by grind
 rw[h4]
 have h5:((0:Int):Rat)=0:=rfl
 rw[h5]
 constructor <;> grind
end
section
variable {w:World} {va vb:Value} {x y u v p q s t:Int} {l m k n l2 m2 k2 n2:Nat}
theorem od_some (ha:CN w va x l y m u k v n) (hl:l≤9000000) (hm:m≤4500000) (hk:k≤9000000) (hn:n≤4500000) (h:¬(y=0∧v=0)) :
  Calls Tryz.prog 42 #[va] w fun e w'=>∃r d,e = .returned (.tuple #[r,d])∧PC w' r (x*odF y v) (u*odG y v)∧ZC w' d (y*odF y v)∧Below w.heap.size w w':=by
 have HG:=hide (show (Int.gcd y v:Int)≠0 from fun h0=>h (Int.gcd_eq_zero_iff.1 (by exact_mod_cast h0)))
 have H1:=hide (fmod_dvd (Int.gcd_dvd_left y v))
 have H2:=hide (fmod_dvd (Int.gcd_dvd_right y v))
 clear h
 unfold odF odG
 obtain⟨n_0a,o_0a,k_0a,c_0a,n_0b,o_0b,k_0b,c_0b,n_0c,o_0c,k_0c,c_0c,n_0d,o_0d,k_0d,c_0d,rfl,ha1,ha2,ha3,ha4⟩:=ha
 go_enter Tryz.func42,Tryz.ntmps42
 have hs:=St.nil w
 refine zk fun K1 hK1=>rg [0,1,2] ?_
 refine sq ?_
 refine .al hs ?_;clear hs;intro p_b1 w_1 hs n1 kb_b1
 refine sq ?_
 refine .al hs ?_;clear hs;intro p_b2 w_2 hs n2 kb_b2
 refine sq ?_
 refine .al hs ?_;clear hs;intro p_b3 w_3 hs n3 kb_b3
 refine ze (hK1 _ _ ?_)
 refine zk fun K2 hK2=>rg [0,1,2,3,4,5,6,7,8] ?_
 refine xrr ?_
 refine sq ?_
 refine .r2 ⟨hs.g2.cell 2 rfl,hs.g2.cell 3 rfl⟩ ?_
 refine xrr ?_
 refine sq ?_
 refine .r2 ⟨hs.g2.cell 6 rfl,hs.g2.cell 7 rfl⟩ ?_
 refine sq ?_
 intro K hK
 have k0_3:=((kb n1).b n2).b n3
 replace ha2:=ha2.k k0_3
 replace ha4:=ha4.k k0_3
 go_big_op
 go_fit (zgcd_any ha2 ha4 (by omega) (by omega) )
 rintro e w_4 ⟨v_g,rfl,g,hb_4⟩
 replace hs:=hs.bl hb_4
 replace g:=g.rd
 obtain⟨n_g,o_g,k_g,c_g,rfl⟩:=g.open2
 have Lg:=hide (g.lenOf (zlen_gcd (ha2.len) (ha4.len)))
 refine hK _ _ rfl trivial ?_
 clear hK K
 refine sq ?_
 refine .al hs ?_;clear hs;intro p_b4 w_5 hs n5 kb_b4
 refine sq ?_
 refine .s2 hs.g0 (fun _=>hs.u0 kb_b4) ?_;clear hs;intro w_6 hs hd6 ho6
 refine ze (hK2 _ _ ?_)
 refine zk fun K3 hK3=>rg [0,1,2,3,4,5,6,7,8,9,10] ?_
 refine xrr ?_
 refine sq ?_
 refine .r2 ⟨hs.g3.cell 2 rfl,hs.g3.cell 3 rfl⟩ ?_
 refine sq ?_
 refine .r2 hs.g0.f2 ?_
 refine sq ?_
 intro K hK
 have k3_6:=((kb hb_4).b n5).o hd6 ho6
 replace ha2:=ha2.k k3_6
 have k4_6:=(kb n5).o hd6 ho6
 replace g:=g.k k4_6
 go_big_op
 go_fit (exact_any ha2 (g.zn Lg.out) (by omega) (by omega) HG.out H1.out)
 rintro e w_7 ⟨v_gi,rfl,gi,hb_7⟩
 replace hs:=hs.bl hb_7
 replace gi:=gi.rd
 obtain⟨n_gi,o_gi,k_gi,c_gi,rfl⟩:=gi.open2
 have Lgi:=hide (gi.lenOf (fdiv_len (HG.out) (ha2.len)))
 refine hK _ _ rfl trivial ?_
 clear hK K
 refine xmr ?_
 refine sr ?_
 refine sq ?_
 refine .al hs ?_;clear hs;intro p_b5 w_8 hs n8 kb_b5
 refine sq ?_
 refine .s2 hs.g0 (fun _=>hs.u0 kb_b5) ?_;clear hs;intro w_9 hs hd9 ho9
 refine sm (ze (hK3 _ _ ?_))
 refine zk fun K4 hK4=>rg [0,1,2,3,4,5,6,7,8,9,10] ?_
 refine xrr ?_
 refine sq ?_
 refine .r2 ⟨hs.g4.cell 6 rfl,hs.g4.cell 7 rfl⟩ ?_
 refine sq ?_
 refine .r2 hs.g1.f2 ?_
 refine sq ?_
 intro K hK
 have k3_9:=((k3_6.b hb_7).b n8).o hd9 ho9
 replace ha4:=ha4.k k3_9
 have k6_9:=((kb hb_7).b n8).o hd9 ho9
 replace g:=g.k k6_9
 go_big_op
 go_fit (exact_any ha4 (g.zn Lg.out) (by omega) (by omega) HG.out H2.out)
 rintro e w_10 ⟨v_gr,rfl,gr,hb_10⟩
 replace hs:=hs.bl hb_10
 replace gr:=gr.rd
 obtain⟨n_gr,o_gr,k_gr,c_gr,rfl⟩:=gr.open2
 have Lgr:=hide (gr.lenOf (fdiv_len (HG.out) (ha4.len)))
 refine hK _ _ rfl trivial ?_
 clear hK K
 refine xmr ?_
 refine sr ?_
 refine sq ?_
 refine .al hs ?_;clear hs;intro p_b6 w_11 hs n11 kb_b6
 refine sq ?_
 refine .s2 hs.g0 (fun _=>hs.u0 kb_b6) ?_;clear hs;intro w_12 hs hd12 ho12
 refine sm (ze (hK4 _ _ ?_))
 refine zk fun K5 hK5 => ?_
 refine wp_region_f4 [(0,false),(1,false),(2,false),(3,false),(5,false),(6,false),(7,false),(8,false),(4,true),(9,true),(10,false)] [11] [] (fun _=>default) [99,99,0,1,99,99,99,0,2,99,99,99] [] (.c hs.g5 (.c hs.g0 (.c hs.g1 .n))) fn fun w_13 n13 => ?_
 replace hs:=hs.bl n13
 refine f0 ?_
 refine f0 ?_
 apply wpFl_ld rfl rfl;(case h1=>intro w' hC K hK;have c0:=Bs.cell hC 0 rfl;have c1:=Bs.cell hC 1 rfl;go_big_op;exact hK);iterate 4 kernel_rfl
 refine f2 ?_
 refine f0 ?_
 refine f0 ?_
 apply wpFl_ld rfl rfl;(case h1=>intro w' hC K hK;have c4:=Bs.cell hC 4 rfl;have c5:=Bs.cell hC 5 rfl;go_big_op;exact hK);iterate 4 kernel_rfl
 refine f2 ?_
 refine fl fun w_14 n14 => ?_
 replace hs:=hs.bl n14
 intro K hK
 have k0_14:=((((((((((k0_3.b hb_4).b n5).o hd6 ho6).b hb_7).b n8).o hd9 ho9).b hb_10).b n11).o hd12 ho12).b n13).b n14
 replace ha1:=ha1.k k0_14
 have k10_14:=(((kb n11).o hd12 ho12).b n13).b n14
 replace gr:=gr.k k10_14
 go_big_op
 go_fit (zmul_any ha1 (gr.zn Lgr.out) (by omega) (by omega) )
 rintro e w_15 ⟨v_tr,rfl,tr,hb_15⟩
 replace hs:=hs.bl hb_15
 replace tr:=tr.rd
 obtain⟨n_tr,o_tr,k_tr,c_tr,rfl⟩:=tr.open2
 refine hK _ _ rfl ⟨hb_15,(ai hs.g5 (ai hs.g0 (ai hs.g1 trivial)))⟩ ?_
 clear hK K
 refine fl fun w_16 n16 => ?_
 replace hs:=hs.bl n16
 intro K hK
 have k0_16:=(k0_14.b hb_15).b n16
 replace ha3:=ha3.k k0_16
 have k7_16:=((((((((kb n8).o hd9 ho9).b hb_10).b n11).o hd12 ho12).b n13).b n14).b hb_15).b n16
 replace gi:=gi.k k7_16
 go_big_op
 go_fit (zmul_any ha3 (gi.zn Lgi.out) (by omega) (by omega) )
 rintro e w_17 ⟨v_ti,rfl,ti,hb_17⟩
 replace hs:=hs.bl hb_17
 replace ti:=ti.rd
 obtain⟨n_ti,o_ti,k_ti,c_ti,rfl⟩:=ti.open2
 refine hK _ _ rfl ⟨hb_17,(ai hs.g5 (ai hs.g0 (ai hs.g1 trivial)))⟩ ?_
 clear hK K
 refine f0 ?_
 refine e0 hs ?_;clear hs;intro w_18 hs n18
 refine tl ?_
 refine .s4 hs.g4 (fun _=>hs.u4 kb_b2) ?_ (e:=fun _ hs=>(ai hs.g5 (ai hs.g0 (ai hs.g1 trivial))));clear hs;intro w_19 hs hd19 ho19
 apply wpTail_end
 refine hK5 _ _ ?_
 refine zk fun K6 hK6 => ?_
 refine wp_region_f4 [(0,false),(1,false),(2,false),(3,false),(4,false),(5,true)] [6,7] [] (fun _=>default) [0,99,99,1,2,99,99,99] [(6,0),(7,0)] (.c hs.g4 (.c hs.g5 (.c hs.g0 .n))) fn fun w_20 n20 => ?_
 replace hs:=hs.bl n20
 refine f4 ?_
 refine f0 ?_
 refine f0 ?_
 apply wpFl_ld rfl rfl;(case h1=>intro w' hC K hK;have c2:=Bs.cell hC 2 rfl;have c3:=Bs.cell hC 3 rfl;go_big_op;exact hK);iterate 4 kernel_rfl
 refine f2 ?_
 refine fl fun w_21 n21 => ?_
 replace hs:=hs.bl n21
 intro K hK
 have k6_21:=(((((((((((k6_9.b hb_10).b n11).o hd12 ho12).b n13).b n14).b hb_15).b n16).b hb_17).b n18).o hd19 ho19).b n20).b n21
 replace ha2:=ha2.k k6_21
 have k14_21:=((((((kb hb_15).b n16).b hb_17).b n18).o hd19 ho19).b n20).b n21
 replace gr:=gr.k k14_21
 go_big_op
 go_fit (zmul_any ha2 (gr.zn Lgr.out) (by omega) (by omega) )
 rintro e w_22 ⟨v_dd,rfl,dd,hb_22⟩
 replace hs:=hs.bl hb_22
 replace dd:=dd.rd
 obtain⟨n_dd,o_dd,k_dd,c_dd,rfl⟩:=dd.open2
 refine hK _ _ rfl ⟨hb_22,(ai hs.g4 (ai hs.g5 (ai hs.g0 trivial)))⟩ ?_
 clear hK K
 refine e0 hs ?_;clear hs;intro w_23 hs n23
 refine tl ?_
 refine .s4 hs.g4 (fun _=>hs.u4 kb_b2) ?_ (e:=fun _ hs=>(ai trivial (ai hs.g5 (ai hs.g0 trivial))));clear hs;intro w_24 hs hd24 ho24
 refine tl ?_
 refine .s2 hs.g3 (fun _=>hs.u3 kb_b3) ?_ (e:=fun _ hs=>(ai trivial (ai hs.g5 (ai hs.g0 trivial))));clear hs;intro w_25 hs hd25 ho25
 apply wpTail_end
 refine hK6 _ _ ?_
 refine wp_ret ?_
 try dsimp only [Exit.then,Exit.inBlock]
 obtain⟨r0_0,r0_1,r0_2,r0_3⟩:=hs.g4.f4
 obtain⟨r4_0,r4_1⟩:=hs.g3.f2
 refine bodyPost_ret (v:=(.tuple #[(.agg #[.bool n_tr,.slice o_tr k_tr c_tr,.bool n_ti,.slice o_ti k_ti c_ti]),(.agg #[.bool n_dd,.slice o_dd k_dd c_dd])])) (by simp[results,Tryz.results42,go_sem,r0_0,r0_1,r0_2,r0_3,r4_0,r4_1]) rfl ?_
 have k15_25:=(((((((((kb n16).b hb_17).b n18).o hd19 ho19).b n20).b n21).b hb_22).b n23).o hd24 ho24).o hd25 ho25
 replace tr:=tr.k k15_25
 have k17_25:=(((((((kb n18).o hd19 ho19).b n20).b n21).b hb_22).b n23).o hd24 ho24).o hd25 ho25
 replace ti:=ti.k k17_25
 have k22_25:=((kb n23).o hd24 ho24).o hd25 ho25
 replace dd:=dd.k k22_25
 exact⟨_,_,rfl,.mk' tr ti,dd,hs.b⟩
theorem od_none (ha:CN w va x l 0 m u k 0 n) (hl:l≤9000000) (hm:m≤4500000) (hk:k≤9000000) (hn:n≤4500000) :
  Calls Tryz.prog 42 #[va] w fun e w'=>∃r d,e = .returned (.tuple #[r,d])∧PC w' r (x*0) (u*0)∧ZC w' d (0*0)∧Below w.heap.size w w':=by
 have HG:=hide (show (Int.gcd 0 0:Int)=0 from rfl)
 obtain⟨n_0a,o_0a,k_0a,c_0a,n_0b,o_0b,k_0b,c_0b,n_0c,o_0c,k_0c,c_0c,n_0d,o_0d,k_0d,c_0d,rfl,ha1,ha2,ha3,ha4⟩:=ha
 go_enter Tryz.func42,Tryz.ntmps42
 have hs:=St.nil w
 refine zk fun K1 hK1=>rg [0,1,2] ?_
 refine sq ?_
 refine .al hs ?_;clear hs;intro p_b1 w_1 hs n1 kb_b1
 refine sq ?_
 refine .al hs ?_;clear hs;intro p_b2 w_2 hs n2 kb_b2
 refine sq ?_
 refine .al hs ?_;clear hs;intro p_b3 w_3 hs n3 kb_b3
 refine ze (hK1 _ _ ?_)
 refine zk fun K2 hK2=>rg [0,1,2,3,4,5,6,7,8] ?_
 refine xrr ?_
 refine sq ?_
 refine .r2 ⟨hs.g2.cell 2 rfl,hs.g2.cell 3 rfl⟩ ?_
 refine xrr ?_
 refine sq ?_
 refine .r2 ⟨hs.g2.cell 6 rfl,hs.g2.cell 7 rfl⟩ ?_
 refine sq ?_
 intro K hK
 have k0_3:=((kb n1).b n2).b n3
 replace ha2:=ha2.k k0_3
 replace ha4:=ha4.k k0_3
 go_big_op
 go_fit (zgcd_any ha2 ha4 (by omega) (by omega) )
 rintro e w_4 ⟨v_g,rfl,g,hb_4⟩
 replace hs:=hs.bl hb_4
 replace g:=g.rd
 obtain⟨n_g,o_g,k_g,c_g,rfl⟩:=g.open2
 have Lg:=hide (g.lenOf (zlen_gcd (ha2.len) (ha4.len)))
 rw[HG.out] at g
 refine hK _ _ rfl trivial ?_
 clear hK K
 refine sq ?_
 refine .al hs ?_;clear hs;intro p_b4 w_5 hs n5 kb_b4
 refine sq ?_
 refine .s2 hs.g0 (fun _=>hs.u0 kb_b4) ?_;clear hs;intro w_6 hs hd6 ho6
 refine ze (hK2 _ _ ?_)
 refine zk fun K3 hK3=>rg [0,1,2,3,4,5,6,7,8,9,10] ?_
 refine xrr ?_
 refine sq ?_
 refine .r2 ⟨hs.g3.cell 2 rfl,hs.g3.cell 3 rfl⟩ ?_
 refine sq ?_
 refine .r2 hs.g0.f2 ?_
 have Lg:=hide (g.lenOf (zlen_0))
 refine sq ?_
 intro K hK
 have k3_6:=((kb hb_4).b n5).o hd6 ho6
 replace ha2:=ha2.k k3_6
 have k4_6:=(kb n5).o hd6 ho6
 replace g:=g.k k4_6
 go_big_op
 go_fit (exact_zero ha2 (g.zn Lg.out) (by omega) (by omega) )
 rintro e w_7 ⟨rfl,hb_7⟩
 replace hs:=hs.bl hb_7
 refine hK _ _ rfl trivial ?_
 clear hK K
 refine xmr ?_
 refine sr ?_
 refine sq ?_
 refine .al hs ?_;clear hs;intro p_b5 w_8 hs n8 kb_b5
 refine sq ?_
 refine .s2 hs.g0 (fun _=>hs.u0 kb_b5) ?_;clear hs;intro w_9 hs hd9 ho9
 refine sm (ze (hK3 _ _ ?_))
 refine zk fun K4 hK4=>rg [0,1,2,3,4,5,6,7,8,9,10] ?_
 refine xrr ?_
 refine sq ?_
 refine .r2 ⟨hs.g4.cell 6 rfl,hs.g4.cell 7 rfl⟩ ?_
 refine sq ?_
 refine .r2 hs.g1.f2 ?_
 refine sq ?_
 intro K hK
 have k3_9:=((k3_6.b hb_7).b n8).o hd9 ho9
 replace ha4:=ha4.k k3_9
 have k6_9:=((kb hb_7).b n8).o hd9 ho9
 replace g:=g.k k6_9
 go_big_op
 go_fit (exact_zero ha4 (g.zn Lg.out) (by omega) (by omega) )
 rintro e w_10 ⟨rfl,hb_10⟩
 replace hs:=hs.bl hb_10
 refine hK _ _ rfl trivial ?_
 clear hK K
 refine xmr ?_
 refine sr ?_
 refine sq ?_
 refine .al hs ?_;clear hs;intro p_b6 w_11 hs n11 kb_b6
 refine sq ?_
 refine .s2 hs.g0 (fun _=>hs.u0 kb_b6) ?_;clear hs;intro w_12 hs hd12 ho12
 refine sm (ze (hK4 _ _ ?_))
 refine zk fun K5 hK5 => ?_
 refine wp_region_f4 [(0,false),(1,false),(2,false),(3,false),(5,false),(6,false),(7,false),(8,false),(4,true),(9,true),(10,false)] [11] [] (fun _=>default) [99,99,0,1,99,99,99,0,2,99,99,99] [] (.c hs.g5 (.c hs.g0 (.c hs.g1 .n))) fn fun w_13 n13 => ?_
 replace hs:=hs.bl n13
 refine f0 ?_
 refine f0 ?_
 apply wpFl_ld rfl rfl;(case h1=>intro w' hC K hK;have c0:=Bs.cell hC 0 rfl;have c1:=Bs.cell hC 1 rfl;go_big_op;exact hK);iterate 4 kernel_rfl
 refine f2 ?_
 refine f0 ?_
 refine f0 ?_
 apply wpFl_ld rfl rfl;(case h1=>intro w' hC K hK;have c4:=Bs.cell hC 4 rfl;have c5:=Bs.cell hC 5 rfl;go_big_op;exact hK);iterate 4 kernel_rfl
 refine f2 ?_
 refine fl fun w_14 n14 => ?_
 replace hs:=hs.bl n14
 intro K hK
 have k0_14:=((((((((((k0_3.b hb_4).b n5).o hd6 ho6).b hb_7).b n8).o hd9 ho9).b hb_10).b n11).o hd12 ho12).b n13).b n14
 replace ha1:=ha1.k k0_14
 go_big_op
 go_fit (zmul_any ha1 ((zc_zero w_14).zn zlen_0) (by omega) (by omega) )
 rintro e w_15 ⟨v_tr,rfl,tr,hb_15⟩
 replace hs:=hs.bl hb_15
 replace tr:=tr.rd
 obtain⟨n_tr,o_tr,k_tr,c_tr,rfl⟩:=tr.open2
 refine hK _ _ rfl ⟨hb_15,(ai hs.g5 (ai hs.g0 (ai hs.g1 trivial)))⟩ ?_
 clear hK K
 refine fl fun w_16 n16 => ?_
 replace hs:=hs.bl n16
 intro K hK
 have k0_16:=(k0_14.b hb_15).b n16
 replace ha3:=ha3.k k0_16
 go_big_op
 go_fit (zmul_any ha3 ((zc_zero w_16).zn zlen_0) (by omega) (by omega) )
 rintro e w_17 ⟨v_ti,rfl,ti,hb_17⟩
 replace hs:=hs.bl hb_17
 replace ti:=ti.rd
 obtain⟨n_ti,o_ti,k_ti,c_ti,rfl⟩:=ti.open2
 refine hK _ _ rfl ⟨hb_17,(ai hs.g5 (ai hs.g0 (ai hs.g1 trivial)))⟩ ?_
 clear hK K
 refine f0 ?_
 refine e0 hs ?_;clear hs;intro w_18 hs n18
 refine tl ?_
 refine .s4 hs.g4 (fun _=>hs.u4 kb_b2) ?_ (e:=fun _ hs=>(ai hs.g5 (ai hs.g0 (ai hs.g1 trivial))));clear hs;intro w_19 hs hd19 ho19
 apply wpTail_end
 refine hK5 _ _ ?_
 refine zk fun K6 hK6 => ?_
 refine wp_region_f4 [(0,false),(1,false),(2,false),(3,false),(4,false),(5,true)] [6,7] [] (fun _=>default) [0,99,99,1,2,99,99,99] [(6,0),(7,0)] (.c hs.g4 (.c hs.g5 (.c hs.g0 .n))) fn fun w_20 n20 => ?_
 replace hs:=hs.bl n20
 refine f4 ?_
 refine f0 ?_
 refine f0 ?_
 apply wpFl_ld rfl rfl;(case h1=>intro w' hC K hK;have c2:=Bs.cell hC 2 rfl;have c3:=Bs.cell hC 3 rfl;go_big_op;exact hK);iterate 4 kernel_rfl
 refine f2 ?_
 refine fl fun w_21 n21 => ?_
 replace hs:=hs.bl n21
 intro K hK
 have k6_21:=(((((((((((k6_9.b hb_10).b n11).o hd12 ho12).b n13).b n14).b hb_15).b n16).b hb_17).b n18).o hd19 ho19).b n20).b n21
 replace ha2:=ha2.k k6_21
 go_big_op
 go_fit (zmul_any ha2 ((zc_zero w_21).zn zlen_0) (by omega) (by omega) )
 rintro e w_22 ⟨v_dd,rfl,dd,hb_22⟩
 replace hs:=hs.bl hb_22
 replace dd:=dd.rd
 obtain⟨n_dd,o_dd,k_dd,c_dd,rfl⟩:=dd.open2
 refine hK _ _ rfl ⟨hb_22,(ai hs.g4 (ai hs.g5 (ai hs.g0 trivial)))⟩ ?_
 clear hK K
 refine e0 hs ?_;clear hs;intro w_23 hs n23
 refine tl ?_
 refine .s4 hs.g4 (fun _=>hs.u4 kb_b2) ?_ (e:=fun _ hs=>(ai trivial (ai hs.g5 (ai hs.g0 trivial))));clear hs;intro w_24 hs hd24 ho24
 refine tl ?_
 refine .s2 hs.g3 (fun _=>hs.u3 kb_b3) ?_ (e:=fun _ hs=>(ai trivial (ai hs.g5 (ai hs.g0 trivial))));clear hs;intro w_25 hs hd25 ho25
 apply wpTail_end
 refine hK6 _ _ ?_
 refine wp_ret ?_
 try dsimp only [Exit.then,Exit.inBlock]
 obtain⟨r0_0,r0_1,r0_2,r0_3⟩:=hs.g4.f4
 obtain⟨r4_0,r4_1⟩:=hs.g3.f2
 refine bodyPost_ret (v:=(.tuple #[(.agg #[.bool n_tr,.slice o_tr k_tr c_tr,.bool n_ti,.slice o_ti k_ti c_ti]),(.agg #[.bool n_dd,.slice o_dd k_dd c_dd])])) (by simp[results,Tryz.results42,go_sem,r0_0,r0_1,r0_2,r0_3,r4_0,r4_1]) rfl ?_
 have k15_25:=(((((((((kb n16).b hb_17).b n18).o hd19 ho19).b n20).b n21).b hb_22).b n23).o hd24 ho24).o hd25 ho25
 replace tr:=tr.k k15_25
 have k17_25:=(((((((kb n18).o hd19 ho19).b n20).b n21).b hb_22).b n23).o hd24 ho24).o hd25 ho25
 replace ti:=ti.k k17_25
 have k22_25:=((kb n23).o hd24 ho24).o hd25 ho25
 replace dd:=dd.k k22_25
 exact⟨_,_,rfl,.mk' tr ti,dd,hs.b⟩
theorem od_any (ha:CN w va x l y m u k v n) (hl:l≤9000000) (hm:m≤4500000) (hk:k≤9000000) (hn:n≤4500000) :
  Calls Tryz.prog 42 #[va] w fun e w'=>∃r d,e = .returned (.tuple #[r,d])∧PC w' r (x*odF y v) (u*odG y v)∧ZC w' d (y*odF y v)∧Below w.heap.size w w':=by
 by_cases h:y=0∧v=0
 ·obtain⟨rfl,rfl⟩:=h
  exact od_none ha hl hm hk hn
 ·exact od_some ha hl hm hk hn h
theorem gfQuo_ok (ha:CN w va x l y m u k v n) (hq:CN w vb p l2 q m2 s k2 t n2) (hl:l≤9000000) (hm:m≤4500000) (hk:k≤9000000) (hn:n≤4500000) (hl2:l2≤1100000) (hm2:m2≤1100000) (hk2:k2≤1100000) (hn2:n2≤1100000) (hy:y≠0) (hv:v≠0) (hq0:q≠0) (ht:t≠0) (h0:¬(p=0∧s=0)) :
  Calls Tryz.prog 23 #[va,vb] w fun e w'=>∃r,e = .returned (.tuple #[r,.int .i64 0])∧CC w' r ((rv x y*rv p q - rv u v * -rv s t)/(rv p q*rv p q+rv s t*rv s t)).num ((rv x y*rv p q - rv u v * -rv s t)/(rv p q*rv p q+rv s t*rv s t)).den ((rv x y * -rv s t+rv u v*rv p q)/(rv p q*rv p q+rv s t*rv s t)).num ((rv x y * -rv s t+rv u v*rv p q)/(rv p q*rv p q+rv s t*rv s t)).den∧Below w.heap.size w w':=by
 obtain⟨h1,h2,h3⟩:=od_rv (x:=x) (u:=u) hy hv
 obtain⟨h4,h5,h6⟩:=od_rv (x:=p) (u:=s) hq0 ht
 have h7:gN (p*odF q t) (s*odG q t)≠0:=fun e=>h0 (by
  have e2:=gN_zero.1 e
  have e3:=od_ne hq0 ht
  exact⟨(Int.mul_eq_zero.1 e2.1).resolve_right e3.1,(Int.mul_eq_zero.1 e2.2).resolve_right e3.2.1⟩)
 have HD:=hide (Int.mul_ne_zero h1 h7)
 have HS:((q*odF q t).sign=0)=False:=by simpa using h4
 have HM:=quo_rv (X:=x*odF y v) (Y:=u*odG y v) (P:=p*odF q t) (S:=s*odG q t) h1 h4 h7
 rw[h2,h3,h5,h6] at HM
 replace HM:=hide HM
 obtain⟨Sg,hSg⟩:∃Sg,(q*odF q t).sign=Sg:=⟨_,rfl⟩
 have HSg:=hide hSg
 rw[hSg] at HS
 clear hy hv hq0 ht h1 h2 h3 h4 h5 h6 h7 h0 hSg
 obtain⟨n_0a,o_0a,k_0a,c_0a,n_0b,o_0b,k_0b,c_0b,n_0c,o_0c,k_0c,c_0c,n_0d,o_0d,k_0d,c_0d,rfl,ha1,ha2,ha3,ha4⟩:=ha
 obtain⟨n_1a,o_1a,k_1a,c_1a,n_1b,o_1b,k_1b,c_1b,n_1c,o_1c,k_1c,c_1c,n_1d,o_1d,k_1d,c_1d,rfl,hq1,hq2,hq3,hq4⟩:=hq
 go_enter Tryz.func23,Tryz.ntmps23
 have hs:=St.nil w
 refine zk fun K1 hK1=>rg [0,1,2,3] ?_
 refine sq ?_
 refine .al hs ?_;clear hs;intro p_b1 w_1 hs n1 kb_b1
 refine sq ?_
 refine .al hs ?_;clear hs;intro p_b2 w_2 hs n2 kb_b2
 refine sq ?_
 refine .al hs ?_;clear hs;intro p_b3 w_3 hs n3 kb_b3
 refine sm (ze (hK1 _ _ ?_))
 refine zk fun K2 hK2=>rg [0,1,2,3,4,5,6,7,8] ?_
 refine sq ?_
 intro K hK
 have d0:w_3.cell? ⟨p_b1,0,none⟩=some (.bool n_0a):=hs.g2.cell 0 rfl
 have d1:w_3.cell? ⟨p_b1,1,none⟩=some (.slice o_0a k_0a c_0a):=hs.g2.cell 1 rfl
 have d2:w_3.cell? ⟨p_b1,2,none⟩=some (.bool n_0b):=hs.g2.cell 2 rfl
 have d3:w_3.cell? ⟨p_b1,3,none⟩=some (.slice o_0b k_0b c_0b):=hs.g2.cell 3 rfl
 have d4:w_3.cell? ⟨p_b1,4,none⟩=some (.bool n_0c):=hs.g2.cell 4 rfl
 have d5:w_3.cell? ⟨p_b1,5,none⟩=some (.slice o_0c k_0c c_0c):=hs.g2.cell 5 rfl
 have d6:w_3.cell? ⟨p_b1,6,none⟩=some (.bool n_0d):=hs.g2.cell 6 rfl
 have d7:w_3.cell? ⟨p_b1,7,none⟩=some (.slice o_0d k_0d c_0d):=hs.g2.cell 7 rfl
 go_big_op;refine hK _ _ rfl trivial ?_;clear hK K d0 d1 d2 d3 d4 d5 d6 d7
 refine sq ?_
 intro K hK
 have k0_3:=((kb n1).b n2).b n3
 replace ha1:=ha1.k k0_3
 replace ha2:=ha2.k k0_3
 replace ha3:=ha3.k k0_3
 replace ha4:=ha4.k k0_3
 go_big_op
 go_fit (od_any (CN.mk' ha1 ha2 ha3 ha4) (by omega) (by omega) (by omega) (by omega) )
 rintro e w_4 ⟨_,v_da,rfl,⟨n_gaa,o_gaa,k_gaa,c_gaa,n_gab,o_gab,k_gab,c_gab,rfl,ga1,ga2⟩,da,hb_4⟩
 replace hs:=hs.bl hb_4
 obtain⟨n_da,o_da,k_da,c_da,rfl⟩:=da.open2
 have Lga1:=hide (ga1.lenOf ((zlen_mul (ha1.len) (od_len (ha2.len) (ha4.len)).1)))
 have Lga2:=hide (ga2.lenOf ((zlen_mul (ha3.len) (od_len (ha2.len) (ha4.len)).2)))
 have Lda:=hide (da.lenOf ((zlen_mul (ha2.len) (od_len (ha2.len) (ha4.len)).1)))
 refine hK _ _ rfl trivial ?_
 clear hK K
 refine xmr ?_
 refine sr ?_
 refine sq ?_
 refine .al hs ?_;clear hs;intro p_b4 w_5 hs n5 kb_b4
 refine sq ?_
 refine .al hs ?_;clear hs;intro p_b5 w_6 hs n6 kb_b5
 refine sq ?_
 refine .s4 hs.g1 (fun _=>hs.u1 kb_b4) ?_;clear hs;intro w_7 hs hd7 ho7
 refine sq ?_
 refine .s2 hs.g0 (fun _=>hs.u0 kb_b5) ?_;clear hs;intro w_8 hs hd8 ho8
 refine ze (hK2 _ _ ?_)
 refine zk fun K3 hK3=>rg [0,1,2,3,4,5,6,7,8] ?_
 refine sq ?_
 intro K hK
 have d0:w_8.cell? ⟨p_b2,0,none⟩=some (.bool n_1a):=hs.g3.cell 0 rfl
 have d1:w_8.cell? ⟨p_b2,1,none⟩=some (.slice o_1a k_1a c_1a):=hs.g3.cell 1 rfl
 have d2:w_8.cell? ⟨p_b2,2,none⟩=some (.bool n_1b):=hs.g3.cell 2 rfl
 have d3:w_8.cell? ⟨p_b2,3,none⟩=some (.slice o_1b k_1b c_1b):=hs.g3.cell 3 rfl
 have d4:w_8.cell? ⟨p_b2,4,none⟩=some (.bool n_1c):=hs.g3.cell 4 rfl
 have d5:w_8.cell? ⟨p_b2,5,none⟩=some (.slice o_1c k_1c c_1c):=hs.g3.cell 5 rfl
 have d6:w_8.cell? ⟨p_b2,6,none⟩=some (.bool n_1d):=hs.g3.cell 6 rfl
 have d7:w_8.cell? ⟨p_b2,7,none⟩=some (.slice o_1d k_1d c_1d):=hs.g3.cell 7 rfl
 go_big_op;refine hK _ _ rfl trivial ?_;clear hK K d0 d1 d2 d3 d4 d5 d6 d7
 refine sq ?_
 intro K hK
 have k0_8:=((((k0_3.b hb_4).b n5).b n6).o hd7 ho7).o hd8 ho8
 replace hq1:=hq1.k k0_8
 replace hq2:=hq2.k k0_8
 replace hq3:=hq3.k k0_8
 replace hq4:=hq4.k k0_8
 go_big_op
 go_fit (od_any (CN.mk' hq1 hq2 hq3 hq4) (by omega) (by omega) (by omega) (by omega) )
 rintro e w_9 ⟨_,v_db,rfl,⟨n_gba,o_gba,k_gba,c_gba,n_gbb,o_gbb,k_gbb,c_gbb,rfl,gb1,gb2⟩,db,hb_9⟩
 replace hs:=hs.bl hb_9
 obtain⟨n_db,o_db,k_db,c_db,rfl⟩:=db.open2
 have Lgb1:=hide (gb1.lenOf ((zlen_mul (hq1.len) (od_len (hq2.len) (hq4.len)).1)))
 have Lgb2:=hide (gb2.lenOf ((zlen_mul (hq3.len) (od_len (hq2.len) (hq4.len)).2)))
 have Ldb:=hide (db.lenOf ((zlen_mul (hq2.len) (od_len (hq2.len) (hq4.len)).1)))
 refine hK _ _ rfl trivial ?_
 clear hK K
 refine xmr ?_
 refine sr ?_
 refine sq ?_
 refine .al hs ?_;clear hs;intro p_b6 w_10 hs n10 kb_b6
 clear ha1 ha2 ha3 ha4 hq1 hq2 hq3 hq4
 refine sq ?_
 refine .al hs ?_;clear hs;intro p_b7 w_11 hs n11 kb_b7
 refine sq ?_
 refine .s4 hs.g1 (fun _=>hs.u1 kb_b6) ?_;clear hs;intro w_12 hs hd12 ho12
 refine sq ?_
 refine .s2 hs.g0 (fun _=>hs.u0 kb_b7) ?_;clear hs;intro w_13 hs hd13 ho13
 refine ze (hK3 _ _ ?_)
 refine zk fun K4 hK4 => ?_
 refine zk fun K5 hK5=>rg [0,1,2] ?_
 refine sq ?_
 refine .r2 hs.g0.f2 ?_
 refine sq ?_
 intro K hK
 have k9_13:=(((kb n10).b n11).o hd12 ho12).o hd13 ho13
 replace db:=db.k k9_13
 go_big_op
 go_fit (zsign_any (db.zn Ldb.out) (by omega) )
 rintro e w_14 ⟨rfl,hb_14⟩
 replace hs:=hs.bl hb_14
 rw[HSg.out]
 refine hK _ _ rfl trivial ?_
 clear hK K
 refine sr (ze (hK5 _ _ ?_))
 refine wp_cond_false (congrArg Value.bool (show _=false from (by simpa using HS))) ?_
 refine wp_skip ?_
 refine hK4 _ _ ?_
 refine zk fun K6 hK6 => ?_
 refine wp_region_f4 [(0,false),(1,false),(2,false),(4,false),(3,true),(5,true),(6,true)] [7] [] (fun _=>default) [0,1,99,99,2,99,99,99] [(7,0)] (.c hs.g3 (.c hs.g0 (.c hs.g1 .n))) fn fun w_15 n15 => ?_
 replace hs:=hs.bl n15
 refine f4 ?_
 refine f2 ?_
 refine f0 ?_
 refine f4 ?_
 refine fl fun w_16 n16 => ?_
 replace hs:=hs.bl n16
 intro K hK
 have k4_16:=(((((((((((kb n5).b n6).o hd7 ho7).o hd8 ho8).b hb_9).b n10).b n11).o hd12 ho12).o hd13 ho13).b hb_14).b n15).b n16
 replace ga1:=ga1.k k4_16
 replace ga2:=ga2.k k4_16
 have k13_16:=((kb hb_14).b n15).b n16
 replace db:=db.k k13_16
 go_big_op
 go_fit (gMul_any (PN.mk' (ga1.zn Lga1.out) (ga2.zn Lga2.out)) (PN.mk' (db.zn Ldb.out) ((zc_zero w_16).zn zlen_0)) (by omega) (by omega) (by omega) (by omega) )
 rintro e w_17 ⟨_,rfl,⟨n_gma,o_gma,k_gma,c_gma,n_gmb,o_gmb,k_gmb,c_gmb,rfl,gm1,gm2⟩,hb_17⟩
 replace hs:=hs.bl hb_17
 have Lgm1:=hide (gm1.lenOf (zlen_sub (zlen_mul (Lga1.out) (Ldb.out)) (zlen_mul (Lga2.out) (zlen_0))))
 have Lgm2:=hide (gm2.lenOf (zlen_add (zlen_mul (Lga1.out) (zlen_0)) (zlen_mul (Lga2.out) (Ldb.out))))
 refine hK _ _ rfl ⟨hb_17,(ai hs.g3 (ai hs.g0 (ai hs.g1 trivial)))⟩ ?_
 clear hK K
 refine fl fun w_18 n18 => ?_
 replace hs:=hs.bl n18
 intro K hK
 have k9_18:=((((k9_13.b hb_14).b n15).b n16).b hb_17).b n18
 replace gb1:=gb1.k k9_18
 replace gb2:=gb2.k k9_18
 go_big_op
 go_fit (gConj_any (PN.mk' (gb1.zn Lgb1.out) (gb2.zn Lgb2.out)) (by omega) (by omega) )
 rintro e w_19 ⟨_,rfl,⟨n_gca,o_gca,k_gca,c_gca,n_gcb,o_gcb,k_gcb,c_gcb,rfl,gc1,gc2⟩,hb_19⟩
 replace hs:=hs.bl hb_19
 have Lgc1:=hide (gc1.lenOf ((Lgb1.out)))
 have Lgc2:=hide (gc2.lenOf (zlen_neg (Lgb2.out)))
 refine hK _ _ rfl ⟨hb_19,(ai hs.g3 (ai hs.g0 (ai hs.g1 trivial)))⟩ ?_
 clear hK K
 refine fl fun w_20 n20 => ?_
 replace hs:=hs.bl n20
 intro K hK
 have k17_20:=((kb n18).b hb_19).b n20
 replace gm1:=gm1.k k17_20
 replace gm2:=gm2.k k17_20
 have k19_20:=kb n20
 replace gc1:=gc1.k k19_20
 replace gc2:=gc2.k k19_20
 go_big_op
 go_fit (gMul_any (PN.mk' (gm1.zn Lgm1.out) (gm2.zn Lgm2.out)) (PN.mk' (gc1.zn Lgc1.out) (gc2.zn Lgc2.out)) (by omega) (by omega) (by omega) (by omega) )
 rintro e w_21 ⟨_,rfl,⟨n_gta,o_gta,k_gta,c_gta,n_gtb,o_gtb,k_gtb,c_gtb,rfl,gt1,gt2⟩,hb_21⟩
 replace hs:=hs.bl hb_21
 have Lgt1:=hide (gt1.lenOf (zlen_sub (zlen_mul (Lgm1.out) (Lgc1.out)) (zlen_mul (Lgm2.out) (Lgc2.out))))
 have Lgt2:=hide (gt2.lenOf (zlen_add (zlen_mul (Lgm1.out) (Lgc2.out)) (zlen_mul (Lgm2.out) (Lgc1.out))))
 refine hK _ _ rfl ⟨hb_21,(ai hs.g3 (ai hs.g0 (ai hs.g1 trivial)))⟩ ?_
 clear hK K
 refine e0 hs ?_;clear hs;intro w_22 hs n22
 refine tl ?_
 refine .s4 hs.g3 (fun _=>hs.u3 kb_b4) ?_ (e:=fun _ hs=>(ai trivial (ai hs.g0 (ai hs.g1 trivial))));clear hs;intro w_23 hs hd23 ho23
 clear gm1 gm2 gc1 gc2 ga1 ga2
 apply wpTail_end
 refine hK6 _ _ ?_
 refine zk fun K7 hK7 => ?_
 refine wp_region_f4 [(0,false),(1,false),(2,false),(3,true),(4,true),(5,true),(6,true),(7,false),(8,false)] [9,10] [] (fun _=>default) [0,1,2,99,99,99,99,99,99,99,99] [] (.c hs.g3 (.c hs.g2 (.c hs.g1 .n))) fn fun w_24 n24 => ?_
 replace hs:=hs.bl n24
 refine f4 ?_
 refine f2 ?_
 refine f4 ?_
 refine fl fun w_25 n25 => ?_
 replace hs:=hs.bl n25
 intro K hK
 have k18_25:=((((((kb hb_19).b n20).b hb_21).b n22).o hd23 ho23).b n24).b n25
 replace gb1:=gb1.k k18_25
 replace gb2:=gb2.k k18_25
 go_big_op
 go_fit (gNorm_any (PN.mk' (gb1.zn Lgb1.out) (gb2.zn Lgb2.out)) (by omega) (by omega) )
 rintro e w_26 ⟨v_nn,rfl,nn,hb_26⟩
 replace hs:=hs.bl hb_26
 obtain⟨n_nn,o_nn,k_nn,c_nn,rfl⟩:=nn.open2
 have Lnn:=hide (nn.lenOf (zlen_add (zlen_mul (Lgb1.out) (Lgb1.out)) (zlen_mul (Lgb2.out) (Lgb2.out))))
 refine hK _ _ rfl ⟨hb_26,(ai hs.g3 (ai hs.g2 (ai hs.g1 trivial)))⟩ ?_
 clear hK K
 refine fl fun w_27 n27 => ?_
 replace hs:=hs.bl n27
 intro K hK
 have k4_27:=((((((((((k4_16.b hb_17).b n18).b hb_19).b n20).b hb_21).b n22).o hd23 ho23).b n24).b n25).b hb_26).b n27
 replace da:=da.k k4_27
 have k26_27:=kb n27
 replace nn:=nn.k k26_27
 go_big_op
 go_fit (zmul_any (da.zn Lda.out) (nn.zn Lnn.out) (by omega) (by omega) )
 rintro e w_28 ⟨v_dm,rfl,dm,hb_28⟩
 replace hs:=hs.bl hb_28
 replace dm:=dm.rd
 obtain⟨n_dm,o_dm,k_dm,c_dm,rfl⟩:=dm.open2
 have Ldm:=hide (dm.lenOf (zlen_mul (Lda.out) (Lnn.out)))
 refine hK _ _ rfl ⟨hb_28,(ai hs.g3 (ai hs.g2 (ai hs.g1 trivial)))⟩ ?_
 clear hK K
 refine fl fun w_29 n29 => ?_
 replace hs:=hs.bl n29
 intro K hK
 have k21_29:=(((((((kb n22).o hd23 ho23).b n24).b n25).b hb_26).b n27).b hb_28).b n29
 replace gt1:=gt1.k k21_29
 replace gt2:=gt2.k k21_29
 have k28_29:=kb n29
 replace dm:=dm.k k28_29
 go_big_op
 go_fit (over_c (PN.mk' (gt1.zn Lgt1.out) (gt2.zn Lgt2.out)) (dm.zn Ldm.out)  )
 rintro e w_30 ⟨_,rfl,⟨n_ov1,o_ov1,k_ov1,c_ov1,n_ov2,o_ov2,k_ov2,c_ov2,n_ov3,o_ov3,k_ov3,c_ov3,n_ov4,o_ov4,k_ov4,c_ov4,rfl,ov1,ov2,ov3,ov4⟩,hb_30⟩
 replace hs:=hs.bl hb_30
 refine hK _ _ rfl ⟨hb_30,(ai hs.g3 (ai hs.g2 (ai hs.g1 trivial)))⟩ ?_
 clear hK K
 refine fl fun w_31 n31 => ?_
 replace hs:=hs.bl n31
 intro K hK
 have k30_31:=kb n31
 replace ov1:=ov1.k k30_31
 replace ov2:=ov2.k k30_31
 replace ov3:=ov3.k k30_31
 replace ov4:=ov4.k k30_31
 go_big_op
 go_fit (low_ok (CN.mk' ov1 ov2 ov3 ov4) (by omega) (by omega) (by omega) (by omega) HD.out HD.out)
 rintro e w_32 ⟨_,rfl,⟨n_r1,o_r1,k_r1,c_r1,n_r2,o_r2,k_r2,c_r2,n_r3,o_r3,k_r3,c_r3,n_r4,o_r4,k_r4,c_r4,rfl,r1,r2,r3,r4⟩,hb_32⟩
 replace hs:=hs.bl hb_32
 rw[HM.out.1] at r1 r2
 rw[HM.out.2] at r3 r4
 refine hK _ _ rfl ⟨hb_32,(ai hs.g3 (ai hs.g2 (ai hs.g1 trivial)))⟩ ?_
 clear hK K
 refine f0 ?_
 refine f0 ?_
 refine e0 hs ?_;clear hs;intro w_33 hs n33
 clear db nn dm ov1 ov2 ov3 ov4
 refine tl ?_
 intro K hK
 have xs:=hs.g4
 have d0:w_33.cell? ⟨p_b3,0,none⟩=some (.bool false):=hs.g4.cell 0 rfl
 have d1:w_33.cell? ⟨p_b3,1,none⟩=some (.slice none 0 0):=hs.g4.cell 1 rfl
 have d2:w_33.cell? ⟨p_b3,2,none⟩=some (.bool false):=hs.g4.cell 2 rfl
 have d3:w_33.cell? ⟨p_b3,3,none⟩=some (.slice none 0 0):=hs.g4.cell 3 rfl
 have d4:w_33.cell? ⟨p_b3,4,none⟩=some (.bool false):=hs.g4.cell 4 rfl
 have d5:w_33.cell? ⟨p_b3,5,none⟩=some (.slice none 0 0):=hs.g4.cell 5 rfl
 have d6:w_33.cell? ⟨p_b3,6,none⟩=some (.bool false):=hs.g4.cell 6 rfl
 have d7:w_33.cell? ⟨p_b3,7,none⟩=some (.slice none 0 0):=hs.g4.cell 7 rfl
 have f0:=xs.free 0;have f1:=xs.free 1;have f2:=xs.free 2;have f3:=xs.free 3;have f4:=xs.free 4;have f5:=xs.free 5;have f6:=xs.free 6;have f7:=xs.free 7
 go_big_op
 have hd34:=xs.nod rfl rfl
 obtain⟨w_34_0,eW,xs_0,ho_0⟩:∃w',((((w_33.setCell ⟨p_b3,0,none⟩ (.bool n_r1)).setCell ⟨p_b3,1,none⟩ (.slice o_r1 k_r1 c_r1)).setCell ⟨p_b3,2,none⟩ (.bool n_r2)).setCell ⟨p_b3,3,none⟩ (.slice o_r2 k_r2 c_r2))=w'∧Bs w' p_b3 #[.bool n_r1,.slice o_r1 k_r1 c_r1,.bool n_r2,.slice o_r2 k_r2 c_r2,.bool false,.slice none 0 0,.bool false,.slice none 0 0] 41∧Only p_b3 w_33 w':=xs.setN [(0,.bool n_r1),(1,.slice o_r1 k_r1 c_r1),(2,.bool n_r2),(3,.slice o_r2 k_r2 c_r2)]
 rw[eW];clear eW
 obtain⟨w_34,eW,xs',ho_4⟩:∃w',((((w_34_0.setCell ⟨p_b3,4,none⟩ (.bool n_r3)).setCell ⟨p_b3,5,none⟩ (.slice o_r3 k_r3 c_r3)).setCell ⟨p_b3,6,none⟩ (.bool n_r4)).setCell ⟨p_b3,7,none⟩ (.slice o_r4 k_r4 c_r4))=w'∧Bs w' p_b3 #[.bool n_r1,.slice o_r1 k_r1 c_r1,.bool n_r2,.slice o_r2 k_r2 c_r2,.bool n_r3,.slice o_r3 k_r3 c_r3,.bool n_r4,.slice o_r4 k_r4 c_r4] 41∧Only p_b3 w_34_0 w':=xs_0.setN [(4,.bool n_r3),(5,.slice o_r3 k_r3 c_r3),(6,.bool n_r4),(7,.slice o_r4 k_r4 c_r4)]
 rw[eW];clear eW xs_0
 have ho34:=(ho_0.trans ho_4)
 clear ho_0 ho_4 d0 d1 d2 d3 d4 d5 d6 d7 f0 f1 f2 f3 f4 f5 f6 f7 xs
 replace hs:=hs.u4 kb_b3 xs' ho34;clear xs'
 refine hK _ _ rfl (ai hs.g3 (ai hs.g2 (ai hs.g1 trivial))) ?_;clear hK K
 refine tl ?_
 refine .mv ?_ (e:=(ai hs.g3 (ai hs.g2 (ai hs.g1 trivial))))
 apply wpTail_end
 refine hK7 _ _ ?_
 refine wp_ret ?_
 try dsimp only [Exit.then,Exit.inBlock]
 have r0_0:w_34.cell? ⟨p_b3,0,none⟩=some (.bool n_r1):=hs.g4.cell 0 rfl
 have r0_1:w_34.cell? ⟨p_b3,1,none⟩=some (.slice o_r1 k_r1 c_r1):=hs.g4.cell 1 rfl
 have r0_2:w_34.cell? ⟨p_b3,2,none⟩=some (.bool n_r2):=hs.g4.cell 2 rfl
 have r0_3:w_34.cell? ⟨p_b3,3,none⟩=some (.slice o_r2 k_r2 c_r2):=hs.g4.cell 3 rfl
 have r0_4:w_34.cell? ⟨p_b3,4,none⟩=some (.bool n_r3):=hs.g4.cell 4 rfl
 have r0_5:w_34.cell? ⟨p_b3,5,none⟩=some (.slice o_r3 k_r3 c_r3):=hs.g4.cell 5 rfl
 have r0_6:w_34.cell? ⟨p_b3,6,none⟩=some (.bool n_r4):=hs.g4.cell 6 rfl
 have r0_7:w_34.cell? ⟨p_b3,7,none⟩=some (.slice o_r4 k_r4 c_r4):=hs.g4.cell 7 rfl
 refine bodyPost_ret (v:=(.tuple #[(.agg #[.bool n_r1,.slice o_r1 k_r1 c_r1,.bool n_r2,.slice o_r2 k_r2 c_r2,.bool n_r3,.slice o_r3 k_r3 c_r3,.bool n_r4,.slice o_r4 k_r4 c_r4]),(.int .i64 0)])) (by simp[results,Tryz.results23,go_sem,r0_0,r0_1,r0_2,r0_3,r0_4,r0_5,r0_6,r0_7]) rfl ?_
 have k32_34:=(kb n33).o hd34 ho34
 replace r1:=r1.k k32_34
 replace r2:=r2.k k32_34
 replace r3:=r3.k k32_34
 replace r4:=r4.k k32_34
 exact⟨_,rfl,.mk' r1 r2 r3 r4,hs.b⟩
end
end Go.Proofs.YthmolpepinolkaaGreat
