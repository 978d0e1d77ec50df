/- The reference's takeOff and putBack, over a row of digits of the call's own. -/
import Derived.Test.YthmolpepinolkaaGreatR14
namespace Go.Proofs.YthmolpepinolkaaGreat
open Go.RowKit Dig
set_option maxHeartbeats 1600000
set_option maxRecDepth 20000
def Onw (w:World) (B g cap n:Nat) (xs:List Nat):Prop:=w.ownsRow B 119 1 (.slice (some ⟨g,0,none⟩) n cap) n (xs.map dv)∧OK xs∧xs.length=n
theorem Onw.cell {w:World} {B g cap n i:Nat} {xs:List Nat} (h:Onw w B g cap n xs) (hi:i<n):w.cell? ⟨g,i,none⟩=some (.int .u32 (xs[i]?.getD 0:Nat)):=by
 obtain⟨h1,ok,hl⟩:=h
 rcases own_slice h1 with ⟨h2,h3,_⟩ | ⟨g',cap',hv,_,_,hc⟩
 ·omega
 ·cases hv
  rw[hc i hi,List.getElem?_map,List.getElem?_eq_getElem (by omega:i<xs.length)]
  rfl
theorem Onw.free {w:World} {B g cap n:Nat} {xs:List Nat} (h:Onw w B g cap n xs) (i:Nat):w.frozen? ⟨g,i,none⟩=false:=own_frozen h.1 i
theorem Onw.set {w:World} {B g cap n:Nat} {xs:List Nat} (h:Onw w B g cap n xs) {i d:Nat} (hi:i<n) (hd:d<4294967296):Onw (w.setCell ⟨g,i,none⟩ (.int .u32 (d:Int))) B g cap n (xs.set i d):=by
 refine⟨?_,h.2.1.set i hd,by simpa using h.2.2⟩
 have:=own_setCell h.1 i hi (.int .u32 (d:Int))
 rw[List.map_set];exact this
theorem Onw.le {w:World} {B g cap n:Nat} {xs:List Nat} (h:Onw w B g cap n xs):n≤cap:=by
 rcases h.1.2 with ⟨h1,_⟩ | ⟨g',cap',cur,hv,_,_,h2,_⟩
 ·cases h1
 ·cases hv;exact h2
theorem Onw.blk {w:World} {B g cap n:Nat} {xs:List Nat} (h:Onw w B g cap n xs):B≤g∧g<w.heap.size:=by
 rcases h.1.2 with ⟨h1,_⟩ | ⟨g',cap',cur,hv,hg,hh,_⟩
 ·cases h1
 ·cases hv
  refine⟨hg,?_⟩
  rcases Nat.lt_or_ge g w.heap.size with hb | hb
  ·exact hb
  ·rw[Array.getElem?_eq_none hb] at hh;cases hh
theorem Onw.only {w w':World} {B b g cap n:Nat} {xs:List Nat} (h:Onw w B g cap n xs) (ho:Only b w w') (hb:g≠b):Onw w' B g cap n xs:=by
 refine⟨⟨h.1.1,?_⟩,h.2⟩
 rcases h.1.2 with ⟨h1,_⟩ | ⟨g',cap',cur,hv,hg,hh,r⟩
 ·cases h1
 ·cases hv
  exact .inr ⟨g,cap,cur,rfl,hg,by rw[ho.block g hb];exact hh,r⟩
theorem Onw.below {w w':World} {B C g cap n:Nat} {xs:List Nat} (h:Onw w B g cap n xs) (hb:Below C w w') (hg:g<C):Onw w' B g cap n xs:=by
 refine⟨⟨h.1.1,?_⟩,h.2⟩
 rcases h.1.2 with ⟨h1,_⟩ | ⟨g',cap',cur,hv,hg',hh,r⟩
 ·cases h1
 ·cases hv
  exact .inr ⟨g,cap,cur,rfl,hg',by rw[hb.block g hg];exact hh,r⟩
theorem Onw.cells {w:World} {B g cap n:Nat} {xs:List Nat} (h:Onw w B g cap n xs):Cells w (some ⟨g,0,none⟩) xs:=by
 refine .inr ⟨g,0,rfl,fun i hi => ?_⟩
 rw[Nat.zero_add]
 exact h.cell (by rw[←h.2.2];exact hi)
theorem rat_n (oa:Option Addr) (ca n:Nat) (xs:List Nat) (z:Int) (i:Nat) (e:xs.length=n) (ez:z=(i:Int)) (w:World) (hl:n≤10000000000000) (ok:OK xs) (hx:Cells w oa xs) :
  Calls Tryz.prog 160 #[.slice oa n ca,.int .i64 z] w fun e w'=>e = .returned (.int .u64 (xs[i]?.getD 0:Nat))∧w=w':=by
 subst e;subst ez;exact rat_any oa ca xs i w hl ok hx
theorem and_low (P:Nat) (h:P<18446744073709551616):bits .and .u64 (P:Int) 4294967295=((P%4294967296:Nat):Int):=by
 have h1:=u64_and_nat P 4294967295 (by omega) (by omega)
 have e:P &&& 4294967295=P%4294967296:=Nat.and_two_pow_sub_one_eq_mod P 32
 rw[e] at h1
 simpa using h1
theorem takeOff_any (B g cap n m j cv d:Nat) (xs vs:List Nat) (ov:Option Addr) (w:World) (hx:Onw w B g cap m xs) (hv:vs.length=n) (hjn:j+(n+1)≤m) (hm:m≤10000000000) (okv:OK vs) (hcv:Cells w ov vs) (hoff:Off g ov) (hd:d<4294967296) :
  Calls Tryz.prog 180 #[.slice (some ⟨g,0,none⟩) m cap,.slice ov n cv,.int .i64 (j:Int),.int .u64 (d:Int)] w fun e w' =>
   ∃c xs',e = .returned (.bool (decide (0<c)))∧Onw w' B g cap m xs'∧Only g w w'∧(∀i,i<j∨j+(n+1)≤i→xs'[i]?.getD 0=xs[i]?.getD 0) ∧
    val (seg xs' j (n+1))+d*val vs=val (seg xs j (n+1))+pw (n+1)*c:=by
 have htk:∀i,val (vs.take (i+1))=val (vs.take i)+pw i*vs[i]?.getD 0:=fun i=>by
  rcases Nat.lt_or_ge i vs.length with h | h
  ·exact val_take_succ h
  ·rw[List.take_of_length_le (by omega),List.take_of_length_le (by omega),List.getElem?_eq_none (by omega)];simp
 have htn:vs.take (n+1)=vs:=List.take_of_length_le (by omega)
 have HTN:=hide htn
 clear htn
 go_enter Tryz.func180,Tryz.ntmps180
 go_wp2_with fail
 go_loopg [9,10] (n+1) (fun k s9 s10 wr=>∃(i c:Nat) (ys:List Nat),i+k=n+1∧s9 = .int .u64 (c:Int)∧s10 = .int .i64 (i:Int)∧c<4294967296∧Onw wr B g cap m ys∧Only g w wr ∧
   Hid ((∀t,t<j∨j+i≤t→ys[t]?.getD 0=xs[t]?.getD 0)∧val (seg ys j i)+d*val (vs.take i)=val (seg xs j i)+pw i*c))
 case atStart=>exact⟨0,0,xs,by omega,rfl,rfl,by decide,hx,Only.refl _ _,hide ⟨fun _ _=>rfl,by simp[seg_zero,val]⟩⟩
 case round =>
  obtain⟨i,c,ys,hik,rfl,rfl,hcb,hy,ho,HI⟩:=hrel
  cases gk with
  | zero =>
   obtain rfl:i=n+1:=by omega
   have hh:=HI.out
   rw[HTN.out] at hh
   have HH:=hide hh
   clear hh
   go_wp2_with fail
   go_ret
   exact⟨c,rfl,ys,hy,ho,HH.out.1,HH.out.2⟩
  | succ k =>
   have hat1:=rat_n ov cv n vs (i:Int) i hv rfl wr (by omega) okv (hcv.only ho hoff)
   have hyb:=okv.get i
   obtain⟨y,Hy⟩:∃y,Hid (vs[i]?.getD 0=y):=⟨_,hide rfl⟩
   rw[Hy.out] at hat1 hyb
   obtain⟨M,hM⟩:∃M:Nat,(d:Int)*(y:Int)=(M:Int):=⟨d*y,by simp⟩
   have hMb:M≤18446744065119617025:=by
    have h1:d*y≤4294967295*4294967295:=Nat.mul_le_mul (by omega) (by omega)
    have h2:((d*y:Nat):Int)=(M:Int):=by rw[←hM];simp
    omega
   obtain⟨P,hP⟩:∃P:Nat,(M:Int)+(c:Int)=(P:Int):=⟨M+c,by simp⟩
   have hPe:P=M+c:=by omega
   have hand:bits .and .u64 (P:Int) 4294967295=((P%4294967296:Nat):Int):=and_low P (by omega)
   have hq:(P:Int)/4294967296=((P/4294967296:Nat):Int):=by omega
   have hlb:P%4294967296<4294967296:=by omega
   have hqb:P/4294967296<4294967296:=by omega
   have hq2:0<P%4294967296→P/4294967296<4294967295:=by omega
   obtain⟨lo,hlo⟩:∃lo,P%4294967296=lo:=⟨_,rfl⟩
   obtain⟨q,hqq⟩:∃q,P/4294967296=q:=⟨_,rfl⟩
   rw[hlo] at hand hlb hq2
   rw[hqq] at hq hqb hq2
   have HP:=hide (ai hPe (ai hlo hqq))
   clear hPe hlo hqq
   have hcx:=hy.cell (i:=j+i) (by omega)
   have hfr:=hy.free (j+i)
   obtain⟨x,Hx⟩:∃x,Hid (ys[j+i]?.getD 0=x):=⟨_,hide rfl⟩
   rw[Hx.out] at hcx
   have hxb:x<4294967296:=by have:=hy.2.1.get (j+i);rw[Hx.out] at this;exact this
   have hat2:=rat_n (some ⟨g,0,none⟩) cap m ys ((j:Int)+(i:Int)) (j+i) hy.2.2 (by omega) wr (by omega) hy.2.1 hy.cells
   rw[Hx.out] at hat2
   go_wp2_with fail
   refine hat1.mono ?_
   rintro e w1 ⟨rfl,rfl⟩
   go_wp2_with fail
   refine hat2.mono ?_
   rintro e w1 ⟨rfl,rfl⟩
   by_cases hlt:x<lo
   ·have hG:IntKind.u64.wrap ((x:Int) - (lo:Int))%4294967296=((x+4294967296 - lo:Nat):Int):=by rw[IntKind.wrap_u64];omega
    have HG:=hide hG
    have hxs:=HI.out.1 (j+i) (by omega)
    rw[Hx.out] at hxs
    have hst:=borrow_step (us:=xs) (ys:=ys) (off:=j) (k:=i) (c0:=c) (p:=d*y) (D:=d*val (vs.take i)) (g:=x+4294967296 - lo) (q:=q+1) (by rw[hy.2.2];omega) (by rw[hy.2.2,hx.2.2]) HI.out.2 (by
     have h1:=HP.out
     have h2:(M:Int)=((d*y:Nat):Int):=by rw[←hM];simp
     omega)
    have hI2:Hid ((∀t,t<j∨j+(i+1)≤t→(ys.set (j+i) (x+4294967296 - lo))[t]?.getD 0=xs[t]?.getD 0)∧val (seg (ys.set (j+i) (x+4294967296 - lo)) j (i+1))+d*val (vs.take (i+1))=val (seg xs j (i+1))+pw (i+1)*(q+1)):=by
     refine⟨fun t ht=>by rw[getD_set_other (by omega)];exact HI.out.1 t (by omega),?_⟩
     rw[htk i,Nat.mul_add,Hy.out,Nat.mul_left_comm];exact hst
    clear hG hxs hst
    go_wp2_with fail
    refine hat2.mono ?_
    rintro e w1 ⟨rfl,rfl⟩
    go_wp2_with fail
    rw[HG.out]
    go_roundg k
    case rel=>exact⟨i+1,q+1,ys.set (j+i) (x+4294967296 - lo),by omega,by go_num,by go_num,by omega,hy.set (by omega) (by omega),ho.setCell _ _,hI2⟩
    case measure=>omega
   ·have hG:(x:Int) - (lo:Int)=((x - lo:Nat):Int):=by omega
    have HG:=hide hG
    have hxs:=HI.out.1 (j+i) (by omega)
    rw[Hx.out] at hxs
    have hst:=borrow_step (us:=xs) (ys:=ys) (off:=j) (k:=i) (c0:=c) (p:=d*y) (D:=d*val (vs.take i)) (g:=x - lo) (q:=q) (by rw[hy.2.2];omega) (by rw[hy.2.2,hx.2.2]) HI.out.2 (by
     have h1:=HP.out
     have h2:(M:Int)=((d*y:Nat):Int):=by rw[←hM];simp
     omega)
    have hI2:Hid ((∀t,t<j∨j+(i+1)≤t→(ys.set (j+i) (x - lo))[t]?.getD 0=xs[t]?.getD 0)∧val (seg (ys.set (j+i) (x - lo)) j (i+1))+d*val (vs.take (i+1))=val (seg xs j (i+1))+pw (i+1)*q):=by
     refine⟨fun t ht=>by rw[getD_set_other (by omega)];exact HI.out.1 t (by omega),?_⟩
     rw[htk i,Nat.mul_add,Hy.out,Nat.mul_left_comm];exact hst
    clear hG hxs hst
    go_wp2_with fail
    refine hat2.mono ?_
    rintro e w1 ⟨rfl,rfl⟩
    go_wp2_with fail
    rw[HG.out]
    go_roundg k
    case rel=>exact⟨i+1,q,ys.set (j+i) (x - lo),by omega,by go_num,by go_num,by omega,hy.set (by omega) (by omega),ho.setCell _ _,hI2⟩
    case measure=>omega
theorem putBack_any (B g cap n m j cv:Nat) (xs vs:List Nat) (ov:Option Addr) (w:World) (hx:Onw w B g cap m xs) (hv:vs.length=n) (hjn:j+(n+1)≤m) (hm:m≤10000000000) (okv:OK vs) (hcv:Cells w ov vs) (hoff:Off g ov) :
  Calls Tryz.prog 181 #[.slice (some ⟨g,0,none⟩) m cap,.slice ov n cv,.int .i64 (j:Int)] w fun e w' =>
   ∃c xs',e = .returned (.tuple #[])∧Onw w' B g cap m xs'∧Only g w w'∧(∀i,i<j∨j+(n+1)≤i→xs'[i]?.getD 0=xs[i]?.getD 0) ∧
    val (seg xs' j (n+1))+pw (n+1)*c=val (seg xs j (n+1))+val vs:=by
 have htk:∀i,val (vs.take (i+1))=val (vs.take i)+pw i*vs[i]?.getD 0:=fun i=>by
  rcases Nat.lt_or_ge i vs.length with h | h
  ·exact val_take_succ h
  ·rw[List.take_of_length_le (by omega),List.take_of_length_le (by omega),List.getElem?_eq_none (by omega)];simp
 have htn:vs.take (n+1)=vs:=List.take_of_length_le (by omega)
 have HTN:=hide htn
 clear htn
 go_enter Tryz.func181,Tryz.ntmps181
 go_wp2_with fail
 go_loopg [6,7] (n+1) (fun k s9 s10 wr=>∃(i c:Nat) (ys:List Nat),i+k=n+1∧s9 = .int .u64 (c:Int)∧s10 = .int .i64 (i:Int)∧c<4294967296∧Onw wr B g cap m ys∧Only g w wr ∧
   Hid ((∀t,t<j∨j+i≤t→ys[t]?.getD 0=xs[t]?.getD 0)∧val (seg ys j i)+pw i*c=val (seg xs j i)+val (vs.take i)))
 case atStart=>exact⟨0,0,xs,by omega,rfl,rfl,by decide,hx,Only.refl _ _,hide ⟨fun _ _=>rfl,by simp[seg_zero,val]⟩⟩
 case round =>
  obtain⟨i,c,ys,hik,rfl,rfl,hcb,hy,ho,HI⟩:=hrel
  cases gk with
  | zero =>
   obtain rfl:i=n+1:=by omega
   have hh:=HI.out
   rw[HTN.out] at hh
   have HH:=hide hh
   clear hh
   go_wp2_with fail
   go_end0
   exact⟨rfl,c,ys,hy,ho,HH.out.1,HH.out.2⟩
  | succ k =>
   have hat1:=rat_n ov cv n vs (i:Int) i hv rfl wr (by omega) okv (hcv.only ho hoff)
   have hyb:=okv.get i
   obtain⟨y,Hy⟩:∃y,Hid (vs[i]?.getD 0=y):=⟨_,hide rfl⟩
   rw[Hy.out] at hat1 hyb
   have hcx:=hy.cell (i:=j+i) (by omega)
   have hfr:=hy.free (j+i)
   obtain⟨x,Hx⟩:∃x,Hid (ys[j+i]?.getD 0=x):=⟨_,hide rfl⟩
   rw[Hx.out] at hcx
   have hxb:x<4294967296:=by have:=hy.2.1.get (j+i);rw[Hx.out] at this;exact this
   have hat2:=rat_n (some ⟨g,0,none⟩) cap m ys ((j:Int)+(i:Int)) (j+i) hy.2.2 (by omega) wr (by omega) hy.2.1 hy.cells
   rw[Hx.out] at hat2
   obtain⟨T,hT⟩:∃T:Nat,(x:Int)+(y:Int)+(c:Int)=(T:Int):=⟨x+y+c,by simp⟩
   have hTb:T<18446744073709551616:=by omega
   have hq:(T:Int)/4294967296=((T/4294967296:Nat):Int):=by omega
   have hG:(T:Int)%4294967296=((T%4294967296:Nat):Int):=by omega
   have HG:=hide (ai hG hq)
   have hxs:=HI.out.1 (j+i) (by omega)
   rw[Hx.out] at hxs
   have hst:=carry_step (us:=xs) (ys:=ys) (off:=j) (k:=i) (c0:=c) (p:=y) (t:=T) (D:=val (vs.take i)) (by rw[hy.2.2];omega) (by rw[hy.2.2,hx.2.2]) HI.out.2 (by omega)
   have hI2:Hid ((∀t,t<j∨j+(i+1)≤t→(ys.set (j+i) (T%4294967296))[t]?.getD 0=xs[t]?.getD 0)∧val (seg (ys.set (j+i) (T%4294967296)) j (i+1))+pw (i+1)*(T/4294967296)=val (seg xs j (i+1))+val (vs.take (i+1))):=by
    refine⟨fun t ht=>by rw[getD_set_other (by omega)];exact HI.out.1 t (by omega),?_⟩
    rw[htk i,Hy.out];exact hst
   have hTq:T/4294967296<4294967296:=by omega
   clear hG hq hxs hst
   go_wp2_with fail
   refine hat2.mono ?_
   rintro e w1 ⟨rfl,rfl⟩
   go_wp2_with fail
   refine hat1.mono ?_
   rintro e w1 ⟨rfl,rfl⟩
   go_wp2_with fail
   rw[HG.out.1,HG.out.2]
   go_roundg k
   case rel=>exact⟨i+1,T/4294967296,ys.set (j+i) (T%4294967296),by omega,by go_num,by go_num,hTq,hy.set (by omega) (by omega),ho.setCell _ _,hI2⟩
   case measure=>omega
end Go.Proofs.YthmolpepinolkaaGreat
