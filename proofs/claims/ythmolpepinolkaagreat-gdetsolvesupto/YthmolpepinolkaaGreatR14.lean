/- The reference's Shl answers a row of its own. -/
import Derived.Test.YthmolpepinolkaaGreatR8
namespace Go.Proofs.YthmolpepinolkaaGreat
open Go.RowKit Dig
theorem rtrim_own_n (oa:Option Addr) (n cap:Nat) (ds:List Nat) (w:World) (e:ds.length=n) (hl:n≤10000000000000) (hc:n≤cap) (ok:OK ds) (hcell:Cells w oa ds) :
  Calls Tryz.prog 133 #[.slice oa n cap] w fun e w'=>∃v,e = .returned v∧w'.ownsRow w.heap.size 119 1 v (strip ds).length ((strip ds).map dv)∧Below w.heap.size w w':=by
 subst e;exact rtrim_own oa cap ds w hl hc ok hcell
theorem own_mono {w:World} {B C s n:Nat} {t:TypeId} {v:Value} {xs:List Value} (h:w.ownsRow B t s v n xs) (k:C≤B):w.ownsRow C t s v n xs:=by
 obtain⟨h1,h2⟩:=h
 refine⟨h1,?_⟩
 rcases h2 with h2 | ⟨g,cap,cur,hv,hg,r⟩
 ·exact .inl h2
 ·exact .inr ⟨g,cap,cur,hv,Nat.le_trans k hg,r⟩
set_option maxHeartbeats 1000000 in
set_option maxRecDepth 20000 in
theorem rshl_own (oa:Option Addr) (ca N:Nat) (X:List Nat) (w:World) (hl:X.length≤100000000000) (hlc:X.length≤ca) (ok:OK X) (hx:Cells w oa X) (hN:N≤8000000000000) :
  Calls Tryz.prog 179 #[.slice oa X.length ca,.int .i64 (N:Int)] w fun e w'=>∃v,e = .returned v∧w'.ownsRow w.heap.size 119 1 v (dig (val X*2 ^ N)).length ((dig (val X*2 ^ N)).map dv)∧Below w.heap.size w w':=by
 obtain⟨k,s,hks,hs⟩:∃k s,N=32*k+s∧s<32:=⟨N/32,N%32,by omega,by omega⟩
 have hq:(N:Int)/32=(k:Int):=by omega
 have hm:(N:Int)%32=(s:Int):=by omega
 obtain⟨r,Hr⟩:∃r,Hid (dig (val X*2 ^ N)=r):=⟨_,rfl⟩
 rw[Hr.out]
 have HK:=hide hks
 have hkb:k≤300000000000:=by omega
 have hsl:=strip_length_le X
 clear hks
 by_cases h0:(strip X).length=0
 ·have hz:r=[]:=by
   rw[←Hr.out,strip_nil_val (List.length_eq_zero_iff.1 h0),Nat.zero_mul];rfl
  have HZ:=hide hz
  have H0:=hide h0
  clear hz h0
  go_enter Tryz.func179,Tryz.ntmps179
  go_wp2_with fail
  refine(rtrim_any oa ca X _ (by omega) hlc ok hx).mono ?_
  rintro e w1 ⟨v,rfl,⟨oc,cc,rfl,_,_,_⟩,hb⟩
  rw[H0.out]
  go_wp2
  go_ret
  exact⟨_,rfl,by rw[HZ.out];exact World.ownsRow_nil _ _ _ _,hb⟩
 ·have hb0:(((strip X).length:Int)==0)=false:=by rw[beq_eq_false_iff_ne];omega
  have hXne:X.length≠0:=by omega
  clear h0
  go_enter Tryz.func179,Tryz.ntmps179
  go_wp2_with fail
  refine(rtrim_any oa ca X _ (by omega) hlc ok hx).mono ?_
  rintro e w1 ⟨v,rfl,⟨oc,cc,rfl,_,_,_⟩,hb1⟩
  have hmk:=mk_run' ((k:Int)+(X.length:Int)+1) (k+X.length+1) (by omega) (by omega) w1
  have hr0:=Row.new w1 (List.replicate (k+X.length+1) 0) (OK.replicate _ (by decide))
  have hb2:Below w1.heap.size w1 (w1.alloc (.cells (cs (List.replicate (k+X.length+1) 0)) 119)):=(Below.refl _ _).alloc nl _
  have hx1:=hx.below hb1 nl
  go_wp2_with fail
  go_loopw [6] (fun i wr=>∃(j:Nat) (ys:List Nat),j≤X.length∧i = .int .i64 (j:Int)∧Row wr w1.heap.size ys∧Below w1.heap.size w1 wr∧ys.length=k+X.length+1 ∧
   val ys=pw k*(2 ^ s*val (X.take j))∧ys[k+j]?.getD 0<2 ^ s∧(∀t,k+j<t→ys[t]?.getD 0=0)) (fun i _=>X.length - (intOf i).toNat)
  case atStart=>exact⟨0,_,Nat.zero_le _,rfl,hr0,hb2,by simp,by rw[val_replicate_zero];simp[val],by rw[List.getElem?_replicate];split <;> simp[Nat.pow_pos],fun t _=>by rw[List.getElem?_replicate];split <;> rfl⟩
  case round =>
   obtain⟨j,ys,hj,rfl,hr,hb,hyl,hv,htop,hzero⟩:=hrel
   have Hv:=hide hv
   have Hzero:=hide hzero
   have Hyl:=hide hyl
   clear hv hzero
   by_cases hlt:j<X.length
   ·obtain⟨bx,ox,d,ho,gx,Hx⟩:=(hx1.below hb nl).get hlt
    subst ho
    have hdb:d<4294967296:=by have:=ok.get j;rw[Hx.out] at this;exact this
    have gu:=hr.cell (i:=k+j) (by omega)
    have gf:=hr.free (k+j)
    obtain⟨c,Hc⟩:∃c,Hid (ys[k+j]?.getD 0=c):=⟨_,rfl⟩
    rw[Hc.out] at gu htop
    have gu2:=hr.cell (i:=k+j+1) (by omega)
    rw[Hzero.out (k+j+1) (by omega)] at gu2
    have gf2:=hr.free (k+j+1)
    obtain⟨T,hT⟩:∃T,d*2 ^ s=T:=⟨_,rfl⟩
    have hTb:=shl_t 0 d s hs (Nat.pow_pos (by decide)) hdb
    rw[Nat.zero_add,hT] at hTb
    have hwr:IntKind.u64.wrap ((d:Int)*2 ^ s)=(T:Int):=by
     have e2:(d:Int)*2 ^ s=((d*2 ^ s:Nat):Int):=by simp
     rw[e2,hT,IntKind.wrap_u64];omega
    have hor:=or32 c d s T hs htop hT
    have hor1:=hor.1
    have hst:=rshl_step hlt (by omega) Hx.out Hc.out (Hzero.out _ (by omega)) hT Hv.out
    have HS:=hide hst
    have HO:=hide hor.2
    have HTB:=hide hTb.2
    have htb1:=hTb.1
    have e3:(T:Int)/4294967296=((T/4294967296:Nat):Int):=by omega
    have E3:=hide e3
    have e4:(c:Int)+(T:Int)%4294967296=((c+T%4294967296:Nat):Int):=by omega
    have E4:=hide e4
    have hkj:k+j<k+X.length+1:=by omega
    have hkj2:k+j+1<k+X.length+1:=by omega
    clear hst hor hTb hT hyl e3 e4 htop
    go_wp2_with fail
    rw[E3.out,E4.out]
    go_roundw
    case rel =>
     exact⟨j+1,(ys.set (k+j) (c+T%4294967296)).set (k+j+1) (T/4294967296),hlt,by go_num,(hr.set _ HO.out).set _ (by omega),(hb.setCell nl _).setCell nl _,by simpa using Hyl.out,HS.out,
      by rw[show k+(j+1)=k+j+1 by omega,getD_set_same (by have:=Hyl.out;simp;omega)];exact HTB.out,
      fun t ht=>by rw[getD_set_other (by omega),getD_set_other (by omega)];exact Hzero.out t (by omega)⟩
    case measure=>simp[intOf];omega
   ·obtain rfl:j=X.length:=by omega
    have hfin:strip ys=r:=by
     rw[←dig_val hr.2,Hv.out,List.take_length,←Hr.out,HK.out,Nat.pow_add,←pw_eq,Nat.mul_comm (val X),Nat.mul_assoc]
    have HF:=hide hfin
    clear hfin
    go_wp2_with fail
    refine(rtrim_own_n _ _ _ ys wr hyl (by omega) nl hr.2 hr.cells).mono ?_
    rintro e w2 ⟨v,rfl,hrd,hb3⟩
    rw[HF.out] at hrd
    have hbb:=hb1.trans ((tmm hb hb3).mono hb1.size)
    go_wp2
    go_ret
    exact⟨v,rfl,own_mono hrd (Nat.le_trans hb1.size hb.size),hbb⟩
end Go.Proofs.YthmolpepinolkaaGreat
