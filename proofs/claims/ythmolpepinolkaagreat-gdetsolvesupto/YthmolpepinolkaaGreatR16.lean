/- The reference's DivMod. -/
import Derived.Test.YthmolpepinolkaaGreatR15
import Derived.Test.YthmolpepinolkaaGreatR9
import Derived.Deep.CutBlock
import Derived.Deep.DeepCutAuto
import Derived.BigQuiet
import Derived.Deep.DeepFit
import Derived.Deep.QuietTactic
namespace Go.Proofs.YthmolpepinolkaaGreat
open Go.RowKit Dig
theorem Rd.blk {w:World} {v:Value} {ds:List Nat} (h:Rd w v ds):ds≠[]→∀a n c,v = .slice (some a) n c→a.block<w.heap.size:=by
 intro hne a n c e
 obtain⟨oa,cap,hv,_,_,hc⟩:=h
 rw[hv] at e
 cases e
 obtain⟨b,off,ho,hcell⟩:=hc.resolve_left hne
 cases ho
 exact Cells.lt hcell hne
theorem seg_top3 {xs:List Nat} {off i:Nat} (ok:OK xs) (h:off+(i+3)≤xs.length) :
  ∃lw,lw<pw i∧val (seg xs off (i+3))=((xs[off+i+2]?.getD 0*4294967296+xs[off+i+1]?.getD 0)*4294967296+xs[off+i]?.getD 0)*pw i+lw:=by
 refine⟨val (seg xs off i),seg_lt ok off i (by omega),?_⟩
 rw[seg_succ (i:=i+2) (by omega),seg_succ (i:=i+1) (by omega),seg_succ (i:=i) (by omega)]
 simp only[pw,←Nat.add_assoc]
 generalize pw i=P
 rw[Nat.add_mul,Nat.add_mul,Nat.add_mul]
 have e1:∀z,4294967296*(4294967296*P)*z=z*4294967296*4294967296*P:=fun z=>by
  rw[Nat.mul_comm,←Nat.mul_assoc,←Nat.mul_assoc]
 have e2:∀z,4294967296*P*z=z*4294967296*P:=fun z=>by rw[Nat.mul_comm,←Nat.mul_assoc]
 rw[e1,e2,Nat.mul_comm P]
 omega
theorem Cells.drew {w:World} {oa:Option Addr} {ds:List Nat} (h:Cells w oa ds):Cells w.drew oa ds:=h.below ((Below.refl w.heap.size w).drew) nl
theorem Only.drewN {b:Nat} {u w:World} (h:Only b u w) (n:Nat):Only b u (w.drewN n):=⟨h.os,h.tape,h.output,h.size,h.block⟩
theorem put_fin {W V q r r2 P c2:Nat} (hV:0<V) (hVP:V<P) (hr2:r2<P) (h1:r+q*V=W+P*1) (h2:r2+P*c2=r+V) (hq:q=W/V+1):r2+(q - 1)*V=W∧r2<V:=by
 have h3:=Nat.div_add_mod W V
 have h4:=Nat.mod_lt W hV
 subst hq
 rw[Nat.add_sub_cancel]
 rw[Nat.add_mul,Nat.mul_comm (W/V)] at h1
 rw[Nat.mul_comm (W/V)]
 generalize V*(W/V)=z at *
 generalize W%V=y at *
 rcases Nat.lt_or_ge c2 1 with hc | hc
 ·have:c2=0:=by omega
  subst this
  omega
 ·rcases Nat.lt_or_ge 1 c2 with hc2 | hc2
  ·have:=Nat.mul_le_mul_left P hc2
   omega
  ·have:c2=1:=by omega
   subst this
   omega
theorem guess_less {q r f H Q:Nat} (h:q*f+r=H) (hQ:Q<q):(q - 1)*f+(r+f)=H∧Q≤q - 1:=by
 obtain⟨q',rfl⟩:∃q',q=q'+1:=⟨q - 1,by omega⟩
 rw[Nat.add_sub_cancel]
 rw[Nat.add_mul] at h
 omega
theorem seg_top2 {xs:List Nat} {off i:Nat} (ok:OK xs) (h:off+(i+2)≤xs.length) :
  ∃lw,lw<pw i∧val (seg xs off (i+2))=(xs[off+i+1]?.getD 0*4294967296+xs[off+i]?.getD 0)*pw i+lw:=by
 refine⟨val (seg xs off i),seg_lt ok off i (by omega),?_⟩
 rw[seg_succ (i:=i+1) (by omega),seg_succ (i:=i) (by omega)]
 simp only[pw,←Nat.add_assoc]
 generalize pw i=P
 rw[Nat.add_mul]
 have e2:∀z,4294967296*P*z=z*4294967296*P:=fun z=>by rw[Nat.mul_comm,←Nat.mul_assoc]
 rw[e2,Nat.mul_comm P]
 omega
set_option maxHeartbeats 1000000 in
set_option maxRecDepth 20000 in
theorem rdivMod_any (oa ob:Option Addr) (ca cb:Nat) (xs ys:List Nat) (w:World) (hxl:xs.length≤1000000000) (hyl:ys.length≤1000000000) (hxc:xs.length≤ca) (hyc:ys.length≤cb)
  (okx:OK xs) (oky:OK ys) (hx:Cells w oa xs) (hy:Cells w ob ys) (hn:val ys≠0) :
  Calls Tryz.prog 172 #[.slice oa xs.length ca,.slice ob ys.length cb] w fun e w'=>∃v1 v2,e = .returned (.tuple #[v1,v2]) ∧
   Rd w' v1 (dig (val xs/val ys))∧Rd w' v2 (dig (val xs%val ys))∧Below w.heap.size w w':=by
 have h1:=strip_length_le xs
 have h2:=strip_length_le ys
 have ex:=val_strip xs
 have ey:=val_strip ys
 have okX:=OK_strip okx
 have okY:=OK_strip oky
 have dY:=dig_val oky
 have dX:=dig_val okx
 have topY:=strip_top (ds:=ys)
 have ssY:=strip_strip' ys
 generalize val xs=m at *
 generalize val ys=n at *
 have HX:=hide ex
 have HY:=hide ey
 have HDX:=hide dX
 have HDY:=hide dY
 have HT:=hide topY
 have HSS:=hide ssY
 have HN:=hide hn
 clear ex ey dX dY topY ssY hn
 go_enter Tryz.func172,Tryz.ntmps172
 go_wp2_with fail
 refine(rtrim_any oa ca xs _ (by omega) hxc okx hx).mono ?_
 rintro e w1 ⟨vx,rfl,hX,hb1⟩
 go_wp2_with fail
 refine(rtrim_any ob cb ys _ (by omega) hyc oky (hy.below hb1 nl)).mono ?_
 rintro e w2 ⟨vy,rfl,hY,hb2⟩
 replace hX:=hX.below hb2 nl
 replace hb2:=hb1.trans (hb2.mono hb1.size)
 clear hb1 hx hy
 generalize strip xs=X at *
 generalize strip ys=Y at *
 obtain⟨ox,cx,rfl,hcx,_,hcX⟩:=hX
 obtain⟨oy,cy,rfl,hcy,_,hcY⟩:=hY
 go_wp2_with fail
 refine(rcmp_any ox oy cx cy X Y w2 (by omega) (by omega) hcx hcy okX okY hcX hcY).mono ?_
 rintro e w3 ⟨rfl,hb3⟩
 replace hcX:=hcX.below hb3 nl
 replace hcY:=hcY.below hb3 nl
 replace hb3:=hb2.trans (hb3.mono hb2.size)
 clear hb2
 rw[HX.out,HY.out]
 by_cases hlt:m<n
 ·have hc:cmpI m n<0:=cmpI_neg.2 hlt
  have HL:=hide hlt
  generalize cmpI m n=cc at *
  clear hlt
  go_wp2_with fail
  go_ret2
  refine⟨_,_,rfl,?_,?_,hb3⟩
  ·rw[Nat.div_eq_of_lt HL.out];exact⟨none,0,rfl,Nat.le_refl _,OK.nil,.inl rfl⟩
  ·rw[Nat.mod_eq_of_lt HL.out,HDX.out];exact⟨ox,cx,rfl,hcx,okX,hcX⟩
 ·have hc:¬cmpI m n<0:=fun h=>hlt (cmpI_neg.1 h)
  have HL:=hide hlt
  generalize cmpI m n=cc at *
  clear hlt
  have hY0:Y.length≠0:=fun h=>HN.out (dig_eq_nil.1 (by rw[HDY.out];exact List.length_eq_zero_iff.1 h))
  by_cases hY1:Y.length=1
  ·have hbq:((Y.length:Int)==1)=true:=by rw[beq_iff_eq];omega
   obtain⟨b,off,d,ho,gx,Hx⟩:=hcY.get (i:=0) (by omega)
   subst ho
   have hd:n=d:=by
    rw[←HY.out]
    obtain⟨t,rfl⟩:=List.length_eq_one_iff.1 hY1
    have:=Hx.out
    simp at this
    simp[val,this]
   have hdb:d<4294967296:=by have:=okY.get 0;rw[Hx.out] at this;exact this
   have hd0:0<d:=by have:=HN.out;omega
   have HD:=hide hd
   rw[Nat.add_zero] at gx
   clear hd
   go_wp2_with fail
   refine(rshort_any ox cx d X w3 (by omega) hcx okX hcX hd0 hdb).mono ?_
   rintro e w4 ⟨v,rfl,hv,_,hb4⟩
   rw[HX.out] at hv ⊢
   have hmb:m%d<4294967296:=Nat.lt_trans (Nat.mod_lt _ hd0) hdb
   obtain⟨r,hr⟩:∃r,m%d=r:=⟨_,rfl⟩
   rw[hr] at hmb ⊢
   have HR:=hide hr
   have hlit:=lit1 w4 r hmb
   obtain⟨o1,c1,hv1,hc1,ok1,hcell1⟩:=hlit
   cases hv1
   have htr:=rtrim_any (some ⟨w4.heap.size,0,none⟩) 1 [r] (w4.alloc (.cells #[.int .u32 (r:Int)] 119)) (by simp) (by simp) ok1 hcell1
   have hb5:Below w4.heap.size w4 (w4.alloc (.cells #[.int .u32 (r:Int)] 119)):=(Below.refl _ _).alloc nl _
   clear hr
   go_wp2_with fail
   refine htr.mono ?_
   rintro e w6 ⟨v2,rfl,hv2,hb6⟩
   have hb7:=hb5.trans (hb6.mono hb5.size)
   have hv7:=hv.below hb7 nl
   have hbb:=hb3.trans ((hb4.trans (hb7.mono hb4.size)).mono hb3.size)
   clear htr hb5 hb6
   go_wp2_with fail
   go_ret2
   refine⟨_,_,rfl,by rw[HD.out];exact hv7,?_,hbb⟩
   rw[HD.out,HR.out,←show val [r]=r from by simp[val],dig_val ok1]
   exact hv2
  ·have hbq:((Y.length:Int)==1)=false:=by rw[beq_eq_false_iff_ne];omega
   have hYne:Y≠[]:=fun h=>hY0 (by rw[h];rfl)
   obtain⟨b,off,ho,_⟩:=hcY.resolve_left hYne
   subst ho
   have htop:Y[Y.length - 1]?.getD 0≠0:=HT.out hYne
   have hone:(Y.drop (Y.length - 1)).length=1:=by rw[List.length_drop];omega
   obtain⟨t,ht⟩:=List.length_eq_one_iff.1 hone
   have ht0:t≠0:=by
    have h:(Y.drop (Y.length - 1))[0]?.getD 0=t:=by rw[ht];rfl
    rw[List.getElem?_drop,Nat.add_zero] at h
    rw[←h];exact htop
   have htb:t<4294967296:=by
    have:=(okY.drop (Y.length - 1));rw[ht] at this;exact this.head
   have hb32:=bitsN_le_32 htb
   have hb1:0<bitsN t:=by unfold bitsN;rw[if_neg ht0];omega
   have hcd:=hcY.drop (Y.length - 1)
   rw[ht] at hcd
   have hbits:=rbits_any (some ⟨b,off+(Y.length - 1),none⟩) (cy - (Y.length - 1)) [t] w3 (by simp) (by simp;omega) (OK.cons htb OK.nil) hcd
   rw[show val [t]=t from by simp[val]] at hbits
   obtain⟨s,hs⟩:∃s:Nat,(32:Int) - ((bitsN t:Nat):Int)=(s:Int):=⟨32 - bitsN t,by omega⟩
   have hs32:s<32:=by omega
   generalize bitsN t=bt at *
   have hY2:2≤Y.length:=by omega
   clear htop hone ht hcd ht0 htb hYne
   go_wp2_with fail
   rw[show Y.length - (Y.length - 1)=1 from by omega]
   refine hbits.mono ?_
   rintro e w4 ⟨rfl,hb4⟩
   replace hcX:=hcX.below hb4 nl
   replace hcY:=hcY.below hb4 nl
   replace hb3:=hb3.trans (hb4.mono hb3.size)
   clear hb4 hbits
   go_wp2_with fail
   refine(rshl_own (some ⟨b,off,none⟩) cy s Y w4 (by omega) hcy okY hcY (by omega)).mono ?_
   rintro e w5 ⟨vy,rfl,hoy,hb5⟩
   replace hcX:=hcX.below hb5 nl
   have hY':=Rd.of_owns (OK_dig _) hoy
   clear hoy hcY
   rw[HY.out] at hY'
   go_wp2_with fail
   refine(rshl_own ox cx s X w5 (by omega) hcx okX hcX (by omega)).mono ?_
   rintro e w6 ⟨vx,rfl,hox,hb6⟩
   rw[HX.out] at hox
   have hbW:Below w.heap.size w w5:=hb3.trans (hb5.mono hb3.size)
   clear hb3 hb5 hcX
   have lM:(dig (m*2 ^ s)).length≤1000000001:=by
    obtain⟨K,hK⟩:∃K,1000000000=K:=⟨_,rfl⟩
    have h1:=Nat.lt_of_lt_of_le (val_lt okX) (pw_mono (show X.length≤K by omega))
    rw[HX.out] at h1
    have h2:2 ^ s<4294967296:=Nat.lt_of_lt_of_le (Nat.pow_lt_pow_right (by decide) hs32) (Nat.le_refl (2 ^ 32))
    have h3:(dig (m*2 ^ s)).length≤K+1:=by
     refine dig_length_le (Nat.lt_of_lt_of_le (Nat.mul_lt_mul'' h1 h2) ?_)
     simp only[pw]
     rw[Nat.mul_comm]
     exact Nat.le_refl _
    omega
   have hoff:∀k,Value.ownBlock vx=some k→w5.heap.size≤k:=fun k hk=>(hox.lt k hk).1
   have b6s:=hb6.size
   obtain⟨i0,hi,hz0,hz1,hz2⟩:=info_parts info32
   obtain⟨XD,hXD⟩:∃XD,dig (m*2 ^ s)=XD:=⟨_,rfl⟩
   have okXD:OK XD:=by rw[←hXD];exact OK_dig _
   rw[hXD] at hox lM
   have HXD:=hide hXD
   clear hXD
   go_wp2_with (at_builtin;refine wpList_append_own _ rfl _ _ 35 rfl w5.heap.size 119 i0 (.int .u32 0) 1 4 Tryz.underlying35 hi hz0 hz1 hz2 rfl (by decide) _ _ _ rfl (hox.alloc _) ⟨w6.heap.size,0,none⟩ 2 2 [.int .u32 0,.int .u32 0] rfl rfl ?c1 ?c2 ?c3 ?c4 ?c5 ?_)
   case c1 =>
    intro j u hj
    match j,hj with
    | 0,hj=>simp at hj;subst hj;simp[Addr.add]
    | 1,hj=>simp at hj;subst hj;simp[Addr.add]
   case c2=>intro u hu;simp at hu;subst hu;rfl
   case c3=>unfold maxLen;omega
   case c4=>omega
   case c5=>simp;omega
   intro v' w8 hown8 hgrow _
   have bY:Below w5.heap.size w5 w8:=(hb6.alloc b6s _).grown hgrow (by simp;omega) hoff
   have hyb5:=hY'.blk
   replace hY':=hY'.below bY nl
   have hbW8:=hbW.trans (bY.mono hbW.size)
   have hO:∃g cap,v' = .slice (some ⟨g,0,none⟩) (XD.length+2) cap∧Onw w8 w5.heap.size g cap (XD.length+2) (XD++[0,0]):=by
    have h8:=hown8
    rcases own_slice hown8 with ⟨_,h2,_⟩ | ⟨g,cap,rfl,_,_,_⟩
    ·omega
    ·refine⟨g,cap,rfl,?_,okXD.append (OK.cons (by decide) (OK.cons (by decide) OK.nil)),by simp⟩
     rw[List.map_append];exact h8
   obtain⟨g,cap,rfl,hX8⟩:=hO
   have hwg:w.heap.size≤g:=Nat.le_trans hbW.size hX8.blk.1
   clear hown8 hgrow hoff hox hb6 bY hbW b6s hi hz0 hz1 hz2
   have hmn:m*2 ^ s ≥ n*2 ^ s:=Nat.mul_le_mul_right _ (by have:=HL.out;omega)
   have hYX:(dig (n*2 ^ s)).length≤XD.length:=by rw[←HXD.out];exact dig_length_mono hmn
   have hk2:2≤(dig (n*2 ^ s)).length:=by
    have h3:n≤n*2 ^ s:=Nat.le_mul_of_pos_right _ (Nat.two_pow_pos s)
    have:=dig_length_mono h3
    rw[HDY.out] at this
    omega
   have hne:dig (n*2 ^ s)≠[]:=fun h=>by rw[h] at hk2;simp at hk2
   have htopD:=strip_top (ds:=dig (n*2 ^ s)) (by rw[strip_dig];exact hne)
   rw[strip_dig] at htopD
   have hyb5':=hyb5 hne
   obtain⟨YD,hYD⟩:∃YD,dig (n*2 ^ s)=YD:=⟨_,rfl⟩
   have okYD:OK YD:=by rw[←hYD];exact OK_dig _
   rw[hYD] at hY' hYX hk2 htopD
   have HYD:=hide hYD
   clear hYD hyb5 hne hmn
   obtain⟨o2,c2,rfl,hc2,_,hcYD⟩:=hY'
   have hoffY:Off g o2:=by
    intro a ha
    have h3:=hyb5' a YD.length c2 (by rw[ha])
    have h4:=hX8.blk.1
    omega
   have hgw:=hX8.blk.2
   have hoffQ:Off w8.heap.size o2:=by
    intro a ha
    have h3:=hyb5' a YD.length c2 (by rw[ha])
    have h4:=hX8.blk.1
    omega
   obtain⟨k,hk⟩:∃k,YD.length=k:=⟨_,rfl⟩
   obtain⟨lx,hlx⟩:∃l,XD.length=l:=⟨_,rfl⟩
   rw[hk] at hYX hk2 htopD hc2
   rw[hlx] at hYX lM hX8
   rw[hk,hlx]
   have HK:=hide (ai hk hlx)
   clear hyb5' hk hlx
   have hmk:=mk_run' ((lx:Int)+2 - (k:Int)) (lx+2 - k) (by omega) (by omega) w8
   have hrq:=Row.new w8 (List.replicate (lx+2 - k) 0) (OK.replicate _ (by decide))
   have hb9:Below w8.heap.size w8 (w8.alloc (.cells (cs (List.replicate (lx+2 - k) 0)) 119)):=(Below.refl _ _).alloc nl _
   have hX9:=hX8.below hb9 hgw
   have hcY9:=hcYD.below hb9 nl
   have hbW9:=hbW8.trans (hb9.mono hbW8.size)
   have hbWs:=hbW8.size
   clear hX8 hcYD hb9 hbW8
   go_wp2_with fail
   clear hmk
   generalize w8.alloc (.cells (cs (List.replicate (lx+2 - k) 0)) 119)=w9 at *
   have hlX:(XD++[0,0]).length=lx+2:=by rw[List.length_append,HK.out.2];rfl
   have hU:val (XD++[0,0])=m*2 ^ s:=by rw[val_append];simp[val,←HXD.out,val_dig]
   have hV:val YD=n*2 ^ s:=by rw[←HYD.out,val_dig]
   have hVlo:pw (k - 1)≤val YD:=by
    have hnz:n*2 ^ s≠0:=Nat.mul_ne_zero HN.out (Nat.ne_of_gt (Nat.two_pow_pos s))
    have:=pw_le_dig hnz
    rw[HYD.out,HK.out.1] at this
    rw[hV];exact this
   have hVhi:val YD<pw k:=by have:=val_lt okYD;rwa [HK.out.1] at this
   have hst:val (seg (XD++[0,0]) (lx+2 - k) (lx+2 - (lx+2 - k)))<val YD:=by
    have h3:=seg_split (xs:=XD++[0,0]) (off:=0) (k:=lx+2 - k) (n:=lx+2) (by omega) (by omega)
    rw[Nat.zero_add] at h3
    have h4:val (seg (XD++[0,0]) 0 (lx+2))<pw (lx+2 - k)*pw (k - 2):=by
     rw[←pw_add,show lx+2 - k+(k - 2)=lx from by omega,←hlX,seg_all,val_append]
     have:=val_lt okXD
     rw[HK.out.2] at this
     simpa [val] using this
    have h5:pw (lx+2 - k)*val (seg (XD++[0,0]) (lx+2 - k) (lx+2 - (lx+2 - k)))<pw (lx+2 - k)*pw (k - 2):=by omega
    exact Nat.lt_of_lt_of_le (Nat.lt_of_mul_lt_mul_left h5) (Nat.le_trans (pw_mono (by omega)) hVlo)
   have HV:=hide (ai hU (ai hV (ai hVlo hVhi)))
   have HST:=hide hst
   clear hlX hU hV hVlo hVhi hst
   go_loopg [13] (lx+2 - k) (fun kk s13 wr=>∃(yq ys:List Nat),s13 = .int .i64 ((kk:Int) - 1)∧kk≤lx+2 - k∧Row wr w8.heap.size yq∧Onw wr w5.heap.size g cap (lx+2) ys∧Only2 w8.heap.size g w9 wr∧Hid (yq.length=lx+2 - k) ∧
     Hid (m*2 ^ s=val (seg ys 0 (lx+2))+val YD*(pw kk*val (seg yq kk (lx+2 - k - kk)))∧val (seg ys kk (lx+2 - kk))<val YD))
   case atStart =>
    refine⟨_,_,congrArg (fun z:Int=>Value.int .i64 z) (by omega),Nat.le_refl _,hrq,hX9,Only2.refl _ _ _,hide (by simp),hide ⟨?_,HST.out⟩⟩
    rw[Nat.sub_self,show seg (List.replicate (lx+2 - k) 0) (lx+2 - k) 0=[] from by simp[seg],←HV.out.1,←hX9.2.2,seg_all]
    simp[val]
   case round =>
    obtain⟨yq,ys,rfl,hkk,rq,ry,ho,HQL,HI⟩:=hrel
    cases gk with
    | zero =>
     obtain⟨lq,hlq⟩:∃lq,lx+2 - k=lq:=⟨_,rfl⟩
     have hlqb:lq≤2000000000:=by omega
     rw[hlq] at HQL HI
     have hys:ys.length=lx+2:=ry.2.2
     have hltk:(ys.take k).length=k:=by rw[List.length_take];omega
     have hcx:=ry.cells.take k
     have okt:=ry.2.1.take k
     have hfin:=HI.out
     simp only[pw,Nat.one_mul,Nat.sub_zero] at hfin
     rw[show seg ys 0 (lx+2)=ys from by rw[←hys];exact seg_all ys,show seg yq 0 lq=yq from by rw[←HQL.out];exact seg_all yq,HV.out.2.1] at hfin
     have htv:val (ys.take k)=val ys:=by
      have h3:=val_split ys k (by omega)
      rcases Nat.eq_zero_or_pos (val (ys.drop k)) with h4 | h4
      ·rw[h4,Nat.mul_zero,Nat.add_zero] at h3;exact h3.symm
      ·have h5:=Nat.le_mul_of_pos_right (pw k) h4
       have h6:=HV.out.2.2.2
       rw[HV.out.2.1] at h6
       omega
     have hb2:0<2 ^ s:=Nat.two_pow_pos s
     have hnn:0<n:=by have:=HN.out;omega
     have hns:0<n*2 ^ s:=Nat.mul_pos hnn hb2
     have hq:val yq=m/n:=by
      have h3:m*2 ^ s/(n*2 ^ s)=val yq:=by rw[hfin.1,Nat.add_mul_div_left _ _ hns,Nat.div_eq_of_lt hfin.2,Nat.zero_add]
      rw[←h3,Nat.mul_div_mul_right _ _ hb2]
     have hr:val (ys.take k)/2 ^ s=m%n:=by
      have h3:m*2 ^ s%(n*2 ^ s)=val ys:=by rw[hfin.1,Nat.add_mul_mod_self_left,Nat.mod_eq_of_lt hfin.2]
      rw[htv,←h3,Nat.mul_mod_mul_right,Nat.mul_div_cancel _ hb2]
     have hbb:=(hbW9.trans (ho.below (B:=w.heap.size) hbWs hwg)).drew
     have hcq:=rq.drew.cells
     replace hcx:=hcx.drew
     have okq:=rq.2
     have hql:yq.length=lq:=HQL.out
     have hcap:lx+2≤cap:=ry.le
     have hkc:k≤cap:=by omega
     have hkl:k≤lx+2:=by omega
     have F:=hide (ai hq hr)
     clear hq hr hfin htv hb2 hnn hns hys HI rq ry ho
     have hz:¬(0:Int)≤((0:Nat):Int) - 1:=by omega
     rw[hlq]
     go_wp2_with fail
     go_region_with (first
      | (go_at_call 133;go_fit (rtrim_n (some ⟨w8.heap.size,0,none⟩) lq lq yq _ hql (by omega) nl okq hcq);rintro e wA ⟨v1,rfl,r1,hbA⟩;(try replace hcx:=hcx.below hbA nl);(try replace r2:=r2.below hbA nl);(try replace r3:=r3.below hbA nl);replace hbb:=hbb.trans (hbA.mono hbb.size);clear hbA)
      | (go_at_call 133;go_fit (rtrim_n (some ⟨g,0,none⟩) k cap (ys.take k) _ hltk (by omega) (by omega) okt hcx);rintro e wA ⟨v2,rfl,r2,hbA⟩;(try replace hcq:=hcq.below hbA nl);(try replace r1:=r1.below hbA nl);replace hbb:=hbb.trans (hbA.mono hbb.size);clear hbA)
      | (go_at_call 182;obtain⟨o5,c5,rfl,l5,ok5,r2⟩:=r2;go_fit (rshr_any o5 c5 s (strip (ys.take k)) _ (Nat.le_trans (strip_length_le (ys.take k)) (by omega)) ok5 r2 (by omega));rintro e wA ⟨v3,rfl,r3,hbA⟩;(try replace hcq:=hcq.below hbA nl);(try replace r1:=r1.below hbA nl);replace hbb:=hbb.trans (hbA.mono hbb.size);clear hbA))
     all_goals go_wp2
     all_goals go_ret2
     all_goals rw[val_strip] at r3
     all_goals exact⟨_,_,rfl,by rw[←F.out.1,dig_val okq];exact r1,by rw[←F.out.2];exact r3,hbb⟩
    | succ j =>
     rw[show (((j+1:Nat):Int) - 1)=(j:Int) from by omega]
     generalize wr=wo at *
     have hcy:=hcY9.only2 ho hoffQ hoffY
     have cA:=ry.cell (i:=j+k) (by omega)
     have hA:=rat_n (some ⟨g,0,none⟩) cap (lx+2) ys ((j:Int)+(k:Int)) (j+k) ry.2.2 (by omega) wo (by omega) ry.2.1 ry.cells
     have hB:=rat_n (some ⟨g,0,none⟩) cap (lx+2) ys ((j:Int)+(k:Int) - 1) (j+k - 1) ry.2.2 (by omega) wo (by omega) ry.2.1 ry.cells
     obtain⟨a,Ha⟩:∃a,Hid (ys[j+k]?.getD 0=a):=⟨_,hide rfl⟩
     obtain⟨b',Hb⟩:∃a,Hid (ys[j+k - 1]?.getD 0=a):=⟨_,hide rfl⟩
     obtain⟨t',Ht⟩:∃a,Hid (ys[j+k - 2]?.getD 0=a):=⟨_,hide rfl⟩
     have ha:a<4294967296:=by rw[←Ha.out];exact ry.2.1.get _
     have hb:b'<4294967296:=by rw[←Hb.out];exact ry.2.1.get _
     have ht:t'<4294967296:=by rw[←Ht.out];exact ry.2.1.get _
     rw[Ha.out] at hA
     rw[Hb.out] at hB
     obtain⟨by1,oy1,f,hof,gf,Hf⟩:=hcy.get (i:=k - 1) (by rw[HK.out.1];omega)
     obtain⟨by2,oy2,sc,hosc,gsc,Hsc⟩:=hcy.get (i:=k - 2) (by rw[HK.out.1];omega)
     rw[hof] at hosc
     cases hosc
     have hfb:f<4294967296:=by rw[←Hf.out];exact okYD.get _
     have hscb:sc<4294967296:=by rw[←Hsc.out];exact okYD.get _
     have hf0:0<f:=by have:=Hf.out;omega
     have hor:=or_hi a b' ha hb
     subst hof
     obtain⟨H,hH⟩:∃H,a*4294967296+b'=H:=⟨_,rfl⟩
     have hor':bits .or .u64 ((a:Int)*4294967296) (b':Int)=(H:Int):=by rw[hor,←hH];simp
     have hHb:H<18446744073709551616:=by omega
     have HH:=hide hH
     clear hor hH cA
     go_wp2_with fail
     refine hA.mono ?_
     rintro e w1 ⟨rfl,rfl⟩
     go_wp2_with fail
     refine hB.mono ?_
     rintro e w1 ⟨rfl,rfl⟩
     -- the guess's numbers
     have hW3:∃lw,lw<pw (k - 2)∧val (seg ys j (k+1))=(H*4294967296+t')*pw (k - 2)+lw:=by
      have h3:=seg_top3 (xs:=ys) (off:=j) (i:=k - 2) ry.2.1 (by rw[ry.2.2];omega)
      rw[show k - 2+3=k+1 from by omega,show j+(k - 2)+2=j+k from by omega,show j+(k - 2)+1=j+k - 1 from by omega,show j+(k - 2)=j+k - 2 from by omega,Ha.out,Hb.out,Ht.out,HH.out] at h3
      exact h3
     have hV2:∃lv,lv<pw (k - 2)∧val YD=(f*4294967296+sc)*pw (k - 2)+lv:=by
      have h3:=seg_top2 (xs:=YD) (off:=0) (i:=k - 2) okYD (by rw[HK.out.1];omega)
      rw[show k - 2+2=k from by omega,Nat.zero_add,show k - 2+1=k - 1 from by omega,Hf.out,Hsc.out,←HK.out.1,seg_all,HK.out.1] at h3
      exact h3
     obtain⟨lw,hlw,hWe⟩:=hW3
     obtain⟨lv,hlv,hVe⟩:=hV2
     have hWl:=(div_window (yu:=ys) ry.2.1 HV.out.2.2.2 (Nat.le_of_eq ry.2.2.symm) (by omega) HI.out.2).1
     have hV0:0<val YD:=by have:=pw_pos (k - 1);have:=HV.out.2.2.1;omega
     obtain⟨Q,hQ⟩:∃Q,val (seg ys j (k+1))/val YD=Q:=⟨_,rfl⟩
     have G:=hide (ai hlw (ai hWe (ai hlv (ai hVe (ai hWl (ai hV0 hQ))))))
     have hat:∀w',Cells w' (some ⟨g,0,none⟩) ys→Calls Tryz.prog 160 #[.slice (some ⟨g,0,none⟩) (lx+2) cap,.int .i64 ((j:Int)+(k:Int) - 2)] w' fun e w''=>e = .returned (.int .u64 (t':Int))∧w''=w':=fun w' hc'=>by
      have h3:=rat_n (some ⟨g,0,none⟩) cap (lx+2) ys ((j:Int)+(k:Int) - 2) (j+k - 2) ry.2.2 (by omega) w' (by omega) ry.2.1 hc'
      rw[Ht.out] at h3
      exact h3.mono fun _ _ ⟨a,b⟩=>⟨a,b.symm⟩
     clear hlw hWe hlv hVe hWl hV0 hQ hA hB
     go_upto_block 2 with fail
     go_cut [15] (fun s15 wx=>∃q:Nat,s15 = .int .u64 (q:Int)∧q<4294967296∧Hid (Q≤q∧q≤Q+1)∧∀b,Only b wo wx)
     case first =>
      go_wp2_with fail
      go_loopw [15,16] (fun x y wx=>∃q r:Nat,x = .int .u64 (q:Int)∧y = .int .u64 (r:Int)∧q<18446744073709551616∧r<4294967296∧Hid (q*f+r=H∧Q≤q)∧∀b,Only b wo wx) (fun x _ _=>(intOf x).toNat)
      case atStart =>
       have hd1:H/f<18446744073709551616:=Nat.lt_of_le_of_lt (Nat.div_le_self _ _) hHb
       have hd2:H%f<f:=Nat.mod_lt _ hf0
       have e1:IntKind.u64.wrap ((H:Int)/(f:Int))=((H/f:Nat):Int):=by
        rw[←Int.natCast_ediv,IntKind.wrap_u64];generalize H/f=z at *;omega
       have e2:(H:Int)%(f:Int)=((H%f:Nat):Int):=by rw[←Int.natCast_emod]
       rw[e1,e2]
       refine⟨H/f,H%f,rfl,rfl,hd1,by omega,hide ⟨?_,?_⟩,fun b=>Only.refl b _⟩
       ·rw[Nat.mul_comm];exact Nat.div_add_mod H f
       ·obtain⟨g1,g2,g3,g4,g5,g6,g7⟩:=G.out
        rw[←g7]
        exact guess_first (pw_pos (k - 2)) hf0 g2 ht g1 g4
      case round =>
       obtain⟨q,r,rfl,rfl,hq64,hrB,hI,hon⟩:=hrel
       have hcx:=(ry.only (hon w8.heap.size) (by omega)).cells
       obtain⟨g1,g2,g3,g4,g5,g6,g7⟩:=G.out
       have hp0:(q:Int)*(sc:Int)=((q*sc:Nat):Int):=by simp
       have hor2:=or_hi r t' hrB ht
       have gsx:wr.cell? ⟨by1,oy1+(k - 2),none⟩=some (.int .u32 (sc:Int)):=(World.cell?_of_block (w:=wo) ((hon g).block by1 (hoffY _ rfl))).trans gsc
       have gfx:wr.cell? ⟨by1,oy1+(k - 1),none⟩=some (.int .u32 (f:Int)):=(World.cell?_of_block (w:=wo) ((hon g).block by1 (hoffY _ rfl))).trans gf
       have b1:(0:Int)≤(k:Int) - 2:=by omega
       have b2:(k:Int) - 2<(k:Int):=by omega
       have b3:((k:Int) - 2).toNat=k - 2:=by omega
       have b4:(2:Int)≤(k:Int):=by omega
       have hX:Hid (∀q',q'<q→Q≤q'→q'*f+(r+f)=H→4294967296≤r+f→q'<4294967296∧Q≤q'∧q'≤Q+1):=hide (fun q' _ h2 h3 h4=>by
        have h5:=guess_rest g2 g3 g4 hscb g5 h3 h4
        refine⟨h5,h2,?_⟩
        rw[←g7]
        refine guess_close g2 g3 hf0 g4 h3 h5 ?_
        have h6:q'*sc≤4294967295*4294967295:=Nat.mul_le_mul (by omega) (by omega)
        omega)
       by_cases hqB:4294967296≤q
       ·have hmore:Q<q:=by rw[←g7];exact guess_base g6 g5 hqB
        have hI':=hide (guess_less hI.out.1 hmore)
        have h6:((4294967296:Int)≤(q:Int))=True:=by simp;omega
        clear g1 g2 g3 g4 g5 g6 g7 hmore hp0
        by_cases hbr:4294967296≤r+f
        ·have hE:=hX.out (q - 1) (by omega) hI'.out.2 hI'.out.1 hbr
         have h8:((4294967296:Int)≤(r:Int)+(f:Int))=True:=by simp;omega
         have HE:=hide hE
         clear hE
         go_wp2_with fail
         go_quiet (fail)
         go_wp2_with fail
         go_meet
         case rel=>exact⟨q - 1,by go_num,HE.out.1,hide HE.out.2,fun b=>(hon b).drewN _⟩
        ·have h8:((4294967296:Int)≤(r:Int)+(f:Int))=False:=by simp;omega
         go_wp2_with fail
         go_quiet (fail)
         go_wp2_with fail
         go_roundw
         case rel=>exact⟨q - 1,r+f,by go_num,by go_num,by omega,by omega,hI',fun b=>(hon b).drewN _⟩
         case measure=>simp[intOf];omega
       ·have hpb:q*sc<18446744073709551616:=by
         have:=Nat.mul_le_mul (show q≤4294967295 by omega) (show sc≤4294967295 by omega)
         omega
        obtain⟨p,hp⟩:∃p,q*sc=p:=⟨_,rfl⟩
        rw[hp] at hp0 hpb
        have HP:=hide hp
        clear hp
        have h6:((4294967296:Int)≤(q:Int))=False:=by simp;omega
        have h6d:decide ((4294967296:Int)≤(q:Int))=false:=by simp;omega
        by_cases htest:r*4294967296+t'<p
        ·have hmore:Q<q:=by rw[←g7];exact guess_much g6 g2 g1 g4 hI.out.1 (by rw[HP.out];exact htest)
         have hI':=hide (guess_less hI.out.1 hmore)
         have hq1:1≤q:=by omega
         have h7:((r:Int)*4294967296+(t':Int)<(p:Int))=True:=by simp;omega
         have h7d:decide ((r:Int)*4294967296+(t':Int)<(p:Int))=true:=by simp;omega
         clear g1 g2 g3 g4 g5 g6 g7 hmore
         by_cases hbr:4294967296≤r+f
         ·have hE:=hX.out (q - 1) (by omega) hI'.out.2 hI'.out.1 hbr
          have h8:((4294967296:Int)≤(r:Int)+(f:Int))=True:=by simp;omega
          have HE:=hide hE
          clear hE
          go_wp2_with fail
          go_quiet ((go_at_call 160;exact Calls.quiet_of_same (hat _ hcx)))
          go_wp2_with fail
          go_meet
          case rel=>exact⟨q - 1,by go_num,HE.out.1,hide HE.out.2,fun b=>(hon b).drewN _⟩
         ·have h8:((4294967296:Int)≤(r:Int)+(f:Int))=False:=by simp;omega
          go_wp2_with fail
          go_quiet ((go_at_call 160;exact Calls.quiet_of_same (hat _ hcx)))
          go_wp2_with fail
          go_roundw
          case rel=>exact⟨q - 1,r+f,by go_num,by go_num,by omega,by omega,hI',fun b=>(hon b).drewN _⟩
          case measure=>simp[intOf];omega
        ·have h7:((r:Int)*4294967296+(t':Int)<(p:Int))=False:=by simp;omega
         have h7d:decide ((r:Int)*4294967296+(t':Int)<(p:Int))=false:=by simp;omega
         have hcl:q≤Q+1:=by
          rw[←g7]
          exact guess_close g2 g3 hf0 g4 hI.out.1 (by omega) (by rw[HP.out];omega)
         have HCL:=hide hcl
         clear g1 g2 g3 g4 g5 g6 g7 hcl
         go_wp2_with fail
         go_quiet ((go_at_call 160;exact Calls.quiet_of_same (hat _ hcx)))
         go_wp2_with fail
         go_meet
         case rel=>exact⟨q,rfl,by omega,hide ⟨hI.out.2,HCL.out⟩,fun b=>(hon b).drewN _⟩
     case rest =>
      obtain⟨q,rfl,hqb,HQ,hon⟩:=hcut
      have hgq:g≠w8.heap.size:=by omega
      have ry2:Onw wc w5.heap.size g cap (lx+2) ys:=ry.only (hon w8.heap.size) hgq
      have rq2:Row wc w8.heap.size yq:=(hon g).row rq (Ne.symm hgq)
      have hcy2:=hcy.only (hon g) hoffY
      have hoc:Only2 w8.heap.size g w9 wc:=ho.right (hon g)
      have hto:=takeOff_any w5.heap.size g cap k (lx+2) j c2 q ys YD (some ⟨by1,oy1,none⟩) wc ry2 HK.out.1 (by omega) (by omega) okYD hcy2 hoffY hqb
      obtain⟨g1,g2,g3,g4,g5,g6,g7⟩:=G.out
      have G2:=hide (ai g6 g7)
      clear g1 g2 g3 g4 g5 g6 g7 hat
      go_wp2_with fail
      refine hto.mono ?_
      rintro e w11 ⟨c,zs,rfl,rz,ho1,hout,heq⟩
      have hVhi:=HV.out.2.2.2
      have hc1:c≤1:=owed_le (seg_lt rz.2.1 j (k+1) (by rw[rz.2.2];omega)) (guess_mul_lt hqb hVhi) heq
      have rq3:=ho1.row rq2 (Ne.symm hgq)
      have hcy3:=hcy2.only ho1 hoffY
      have hoc3:Only2 w8.heap.size g w9 w11:=hoc.right ho1
      clear hto
      by_cases hc0:c=0
      ·subst hc0
       rw[show decide (0<0)=false from rfl]
       have hfr:=rq3.free j
       have hcl:=rq3.cell (i:=j) (by have:=HQL.out;omega)
       have heq:val (seg zs j (k+1))+q*val YD=val (seg ys j (k+1)):=heq
       have h2:=owed_none G2.out.1 heq (by rw[G2.out.2];exact HQ.out.1)
       have hst:=div_step (yq:=yq) (m:=lx+2 - k) ry2.2.1 hVhi (Nat.le_of_eq ry2.2.2.symm) (by omega) (by rw[rz.2.2,ry2.2.2]) HI.out.2 (by omega) (by have:=HQL.out;omega) hout heq h2.2 HI.out.1
       have HS:=hide hst
       clear hst h2 heq hout
       go_wp2_with fail
       go_roundg j
       case rel =>
        exact⟨yq.set j q,zs,rfl,by omega,rq3.set j hqb,rz.only ((Only.refl w8.heap.size w11).setCell j _) hgq,hoc3.left ((Only.refl w8.heap.size w11).setCell j _),hide (by simpa using HQL.out),HS⟩
       case measure=>omega
      ·have hc2:c=1:=by omega
       subst hc2
       rw[show decide (0<1)=true from rfl]
       have hlt:=owed_one G2.out.1 (seg_lt rz.2.1 j (k+1) (by rw[rz.2.2];omega)) (by rw[←Nat.mul_one (pw (k+1))];exact heq)
       rw[G2.out.2] at hlt
       have hqe:q=Q+1:=by have:=HQ.out.2;omega
       have hq1:1≤q:=by omega
       have hpb:=putBack_any w5.heap.size g cap k (lx+2) j c2 zs YD (some ⟨by1,oy1,none⟩) w11 rz HK.out.1 (by omega) (by omega) okYD hcy3 hoffY
       have HQE:=hide hqe
       have HEQ:=hide heq
       have HOUT:=hide hout
       clear hqe heq hout hlt
       go_wp2_with fail
       refine hpb.mono ?_
       rintro e w12 ⟨c2',zs2,rfl,rz2,ho2,hout2,heq2⟩
       have rq4:=ho2.row rq3 (Ne.symm hgq)
       have hoc4:Only2 w8.heap.size g w9 w12:=hoc3.right ho2
       have hfr:=rq4.free j
       have hcl:=rq4.cell (i:=j) (by have:=HQL.out;omega)
       have h2:=put_fin G2.out.1 (Nat.lt_of_lt_of_le hVhi (pw_mono (by omega))) (seg_lt rz2.2.1 j (k+1) (by rw[rz2.2.2];omega)) HEQ.out heq2 (by rw[G2.out.2];exact HQE.out)
       have hst:=div_step (yq:=yq) (m:=lx+2 - k) ry2.2.1 hVhi (Nat.le_of_eq ry2.2.2.symm) (by omega) (by rw[rz2.2.2,ry2.2.2]) HI.out.2 (by omega) (by have:=HQL.out;omega) (fun i hi=>(hout2 i hi).trans (HOUT.out i hi)) h2.1 h2.2 HI.out.1
       have HS:=hide hst
       have e1:(q:Int) - 1=((q - 1:Nat):Int):=by omega
       have E1:=hide e1
       clear hst h2 heq2 hout2 hpb e1
       go_wp2_with fail
       rw[E1.out]
       go_roundg j
       case rel =>
        exact⟨yq.set j (q - 1),zs2,rfl,by omega,rq4.set j (by omega),rz2.only ((Only.refl w8.heap.size w12).setCell j _) hgq,hoc4.left ((Only.refl w8.heap.size w12).setCell j _),hide (by simpa using HQL.out),HS⟩
       case measure=>omega
end Go.Proofs.YthmolpepinolkaaGreat
