/- zint's reference: Cmp, Same. -/
import Derived.Test.YthmolpepinolkaaGreatY4
namespace Go.Proofs.YthmolpepinolkaaGreat
open Go.RowKit Dig
theorem zlen_add {x y:Int} {l m:Nat} (hx:(dig x.natAbs).length≤l) (hy:(dig y.natAbs).length≤m):(dig (x+y).natAbs).length≤l+m+1:=by
 refine dig_length_le ?_
 have h1:=Nat.lt_of_lt_of_le (lt_pw_dig x.natAbs) (pw_mono (Nat.le_trans hx (Nat.le_add_right l m)))
 have h2:=Nat.lt_of_lt_of_le (lt_pw_dig y.natAbs) (pw_mono (Nat.le_trans hy (Nat.le_add_left m l)))
 have h3:(x+y).natAbs≤x.natAbs+y.natAbs:=Int.natAbs_add_le x y
 simp only[pw];omega
theorem zlen_sub {x y:Int} {l m:Nat} (hx:(dig x.natAbs).length≤l) (hy:(dig y.natAbs).length≤m):(dig (x - y).natAbs).length≤l+m+1:=by
 rw[Int.sub_eq_add_neg]
 exact zlen_add hx (by rw[Int.natAbs_neg];exact hy)
theorem same_rz {w:World} {va vb:Value} {ds:List Nat} (hx:Rd w va ds) (hy:Rd w vb ds) (hl:ds.length≤1000000000) :
  Calls Tryz.prog 140 #[va,vb] w fun e w'=>e = .returned (.bool true)∧Below w.heap.size w w':=by
 obtain⟨oa,ca,rfl,hca,okx,hcx⟩:=hx
 obtain⟨ob,cb,rfl,hcb,oky,hcy⟩:=hy
 refine(same_any oa ob ca cb ds ds w (by omega) (by omega) hcx hcy).mono ?_
 rintro e w1 ⟨rfl,h⟩
 exact⟨by simp,h⟩
set_option maxHeartbeats 1000000 in
set_option maxRecDepth 20000 in
theorem rsame_zz {w:World} {va vb:Value} {z:Int} {l:Nat} (ha:ZC w va z) (hw:ZN w vb z l) (hl:l≤1000000000) :
  Calls Tryz.prog 91 #[va,vb] w fun e w'=>e = .returned (.bool true)∧Below w.heap.size w w':=by
 have hlen:=Nat.le_trans hw.len hl
 obtain⟨sa,rfl,hx⟩:=ha
 have hx':=hx
 obtain⟨oa,ca,rfl,_,_⟩:=hx'
 have hwn:=hw
 obtain⟨nb,ob,cb,ys,rfl,_,_,_,_⟩:=hw.open_
 obtain⟨sb,hsb⟩:∃sb,decide (z<0)=sb:=⟨_,rfl⟩
 obtain⟨n,hn⟩:∃n,(dig z.natAbs).length=n:=⟨_,rfl⟩
 rw[hn] at hx hlen ⊢
 rw[hsb]
 have HSB:=hide (ai hsb hn)
 have HLEN:=hide hlen
 clear hsb hn hlen hw
 have hbq:(sb==sb)=true:=by simp
 go_enter Tryz.func91,Tryz.ntmps91
 have hb:=Below.refl w.heap.size w
 have hp:=Bk.new w sb (.slice oa n ca)
 replace hx:=hx.alloc (.cells #[.bool sb,(.slice oa n ca)] 37)
 replace hwn:=hwn.alloc (.cells #[.bool sb,(.slice oa n ca)] 37)
 replace hb:=hb.alloc hb.size (.cells #[.bool sb,(.slice oa n ca)] 37)
 have hq:=Bk.new (w.alloc (.cells #[.bool sb,(.slice oa n ca)] 37)) nb (.slice ob ys.length cb)
 simp only[Bk.size_alloc] at hq
 replace hx:=hx.alloc (.cells #[.bool nb,(.slice ob ys.length cb)] 37)
 replace hwn:=hwn.alloc (.cells #[.bool nb,(.slice ob ys.length cb)] 37)
 replace hp:=hp.alloc (.cells #[.bool nb,(.slice ob ys.length cb)] 37)
 replace hb:=hb.alloc hb.size (.cells #[.bool nb,(.slice ob ys.length cb)] 37)
 go_wp2_with fail
 refine(rnorm_any hwn hl).mono ?_
 rintro e w_1 ⟨v,rfl,hv,hb_1⟩
 replace hx:=hx.below hb_1 nl
 replace hwn:=hwn.below hb_1 nl
 replace hp:=hp.below hb_1 nl
 replace hq:=hq.below hb_1 nl
 replace hb:=tmm hb hb_1
 clear hb_1
 obtain⟨sv,rfl,hy,_⟩:=hv
 have hy':=hy
 obtain⟨o5,c5,rfl,_,_⟩:=hy'
 rw[HSB.out.2] at hy ⊢
 rw[HSB.out.1]
 have hn':=(Bk.new w_1 sb (.slice o5 n c5)).facts
 replace hx:=hx.alloc (.cells #[.bool sb,.slice o5 n c5] 37)
 replace hwn:=hwn.alloc (.cells #[.bool sb,.slice o5 n c5] 37)
 replace hp:=hp.alloc (.cells #[.bool sb,.slice o5 n c5] 37)
 replace hq:=hq.alloc (.cells #[.bool sb,.slice o5 n c5] 37)
 replace hy:=hy.alloc (.cells #[.bool sb,.slice o5 n c5] 37)
 replace hb:=hb.alloc hb.size (.cells #[.bool sb,.slice o5 n c5] 37)
 have c0:=hp.facts
 go_wp2_with fail
 refine(same_rz hx hy (by rw[HSB.out.2];exact HLEN.out)).mono ?_
 rintro e w_2 ⟨rfl,hb_2⟩
 replace hx:=hx.below hb_2 nl
 replace hwn:=hwn.below hb_2 nl
 replace hp:=hp.below hb_2 nl
 replace hq:=hq.below hb_2 nl
 replace hy:=hy.below hb_2 nl
 replace hb:=tmm hb hb_2
 clear hb_2
 go_wp2
 go_ret
 exact⟨rfl,hb⟩
set_option maxHeartbeats 1000000 in
set_option maxRecDepth 20000 in
theorem ri_any (n:Int) (w:World) (hlo : -9223372036854775808≤n) (hhi:n≤9223372036854775807) :
  Calls Tryz.prog 114 #[.int .i64 n] w fun e w'=>∃v',e = .returned v'∧ZW w' w.heap.size v' n∧Below w.heap.size w w':=by
 have e0:∀lo hi:Nat,val [lo,hi]=lo+4294967296*hi:=fun lo hi=>by simp[val]
 by_cases hn:n<0
 ·obtain⟨u,hu⟩:∃u:Nat,-(n+1)+1=(u:Int)∧n = -(u:Int):=⟨n.natAbs,by omega,by omega⟩
  have hub:u<18446744073709551616:=by omega
  have hlo':(u:Int)%4294967296=((u%4294967296:Nat):Int):=by omega
  have hhi':(u:Int)/4294967296=((u/4294967296:Nat):Int):=by omega
  have hu1:=hu.1
  have HU:=hide (show -((val [u%4294967296,u/4294967296]:Nat):Int)=n by rw[e0];omega)
  have hn0:n<0:=hn
  obtain⟨lo,hlo⟩:∃lo,u%4294967296=lo:=⟨_,rfl⟩
  obtain⟨hi,hhi⟩:∃hi,u/4294967296=hi:=⟨_,rfl⟩
  rw[hlo] at hlo' HU
  rw[hhi] at hhi' HU
  have hlob:lo<4294967296:=by omega
  have hhib:hi<4294967296:=by omega
  clear hu hlo hhi
  go_enter Tryz.func114,Tryz.ntmps114
  have hb:=Below.refl w.heap.size w
  have hz:=Bk.new w false (.slice none 0 0)
  replace hb:=hb.alloc hb.size (.cells #[.bool false,(.slice none 0 0)] 37)
  have a1:=lit2 (w.alloc (.cells #[.bool false,(.slice none 0 0)] 37)) lo hi (by first | decide | omega) (by first | decide | omega)
  simp only[Bk.size_alloc] at a1
  replace hz:=hz.alloc (.cells #[.int .u32 (lo:Int),.int .u32 (hi:Int)] 119)
  replace hb:=hb.alloc hb.size (.cells #[.int .u32 (lo:Int),.int .u32 (hi:Int)] 119)
  go_wp2_with fail
  refine(make_any true n a1 (by simp) (by rw[if_pos rfl];exact HU.out)).mono ?_
  rintro e w_1 ⟨v',rfl,hv,hb_1⟩
  replace hz:=hz.below hb_1 nl
  replace a1:=a1.below hb_1 nl
  replace hb:=tmm hb hb_1
  clear hb_1
  obtain⟨sb,o5,n5,c5,rfl⟩:=hv.open2
  have c9:=hz.facts
  have d:=(hz.store sb (.slice o5 n5 c5)).facts
  go_wp2
  refine bodyPost_ret (v:=.agg #[.bool sb,.slice o5 n5 c5]) (by simp[results,Tryz.results114,go_sem,d.1,d.2.1]) rfl ?_
  exact⟨_,rfl,(hv.only (Bk.only _ _ _ _) (by first | assumption | (simp;done) | omega | (simp;omega))).mono (by first | assumption | (simp;omega) | omega),(hb.setCell (by simp <;> omega) _).setCell (by simp <;> omega) _⟩
 ·obtain⟨u,hu⟩:∃u:Nat,IntKind.u64.wrap n=(u:Int)∧n=(u:Int):=⟨n.natAbs,by rw[IntKind.wrap_u64];omega,by omega⟩
  have hub:u<18446744073709551616:=by omega
  have hlo':(u:Int)%4294967296=((u%4294967296:Nat):Int):=by omega
  have hhi':(u:Int)/4294967296=((u/4294967296:Nat):Int):=by omega
  have hu1:=hu.1
  have HU:=hide (show ((val [u%4294967296,u/4294967296]:Nat):Int)=n by rw[e0];omega)
  have hn0:(n<0)=False:=eq_false hn
  obtain⟨lo,hlo⟩:∃lo,u%4294967296=lo:=⟨_,rfl⟩
  obtain⟨hi,hhi⟩:∃hi,u/4294967296=hi:=⟨_,rfl⟩
  rw[hlo] at hlo' HU
  rw[hhi] at hhi' HU
  have hlob:lo<4294967296:=by omega
  have hhib:hi<4294967296:=by omega
  clear hu hlo hhi
  go_enter Tryz.func114,Tryz.ntmps114
  have hb:=Below.refl w.heap.size w
  have hz:=Bk.new w false (.slice none 0 0)
  replace hb:=hb.alloc hb.size (.cells #[.bool false,(.slice none 0 0)] 37)
  have a1:=lit2 (w.alloc (.cells #[.bool false,(.slice none 0 0)] 37)) lo hi (by first | decide | omega) (by first | decide | omega)
  simp only[Bk.size_alloc] at a1
  replace hz:=hz.alloc (.cells #[.int .u32 (lo:Int),.int .u32 (hi:Int)] 119)
  replace hb:=hb.alloc hb.size (.cells #[.int .u32 (lo:Int),.int .u32 (hi:Int)] 119)
  go_wp2_with fail
  refine(make_any false n a1 (by simp) (by rw[if_neg (by simp)];exact HU.out)).mono ?_
  rintro e w_1 ⟨v',rfl,hv,hb_1⟩
  replace hz:=hz.below hb_1 nl
  replace a1:=a1.below hb_1 nl
  replace hb:=tmm hb hb_1
  clear hb_1
  obtain⟨sb,o5,n5,c5,rfl⟩:=hv.open2
  have c9:=hz.facts
  have d:=(hz.store sb (.slice o5 n5 c5)).facts
  go_wp2
  refine bodyPost_ret (v:=.agg #[.bool sb,.slice o5 n5 c5]) (by simp[results,Tryz.results114,go_sem,d.1,d.2.1]) rfl ?_
  exact⟨_,rfl,(hv.only (Bk.only _ _ _ _) (by first | assumption | (simp;done) | omega | (simp;omega))).mono (by first | assumption | (simp;omega) | omega),(hb.setCell (by simp <;> omega) _).setCell (by simp <;> omega) _⟩
theorem ZC.drew {w:World} {v:Value} {z:Int} (h:ZC w v z):ZC w.drew v z:=h.below ((Below.refl w.heap.size _).drew) nl
theorem zlen_i (n:Int) (hlo : -9223372036854775808≤n) (hhi:n≤9223372036854775807):(dig n.natAbs).length≤2 :=
 dig_length_le (show n.natAbs<pw 2 from Nat.lt_of_lt_of_le (show n.natAbs<18446744073709551616 by omega) (by decide))
def Bx (w:World) (b:Nat):Prop:=∃neg oa n c,Bk w b neg (.slice oa n c)
theorem Bk.bx {w:World} {b:Nat} {neg:Bool} {oa:Option Addr} {n c:Nat} (h:Bk w b neg (.slice oa n c)):Bx w b:=⟨neg,oa,n,c,h⟩
theorem Bx.ne {w:World} {b c off:Nat} {d:Nat} (h:Bx w b) (hc:w.cell? ⟨c,off,none⟩=some (.int .u32 (d:Int))):c≠b:=by
 rintro rfl
 obtain⟨neg,oa,n,k,hb⟩:=h
 unfold Bk at hb
 simp only[World.cell?,hb] at hc
 rcases off with _ | _ | off
 ·simp at hc
 ·simp at hc
 ·simp at hc
theorem Cells.frame {w w':World} {b:Nat} {oa:Option Addr} {ds:List Nat} (h:Cells w oa ds) (hb:Bx w b) (ho:Only b w w'):Cells w' oa ds:=by
 by_cases hne:ds=[]
 ·exact .inl hne
 ·have h2:=h
  obtain⟨c,off,e,hc⟩:=h2.resolve_left hne
  refine h.only ho ?_
  intro a ha
  rw[e] at ha
  cases ha
  exact hb.ne (hc 0 (List.length_pos_iff.2 hne))
theorem Rd.frame {w w':World} {b:Nat} {v:Value} {ds:List Nat} (h:Rd w v ds) (hb:Bx w b) (ho:Only b w w'):Rd w' v ds:=by
 obtain⟨oa,cap,hv,hc,ok,hx⟩:=h
 exact⟨oa,cap,hv,hc,ok,hx.frame hb ho⟩
theorem Row.frame {w w':World} {b c:Nat} {xs:List Nat} (h:Row w c xs) (hb:Bx w b) (ho:Only b w w'):Row w' c xs:=by
 refine ho.row h ?_
 rintro rfl
 obtain⟨neg,oa,n,k,hb⟩:=hb
 unfold Bk at hb
 rw[h.1] at hb
 simp only[Option.some.injEq,Obj.cells.injEq] at hb
 have h3:=hb.2.1
 revert h3
 decide
theorem Own.frame {w w':World} {B b:Nat} {v:Value} {ds:List Nat} (h:Own w B v ds) (hb:Bx w b) (ho:Only b w w'):Own w' B v ds:=by
 obtain⟨oa,cap,hv,hc,h0 | ⟨c,off,xs,hoa,hB',hr,hx,hd⟩⟩:=h
 ·exact⟨oa,cap,hv,hc,.inl h0⟩
 ·exact⟨oa,cap,hv,hc,.inr ⟨c,off,xs,hoa,hB',hr.frame hb ho,hx,hd⟩⟩
theorem ZN.frame {w w':World} {b:Nat} {v:Value} {z:Int} {l:Nat} (h:ZN w v z l) (hb:Bx w b) (ho:Only b w w'):ZN w' v z l:=by
 obtain⟨neg,s,xs,hv,hr,hz,hl⟩:=h
 exact⟨neg,s,xs,hv,hr.frame hb ho,hz,hl⟩
theorem ZC.frame {w w':World} {b:Nat} {v:Value} {z:Int} (h:ZC w v z) (hb:Bx w b) (ho:Only b w w'):ZC w' v z:=by
 obtain⟨s,hv,hr⟩:=h
 exact⟨s,hv,hr.frame hb ho⟩
theorem ZO.frame {w w':World} {B b:Nat} {v:Value} {z:Int} (h:ZO w B v z) (hb:Bx w b) (ho:Only b w w'):ZO w' B v z:=by
 obtain⟨s,hv,hr⟩:=h
 exact⟨s,hv,hr.frame hb ho⟩
theorem ZC.open2 {w:World} {v:Value} {z:Int} (h:ZC w v z):∃sb oa n cap,v = .agg #[.bool sb,.slice oa n cap]:=by
 obtain⟨s,rfl,oa,cap,rfl,_⟩:=h
 exact⟨_,oa,_,cap,rfl⟩
theorem ZN.open2 {w:World} {v:Value} {z:Int} {l:Nat} (h:ZN w v z l):∃sb oa n cap,v = .agg #[.bool sb,.slice oa n cap]:=by
 obtain⟨neg,s,xs,rfl,⟨oa,cap,rfl,_⟩,_⟩:=h
 exact⟨_,oa,_,cap,rfl⟩
def obZ:Obj:=.cells #[.bool false,.slice none 0 0] 37
theorem run_alloc_z {ρ:Operand→Value} {dst:Option Tmp} {ty:TypeId} {pos:String} {after:Array Edge} (w:World) :
  (execOp ρ { dst,op:=.alloc 37,type:=ty,pos,after,guard:=none }).run Tryz.prog w = .ok (.value (ptr w.heap.size)) (w.alloc obZ):=by
 unfold obZ ptr
 simp[go_sem]
theorem obZ_bk {w:World} {p:Nat} (h:w.heap[p]? = some obZ):Bk w p false (.slice none 0 0):=h
def dg (ds:List Nat) (k:Int):Nat:=if k<0 then 0 else ds[k.toNat]?.getD 0
theorem dg_nat (ds:List Nat) (k:Nat):dg ds (k:Int)=ds[k]?.getD 0:=by
 unfold dg;rw[if_neg (by omega),Int.toNat_natCast]
theorem dg_neg (ds:List Nat) (k:Int) (h:k<0):dg ds k=0:=by unfold dg;rw[if_pos h]
theorem dg_lt {ds:List Nat} (ok:OK ds) (k:Int):dg ds k<4294967296:=by
 unfold dg;split
 ·decide
 ·exact ok.get _
theorem digitOr0_any (oa:Option Addr) (n ca:Nat) (ds:List Nat) (k:Int) (w:World) (e:ds.length=n) (hl:n≤100000000000) (ok:OK ds) (hx:Cells w oa ds) (hk:k<n) :
  Calls Tryz.prog 184 #[.slice oa n ca,.int .i64 k] w fun e w'=>e = .returned (.int .u64 (dg ds k:Nat))∧w=w':=by
 subst e
 by_cases h0:k<0
 ·rw[dg_neg ds k h0]
  go_enter Tryz.func184,Tryz.ntmps184
  go_wp2
  go_ret
  exact⟨rfl,rfl⟩
 ·obtain⟨j,rfl⟩:∃j:Nat,k=j:=⟨k.toNat,by omega⟩
  obtain⟨b,off,x,ho,gu,Hx⟩:=hx.get (i:=j) (by omega)
  subst ho
  have hxb:x<4294967296:=by have:=ok.get j;rw[Hx.out] at this;exact this
  rw[dg_nat,Hx.out]
  go_enter Tryz.func184,Tryz.ntmps184
  go_wp2
  go_ret
  exact⟨rfl,rfl⟩
def sdg (ds:List Nat) (k:Int) (s:Nat):Nat:=(dg ds k*4294967296+dg ds (k - 1))*2 ^ s%18446744073709551616/4294967296
theorem shiftedDigit_any (oa:Option Addr) (n ca:Nat) (ds:List Nat) (k:Int) (s:Nat) (w:World) (e:ds.length=n) (hl:n≤100000000000) (ok:OK ds) (hx:Cells w oa ds) (hk:k<n) (hlo : -4≤k) (hs:s<32) :
  Calls Tryz.prog 183 #[.slice oa n ca,.int .i64 k,.int .i64 (s:Int)] w fun e w'=>e = .returned (.int .u64 (sdg ds k s:Nat))∧w=w':=by
 obtain⟨x,Hx⟩:∃x,Hid (dg ds k=x):=⟨_,hide rfl⟩
 obtain⟨y,Hy⟩:∃y,Hid (dg ds (k - 1)=y):=⟨_,hide rfl⟩
 obtain⟨r,Hr⟩:∃r,Hid (sdg ds k s=r):=⟨_,hide rfl⟩
 have hx1:x<4294967296:=by rw[←Hx.out];exact dg_lt ok k
 have hy1:y<4294967296:=by rw[←Hy.out];exact dg_lt ok (k - 1)
 have hor:=or_hi x y hx1 hy1
 rw[Hr.out]
 go_enter Tryz.func183,Tryz.ntmps183
 go_wp2_with fail
 refine(digitOr0_any oa n ca ds k w e hl ok hx hk).mono ?_
 rintro e1 w1 ⟨rfl,rfl⟩
 rw[Hx.out]
 go_wp2_with fail
 refine(digitOr0_any oa n ca ds (k - 1) w e hl ok hx (by omega)).mono ?_
 rintro e1 w1 ⟨rfl,rfl⟩
 rw[Hy.out]
 go_wp2_with fail
 have hfin:IntKind.u64.wrap (((x:Int)*4294967296+(y:Int))*2 ^ s)/4294967296=(r:Int):=by
  have e1:=Hr.out
  unfold sdg at e1
  rw[Hx.out,Hy.out] at e1
  rw[IntKind.wrap_u64,←e1]
  have e2:((x:Int)*4294967296+(y:Int))*2 ^ s=(((x*4294967296+y)*2 ^ s:Nat):Int):=by simp
  rw[e2]
  generalize (x*4294967296+y)*2 ^ s=z
  omega
 rw[hfin]
 go_ret
 exact⟨rfl,rfl⟩
end Go.Proofs.YthmolpepinolkaaGreat
