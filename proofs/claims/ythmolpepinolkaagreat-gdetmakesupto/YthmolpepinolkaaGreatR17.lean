/- The reference's Gcd. -/
import Derived.Test.YthmolpepinolkaaGreatR16
import Derived.Deep.LoopGhost
namespace Go.Proofs.YthmolpepinolkaaGreat
open Go.RowKit Dig
theorem rdivMod_rd' {w:World} {va vb:Value} {xs ys:List Nat} (hx:Rd w va xs) (hy:Rd w vb ys) (h0:val ys≠0) (hxl:xs.length≤1000000000) (hyl:ys.length≤1000000000) :
  Calls Tryz.prog 172 #[va,vb] w fun e w'=>∃v1 v2,e = .returned (.tuple #[v1,v2])∧Rd w' v1 (dig (val xs/val ys))∧Rd w' v2 (dig (val xs%val ys))∧Below w.heap.size w w':=by
 obtain⟨oa,ca,rfl,hca,okx,hcx⟩:=hx
 obtain⟨ob,cb,rfl,hcb,oky,hcy⟩:=hy
 exact rdivMod_any oa ob ca cb xs ys w hxl hyl hca hcb okx oky hcx hcy h0
set_option maxHeartbeats 800000 in
set_option maxRecDepth 20000 in
theorem rgcd_rd {w:World} {va vb:Value} {xs ys:List Nat} (hx:Rd w va xs) (hy:Rd w vb ys) (hxl:xs.length≤100000000) (hyl:ys.length≤100000000) :
  Calls Tryz.prog 171 #[va,vb] w fun e w'=>∃v,e = .returned v∧Rd w' v (dig (Nat.gcd (val xs) (val ys)))∧Below w.heap.size w w':=by
 have sx:=strip_length_le xs
 have sy:=strip_length_le ys
 have dx:=dig_val hx.ok
 have dy:=dig_val hy.ok
 have okx:=hx.ok
 have oky:=hy.ok
 generalize val xs=m at *
 generalize val ys=n at *
 have HX:=hide dx
 have HY:=hide dy
 clear dx dy
 go_enter Tryz.func171,Tryz.ntmps171
 have hb:=Below.refl w.heap.size w
 go_wp2_with fail
 refine(rtrim_rd hx (by omega)).mono ?_
 rintro e w_1 ⟨v1,rfl,h1,hb_1⟩
 replace hx:=hx.below hb_1 nl
 replace hy:=hy.below hb_1 nl
 replace hb:=tmm hb hb_1
 clear hb_1
 go_wp2_with fail
 refine(rtrim_rd hy (by omega)).mono ?_
 rintro e w_2 ⟨v2,rfl,h2,hb_2⟩
 replace hx:=hx.below hb_2 nl
 replace hy:=hy.below hb_2 nl
 replace h1:=h1.below hb_2 nl
 replace hb:=tmm hb hb_2
 clear hb_2
 rw[←HX.out] at h1 sx
 rw[←HY.out] at h2 sy
 have hl:∀k,k≤n→(dig k).length≤100000000:=fun k hk=>Nat.le_trans (dig_length_mono hk) (by omega)
 have HL:=hide hl
 clear hl hx hy HX HY
 go_wp2_with fail
 go_loopg [5,6] n (fun k s5 s6 wr=>∃u:Nat,Rd wr s5 (dig u)∧Rd wr s6 (dig k)∧k≤n∧Hid ((dig u).length≤100000000)∧Hid (Nat.gcd u k=Nat.gcd m n)∧Below w.heap.size w wr)
 case atStart=>exact⟨m,h1,h2,Nat.le_refl _,hide (by omega),hide rfl,hb⟩
 case round =>
  clear h1 h2 hb
  obtain⟨u,hu,hk,hkn,HU,HG,hb⟩:=hrel
  have hkl:=HL.out gk hkn
  by_cases h0:gk=0
  ·subst h0
   rw[dig_zero] at hk
   obtain⟨o2,c2,rfl,_,_,_⟩:=hk
   go_wp2_with fail
   go_ret
   refine⟨_,rfl,?_,hb⟩
   rw[←HG.out,Nat.gcd_zero_right]
   exact hu
  ·have hlen:0<(dig gk).length:=List.length_pos_iff.2 (fun e=>h0 (dig_eq_nil.1 e))
   have hdm:=rdivMod_rd' hu hk (by rw[val_dig];exact h0) (by have:=HU.out;omega) (by omega)
   rw[val_dig,val_dig] at hdm
   have hr:u%gk<gk:=Nat.mod_lt _ (by omega)
   have HR:=hide hr
   have hk2:=hk
   obtain⟨o2,c2,rfl,_,_,_⟩:=hk
   clear hr
   clear hkl
   generalize (dig gk).length=lk at *
   go_wp2_with fail
   refine hdm.mono ?_
   rintro e w3 ⟨vq,vr,rfl,_,hr3,hb3⟩
   replace hk2:=hk2.below hb3 nl
   clear hdm
   go_wp2_with fail
   go_roundg (u%gk)
   case rel =>
    refine⟨gk,hk2,hr3,by have:=HR.out;omega,hide (HL.out gk hkn),hide ?_,tmm hb hb3⟩
    rw[←HG.out,Nat.gcd_comm u gk,Nat.gcd_rec gk u,Nat.gcd_comm]
   case measure=>exact HR.out
end Go.Proofs.YthmolpepinolkaaGreat
