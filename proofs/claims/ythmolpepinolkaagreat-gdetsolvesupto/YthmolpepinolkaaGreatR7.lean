/- The reference's Shl and Shr answer the canonical digits of a number shifted. -/
import Derived.Test.YthmolpepinolkaaGreatMx
namespace Go.Proofs.YthmolpepinolkaaGreat
open Go.RowKit Dig
def sd (p a b:Nat):Nat:=(a*4294967296+b)/p%4294967296
def pairG (f:Nat→Nat→Nat):List Nat→List Nat
 | []=>[]
 | z::Z=>f (Z[0]?.getD 0) z::pairG f Z
theorem pairG_length (f:Nat→Nat→Nat) (Z:List Nat):(pairG f Z).length=Z.length:=by
 induction Z with
 | nil=>rfl
 | cons z Z ih=>simp[pairG,ih]
theorem pairG_get (f:Nat→Nat→Nat) (Z:List Nat) (j:Nat) (h:j<Z.length):(pairG f Z)[j]?.getD 0=f (Z[j+1]?.getD 0) (Z[j]?.getD 0):=by
 induction Z generalizing j with
 | nil=>simp at h
 | cons z Z ih =>
  cases j with
  | zero=>simp[pairG]
  | succ j=>simpa [pairG] using ih j (by simpa using h)
def shrL (p:Nat) (Z:List Nat):List Nat:=pairG (sd p) Z
theorem shrL_length (p:Nat) (Z:List Nat):(shrL p Z).length=Z.length:=pairG_length _ _
theorem shrL_get (p:Nat) (Z:List Nat) (j:Nat) (h:j<Z.length):(shrL p Z)[j]?.getD 0=sd p (Z[j+1]?.getD 0) (Z[j]?.getD 0):=pairG_get _ _ _ h
theorem shrL_cons (p z:Nat) (Z:List Nat):shrL p (z::Z)=sd p (Z[0]?.getD 0) z::shrL p Z:=rfl
theorem val_shrL {p p':Nat} (hp:0<p) (hB:p*p'=4294967296) {Z:List Nat} (ok:OK Z):val (shrL p Z)=val Z/p:=by
 induction Z with
 | nil=>simp[shrL,pairG,val]
 | cons z Z ih =>
  have h0:=ok.tail.get 0
  have hm:Z[0]?.getD 0%p=val Z%p:=by
   cases Z with
   | nil=>simp[val]
   | cons y Z =>
    have e:val (y::Z)=y+p*(p'*val Z):=by simp only[val];rw[←hB,Nat.mul_assoc]
    rw[e,Nat.add_mul_mod_self_left];simp
  have:=shr_step (A:=Z[0]?.getD 0) (V:=val Z) (x:=z) hp hB ok.head hm rfl
  rw[Nat.mod_eq_of_lt h0] at this
  have e:sd p (Z[0]?.getD 0) z=(Z[0]?.getD 0*4294967296+z)/p%4294967296:=rfl
  rw[shrL_cons]
  simp only[val]
  rw[ih ok.tail,e,this.1]
theorem rat_i (oa:Option Addr) (ca:Nat) (xs:List Nat) (i:Int) (j:Nat) (e:i=(j:Int)) (w:World) (hl:xs.length≤10000000000000) (ok:OK xs) (hx:Cells w oa xs) :
  Calls Tryz.prog 160 #[.slice oa xs.length ca,.int .i64 i] w fun e w'=>e = .returned (.int .u64 (xs[j]?.getD 0:Nat))∧w=w':=by
 subst e;exact rat_any oa ca xs j w hl ok hx
theorem or_mid (x0 x1 t:Nat) (h0:x0<4294967296) (h1:x1<4294967296) (ht:x1*4294967296+x0=t):bits .or .u64 (x0:Int) ((x1:Int)*4294967296)=(t:Int):=by
 have h:=u64_or_nat x0 (x1*4294967296) (by omega) (by omega)
 have e:x0 ||| x1*4294967296=x1*4294967296+x0:=by
  have:=Nat.shiftLeft_add_eq_or_of_lt (b:=x0) (i:=32) (by omega) x1
  rw[Nat.shiftLeft_eq] at this
  rw[Nat.or_comm];exact this.symm
 rw[e,ht] at h
 rw[←h];simp
set_option maxHeartbeats 1000000 in
set_option maxRecDepth 20000 in
theorem rshr_any (oa:Option Addr) (ca N:Nat) (X:List Nat) (w:World) (hl:X.length≤100000000000) (ok:OK X) (hx:Cells w oa X) (hN:N≤9223372036854775807) :
  Calls Tryz.prog 182 #[.slice oa X.length ca,.int .i64 (N:Int)] w fun e w'=>∃v,e = .returned v∧Rd w' v (dig (val X/2 ^ N))∧Below w.heap.size w w':=by
 obtain⟨k,s,hks,hs⟩:∃k s,N=32*k+s∧s<32:=⟨N/32,N%32,by omega,by omega⟩
 have hq:(N:Int)/32=(k:Int):=by omega
 have hm:(N:Int)%32=(s:Int):=by omega
 obtain⟨r,Hr⟩:∃r,Hid (dig (val X/2 ^ N)=r):=⟨_,rfl⟩
 rw[Hr.out]
 have HK:=hide hks
 have hkb:k≤300000000000000000:=by omega
 clear hks
 by_cases hk:k<X.length
 ·have hmk:=mk_run' ((X.length:Int) - (k:Int)) (X.length - k) (by omega) (by omega) w
  have hr0:=Row.new w (List.replicate (X.length - k) 0) (OK.replicate _ (by decide))
  have hb0:Below w.heap.size w (w.alloc (.cells (cs (List.replicate (X.length - k) 0)) 119)):=(Below.refl _ _).alloc nl _
  obtain⟨Z,hZ⟩:∃Z,X.drop k=Z:=⟨_,rfl⟩
  have hZl:Z.length=X.length - k:=by rw[←hZ,List.length_drop]
  have okZ:OK Z:=by rw[←hZ];exact ok.drop k
  have hZg:∀j,X[k+j]?.getD 0=Z[j]?.getD 0:=fun j=>by rw[←hZ,List.getElem?_drop]
  have hpp:2 ^ s*2 ^ (32 - s)=4294967296:=by rw[←Nat.pow_add,show s+(32 - s)=32 by omega]
  have hvd:dig (val (shrL (2 ^ s) Z))=r:=by
   rw[val_shrL (Nat.pow_pos (by decide)) hpp okZ,←Hr.out,HK.out]
   have h1:=val_split X k (by omega)
   have h2:val (X.take k)<pw k:=by
    have:=val_lt (ok.take k)
    rw[List.length_take,Nat.min_eq_left (by omega)] at this;exact this
   rw[Nat.pow_add,←pw_eq,←Nat.div_div_eq_div_mul,h1,Nat.add_mul_div_left _ _ (pw_pos k),Nat.div_eq_of_lt h2,Nat.zero_add,hZ]
  have HVD:=hide hvd
  have HZL:=hide hZl
  have HZG:=hide hZg
  have hdk:decide (X.length≤k)=false:=by simpa using hk
  clear hvd hZl hZg hZ hpp
  go_enter Tryz.func182,Tryz.ntmps182
  go_wp2_with fail
  go_loopw [7] (fun i wr=>∃(j:Nat) (ys:List Nat),j≤X.length - k∧i = .int .i64 ((k:Int)+(j:Int))∧Row wr w.heap.size ys∧Below w.heap.size w wr∧ys.length=X.length - k∧(∀t,t<j→ys[t]?.getD 0=(shrL (2 ^ s) Z)[t]?.getD 0)) (fun i _=>X.length - (intOf i).toNat)
  case atStart=>exact⟨0,_,Nat.zero_le _,by go_num,hr0,hb0,by simp,fun _ h=>by omega⟩
  case round =>
   obtain⟨j,ys,hj,rfl,hr,hb,hyl,hall⟩:=hrel
   have Hall:=hide hall
   have Hyl:=hide hyl
   clear hall
   by_cases hlt:j<X.length - k
   ·have gu:=hr.cell (i:=j) (by omega)
    have gf:=hr.free j
    obtain⟨z,Hz⟩:∃z,Hid (Z[j]?.getD 0=z):=⟨_,rfl⟩
    obtain⟨y,Hy⟩:∃y,Hid (Z[j+1]?.getD 0=y):=⟨_,rfl⟩
    have hzb:z<4294967296:=by have:=okZ.get j;rw[Hz.out] at this;exact this
    have hyb:y<4294967296:=by have:=okZ.get (j+1);rw[Hy.out] at this;exact this
    obtain⟨t,ht⟩:∃t,y*4294967296+z=t:=⟨_,rfl⟩
    have hor:=or_mid z y t hzb hyb ht
    have htb:t<18446744073709551616:=by omega
    have hdig:t/2 ^ s%4294967296=(shrL (2 ^ s) Z)[j]?.getD 0:=by rw[shrL_get _ _ _ (by have:=HZL.out;omega),Hz.out,Hy.out,sd,ht]
    have HD:=hide hdig
    have e2:(t:Int)/2 ^ s%4294967296=((t/2 ^ s%4294967296:Nat):Int):=by simp
    have E2:=hide e2
    have hkj:k+j<X.length:=by omega
    clear hdig e2 hyl ht
    go_wp2_with fail
    refine(rat_i oa ca X _ (k+j) (by omega) _ (by omega) ok (hx.below hb nl)).mono ?_
    rintro e w' ⟨rfl,rfl⟩
    rw[HZG.out,Hz.out]
    go_wp2_with fail
    refine(rat_i oa ca X _ (k+(j+1)) (by omega) _ (by omega) ok (hx.below hb nl)).mono ?_
    rintro e w' ⟨rfl,rfl⟩
    rw[HZG.out,Hy.out]
    go_wp2_with fail
    rw[E2.out]
    go_roundw
    case rel =>
     exact⟨j+1,ys.set j (t/2 ^ s%4294967296),by omega,by go_num,hr.set _ (Nat.mod_lt _ (by decide)),hb.setCell nl _,by simpa using Hyl.out,
      fun i hi=>by
       rcases Nat.eq_or_lt_of_le (Nat.le_of_lt_succ hi) with h | h
       ·subst h;rw[getD_set_same (by have:=Hyl.out;omega)];exact HD.out
       ·rw[getD_set_other (by omega)];exact Hall.out i h⟩
    case measure=>simp[intOf];omega
   ·obtain rfl:j=X.length - k:=by omega
    have hys:ys=shrL (2 ^ s) Z:=by
     apply List.ext_getElem?
     intro i
     have h1:=HZL.out
     have h2:=shrL_length (2 ^ s) Z
     by_cases hi:i<X.length - k
     ·have:=Hall.out i hi
      rw[List.getElem?_eq_getElem (by omega),List.getElem?_eq_getElem (by omega:i<(shrL (2 ^ s) Z).length)] at this ⊢
      simpa using this
     ·rw[List.getElem?_eq_none (by omega),List.getElem?_eq_none (by omega)]
    have hfin:strip ys=r:=by rw[←dig_val hr.2,hys];exact HVD.out
    have HF:=hide hfin
    clear hys hfin
    go_wp2_with fail
    refine(rtrim_n _ _ _ ys wr hyl (by omega) nl hr.2 hr.cells).mono ?_
    rintro e w2 ⟨v,rfl,hrd,hb2⟩
    rw[HF.out] at hrd
    go_wp2
    go_ret
    exact⟨v,rfl,hrd,tmm hb hb2⟩
 ·have hz:r=[]:=by
   rw[←Hr.out]
   have:val X/2 ^ N=0:=by
    refine Nat.div_eq_of_lt ?_
    have h1:=val_lt ok
    rw[pw_eq] at h1
    exact Nat.lt_of_lt_of_le h1 (Nat.pow_le_pow_right (by decide) (by have:=HK.out;omega))
   rw[this];rfl
  have HZ:=hide hz
  clear hz
  go_enter Tryz.func182,Tryz.ntmps182
  go_wp2
  go_ret
  exact⟨_,rfl,by rw[HZ.out];exact⟨none,0,rfl,Nat.le_refl _,OK.nil,.inl rfl⟩,Below.refl _ _⟩
end Go.Proofs.YthmolpepinolkaaGreat
