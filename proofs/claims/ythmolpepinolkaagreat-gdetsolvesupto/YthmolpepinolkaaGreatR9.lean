/- The reference's short answers quotient and rest by one digit. -/
import Derived.Test.YthmolpepinolkaaGreatZ5ToY1
namespace Go.Proofs.YthmolpepinolkaaGreat
open Go.RowKit Dig
theorem val_drop_cons {xs:List Nat} {j:Nat} (h:j<xs.length):val (xs.drop j)=xs[j]?.getD 0+4294967296*val (xs.drop (j+1)):=by
 rw[List.drop_eq_getElem_cons h,List.getElem?_eq_getElem h];rfl
theorem rshort_step {us ys:List Nat} {j r q r' y M:Nat} (hj:j<us.length) (hl:ys.length=us.length) (hy:us[j]?.getD 0=y)
  (heq:val (us.drop (j+1))=val (ys.drop (j+1))*M+r) (hq:r*4294967296+y=q*M+r') :
  val (us.drop j)=val ((ys.set j q).drop j)*M+r':=by
 rw[val_drop_cons hj,val_drop_cons (xs:=ys.set j q) (by simpa using by omega),getD_set_same (by omega),hy,heq]
 have e:(ys.set j q).drop (j+1)=ys.drop (j+1):=by rw[List.drop_set_of_lt (by omega)]
 rw[e,Nat.add_mul,Nat.mul_assoc,Nat.mul_add]
 omega
theorem rtrim_new_n (oa:Option Addr) (n cap:Nat) (ds:List Nat) (w:World) (e:ds.length=n) (hl:n≤10000000000000) (hc:n≤cap) (ok:OK ds) (hcell:Cells w oa ds) :
  Calls Tryz.prog 133 #[.slice oa n cap] w fun e w'=>∃v,e = .returned v∧Rd w' v (strip ds)∧NewAt w.heap.size v∧Below w.heap.size w w':=by
 subst e;exact rtrim_new oa cap ds w hl hc ok hcell
set_option maxHeartbeats 1000000 in
set_option maxRecDepth 20000 in
theorem rshort_any (oa:Option Addr) (ca M:Nat) (X:List Nat) (w:World) (hl:X.length≤100000000000) (_hc:X.length≤ca) (ok:OK X) (hx:Cells w oa X) (hM:0<M) (hM2:M<4294967296) :
  Calls Tryz.prog 177 #[.slice oa X.length ca,.int .u32 (M:Int)] w fun e w'=>∃v,e = .returned (.tuple #[v,.int .u32 ((val X%M:Nat):Int)])∧Rd w' v (dig (val X/M))∧NewAt w.heap.size v∧Below w.heap.size w w':=by
 obtain⟨q0,Hq0⟩:∃r,Hid (dig (val X/M)=r):=⟨_,rfl⟩
 obtain⟨r0,Hr0⟩:∃r,Hid (val X%M=r):=⟨_,rfl⟩
 rw[Hq0.out,Hr0.out]
 have hmk:=mk_run' (X.length:Int) X.length rfl (by omega) w
 have hr0:=Row.new w (List.replicate X.length 0) (OK.replicate _ (by decide))
 have hb0:Below w.heap.size w (w.alloc (.cells (cs (List.replicate X.length 0)) 119)):=(Below.refl _ _).alloc nl _
 go_enter Tryz.func177,Tryz.ntmps177
 go_wp2_with fail
 go_loopw [7,8] (fun c i wr=>∃(k r:Nat) (ys:List Nat),k≤X.length∧c = .int .u64 (r:Int)∧i = .int .i64 ((k:Int) - 1)∧r<M∧Row wr w.heap.size ys∧Below w.heap.size w wr∧ys.length=X.length ∧
   val (X.drop k)=val (ys.drop k)*M+r) (fun _ i _=>(intOf i+1).toNat)
 case atStart=>exact⟨X.length,0,_,Nat.le_refl _,rfl,rfl,hM,hr0,hb0,by simp,by simp[val]⟩
 case round =>
  obtain⟨k,r,ys,hk,rfl,rfl,hrb,hr,hb,hyl,heq⟩:=hrel
  have Heq:=hide heq
  have Hyl:=hide hyl
  clear heq
  by_cases hk0:0<k
  ·obtain⟨j,rfl⟩:∃j,k=j+1:=⟨k - 1,by omega⟩
   obtain⟨b,off,y,ho,gu,Hy⟩:=(hx.below hb nl).get (i:=j) (by omega)
   subst ho
   have gy:=hr.cell (i:=j) (by omega)
   have gw:=hr.free j
   have hyb:y<4294967296:=by have:=ok.get j;rw[Hy.out] at this;exact this
   have hor:=or_hi r y (by omega) hyb
   have hs:=rshort_step (M:=M) (q:=(r*4294967296+y)/M) (r':=(r*4294967296+y)%M) hk hyl Hy.out Heq.out (by rw[Nat.mul_comm _ M];exact(Nat.div_add_mod _ _).symm)
   have HS:=hide hs
   have hq:((r:Int)*4294967296+(y:Int))/(M:Int)=(((r*4294967296+y)/M:Nat):Int):=by simp
   have hm:((r:Int)*4294967296+(y:Int))%(M:Int)=(((r*4294967296+y)%M:Nat):Int):=by simp
   have hqb:(r*4294967296+y)/M<4294967296:=by
    rw[Nat.div_lt_iff_lt_mul hM]
    have:(r+1)*4294967296≤M*4294967296:=Nat.mul_le_mul_right _ hrb
    rw[Nat.mul_comm 4294967296 M];omega
   have hmb:(r*4294967296+y)%M<M:=Nat.mod_lt _ hM
   have HQ:=hide hq
   have HM:=hide hm
   clear hs hyl hq hm
   rw[show ((j+1:Nat):Int) - 1=(j:Int) from by omega]
   go_wp2_with fail
   have e3:(((r*4294967296+y)/M:Nat):Int)%4294967296=(((r*4294967296+y)/M:Nat):Int):=by
    generalize (r*4294967296+y)/M=q at hqb ⊢
    omega
   rw[HQ.out,HM.out,e3]
   go_roundw
   case rel =>
    exact⟨j,_,ys.set j ((r*4294967296+y)/M),by omega,rfl,by go_num,hmb,hr.set _ hqb,hb.setCell nl _,by simpa using Hyl.out,HS.out⟩
   case measure=>simp[intOf]
  ·obtain rfl:k=0:=by omega
   have hv:val X=val ys*M+r:=by simpa using Heq.out
   have hd1:dig (val X/M)=strip ys:=by
    rw[hv,Nat.mul_comm,Nat.mul_add_div hM,Nat.div_eq_of_lt hrb,Nat.add_zero]
    exact dig_val hr.2
   have hd2:r0=r:=by
    rw[←Hr0.out,hv,Nat.mul_comm,Nat.mul_add_mod,Nat.mod_eq_of_lt hrb]
   rw[Hq0.out] at hd1
   have HD:=hide hd1
   subst hd2
   clear hv hd1
   go_wp2_with fail
   refine(rtrim_new_n _ _ _ ys wr hyl (by omega) nl hr.2 hr.cells).mono ?_
   rintro e w2 ⟨v,rfl,hrd,hnw,hb2⟩
   rw[←HD.out] at hrd
   go_wp2
   go_ret2
   refine⟨v,?_,hrd,hnw.mono hb.size,tmm hb hb2⟩
   have e3:((r0:Nat):Int)%4294967296=(r0:Int):=by omega
   first
   | rfl
   | rw[e3]
end Go.Proofs.YthmolpepinolkaaGreat
