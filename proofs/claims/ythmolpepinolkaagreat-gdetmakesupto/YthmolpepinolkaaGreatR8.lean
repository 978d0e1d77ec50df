/- The reference's Shl answers the canonical digits of a number shifted up. -/
import Derived.Test.YthmolpepinolkaaGreatR7
namespace Go.Proofs.YthmolpepinolkaaGreat
open Go.RowKit Dig
theorem shl_mod (d s:Nat) (hs:s<32):d*2 ^ s%4294967296=d%2 ^ (32 - s)*2 ^ s:=by
 have e:4294967296=2 ^ (32 - s)*2 ^ s:=by rw[←Nat.pow_add,show 32 - s+s=32 by omega]
 rw[e,Nat.mul_mod_mul_right]
theorem or32 (c d s T:Nat) (hs:s<32) (hc:c<2 ^ s) (hT:d*2 ^ s=T):bits .or .u32 (c:Int) ((T:Int)%4294967296)=((c+T%4294967296:Nat):Int)∧c+T%4294967296<4294967296:=by
 have hm:T%4294967296=d%2 ^ (32 - s)*2 ^ s:=by rw[←hT];exact shl_mod d s hs
 have h31:2 ^ s≤2 ^ 31:=Nat.pow_le_pow_right (by decide) (by omega)
 have h:=u32_or_nat c (T%4294967296) (by omega) (by omega)
 have e:c ||| T%4294967296=c+T%4294967296:=by
  rw[hm]
  have:=Nat.shiftLeft_add_eq_or_of_lt hc (d%2 ^ (32 - s))
  rw[Nat.shiftLeft_eq] at this
  rw[Nat.or_comm,←this,Nat.add_comm]
 refine⟨?_,?_⟩
 ·rw[e] at h;rw[←h];simp
 ·have hlt:d%2 ^ (32 - s)<2 ^ (32 - s):=Nat.mod_lt _ (Nat.pow_pos (by decide))
  have e2:2 ^ (32 - s)*2 ^ s=4294967296:=by rw[←Nat.pow_add,show 32 - s+s=32 by omega]
  have:(d%2 ^ (32 - s)+1)*2 ^ s≤2 ^ (32 - s)*2 ^ s:=Nat.mul_le_mul_right _ hlt
  rw[Nat.add_mul,Nat.one_mul,←hm] at this
  omega
theorem rshl_step {X ys:List Nat} {k j s d c T:Nat} (hj:j<X.length) (hl:k+j+1<ys.length) (hd:X[j]?.getD 0=d) (hc:ys[k+j]?.getD 0=c) (hz:ys[k+j+1]?.getD 0=0) (hT:d*2 ^ s=T)
  (hv:val ys=pw k*(2 ^ s*val (X.take j))):val ((ys.set (k+j) (c+T%4294967296)).set (k+j+1) (T/4294967296))=pw k*(2 ^ s*val (X.take (j+1))):=by
 have h1 := @val_set ys (k+j) (c+T%4294967296) (by omega)
 have h2 := @val_set (ys.set (k+j) (c+T%4294967296)) (k+j+1) (T/4294967296) (by simpa using hl)
 rw[getD_set_other (by omega),hz] at h2
 rw[hc,Nat.mul_add] at h1
 rw[val_take_succ hj,hd]
 have e1:pw (k+j+1)*(T/4294967296)+pw (k+j)*(T%4294967296)=pw (k+j)*T:=by
  conv=>rhs;rw[←Nat.mod_add_div T 4294967296]
  simp only[pw]
  rw[Nat.mul_add,Nat.mul_comm 4294967296 (pw (k+j)),Nat.mul_assoc];omega
 have e2:pw (k+j)*T=pw k*(2 ^ s*(pw j*d)):=by
  rw[pw_add,←hT,Nat.mul_assoc,Nat.mul_comm d,Nat.mul_left_comm (pw j)]
 have e3:pw k*(2 ^ s*(val (X.take j)+pw j*d))=pw k*(2 ^ s*val (X.take j))+pw k*(2 ^ s*(pw j*d)):=by
  rw[Nat.mul_add,Nat.mul_add]
 omega
end Go.Proofs.YthmolpepinolkaaGreat
