/- Plain mathematics of shifts, for nat's and the reference's. -/
import Derived.Test.YthmolpepinolkaaGreatSxToD8
namespace Go.Proofs.YthmolpepinolkaaGreat
open Go.RowKit Dig
theorem shl_t (c x s:Nat) (hs:s<32) (hc:c<2 ^ s) (hx:x<4294967296):c+x*2 ^ s<18446744073709551616∧(c+x*2 ^ s)/4294967296<2 ^ s:=by
 have h1:2 ^ s≤2 ^ 31:=Nat.pow_le_pow_right (by decide) (by omega)
 have h2:x*2 ^ s≤4294967295*2 ^ s:=Nat.mul_le_mul_right _ (by omega)
 generalize 2 ^ s=p at *
 omega
theorem shr_step {p p' V A x t:Nat} (hp:0<p) (hB:p*p'=4294967296) (hx:x<4294967296) (hA:A%p=V%p) (ht:A%4294967296*4294967296+x=t) :
  (x+4294967296*V)/p=t/p%4294967296+4294967296*(V/p)∧t%p=(x+4294967296*V)%p:=by
 have hV:=Nat.div_add_mod V p
 have hd:p ∣ 4294967296:=⟨p',hB.symm⟩
 have hAB:=Nat.div_add_mod (A%4294967296) p
 rw[Nat.mod_mod_of_dvd A hd,hA] at hAB
 have hR:=Nat.mod_lt V hp
 generalize V/p=Q at *
 generalize V%p=R at *
 generalize A%4294967296/p=q at *
 have e1:x+4294967296*V=(x+4294967296*R)+p*(4294967296*Q):=by
  rw[←hV,Nat.mul_add,Nat.mul_left_comm];omega
 have e2:t=(x+4294967296*R)+p*(4294967296*q):=by
  rw[←ht,←hAB,Nat.add_mul,Nat.mul_assoc,Nat.mul_comm q];omega
 have hlt:(x+4294967296*R)/p<4294967296:=by
  rw[Nat.div_lt_iff_lt_mul hp]
  have:4294967296*(R+1)≤4294967296*p:=Nat.mul_le_mul_left _ hR
  omega
 refine⟨?_,?_⟩
 ·rw[e1,e2,Nat.add_mul_div_left _ _ hp,Nat.add_mul_div_left _ _ hp,Nat.add_mul_mod_self_left,Nat.mod_eq_of_lt hlt]
 ·rw[e1,e2,Nat.add_mul_mod_self_left,Nat.add_mul_mod_self_left]
end Go.Proofs.YthmolpepinolkaaGreat
