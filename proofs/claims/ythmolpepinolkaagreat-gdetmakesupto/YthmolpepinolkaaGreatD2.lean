/- The guess of a quotient's digit, plain mathematics: never less than the true digit. -/
import Derived.Test.YthmolpepinolkaaGreatY5ToD1
namespace Go.Proofs.YthmolpepinolkaaGreat
open Go.RowKit Dig
theorem guess_first {W V H T f sc P lw lv:Nat} (hP:0<P) (hf:0<f) (hW:W=(H*4294967296+T)*P+lw) (hT:T<4294967296) (hlw:lw<P)
  (hV:V=(f*4294967296+sc)*P+lv):W/V≤H/f:=by
 have hfB:f*(4294967296*P)≤V:=by
  rw[hV,Nat.add_mul,←Nat.mul_assoc];omega
 have hpos:0<f*(4294967296*P):=Nat.mul_pos hf (Nat.mul_pos (by decide) hP)
 have h1:W/V≤W/(f*(4294967296*P)):=Nat.div_le_div_left hfB hpos
 refine Nat.le_trans h1 ?_
 rw[Nat.mul_comm f,←Nat.div_div_eq_div_mul]
 refine Nat.div_le_div_right (Nat.le_of_eq ?_)
 rw[Nat.div_eq_iff (Nat.mul_pos (by decide) hP),hW]
 have e1:(H*4294967296+T)*P=H*(4294967296*P)+T*P:=by rw[Nat.add_mul,Nat.mul_assoc]
 have h2:(T+1)*P≤4294967296*P:=Nat.mul_le_mul_right _ hT
 rw[Nat.add_mul] at h2
 rw[e1]
 omega
theorem guess_much {W V H T f sc P lw lv g r:Nat} (hV0:0<V) (hW:W=(H*4294967296+T)*P+lw) (hlw:lw<P)
  (hV:V=(f*4294967296+sc)*P+lv) (hg:g*f+r=H) (h:r*4294967296+T<g*sc):W/V<g:=by
 rw[Nat.div_lt_iff_lt_mul hV0]
 have h1:H*4294967296+T+1≤g*(f*4294967296+sc):=by
  rw[Nat.mul_add,←Nat.mul_assoc,←hg,Nat.add_mul];omega
 have h2:=Nat.mul_le_mul_right P h1
 have h3:g*(f*4294967296+sc)*P≤g*V:=by
  rw[hV,Nat.mul_assoc];exact Nat.mul_le_mul_left _ (Nat.le_add_right _ _)
 rw[Nat.add_mul,Nat.one_mul] at h2
 rw[hW]
 omega
theorem guess_base {W V g:Nat} (hV0:0<V) (h:W<V*4294967296) (hg:4294967296≤g):W/V<g:=by
 rw[Nat.div_lt_iff_lt_mul hV0,Nat.mul_comm]
 exact Nat.lt_of_lt_of_le h (Nat.mul_le_mul_left _ hg)
end Go.Proofs.YthmolpepinolkaaGreat
