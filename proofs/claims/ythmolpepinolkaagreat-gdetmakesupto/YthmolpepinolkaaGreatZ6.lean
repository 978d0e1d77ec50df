/- zint.FloorDiv. -/
import Derived.Test.YthmolpepinolkaaGreatSxToD8
namespace Go.Proofs.YthmolpepinolkaaGreat
open Go.RowKit Dig
theorem floor_is {x y q r:Int} (h:x=q*y+r) (h1:0<y→0≤r∧r<y) (h2:y<0→y<r∧r≤0) (h0:y≠0):x.fdiv y=q∧x.fmod y=r:=by
 rcases Int.lt_or_gt_of_ne h0 with hy | hy
 ·exact(Int.fdiv_fmod_unique' hy).2 ⟨by rw[h,Int.mul_comm q y];omega,(h2 hy).1,(h2 hy).2⟩
 ·exact(Int.fdiv_fmod_unique hy).2 ⟨by rw[h,Int.mul_comm q y];omega,(h1 hy).1,(h1 hy).2⟩
def fq (na nb:Bool) (X Y:Nat):Int:=if (na != nb)=true then -((X/Y:Nat):Int) else ((X/Y:Nat):Int)
def fr (na:Bool) (X Y:Nat):Int:=if na=true then -((X%Y:Nat):Int) else ((X%Y:Nat):Int)
theorem zv_split (na nb:Bool) (xs ys:List Nat):zv na xs=fq na nb (val xs) (val ys)*zv nb ys+fr na (val xs) (val ys):=by
 unfold fq fr zv
 have h:((val xs:Nat):Int)=((val xs/val ys:Nat):Int)*((val ys:Nat):Int)+((val xs%val ys:Nat):Int):=by
  have:=Nat.div_add_mod (val xs) (val ys)
  rw[Nat.mul_comm] at this
  exact_mod_cast this.symm
 cases na <;> cases nb <;> simp only[bne_self_eq_false,Bool.false_eq_true,if_false,if_true,Bool.true_bne,Bool.false_bne,Bool.not_false,Int.neg_mul,Int.mul_neg,Int.neg_neg] <;> omega
theorem floor_plain {na nb:Bool} {xs ys:List Nat} (h0:val ys≠0) (h:val xs%val ys=0∨(na != nb)=false) :
  (zv na xs).fdiv (zv nb ys)=fq na nb (val xs) (val ys)∧(zv na xs).fmod (zv nb ys)=fr na (val xs) (val ys):=by
 have hlt:=Nat.mod_lt (val xs) (Nat.pos_of_ne_zero h0)
 refine floor_is (zv_split na nb xs ys) ?_ ?_ ?_
 all_goals (try unfold fr);unfold zv;revert h;cases na <;> cases nb <;> simp <;> omega
theorem floor_turned {na nb:Bool} {xs ys:List Nat} (h0:val ys≠0) (hr:val xs%val ys≠0) (hd:(na != nb)=true) :
  (zv na xs).fdiv (zv nb ys)=fq na nb (val xs) (val ys) - 1∧(zv na xs).fmod (zv nb ys)=fr na (val xs) (val ys)+zv nb ys:=by
 have hlt:=Nat.mod_lt (val xs) (Nat.pos_of_ne_zero h0)
 refine floor_is (by rw[Int.sub_mul,Int.one_mul];have:=zv_split na nb xs ys;omega) ?_ ?_ ?_
 all_goals (try unfold fr);unfold zv;revert hd;cases na <;> cases nb <;> simp <;> omega
theorem fr_sign (na:Bool) {X Y:Nat}:(fr na X Y).sign=0 ↔ X%Y=0:=by
 rw[Int.sign_eq_zero_iff_zero]
 unfold fr;cases na <;> simp <;> omega
end Go.Proofs.YthmolpepinolkaaGreat
