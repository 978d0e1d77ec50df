/- What quotients and rests of whole numbers are. -/
import Derived.Test.YthmolpepinolkaaGreatZ7
namespace Go.Proofs.YthmolpepinolkaaGreat
open Go.RowKit Dig
theorem len_succ {n m l:Nat} (h:n≤m+1) (hm:(dig m).length≤l):(dig n).length≤l+1:=by
 have h1:=Nat.lt_of_lt_of_le (lt_pw_dig m) (pw_mono hm)
 refine dig_length_le ?_
 simp only[pw]
 omega
theorem zlen_mul {x y:Int} {l m:Nat} (hx:(dig x.natAbs).length≤l) (hy:(dig y.natAbs).length≤m):(dig (x*y).natAbs).length≤l+m:=by
 rw[Int.natAbs_mul]
 have h:=zmul_dig_length (dig x.natAbs) (dig y.natAbs) (OK_dig _) (OK_dig _)
 rw[val_dig,val_dig] at h
 omega
theorem zcmp_eq {x y:Int} (h:x=y):zcmp x y=0:=by subst h;unfold zcmp;rw[if_neg (by omega),if_pos rfl]
theorem zcmp_bd (x y:Int) : -1≤zcmp x y∧zcmp x y≤1:=by
 unfold zcmp;split
 ·omega
 ·split <;> omega
theorem sign_bd (x:Int) : -1≤x.sign∧x.sign≤1:=by
 rcases Int.lt_trichotomy x 0 with h | h | h
 ·rw[Int.sign_eq_neg_one_of_neg h];omega
 ·rw[h];decide
 ·rw[Int.sign_eq_one_of_pos h];omega
end Go.Proofs.YthmolpepinolkaaGreat
