/- What quotients and rests of whole numbers are. -/
import Derived.Test.YthmolpepinolkaaGreatZ7
namespace Go.Proofs.YthmolpepinolkaaGreat
open Go.RowKit Dig
theorem len_succ {n m l:Nat} (h:n≤m+1) (hm:(dig m).length≤l):(dig n).length≤l+1:=by
 have h1:=Nat.lt_of_lt_of_le (lt_pw_dig m) (pw_mono hm)
 refine dig_length_le ?_
 simp only[pw]
 omega
theorem rnd_bd {x y:Int} (h0:y≠0):(0<y → -y≤2*(x - rnd x y*y)∧2*(x - rnd x y*y)<y)∧(y<0→y<2*(x - rnd x y*y)∧2*(x - rnd x y*y) ≤ -y):=by
 obtain⟨b1,b2⟩:=fmod_bd (x:=x) h0
 rcases Nat.lt_or_ge ((x.fmod y).natAbs+(x.fmod y).natAbs) y.natAbs with h | h
 ·rw[(rnd_down h0 h).2]
  exact⟨fun hy=>by have:=b1 hy;omega,fun hy=>by have:=b2 hy;omega⟩
 ·rw[(rnd_up h0 h).2]
  exact⟨fun hy=>by have:=b1 hy;omega,fun hy=>by have:=b2 hy;omega⟩
theorem rnd_len {x y:Int} {l:Nat} (h0:y≠0) (h:(dig x.natAbs).length≤l):(dig (rnd x y).natAbs).length≤l+1:=by
 refine len_succ (m:=x.natAbs) ?_ h
 have h1:=fdiv_le (x:=x) h0
 rcases Nat.lt_or_ge ((x.fmod y).natAbs+(x.fmod y).natAbs) y.natAbs with h | h
 ·rw[(rnd_down h0 h).1];omega
 ·rw[(rnd_up h0 h).1];omega
theorem rrest_len {x y:Int} {m:Nat} (h0:y≠0) (h:(dig y.natAbs).length≤m):(dig (x - rnd x y*y).natAbs).length≤m:=by
 obtain⟨b1,b2⟩:=rnd_bd (x:=x) h0
 refine dig_length_le (Nat.lt_of_lt_of_le (Nat.lt_of_le_of_lt (m:=y.natAbs) ?_ (lt_pw_dig _)) (pw_mono h))
 rcases Int.lt_or_gt_of_ne h0 with hy | hy
 ·have:=b2 hy;omega
 ·have:=b1 hy;omega
theorem zlen_mul {x y:Int} {l m:Nat} (hx:(dig x.natAbs).length≤l) (hy:(dig y.natAbs).length≤m):(dig (x*y).natAbs).length≤l+m:=by
 rw[Int.natAbs_mul]
 have h:=zmul_dig_length (dig x.natAbs) (dig y.natAbs) (OK_dig _) (OK_dig _)
 rw[val_dig,val_dig] at h
 omega
theorem zcmp_eq {x y:Int} (h:x=y):zcmp x y=0:=by subst h;unfold zcmp;rw[if_neg (by omega),if_pos rfl]
end Go.Proofs.YthmolpepinolkaaGreat
