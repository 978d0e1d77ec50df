/- zint.Gcd, factorOfFirst. -/
import Derived.Test.YtbiiglcfdphmaaaGreatZ8
import Derived.Deep.LoopGhost
namespace Go.Proofs.YtbiiglcfdphmaaaGreat
open Go.RowKit Dig
theorem len_le {n m l : Nat} (h : n ≤ m) (hm : (dig m).length ≤ l) : (dig n).length ≤ l :=
  dig_length_le (Nat.lt_of_le_of_lt h (Nat.lt_of_lt_of_le (lt_pw_dig m) (pw_mono hm)))
theorem zo_zero (w : World) (B : Nat) : ZO w B (.agg #[.bool false, .slice none 0 0]) 0 := ⟨_, rfl, by rw [show dig (Int.natAbs 0) = [] from dig_eq_nil.2 rfl]; exact Own.nil w B none⟩
end Go.Proofs.YtbiiglcfdphmaaaGreat
