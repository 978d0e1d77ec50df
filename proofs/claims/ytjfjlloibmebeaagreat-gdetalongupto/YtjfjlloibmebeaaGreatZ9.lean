/- zint.Gcd, factorOfFirst. -/
import Derived.Test.YtjfjlloibmebeaaGreatZ8
import Derived.Deep.LoopGhost
namespace Go.Proofs.YtjfjlloibmebeaaGreat
open Go.RowKit Dig

theorem zo_zero (w : World) (B : Nat) : ZO w B (.agg #[.bool false, .slice none 0 0]) 0 := ⟨_, rfl, by rw [show dig (Int.natAbs 0) = [] from dig_eq_nil.2 rfl]; exact Own.nil w B none⟩
end Go.Proofs.YtjfjlloibmebeaaGreat

