/- The reference's Gcd. -/
import Derived.Test.YtjfjlloibmebeaaGreatR16
import Derived.Test.YtjfjlloibmebeaaGreatSxToD8
import Derived.Deep.LoopGhost
namespace Go.Proofs.YtjfjlloibmebeaaGreat
open Go.RowKit Dig
theorem rdivMod_rd' {w : World} {va vb : Value} {xs ys : List Nat} (hx : Rd w va xs) (hy : Rd w vb ys) (h0 : val ys ≠ 0) (hxl : xs.length ≤ 1000000000) (hyl : ys.length ≤ 1000000000) :
   Calls Tryz.prog 273 #[va, vb] w fun e w' => ∃ v1 v2, e = .returned (.tuple #[v1, v2]) ∧ Rd w' v1 (dig (val xs / val ys)) ∧ Rd w' v2 (dig (val xs % val ys)) ∧ Below w.heap.size w w' := by
 obtain ⟨oa, ca, rfl, hca, okx, hcx⟩ := hx
 obtain ⟨ob, cb, rfl, hcb, oky, hcy⟩ := hy
 exact rdivMod_any oa ob ca cb xs ys w hxl hyl hca hcb okx oky hcx hcy h0
end Go.Proofs.YtjfjlloibmebeaaGreat
