/- zint's reference: Twice, Zero, Floor. -/
import Derived.Test.YtajmgjgobgchjaaZ8
import Derived.Test.YtajmgjgobgchjaaR17
namespace Go.Proofs.Ytajmgjgobgchjaa
open Go.RowKit Dig
set_option maxHeartbeats 2000000 in
set_option maxRecDepth 20000 in
/-- tesselref2.Zero, of the zero value. -/
theorem rzero_any (w : World) :
    Calls Try.prog 94 #[.agg #[.bool false, .slice none 0 0]] w fun e w' => e = .returned (.bool true) ∧ Below w.heap.size w w' := by
  go_enter Try.func94, Try.ntmps94
  have hb := Below.refl w.heap.size w
  have hp := Bk.new w false (.slice none 0 0)
  replace hb := hb.alloc hb.size (.cells #[.bool false, (.slice none 0 0)] 41)
  have f_hp := hp.facts
  go_wp2
  go_ret
  exact ⟨rfl, hb⟩
end Go.Proofs.Ytajmgjgobgchjaa

