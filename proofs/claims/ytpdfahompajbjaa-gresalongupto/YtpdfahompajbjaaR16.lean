/- The reference's DivMod. -/
import Derived.Test.YtpdfahompajbjaaR15
import Derived.Test.YtpdfahompajbjaaR2aToR6
import Derived.Test.YtpdfahompajbjaaR9
import Derived.Test.YtpdfahompajbjaaSxToD8
import Derived.Deep.CutBlock
import Derived.Deep.DeepCutAuto
import Derived.BigQuiet
import Derived.Deep.DeepFit
import Derived.Deep.QuietTactic
namespace Go.Proofs.Ytpdfahompajbjaa
open Go.RowKit Dig

theorem Cells.drew {w : World} {oa : Option Addr} {ds : List Nat} (h : Cells w oa ds) : Cells w.drew oa ds := h.below ((Below.refl w.heap.size w).drew) (Nat.le_refl _)
end Go.Proofs.Ytpdfahompajbjaa

