/- The reference's Gcd. -/
import Derived.Test.YtpdfahompajbjaaR16
import Derived.Test.YtpdfahompajbjaaSxToD8
import Derived.Deep.LoopGhost
namespace Go.Proofs.Ytpdfahompajbjaa
open Go.RowKit Dig

end Go.Proofs.Ytpdfahompajbjaa

