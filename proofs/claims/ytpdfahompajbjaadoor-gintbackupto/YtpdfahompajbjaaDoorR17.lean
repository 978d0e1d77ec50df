/- The reference's Gcd. -/
import Derived.Test.YtpdfahompajbjaaDoorR16
import Derived.Test.YtpdfahompajbjaaDoorSxToD8
import Derived.Deep.LoopGhost
namespace Go.Proofs.YtpdfahompajbjaaDoor
open Go.RowKit Dig
end Go.Proofs.YtpdfahompajbjaaDoor

