/- The reference's Gcd. -/
import Derived.Test.YtjfjlloibmebeaaR16
import Derived.Test.YtjfjlloibmebeaaSxToD8
import Derived.Deep.LoopGhost
namespace Go.Proofs.Ytjfjlloibmebeaa
open Go.RowKit Dig
end Go.Proofs.Ytjfjlloibmebeaa

