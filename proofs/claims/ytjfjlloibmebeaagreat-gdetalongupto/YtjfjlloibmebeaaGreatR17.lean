/- The reference's Gcd. -/
import Derived.Test.YtjfjlloibmebeaaGreatR16
import Derived.Test.YtjfjlloibmebeaaGreatSxToD8
import Derived.Deep.LoopGhost
namespace Go.Proofs.YtjfjlloibmebeaaGreat
open Go.RowKit Dig

end Go.Proofs.YtjfjlloibmebeaaGreat

