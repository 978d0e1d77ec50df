/- The reference's Gcd. -/
import Derived.Test.YtbiiglcfdphmaaaR16
import Derived.Test.YtbiiglcfdphmaaaSxToD8
import Derived.Deep.LoopGhost
namespace Go.Proofs.Ytbiiglcfdphmaaa
open Go.RowKit Dig
end Go.Proofs.Ytbiiglcfdphmaaa

