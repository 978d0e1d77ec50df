/- zint.Gcd, factorOfFirst. -/
import Derived.Test.YtbiiglcfdphmaaaZ8
import Derived.Deep.LoopGhost
namespace Go.Proofs.Ytbiiglcfdphmaaa
open Go.RowKit Dig
end Go.Proofs.Ytbiiglcfdphmaaa

