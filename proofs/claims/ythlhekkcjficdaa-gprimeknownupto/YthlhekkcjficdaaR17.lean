/- The reference's Gcd. -/
import Derived.Test.YthlhekkcjficdaaR16
import Derived.Test.YthlhekkcjficdaaSxToD8
import Derived.Deep.LoopGhost
namespace Go.Proofs.Ythlhekkcjficdaa
open Go.RowKit Dig
end Go.Proofs.Ythlhekkcjficdaa

