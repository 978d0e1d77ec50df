/- The reference's Gcd. -/
import Derived.Test.YtajmgjgobgchjaaR16
import Derived.Test.YtajmgjgobgchjaaSxToD8
import Derived.Deep.LoopGhost
namespace Go.Proofs.Ytajmgjgobgchjaa
open Go.RowKit Dig
end Go.Proofs.Ytajmgjgobgchjaa

