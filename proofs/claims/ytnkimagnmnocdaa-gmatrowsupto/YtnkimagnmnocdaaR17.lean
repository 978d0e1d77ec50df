/- The reference's Gcd. -/
import Derived.Test.YtnkimagnmnocdaaR16
import Derived.Test.YtnkimagnmnocdaaSxToD8
import Derived.Deep.LoopGhost
namespace Go.Proofs.Ytnkimagnmnocdaa
open Go.RowKit Dig
end Go.Proofs.Ytnkimagnmnocdaa

