/- Small laws of stripped digits, of a slice's end, of Norm at a length written otherwise. -/
import Derived.Test.YtbiiglcfdphmaaaSlToW5
import Derived.Test.YtbiiglcfdphmaaaD5
import Derived.OwnWalk
import Derived.Test.YtbiiglcfdphmaaaR2aToR6

namespace Go.Proofs.Ytbiiglcfdphmaaa
open Go.RowKit Dig

end Go.Proofs.Ytbiiglcfdphmaaa


/- nat.DivMod: quotient and rest, canonical, each in memory of its own. -/
namespace Go.Proofs.Ytbiiglcfdphmaaa
open Go.RowKit Dig

end Go.Proofs.Ytbiiglcfdphmaaa


/- nat.Gcd: Euclid by two rows that take turns. -/
namespace Go.Proofs.Ytbiiglcfdphmaaa
open Go.RowKit Dig

end Go.Proofs.Ytbiiglcfdphmaaa


/- DivMod and Gcd over whatever slice reads as given digits. -/
namespace Go.Proofs.Ytbiiglcfdphmaaa
open Go.RowKit Dig

end Go.Proofs.Ytbiiglcfdphmaaa

