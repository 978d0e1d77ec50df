/- Small laws of stripped digits, of a slice's end, of Norm at a length written otherwise. -/
import Derived.Test.YtajmgjgobgchjaaSlToW5
import Derived.Test.YtajmgjgobgchjaaD5
import Derived.OwnWalk
import Derived.Test.YtajmgjgobgchjaaR2aToR6

namespace Go.Proofs.Ytajmgjgobgchjaa
open Go.RowKit Dig

end Go.Proofs.Ytajmgjgobgchjaa


/- nat.DivMod: quotient and rest, canonical, each in memory of its own. -/
namespace Go.Proofs.Ytajmgjgobgchjaa
open Go.RowKit Dig

end Go.Proofs.Ytajmgjgobgchjaa


/- nat.Gcd: Euclid by two rows that take turns. -/
namespace Go.Proofs.Ytajmgjgobgchjaa
open Go.RowKit Dig

end Go.Proofs.Ytajmgjgobgchjaa


/- DivMod and Gcd over whatever slice reads as given digits. -/
namespace Go.Proofs.Ytajmgjgobgchjaa
open Go.RowKit Dig

end Go.Proofs.Ytajmgjgobgchjaa

