/- Small laws of stripped digits, of a slice's end, of Norm at a length written otherwise. -/
import Derived.Test.YtnkimagnmnocdaaSlToW5
import Derived.Test.YtnkimagnmnocdaaD5
import Derived.OwnWalk
import Derived.Test.YtnkimagnmnocdaaR2aToR6

namespace Go.Proofs.Ytnkimagnmnocdaa
open Go.RowKit Dig

end Go.Proofs.Ytnkimagnmnocdaa


/- nat.DivMod: quotient and rest, canonical, each in memory of its own. -/
namespace Go.Proofs.Ytnkimagnmnocdaa
open Go.RowKit Dig

end Go.Proofs.Ytnkimagnmnocdaa


/- nat.Gcd: Euclid by two rows that take turns. -/
namespace Go.Proofs.Ytnkimagnmnocdaa
open Go.RowKit Dig

end Go.Proofs.Ytnkimagnmnocdaa


/- DivMod and Gcd over whatever slice reads as given digits. -/
namespace Go.Proofs.Ytnkimagnmnocdaa
open Go.RowKit Dig

end Go.Proofs.Ytnkimagnmnocdaa

