/- nat.divide: the quotient's digits into one row, the rest left in the other. -/
import Derived.Test.YtnkimagnmnocdaaD4
import Derived.Test.YtnkimagnmnocdaaSlToW5
import Derived.Test.YtnkimagnmnocdaaShelf
import Derived.Lib.BitFns
import Derived.Lib.ItoaNum
import Derived.Deep.LoopGhost
namespace Go.Proofs.Ytnkimagnmnocdaa
open Go.RowKit Dig

end Go.Proofs.Ytnkimagnmnocdaa

