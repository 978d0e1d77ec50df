/- nat.divide: the quotient's digits into one row, the rest left in the other. -/
import Derived.Test.YtbiiglcfdphmaaaD4
import Derived.Test.YtbiiglcfdphmaaaSlToW5
import Derived.Test.YtbiiglcfdphmaaaShelf
import Derived.Lib.BitFns
import Derived.Lib.ItoaNum
import Derived.Deep.LoopGhost
namespace Go.Proofs.Ytbiiglcfdphmaaa
open Go.RowKit Dig

end Go.Proofs.Ytbiiglcfdphmaaa

