/- nat.divide: the quotient's digits into one row, the rest left in the other. -/
import Derived.Test.YtajmgjgobgchjaaD4
import Derived.Test.YtajmgjgobgchjaaSlToW5
import Derived.Test.YtajmgjgobgchjaaShelf
import Derived.Lib.BitFns
import Derived.Lib.ItoaNum
import Derived.Deep.LoopGhost
namespace Go.Proofs.Ytajmgjgobgchjaa
open Go.RowKit Dig

end Go.Proofs.Ytajmgjgobgchjaa

