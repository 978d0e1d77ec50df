/- Plain mathematics of decimal numerals by groups of nine. -/
import Derived.Lib.ItoaNum
import Derived.Test.YtbiiglcfdphmaaaDig
namespace Go.Proofs.Ytbiiglcfdphmaaa
open Go.Lib

end Go.Proofs.Ytbiiglcfdphmaaa

