/- Plain mathematics of decimal numerals by groups of nine. -/
import Derived.Lib.ItoaNum
import Derived.Test.YthlhekkcjficdaaDig
namespace Go.Proofs.Ythlhekkcjficdaa
open Go.Lib

end Go.Proofs.Ythlhekkcjficdaa

