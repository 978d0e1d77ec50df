/- Plain mathematics of decimal numerals by groups of nine. -/
import Derived.Lib.ItoaNum
import Derived.Test.YtjfjlloibmebeaaDig
namespace Go.Proofs.Ytjfjlloibmebeaa
open Go.Lib

end Go.Proofs.Ytjfjlloibmebeaa

