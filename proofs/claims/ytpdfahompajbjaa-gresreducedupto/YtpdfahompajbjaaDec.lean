/- Plain mathematics of decimal numerals by groups of nine. -/
import Derived.Lib.ItoaNum
import Derived.Test.YtpdfahompajbjaaDig
namespace Go.Proofs.Ytpdfahompajbjaa
open Go.Lib
end Go.Proofs.Ytpdfahompajbjaa
