/- Plain mathematics of decimal numerals by groups of nine. -/
import Derived.Lib.ItoaNum
import Derived.Test.YtpdfahompajbjaaDig
namespace Go.Proofs.Ytpdfahompajbjaa
open Go.Lib
#print axioms group_step
end Go.Proofs.Ytpdfahompajbjaa
