/- Plain mathematics of decimal numerals by groups of nine. -/
import Derived.Lib.ItoaNum
import Derived.Test.YtnkimagnmnocdaaDig
namespace Go.Proofs.Ytnkimagnmnocdaa
open Go.Lib

end Go.Proofs.Ytnkimagnmnocdaa

