/- Plain mathematics of decimal numerals by groups of nine. -/
import Derived.Lib.ItoaNum
import Derived.Test.YtajmgjgobgchjaaDig
namespace Go.Proofs.Ytajmgjgobgchjaa
open Go.Lib

end Go.Proofs.Ytajmgjgobgchjaa

