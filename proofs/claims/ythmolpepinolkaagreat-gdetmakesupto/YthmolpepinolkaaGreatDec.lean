/- Plain mathematics of decimal numerals by groups of nine. -/
import Derived.Lib.ItoaNum
import Derived.Test.YthmolpepinolkaaGreatDig
namespace Go.Proofs.YthmolpepinolkaaGreat
open Go.Lib
end Go.Proofs.YthmolpepinolkaaGreat
