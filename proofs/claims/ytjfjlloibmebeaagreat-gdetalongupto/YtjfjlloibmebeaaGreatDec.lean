/- Plain mathematics of decimal numerals by groups of nine. -/
import Derived.Lib.ItoaNum
import Derived.Test.YtjfjlloibmebeaaGreatDig
namespace Go.Proofs.YtjfjlloibmebeaaGreat
open Go.Lib

end Go.Proofs.YtjfjlloibmebeaaGreat

