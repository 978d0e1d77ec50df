/- Plain mathematics of decimal numerals by groups of nine. -/
import Derived.Lib.ItoaNum
import Derived.Test.YthlhekkcjficdaaGreatDig
namespace Go.Proofs.YthlhekkcjficdaaGreat
open Go.Lib

end Go.Proofs.YthlhekkcjficdaaGreat

