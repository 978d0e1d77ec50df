/- Plain mathematics of decimal numerals by groups of nine. -/
import Derived.Lib.ItoaNum
import Derived.Test.YtbiiglcfdphmaaaGreatDig
namespace Go.Proofs.YtbiiglcfdphmaaaGreat
open Go.Lib
end Go.Proofs.YtbiiglcfdphmaaaGreat
