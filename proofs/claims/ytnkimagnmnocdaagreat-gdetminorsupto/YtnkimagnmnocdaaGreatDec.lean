/- Plain mathematics of decimal numerals by groups of nine. -/
import Derived.Lib.ItoaNum
import Derived.Test.YtnkimagnmnocdaaGreatDig
namespace Go.Proofs.YtnkimagnmnocdaaGreat
open Go.Lib
end Go.Proofs.YtnkimagnmnocdaaGreat
