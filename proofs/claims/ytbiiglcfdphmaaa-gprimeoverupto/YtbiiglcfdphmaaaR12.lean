/- The reference's Text answers the decimal digits. -/
import Derived.Maps.AppendAt
import Derived.Test.YtbiiglcfdphmaaaW8
import Derived.Test.YtbiiglcfdphmaaaR9
namespace Go.Proofs.Ytbiiglcfdphmaaa
open Go.RowKit Dig Go.Lib

end Go.Proofs.Ytbiiglcfdphmaaa

