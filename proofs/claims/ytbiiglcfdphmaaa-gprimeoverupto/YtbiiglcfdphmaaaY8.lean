/- zint's reference: Twice, Zero, Floor. -/
import Derived.Test.YtbiiglcfdphmaaaZ8
import Derived.Test.YtbiiglcfdphmaaaR17
namespace Go.Proofs.Ytbiiglcfdphmaaa
open Go.RowKit Dig
end Go.Proofs.Ytbiiglcfdphmaaa

