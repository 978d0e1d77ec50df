/- zint.RoundDiv, Exact. -/
import Derived.Test.YtbiiglcfdphmaaaZ6
namespace Go.Proofs.Ytbiiglcfdphmaaa
open Go.RowKit Dig

end Go.Proofs.Ytbiiglcfdphmaaa

