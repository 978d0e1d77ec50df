/- zint's reference: Add, Sub, Twice. -/
import Derived.Test.YtbiiglcfdphmaaaY2
namespace Go.Proofs.Ytbiiglcfdphmaaa
open Go.RowKit Dig

end Go.Proofs.Ytbiiglcfdphmaaa

