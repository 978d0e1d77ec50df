/- zint.FloorDiv. -/
import Derived.Test.YtbiiglcfdphmaaaY5ToD1
import Derived.Test.YtbiiglcfdphmaaaSxToD8
namespace Go.Proofs.Ytbiiglcfdphmaaa
open Go.RowKit Dig

end Go.Proofs.Ytbiiglcfdphmaaa

