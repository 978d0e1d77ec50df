/- The reference's Shl answers a row of its own. -/
import Derived.Test.YtbiiglcfdphmaaaR8
import Derived.Test.YtbiiglcfdphmaaaZ5ToY1
namespace Go.Proofs.Ytbiiglcfdphmaaa
open Go.RowKit Dig

end Go.Proofs.Ytbiiglcfdphmaaa

