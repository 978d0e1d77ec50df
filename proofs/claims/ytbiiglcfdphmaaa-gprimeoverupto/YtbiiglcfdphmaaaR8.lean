/- The reference's Shl answers the canonical digits of a number shifted up. -/
import Derived.Test.YtbiiglcfdphmaaaR7
namespace Go.Proofs.Ytbiiglcfdphmaaa
open Go.RowKit Dig

end Go.Proofs.Ytbiiglcfdphmaaa

