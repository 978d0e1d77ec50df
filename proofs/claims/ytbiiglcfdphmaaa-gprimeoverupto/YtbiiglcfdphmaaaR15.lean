/- The reference's takeOff and putBack, over a row of digits of the call's own. -/
import Derived.Test.YtbiiglcfdphmaaaR14
import Derived.Test.YtbiiglcfdphmaaaD5
import Derived.Test.YtbiiglcfdphmaaaR2aToR6
namespace Go.Proofs.Ytbiiglcfdphmaaa
open Go.RowKit Dig

end Go.Proofs.Ytbiiglcfdphmaaa

