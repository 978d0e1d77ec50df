/- The reference's short answers quotient and rest by one digit. -/
import Derived.Test.YtbiiglcfdphmaaaR2aToR6
import Derived.Test.YtbiiglcfdphmaaaZ5ToY1
import Derived.Test.YtbiiglcfdphmaaaW6ToP10
namespace Go.Proofs.Ytbiiglcfdphmaaa
open Go.RowKit Dig

end Go.Proofs.Ytbiiglcfdphmaaa

