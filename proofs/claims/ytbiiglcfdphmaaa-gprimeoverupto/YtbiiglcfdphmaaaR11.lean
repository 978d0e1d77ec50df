/- The reference's Parse answers the digits of a text's worth. -/
import Derived.Test.YtbiiglcfdphmaaaG3ToR10
namespace Go.Proofs.Ytbiiglcfdphmaaa
open Go.RowKit Dig

end Go.Proofs.Ytbiiglcfdphmaaa

