/- The reference's takeOff and putBack, over a row of digits of the call's own. -/
import Derived.Test.YthlhekkcjficdaaR14
import Derived.Test.YthlhekkcjficdaaD5
import Derived.Test.YthlhekkcjficdaaR2aToR6
namespace Go.Proofs.Ythlhekkcjficdaa
open Go.RowKit Dig

end Go.Proofs.Ythlhekkcjficdaa

