/- The reference's Shl answers a row of its own. -/
import Derived.Test.YthlhekkcjficdaaR8
import Derived.Test.YthlhekkcjficdaaZ5ToY1
namespace Go.Proofs.Ythlhekkcjficdaa
open Go.RowKit Dig

end Go.Proofs.Ythlhekkcjficdaa

