/- The reference's Shl answers the canonical digits of a number shifted up. -/
import Derived.Test.YthlhekkcjficdaaR7
namespace Go.Proofs.Ythlhekkcjficdaa
open Go.RowKit Dig

end Go.Proofs.Ythlhekkcjficdaa

