/- zint's reference: Twice, Zero, Floor. -/
import Derived.Test.YthlhekkcjficdaaZ8
import Derived.Test.YthlhekkcjficdaaR17
namespace Go.Proofs.Ythlhekkcjficdaa
open Go.RowKit Dig
end Go.Proofs.Ythlhekkcjficdaa

