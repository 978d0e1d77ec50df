/- The reference's Text answers the decimal digits. -/
import Derived.Maps.AppendAt
import Derived.Test.YthlhekkcjficdaaW8
import Derived.Test.YthlhekkcjficdaaR9
namespace Go.Proofs.Ythlhekkcjficdaa
open Go.RowKit Dig Go.Lib

end Go.Proofs.Ythlhekkcjficdaa

