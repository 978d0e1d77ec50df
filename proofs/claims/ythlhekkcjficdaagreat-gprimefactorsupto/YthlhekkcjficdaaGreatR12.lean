/- The reference's Text answers the decimal digits. -/
import Derived.Maps.AppendAt
import Derived.Test.YthlhekkcjficdaaGreatW8
import Derived.Test.YthlhekkcjficdaaGreatR9
namespace Go.Proofs.YthlhekkcjficdaaGreat
open Go.RowKit Dig Go.Lib

end Go.Proofs.YthlhekkcjficdaaGreat

