/- The reference's Parse answers the digits of a text's worth. -/
import Derived.Test.YthlhekkcjficdaaGreatG3ToR10
namespace Go.Proofs.YthlhekkcjficdaaGreat
open Go.RowKit Dig

end Go.Proofs.YthlhekkcjficdaaGreat

