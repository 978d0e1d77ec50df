/- The reference's Parse answers the digits of a text's worth. -/
import Derived.Test.YthlhekkcjficdaaG3ToR10
namespace Go.Proofs.Ythlhekkcjficdaa
open Go.RowKit Dig
end Go.Proofs.Ythlhekkcjficdaa

