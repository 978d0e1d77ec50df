/- The reference's Parse answers the digits of a text's worth. -/
import Derived.Test.YthlhekkcjficdaaGreatDoorZ13ToR10
namespace Go.Proofs.YthlhekkcjficdaaGreatDoor
open Go.RowKit Dig
end Go.Proofs.YthlhekkcjficdaaGreatDoor
