/- zint.Xgcd, Inverse. -/
import Derived.Test.YthlhekkcjficdaaGreatDoorZ9
namespace Go.Proofs.YthlhekkcjficdaaGreatDoor
open Go.RowKit Dig
end Go.Proofs.YthlhekkcjficdaaGreatDoor
