/- The reference's Text answers the decimal digits. -/
import Derived.Maps.AppendAt
import Derived.Test.YtbiiglcfdphmaaaGreatW8
import Derived.Test.YtbiiglcfdphmaaaGreatR9
namespace Go.Proofs.YtbiiglcfdphmaaaGreat
open Go.RowKit Dig Go.Lib
end Go.Proofs.YtbiiglcfdphmaaaGreat
