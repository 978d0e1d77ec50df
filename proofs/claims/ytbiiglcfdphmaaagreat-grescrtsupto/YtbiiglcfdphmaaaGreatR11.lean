/- The reference's Parse answers the digits of a text's worth. -/
import Derived.Test.YtbiiglcfdphmaaaGreatG3ToR10
namespace Go.Proofs.YtbiiglcfdphmaaaGreat
open Go.RowKit Dig
end Go.Proofs.YtbiiglcfdphmaaaGreat
