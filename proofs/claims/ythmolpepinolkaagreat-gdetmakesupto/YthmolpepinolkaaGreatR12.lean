/- The reference's Text answers the decimal digits. -/
import Derived.Maps.AppendAt
import Derived.Test.YthmolpepinolkaaGreatR9
namespace Go.Proofs.YthmolpepinolkaaGreat
open Go.RowKit Dig Go.Lib
end Go.Proofs.YthmolpepinolkaaGreat
