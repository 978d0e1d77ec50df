/- The reference's Parse answers the digits of a text's worth. -/
import Derived.Test.YthmolpepinolkaaGreatZ13ToR10
namespace Go.Proofs.YthmolpepinolkaaGreat
open Go.RowKit Dig
end Go.Proofs.YthmolpepinolkaaGreat
