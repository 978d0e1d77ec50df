/- zint.Xgcd, Inverse. -/
import Derived.Test.YthmolpepinolkaaGreatZ9
namespace Go.Proofs.YthmolpepinolkaaGreat
open Go.RowKit Dig
end Go.Proofs.YthmolpepinolkaaGreat
