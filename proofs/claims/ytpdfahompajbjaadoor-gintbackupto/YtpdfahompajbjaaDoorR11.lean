/- The reference's Parse answers the digits of a text's worth. -/
import Derived.Test.YtpdfahompajbjaaDoorZ13ToR10
namespace Go.Proofs.YtpdfahompajbjaaDoor
open Go.RowKit Dig
end Go.Proofs.YtpdfahompajbjaaDoor

