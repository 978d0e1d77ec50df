/- zint's reference: Twice, Zero, Floor. -/
import Derived.Test.YtpdfahompajbjaaDoorZ8
import Derived.Test.YtpdfahompajbjaaDoorR17
namespace Go.Proofs.YtpdfahompajbjaaDoor
open Go.RowKit Dig
end Go.Proofs.YtpdfahompajbjaaDoor

