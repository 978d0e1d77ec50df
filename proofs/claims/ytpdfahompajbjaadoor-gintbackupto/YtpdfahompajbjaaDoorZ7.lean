/- zint.RoundDiv, Exact. -/
import Derived.Test.YtpdfahompajbjaaDoorZ6
namespace Go.Proofs.YtpdfahompajbjaaDoor
open Go.RowKit Dig

end Go.Proofs.YtpdfahompajbjaaDoor

