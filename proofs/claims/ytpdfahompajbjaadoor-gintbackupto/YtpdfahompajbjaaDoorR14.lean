/- The reference's Shl answers a row of its own. -/
import Derived.Test.YtpdfahompajbjaaDoorR8
import Derived.Test.YtpdfahompajbjaaDoorZ5ToY1
namespace Go.Proofs.YtpdfahompajbjaaDoor
open Go.RowKit Dig

end Go.Proofs.YtpdfahompajbjaaDoor

