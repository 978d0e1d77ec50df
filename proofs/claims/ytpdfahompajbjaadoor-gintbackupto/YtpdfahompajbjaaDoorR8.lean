/- The reference's Shl answers the canonical digits of a number shifted up. -/
import Derived.Test.YtpdfahompajbjaaDoorR7
namespace Go.Proofs.YtpdfahompajbjaaDoor
open Go.RowKit Dig

end Go.Proofs.YtpdfahompajbjaaDoor

