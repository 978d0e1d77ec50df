/- The reference's Shl and Shr answer the canonical digits of a number shifted. -/
import Derived.Test.YtpdfahompajbjaaDoorR2aToR6
import Derived.Test.YtpdfahompajbjaaDoorMx
namespace Go.Proofs.YtpdfahompajbjaaDoor
open Go.RowKit Dig

end Go.Proofs.YtpdfahompajbjaaDoor

