/- The reference's short answers quotient and rest by one digit. -/
import Derived.Test.YtpdfahompajbjaaDoorR2aToR6
import Derived.Test.YtpdfahompajbjaaDoorZ5ToY1
import Derived.Test.YtpdfahompajbjaaDoorW6ToP10
namespace Go.Proofs.YtpdfahompajbjaaDoor
open Go.RowKit Dig

end Go.Proofs.YtpdfahompajbjaaDoor

