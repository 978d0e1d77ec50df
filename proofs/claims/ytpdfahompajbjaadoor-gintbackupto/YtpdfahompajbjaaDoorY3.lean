/- zint's reference: Add, Sub, Twice. -/
import Derived.Test.YtpdfahompajbjaaDoorY2
namespace Go.Proofs.YtpdfahompajbjaaDoor
open Go.RowKit Dig

end Go.Proofs.YtpdfahompajbjaaDoor

