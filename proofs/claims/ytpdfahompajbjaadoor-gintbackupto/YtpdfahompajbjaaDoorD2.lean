/- The guess of a quotient's digit, plain mathematics: never less than the true digit. -/
import Derived.Test.YtpdfahompajbjaaDoorY5ToD1
namespace Go.Proofs.YtpdfahompajbjaaDoor
open Go.RowKit Dig

end Go.Proofs.YtpdfahompajbjaaDoor

