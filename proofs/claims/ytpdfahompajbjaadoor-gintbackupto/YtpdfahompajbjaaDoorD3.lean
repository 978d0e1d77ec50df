/- The guess of a quotient's digit: shifted digits as digits of the shifted number, and where the guess ends. Plain mathematics. -/
import Derived.Test.YtpdfahompajbjaaDoorD2
namespace Go.Proofs.YtpdfahompajbjaaDoor
open Go.RowKit Dig

end Go.Proofs.YtpdfahompajbjaaDoor

