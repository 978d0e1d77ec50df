/- Plain mathematics of shifts, for nat's and the reference's. -/
import Derived.Test.YtpdfahompajbjaaDoorSlToW5
import Derived.Test.YtpdfahompajbjaaDoorW6ToP10
import Derived.Test.YtpdfahompajbjaaDoorSxToD8
namespace Go.Proofs.YtpdfahompajbjaaDoor
open Go.RowKit Dig
end Go.Proofs.YtpdfahompajbjaaDoor

