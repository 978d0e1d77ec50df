/- Plain mathematics of shifts, for nat's and the reference's. -/
import Derived.Test.YtpdfahompajbjaaSlToW5
import Derived.Test.YtpdfahompajbjaaW6ToP10
import Derived.Test.YtpdfahompajbjaaSxToD8
namespace Go.Proofs.Ytpdfahompajbjaa
open Go.RowKit Dig
end Go.Proofs.Ytpdfahompajbjaa

