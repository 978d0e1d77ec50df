/- Plain mathematics of shifts, for nat's and the reference's. -/
import Derived.Test.YtjfjlloibmebeaaSlToW5
import Derived.Test.YtjfjlloibmebeaaW6ToP10
import Derived.Test.YtjfjlloibmebeaaSxToD8
namespace Go.Proofs.Ytjfjlloibmebeaa
open Go.RowKit Dig
end Go.Proofs.Ytjfjlloibmebeaa

