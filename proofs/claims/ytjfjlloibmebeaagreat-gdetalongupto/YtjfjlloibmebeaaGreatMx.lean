/- Plain mathematics of shifts, for nat's and the reference's. -/
import Derived.Test.YtjfjlloibmebeaaGreatSlToP10
import Derived.Test.YtjfjlloibmebeaaGreatSxToD8
namespace Go.Proofs.YtjfjlloibmebeaaGreat
open Go.RowKit Dig
end Go.Proofs.YtjfjlloibmebeaaGreat

