/- The reference's Gcd. -/
import Derived.Test.YtjcfhbekpmpbeaaDoorR16
import Derived.Test.YtjcfhbekpmpbeaaDoorSxToD8
import Derived.Deep.LoopGhost
namespace Go.Proofs.YtjcfhbekpmpbeaaDoor
open Go.RowKit Dig
end Go.Proofs.YtjcfhbekpmpbeaaDoor
