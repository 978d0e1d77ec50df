/- zint: Cmp. -/
import Derived.Test.YtpdfahompajbjaaZ3
namespace Go.Proofs.Ytpdfahompajbjaa
open Go.RowKit Dig
end Go.Proofs.Ytpdfahompajbjaa
