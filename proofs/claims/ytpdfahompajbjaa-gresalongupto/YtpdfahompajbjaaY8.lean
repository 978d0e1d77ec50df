/- zint's reference: Twice, Zero, Floor. -/
import Derived.Test.YtpdfahompajbjaaZ8
import Derived.Test.YtpdfahompajbjaaR17
namespace Go.Proofs.Ytpdfahompajbjaa
open Go.RowKit Dig

end Go.Proofs.Ytpdfahompajbjaa

