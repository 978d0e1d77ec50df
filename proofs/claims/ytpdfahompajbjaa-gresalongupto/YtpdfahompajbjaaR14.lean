/- The reference's Shl answers a row of its own. -/
import Derived.Test.YtpdfahompajbjaaR8
import Derived.Test.YtpdfahompajbjaaZ5ToY1
namespace Go.Proofs.Ytpdfahompajbjaa
open Go.RowKit Dig

end Go.Proofs.Ytpdfahompajbjaa

