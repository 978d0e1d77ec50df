/- The reference's Shl answers the canonical digits of a number shifted up. -/
import Derived.Test.YtpdfahompajbjaaR7
namespace Go.Proofs.Ytpdfahompajbjaa
open Go.RowKit Dig

end Go.Proofs.Ytpdfahompajbjaa

