/- The reference's Shl and Shr answer the canonical digits of a number shifted. -/
import Derived.Test.YtpdfahompajbjaaR2aToR6
import Derived.Test.YtpdfahompajbjaaMx
namespace Go.Proofs.Ytpdfahompajbjaa
open Go.RowKit Dig

end Go.Proofs.Ytpdfahompajbjaa

