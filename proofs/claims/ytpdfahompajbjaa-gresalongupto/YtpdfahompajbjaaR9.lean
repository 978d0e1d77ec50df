/- The reference's short answers quotient and rest by one digit. -/
import Derived.Test.YtpdfahompajbjaaR2aToR6
import Derived.Test.YtpdfahompajbjaaZ5ToY1
import Derived.Test.YtpdfahompajbjaaW6ToP10
namespace Go.Proofs.Ytpdfahompajbjaa
open Go.RowKit Dig

end Go.Proofs.Ytpdfahompajbjaa

