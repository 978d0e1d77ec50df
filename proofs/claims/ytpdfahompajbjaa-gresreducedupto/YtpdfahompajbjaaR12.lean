/- The reference's Text answers the decimal digits. -/
import Derived.Maps.AppendAt
import Derived.Test.YtpdfahompajbjaaW8
import Derived.Test.YtpdfahompajbjaaR9
namespace Go.Proofs.Ytpdfahompajbjaa
open Go.RowKit Dig Go.Lib
end Go.Proofs.Ytpdfahompajbjaa
