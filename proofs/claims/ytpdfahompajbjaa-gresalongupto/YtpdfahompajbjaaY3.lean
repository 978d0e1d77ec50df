/- zint's reference: Add, Sub, Twice. -/
import Derived.Test.YtpdfahompajbjaaY2
namespace Go.Proofs.Ytpdfahompajbjaa
open Go.RowKit Dig

end Go.Proofs.Ytpdfahompajbjaa

