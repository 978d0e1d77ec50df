/- The reference's Parse answers the digits of a text's worth. -/
import Derived.Test.YtpdfahompajbjaaG3ToR10
namespace Go.Proofs.Ytpdfahompajbjaa
open Go.RowKit Dig
end Go.Proofs.Ytpdfahompajbjaa
