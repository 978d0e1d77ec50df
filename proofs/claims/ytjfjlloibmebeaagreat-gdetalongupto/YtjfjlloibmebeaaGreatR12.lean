/- The reference's Text answers the decimal digits. -/
import Derived.Maps.AppendAt
import Derived.Test.YtjfjlloibmebeaaGreatW8
import Derived.Test.YtjfjlloibmebeaaGreatR9
namespace Go.Proofs.YtjfjlloibmebeaaGreat
open Go.RowKit Dig Go.Lib

end Go.Proofs.YtjfjlloibmebeaaGreat

