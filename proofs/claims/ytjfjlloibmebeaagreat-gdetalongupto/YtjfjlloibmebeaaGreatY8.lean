/- zint's reference: Twice, Zero, Floor. -/
import Derived.Test.YtjfjlloibmebeaaGreatZ8
import Derived.Test.YtjfjlloibmebeaaGreatR17
namespace Go.Proofs.YtjfjlloibmebeaaGreat
open Go.RowKit Dig

end Go.Proofs.YtjfjlloibmebeaaGreat

