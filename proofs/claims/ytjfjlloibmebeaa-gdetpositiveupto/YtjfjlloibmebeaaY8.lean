/- zint's reference: Twice, Zero, Floor. -/
import Derived.Test.YtjfjlloibmebeaaZ8
import Derived.Test.YtjfjlloibmebeaaR17
namespace Go.Proofs.Ytjfjlloibmebeaa
open Go.RowKit Dig
end Go.Proofs.Ytjfjlloibmebeaa

