/- The reference's Shl answers a row of its own. -/
import Derived.Test.YtjfjlloibmebeaaGreatR8
import Derived.Test.YtjfjlloibmebeaaGreatZ5ToY1
namespace Go.Proofs.YtjfjlloibmebeaaGreat
open Go.RowKit Dig

end Go.Proofs.YtjfjlloibmebeaaGreat

