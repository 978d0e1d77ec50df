/- The reference's Shl answers the canonical digits of a number shifted up. -/
import Derived.Test.YtjfjlloibmebeaaGreatR7
namespace Go.Proofs.YtjfjlloibmebeaaGreat
open Go.RowKit Dig

end Go.Proofs.YtjfjlloibmebeaaGreat

