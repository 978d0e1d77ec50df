/- The reference's Shl answers the canonical digits of a number shifted up. -/
import Derived.Test.YtjfjlloibmebeaaR7
namespace Go.Proofs.Ytjfjlloibmebeaa
open Go.RowKit Dig

end Go.Proofs.Ytjfjlloibmebeaa

