/- The reference's Shl answers a row of its own. -/
import Derived.Test.YtjfjlloibmebeaaR8
import Derived.Test.YtjfjlloibmebeaaZ5ToY1
namespace Go.Proofs.Ytjfjlloibmebeaa
open Go.RowKit Dig

end Go.Proofs.Ytjfjlloibmebeaa

