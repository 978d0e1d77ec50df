/- The reference's Shl and Shr answer the canonical digits of a number shifted. -/
import Derived.Test.YtjfjlloibmebeaaR2aToR6
import Derived.Test.YtjfjlloibmebeaaMx
namespace Go.Proofs.Ytjfjlloibmebeaa
open Go.RowKit Dig

end Go.Proofs.Ytjfjlloibmebeaa

