/- zint's reference: Add, Sub, Twice. -/
import Derived.Test.YtjfjlloibmebeaaY2
namespace Go.Proofs.Ytjfjlloibmebeaa
open Go.RowKit Dig

end Go.Proofs.Ytjfjlloibmebeaa

