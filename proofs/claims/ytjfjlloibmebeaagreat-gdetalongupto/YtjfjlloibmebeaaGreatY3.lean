/- zint's reference: Add, Sub, Twice. -/
import Derived.Test.YtjfjlloibmebeaaGreatY2
namespace Go.Proofs.YtjfjlloibmebeaaGreat
open Go.RowKit Dig

end Go.Proofs.YtjfjlloibmebeaaGreat

