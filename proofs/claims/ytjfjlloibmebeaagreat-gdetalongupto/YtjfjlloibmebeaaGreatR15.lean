/- The reference's takeOff and putBack, over a row of digits of the call's own. -/
import Derived.Test.YtjfjlloibmebeaaGreatR14
import Derived.Test.YtjfjlloibmebeaaGreatD5
import Derived.Test.YtjfjlloibmebeaaGreatR2aToZ1
namespace Go.Proofs.YtjfjlloibmebeaaGreat
open Go.RowKit Dig

end Go.Proofs.YtjfjlloibmebeaaGreat

