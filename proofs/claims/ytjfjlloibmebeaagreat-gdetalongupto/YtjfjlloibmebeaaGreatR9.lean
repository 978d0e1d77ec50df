/- The reference's short answers quotient and rest by one digit. -/
import Derived.Test.YtjfjlloibmebeaaGreatR2aToZ1
import Derived.Test.YtjfjlloibmebeaaGreatZ5ToY1
import Derived.Test.YtjfjlloibmebeaaGreatSlToP10
namespace Go.Proofs.YtjfjlloibmebeaaGreat
open Go.RowKit Dig

end Go.Proofs.YtjfjlloibmebeaaGreat

