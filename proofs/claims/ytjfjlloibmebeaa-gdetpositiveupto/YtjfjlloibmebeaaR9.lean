/- The reference's short answers quotient and rest by one digit. -/
import Derived.Test.YtjfjlloibmebeaaR2aToR6
import Derived.Test.YtjfjlloibmebeaaZ5ToY1
import Derived.Test.YtjfjlloibmebeaaW6ToP10
namespace Go.Proofs.Ytjfjlloibmebeaa
open Go.RowKit Dig

end Go.Proofs.Ytjfjlloibmebeaa

