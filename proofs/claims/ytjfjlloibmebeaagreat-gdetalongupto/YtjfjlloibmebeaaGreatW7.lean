/- strconv.FormatUint and AppendUint at base ten, where the library's table of powers of ten holds what the text lays. -/
import Derived.Test.YtjfjlloibmebeaaGreatSlToP10
import Derived.Test.YtjfjlloibmebeaaGreatShelf
import Derived.Lib.Walk
import Derived.Lib.ItoaWalk
import Derived.Lib.ItoaMem
import Derived.Lib.AppendIntMem
import Derived.BigCall
import Derived.BigGuard
namespace Go.Proofs.YtjfjlloibmebeaaGreat
open Go.RowKit Dig Go.Sort Go.Lib
end Go.Proofs.YtjfjlloibmebeaaGreat

