/- strconv.FormatUint and AppendUint at base ten, where the library's table of powers of ten holds what the text lays. -/
import Derived.Test.YthmolpepinolkaaGreatShelf
import Derived.Lib.Walk
import Derived.Lib.ItoaWalk
import Derived.Lib.ItoaMem
import Derived.Lib.AppendIntMem
import Derived.BigCall
import Derived.BigGuard
namespace Go.Proofs.YthmolpepinolkaaGreat
open Go.RowKit Dig Go.Sort Go.Lib
end Go.Proofs.YthmolpepinolkaaGreat
