/- strconv.FormatUint and AppendUint at base ten, where the library's table of powers of ten holds what the text lays. -/
import Derived.Test.YtjfjlloibmebeaaW6ToP10
import Derived.Test.YtjfjlloibmebeaaShelf
import Derived.Lib.Walk
import Derived.Lib.ItoaWalk
import Derived.Lib.ItoaMem
import Derived.Lib.AppendIntMem
import Derived.BigCall
import Derived.BigGuard
namespace Go.Proofs.Ytjfjlloibmebeaa
open Go.RowKit Dig Go.Sort Go.Lib
end Go.Proofs.Ytjfjlloibmebeaa

