/- strconv.FormatUint and AppendUint at base ten, where the library's table of powers of ten holds what the text lays. -/
import Derived.Test.YtnkimagnmnocdaaW6ToP10
import Derived.Test.YtnkimagnmnocdaaShelf
import Derived.Lib.Walk
import Derived.Lib.ItoaWalk
import Derived.Lib.ItoaMem
import Derived.Lib.AppendIntMem
import Derived.BigCall
import Derived.BigGuard
namespace Go.Proofs.Ytnkimagnmnocdaa
open Go.RowKit Dig Go.Sort Go.Lib
end Go.Proofs.Ytnkimagnmnocdaa

