/- nat.takeGroup divides a row of digits by 10^9 in place and answers the rest. -/
import Derived.Test.YtnkimagnmnocdaaSlToW5
import Derived.Test.YtnkimagnmnocdaaRows

namespace Go.Proofs.Ytnkimagnmnocdaa
open Go.RowKit Dig

end Go.Proofs.Ytnkimagnmnocdaa


/- The name of the library's table, taken off the given row. -/
namespace Go.Proofs.Ytnkimagnmnocdaa
end Go.Proofs.Ytnkimagnmnocdaa

