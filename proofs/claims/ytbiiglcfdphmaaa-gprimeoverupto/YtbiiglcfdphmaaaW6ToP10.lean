/- nat.takeGroup divides a row of digits by 10^9 in place and answers the rest. -/
import Derived.Test.YtbiiglcfdphmaaaSlToW5
import Derived.Test.YtbiiglcfdphmaaaRows

namespace Go.Proofs.Ytbiiglcfdphmaaa
open Go.RowKit Dig

end Go.Proofs.Ytbiiglcfdphmaaa


/- The name of the library's table, taken off the given row. -/
namespace Go.Proofs.Ytbiiglcfdphmaaa
end Go.Proofs.Ytbiiglcfdphmaaa

