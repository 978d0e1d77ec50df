/- nat.takeGroup divides a row of digits by 10^9 in place and answers the rest. -/
import Derived.Test.YtajmgjgobgchjaaSlToW5
import Derived.Test.YtajmgjgobgchjaaRows

namespace Go.Proofs.Ytajmgjgobgchjaa
open Go.RowKit Dig

end Go.Proofs.Ytajmgjgobgchjaa


/- The name of the library's table, taken off the given row. -/
namespace Go.Proofs.Ytajmgjgobgchjaa
end Go.Proofs.Ytajmgjgobgchjaa

