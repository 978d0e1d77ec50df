/- zint: Cmp. -/
import Derived.Test.YtajmgjgobgchjaaZ3
namespace Go.Proofs.Ytajmgjgobgchjaa
open Go.RowKit Dig

end Go.Proofs.Ytajmgjgobgchjaa

