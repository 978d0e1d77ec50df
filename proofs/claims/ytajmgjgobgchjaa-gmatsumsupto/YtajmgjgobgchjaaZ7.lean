/- zint.RoundDiv, Exact. -/
import Derived.Test.YtajmgjgobgchjaaZ6
namespace Go.Proofs.Ytajmgjgobgchjaa
open Go.RowKit Dig

end Go.Proofs.Ytajmgjgobgchjaa

