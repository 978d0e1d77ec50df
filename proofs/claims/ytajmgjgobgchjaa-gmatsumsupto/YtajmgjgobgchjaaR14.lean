/- The reference's Shl answers a row of its own. -/
import Derived.Test.YtajmgjgobgchjaaR8
import Derived.Test.YtajmgjgobgchjaaZ5ToY1
namespace Go.Proofs.Ytajmgjgobgchjaa
open Go.RowKit Dig

end Go.Proofs.Ytajmgjgobgchjaa

