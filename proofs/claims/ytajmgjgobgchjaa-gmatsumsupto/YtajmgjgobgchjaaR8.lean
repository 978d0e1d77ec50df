/- The reference's Shl answers the canonical digits of a number shifted up. -/
import Derived.Test.YtajmgjgobgchjaaR7
namespace Go.Proofs.Ytajmgjgobgchjaa
open Go.RowKit Dig

end Go.Proofs.Ytajmgjgobgchjaa

