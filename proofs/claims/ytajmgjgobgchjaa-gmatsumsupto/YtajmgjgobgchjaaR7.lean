/- The reference's Shl and Shr answer the canonical digits of a number shifted. -/
import Derived.Test.YtajmgjgobgchjaaR2aToR6
import Derived.Test.YtajmgjgobgchjaaMx
namespace Go.Proofs.Ytajmgjgobgchjaa
open Go.RowKit Dig

end Go.Proofs.Ytajmgjgobgchjaa

