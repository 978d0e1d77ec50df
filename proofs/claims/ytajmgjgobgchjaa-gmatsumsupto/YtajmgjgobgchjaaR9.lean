/- The reference's short answers quotient and rest by one digit. -/
import Derived.Test.YtajmgjgobgchjaaR2aToR6
import Derived.Test.YtajmgjgobgchjaaZ5ToY1
import Derived.Test.YtajmgjgobgchjaaW6ToP10
namespace Go.Proofs.Ytajmgjgobgchjaa
open Go.RowKit Dig

end Go.Proofs.Ytajmgjgobgchjaa

