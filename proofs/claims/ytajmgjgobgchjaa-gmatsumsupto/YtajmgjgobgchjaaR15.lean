/- The reference's takeOff and putBack, over a row of digits of the call's own. -/
import Derived.Test.YtajmgjgobgchjaaR14
import Derived.Test.YtajmgjgobgchjaaD5
import Derived.Test.YtajmgjgobgchjaaR2aToR6
namespace Go.Proofs.Ytajmgjgobgchjaa
open Go.RowKit Dig

end Go.Proofs.Ytajmgjgobgchjaa

