/- zint.FloorDiv. -/
import Derived.Test.YtajmgjgobgchjaaY5ToD1
import Derived.Test.YtajmgjgobgchjaaSxToD8
namespace Go.Proofs.Ytajmgjgobgchjaa
open Go.RowKit Dig

end Go.Proofs.Ytajmgjgobgchjaa

