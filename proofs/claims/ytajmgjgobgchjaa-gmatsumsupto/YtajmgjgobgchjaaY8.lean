/- zint's reference: Twice, Zero, Floor. -/
import Derived.Test.YtajmgjgobgchjaaZ8
import Derived.Test.YtajmgjgobgchjaaR17
namespace Go.Proofs.Ytajmgjgobgchjaa
open Go.RowKit Dig
end Go.Proofs.Ytajmgjgobgchjaa

