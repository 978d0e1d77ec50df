/- zint's reference: Add, Sub, Twice. -/
import Derived.Test.YtajmgjgobgchjaaY2
namespace Go.Proofs.Ytajmgjgobgchjaa
open Go.RowKit Dig

end Go.Proofs.Ytajmgjgobgchjaa

