/- zint's reference: Add, Sub, Twice. -/
import Derived.Test.YthlhekkcjficdaaY2
namespace Go.Proofs.Ythlhekkcjficdaa
open Go.RowKit Dig

end Go.Proofs.Ythlhekkcjficdaa

