/- The reference's short answers quotient and rest by one digit. -/
import Derived.Test.YthlhekkcjficdaaR2aToR6
import Derived.Test.YthlhekkcjficdaaZ5ToY1
import Derived.Test.YthlhekkcjficdaaW6ToP10
namespace Go.Proofs.Ythlhekkcjficdaa
open Go.RowKit Dig

end Go.Proofs.Ythlhekkcjficdaa

