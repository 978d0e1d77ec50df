/- The reference's DivMod. -/
import Derived.Test.YthlhekkcjficdaaR15
import Derived.Test.YthlhekkcjficdaaR2aToR6
import Derived.Test.YthlhekkcjficdaaR9
import Derived.Test.YthlhekkcjficdaaSxToD8
import Derived.Deep.CutBlock
import Derived.Deep.DeepCutAuto
import Derived.BigQuiet
import Derived.Deep.DeepFit
import Derived.Deep.QuietTactic
namespace Go.Proofs.Ythlhekkcjficdaa
open Go.RowKit Dig

end Go.Proofs.Ythlhekkcjficdaa

