/- The reference's DivMod. -/
import Derived.Test.YtbiiglcfdphmaaaR15
import Derived.Test.YtbiiglcfdphmaaaR2aToR6
import Derived.Test.YtbiiglcfdphmaaaR9
import Derived.Test.YtbiiglcfdphmaaaSxToD8
import Derived.Deep.CutBlock
import Derived.Deep.DeepCutAuto
import Derived.BigQuiet
import Derived.Deep.DeepFit
import Derived.Deep.QuietTactic
namespace Go.Proofs.Ytbiiglcfdphmaaa
open Go.RowKit Dig

end Go.Proofs.Ytbiiglcfdphmaaa

