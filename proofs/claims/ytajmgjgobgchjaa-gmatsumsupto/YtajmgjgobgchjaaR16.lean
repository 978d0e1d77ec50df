/- The reference's DivMod. -/
import Derived.Test.YtajmgjgobgchjaaR15
import Derived.Test.YtajmgjgobgchjaaR2aToR6
import Derived.Test.YtajmgjgobgchjaaR9
import Derived.Test.YtajmgjgobgchjaaSxToD8
import Derived.Deep.CutBlock
import Derived.Deep.DeepCutAuto
import Derived.BigQuiet
import Derived.Deep.DeepFit
import Derived.Deep.QuietTactic
namespace Go.Proofs.Ytajmgjgobgchjaa
open Go.RowKit Dig

end Go.Proofs.Ytajmgjgobgchjaa

