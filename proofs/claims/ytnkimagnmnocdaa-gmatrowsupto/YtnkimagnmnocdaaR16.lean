/- The reference's DivMod. -/
import Derived.Test.YtnkimagnmnocdaaR15
import Derived.Test.YtnkimagnmnocdaaR2aToR6
import Derived.Test.YtnkimagnmnocdaaR9
import Derived.Test.YtnkimagnmnocdaaSxToD8
import Derived.Deep.CutBlock
import Derived.Deep.DeepCutAuto
import Derived.BigQuiet
import Derived.Deep.DeepFit
import Derived.Deep.QuietTactic
namespace Go.Proofs.Ytnkimagnmnocdaa
open Go.RowKit Dig

end Go.Proofs.Ytnkimagnmnocdaa

