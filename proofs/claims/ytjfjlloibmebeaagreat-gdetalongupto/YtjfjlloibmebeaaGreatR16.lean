/- The reference's DivMod. -/
import Derived.Test.YtjfjlloibmebeaaGreatR15
import Derived.Test.YtjfjlloibmebeaaGreatR2aToZ1
import Derived.Test.YtjfjlloibmebeaaGreatR9
import Derived.Test.YtjfjlloibmebeaaGreatSxToD8
import Derived.Deep.CutBlock
import Derived.Deep.DeepCutAuto
import Derived.BigQuiet
import Derived.Deep.DeepFit
import Derived.Deep.QuietTactic
namespace Go.Proofs.YtjfjlloibmebeaaGreat
open Go.RowKit Dig

end Go.Proofs.YtjfjlloibmebeaaGreat

