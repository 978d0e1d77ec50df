/- zint.FloorDiv. -/
import Derived.Test.YtnkimagnmnocdaaY5ToD1
import Derived.Test.YtnkimagnmnocdaaSxToD8
namespace Go.Proofs.Ytnkimagnmnocdaa
open Go.RowKit Dig

end Go.Proofs.Ytnkimagnmnocdaa

