/- zint's reference: Twice, Zero, Floor. -/
import Derived.Test.YtnkimagnmnocdaaZ8
import Derived.Test.YtnkimagnmnocdaaR17
namespace Go.Proofs.Ytnkimagnmnocdaa
open Go.RowKit Dig
end Go.Proofs.Ytnkimagnmnocdaa

