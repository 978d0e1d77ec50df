/- zint: Cmp. -/
import Derived.Test.YtnkimagnmnocdaaZ3
namespace Go.Proofs.Ytnkimagnmnocdaa
open Go.RowKit Dig

end Go.Proofs.Ytnkimagnmnocdaa

