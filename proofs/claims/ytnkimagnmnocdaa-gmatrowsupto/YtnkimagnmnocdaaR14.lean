/- The reference's Shl answers a row of its own. -/
import Derived.Test.YtnkimagnmnocdaaR8
import Derived.Test.YtnkimagnmnocdaaZ5ToY1
namespace Go.Proofs.Ytnkimagnmnocdaa
open Go.RowKit Dig

end Go.Proofs.Ytnkimagnmnocdaa

