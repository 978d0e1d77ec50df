/- The reference's Shl answers the canonical digits of a number shifted up. -/
import Derived.Test.YtnkimagnmnocdaaR7
namespace Go.Proofs.Ytnkimagnmnocdaa
open Go.RowKit Dig

end Go.Proofs.Ytnkimagnmnocdaa

