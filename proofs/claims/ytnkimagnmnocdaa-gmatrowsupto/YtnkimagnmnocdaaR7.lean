/- The reference's Shl and Shr answer the canonical digits of a number shifted. -/
import Derived.Test.YtnkimagnmnocdaaR2aToR6
import Derived.Test.YtnkimagnmnocdaaMx
namespace Go.Proofs.Ytnkimagnmnocdaa
open Go.RowKit Dig

end Go.Proofs.Ytnkimagnmnocdaa

