/- The reference's short answers quotient and rest by one digit. -/
import Derived.Test.YtnkimagnmnocdaaR2aToR6
import Derived.Test.YtnkimagnmnocdaaZ5ToY1
import Derived.Test.YtnkimagnmnocdaaW6ToP10
namespace Go.Proofs.Ytnkimagnmnocdaa
open Go.RowKit Dig

end Go.Proofs.Ytnkimagnmnocdaa

