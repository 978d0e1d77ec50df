/- The reference's takeOff and putBack, over a row of digits of the call's own. -/
import Derived.Test.YtnkimagnmnocdaaR14
import Derived.Test.YtnkimagnmnocdaaD5
import Derived.Test.YtnkimagnmnocdaaR2aToR6
namespace Go.Proofs.Ytnkimagnmnocdaa
open Go.RowKit Dig

end Go.Proofs.Ytnkimagnmnocdaa

