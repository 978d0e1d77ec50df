/- zint.RoundDiv, Exact. -/
import Derived.Test.YtnkimagnmnocdaaZ6
namespace Go.Proofs.Ytnkimagnmnocdaa
open Go.RowKit Dig

end Go.Proofs.Ytnkimagnmnocdaa

