/- Plain mathematics of shifts, for nat's and the reference's. -/
import Derived.Test.YtnkimagnmnocdaaSlToW5
import Derived.Test.YtnkimagnmnocdaaW6ToP10
import Derived.Test.YtnkimagnmnocdaaSxToD8
namespace Go.Proofs.Ytnkimagnmnocdaa
open Go.RowKit Dig
end Go.Proofs.Ytnkimagnmnocdaa

