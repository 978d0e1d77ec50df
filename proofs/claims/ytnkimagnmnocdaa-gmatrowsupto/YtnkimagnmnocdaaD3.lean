/- The guess of a quotient's digit: shifted digits as digits of the shifted number, and where the guess ends. Plain mathematics. -/
import Derived.Test.YtnkimagnmnocdaaD2
namespace Go.Proofs.Ytnkimagnmnocdaa
open Go.RowKit Dig

end Go.Proofs.Ytnkimagnmnocdaa

