/- The guess of a quotient's digit, plain mathematics: never less than the true digit. -/
import Derived.Test.YtnkimagnmnocdaaY5ToD1
namespace Go.Proofs.Ytnkimagnmnocdaa
open Go.RowKit Dig

end Go.Proofs.Ytnkimagnmnocdaa

