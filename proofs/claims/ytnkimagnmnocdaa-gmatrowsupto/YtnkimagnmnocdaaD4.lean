/- nat.guessDigit: the guess is the true digit or more, and is a digit. -/
import Derived.Test.YtnkimagnmnocdaaD3
namespace Go.Proofs.Ytnkimagnmnocdaa
open Go.RowKit Dig

end Go.Proofs.Ytnkimagnmnocdaa

