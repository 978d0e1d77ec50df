/- nat.guessDigit: the guess is the true digit or more, and is a digit. -/
import Derived.Test.YtajmgjgobgchjaaD3
namespace Go.Proofs.Ytajmgjgobgchjaa
open Go.RowKit Dig

end Go.Proofs.Ytajmgjgobgchjaa

