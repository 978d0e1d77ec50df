/- The guess of a quotient's digit, plain mathematics: never less than the true digit. -/
import Derived.Test.YtajmgjgobgchjaaY5ToD1
namespace Go.Proofs.Ytajmgjgobgchjaa
open Go.RowKit Dig

end Go.Proofs.Ytajmgjgobgchjaa

