/- The guess of a quotient's digit: shifted digits as digits of the shifted number, and where the guess ends. Plain mathematics. -/
import Derived.Test.YtajmgjgobgchjaaD2
namespace Go.Proofs.Ytajmgjgobgchjaa
open Go.RowKit Dig

end Go.Proofs.Ytajmgjgobgchjaa

