/- Plain mathematics of shifts, for nat's and the reference's. -/
import Derived.Test.YtajmgjgobgchjaaSlToW5
import Derived.Test.YtajmgjgobgchjaaW6ToP10
import Derived.Test.YtajmgjgobgchjaaSxToD8
namespace Go.Proofs.Ytajmgjgobgchjaa
open Go.RowKit Dig
end Go.Proofs.Ytajmgjgobgchjaa

