/- The reference's Gcd. -/
import Derived.Test.YtgjainmfilkjmaaDoorR16
import Derived.Test.YtgjainmfilkjmaaDoorSxToD8
import Derived.Deep.LoopGhost
namespace Go.Proofs.YtgjainmfilkjmaaDoor
open Go.RowKit Dig

end Go.Proofs.YtgjainmfilkjmaaDoor

