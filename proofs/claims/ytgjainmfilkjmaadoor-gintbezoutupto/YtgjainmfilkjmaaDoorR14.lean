/- The reference's Shl answers a row of its own. -/
import Derived.Test.YtgjainmfilkjmaaDoorR8
import Derived.Test.YtgjainmfilkjmaaDoorZ5ToY1
namespace Go.Proofs.YtgjainmfilkjmaaDoor
open Go.RowKit Dig

end Go.Proofs.YtgjainmfilkjmaaDoor

