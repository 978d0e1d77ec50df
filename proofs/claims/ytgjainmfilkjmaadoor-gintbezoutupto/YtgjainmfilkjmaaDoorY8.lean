/- zint's reference: Twice, Zero, Floor. -/
import Derived.Test.YtgjainmfilkjmaaDoorZ8
import Derived.Test.YtgjainmfilkjmaaDoorR17
namespace Go.Proofs.YtgjainmfilkjmaaDoor
open Go.RowKit Dig

end Go.Proofs.YtgjainmfilkjmaaDoor

