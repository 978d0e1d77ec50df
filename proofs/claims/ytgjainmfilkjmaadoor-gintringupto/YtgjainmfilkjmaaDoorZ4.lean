/- zint: Cmp. -/
import Derived.Test.YtgjainmfilkjmaaDoorZ3
namespace Go.Proofs.YtgjainmfilkjmaaDoor
open Go.RowKit Dig

end Go.Proofs.YtgjainmfilkjmaaDoor

