/- zint.RoundDiv, Exact. -/
import Derived.Test.YtgjainmfilkjmaaDoorZ6
namespace Go.Proofs.YtgjainmfilkjmaaDoor
open Go.RowKit Dig

end Go.Proofs.YtgjainmfilkjmaaDoor

