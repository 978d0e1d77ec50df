/- zint's reference: Add, Sub, Twice. -/
import Derived.Test.YtgjainmfilkjmaaDoorY2
namespace Go.Proofs.YtgjainmfilkjmaaDoor
open Go.RowKit Dig

end Go.Proofs.YtgjainmfilkjmaaDoor

