/- The reference's Shl answers the canonical digits of a number shifted up. -/
import Derived.Test.YtgjainmfilkjmaaDoorR7
namespace Go.Proofs.YtgjainmfilkjmaaDoor
open Go.RowKit Dig

end Go.Proofs.YtgjainmfilkjmaaDoor

