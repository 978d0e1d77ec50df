/- The reference's Shl and Shr answer the canonical digits of a number shifted. -/
import Derived.Test.YtgjainmfilkjmaaDoorR2aToR6
import Derived.Test.YtgjainmfilkjmaaDoorMx
namespace Go.Proofs.YtgjainmfilkjmaaDoor
open Go.RowKit Dig

end Go.Proofs.YtgjainmfilkjmaaDoor

