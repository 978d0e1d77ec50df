/- The reference's short answers quotient and rest by one digit. -/
import Derived.Test.YtgjainmfilkjmaaDoorR2aToR6
import Derived.Test.YtgjainmfilkjmaaDoorZ5ToY1
import Derived.Test.YtgjainmfilkjmaaDoorW6ToP10
namespace Go.Proofs.YtgjainmfilkjmaaDoor
open Go.RowKit Dig

end Go.Proofs.YtgjainmfilkjmaaDoor

