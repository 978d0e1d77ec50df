/- Plain mathematics of shifts, for nat's and the reference's. -/
import Derived.Test.YtgjainmfilkjmaaDoorSlToW5
import Derived.Test.YtgjainmfilkjmaaDoorW6ToP10
import Derived.Test.YtgjainmfilkjmaaDoorSxToD8
namespace Go.Proofs.YtgjainmfilkjmaaDoor
open Go.RowKit Dig
end Go.Proofs.YtgjainmfilkjmaaDoor

