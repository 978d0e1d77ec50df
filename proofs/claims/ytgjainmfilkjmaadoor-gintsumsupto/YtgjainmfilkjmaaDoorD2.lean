/- The guess of a quotient's digit, plain mathematics: never less than the true digit. -/
import Derived.Test.YtgjainmfilkjmaaDoorY5ToD1
namespace Go.Proofs.YtgjainmfilkjmaaDoor
open Go.RowKit Dig

end Go.Proofs.YtgjainmfilkjmaaDoor

