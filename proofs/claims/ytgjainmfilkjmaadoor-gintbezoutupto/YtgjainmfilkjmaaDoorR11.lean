/- The reference's Parse answers the digits of a text's worth. -/
import Derived.Test.YtgjainmfilkjmaaDoorG3ToR10
namespace Go.Proofs.YtgjainmfilkjmaaDoor
open Go.RowKit Dig

end Go.Proofs.YtgjainmfilkjmaaDoor

