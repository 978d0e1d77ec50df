/- The reference's Parse answers the digits of a text's worth. -/
import Derived.Test.YtgjainmfilkjmaaGreatDoorG3ToR10
namespace Go.Proofs.YtgjainmfilkjmaaGreatDoor
open Go.RowKit Dig

end Go.Proofs.YtgjainmfilkjmaaGreatDoor

