/- The reference's Parse answers the digits of a text's worth. -/
import Derived.Test.YtkgbfnmlpajblaaGreatDoorZ13ToR10
namespace Go.Proofs.YtkgbfnmlpajblaaGreatDoor
open Go.RowKit Dig

end Go.Proofs.YtkgbfnmlpajblaaGreatDoor

