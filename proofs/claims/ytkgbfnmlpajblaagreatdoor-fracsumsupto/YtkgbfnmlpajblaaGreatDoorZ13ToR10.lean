/- zint.Int. -/
import Derived.Test.YtkgbfnmlpajblaaGreatDoorZ8
import Derived.Test.YtkgbfnmlpajblaaGreatDoorR7
import Derived.Test.YtkgbfnmlpajblaaGreatDoorMx
import Derived.Test.YtkgbfnmlpajblaaGreatDoorR2aToR6
import Derived.Test.YtkgbfnmlpajblaaGreatDoorW8
import Derived.Test.YtkgbfnmlpajblaaGreatDoorR1
import Derived.Lib.Strings

namespace Go.Proofs.YtkgbfnmlpajblaaGreatDoor
open Go.RowKit Dig
end Go.Proofs.YtkgbfnmlpajblaaGreatDoor

/- nat.isDigits, groupValue and putGroup: what a text's digits are worth. -/
namespace Go.Proofs.YtkgbfnmlpajblaaGreatDoor
open Go.RowKit Dig

end Go.Proofs.YtkgbfnmlpajblaaGreatDoor

/- nat.Parse: the number of a text of digits, or the error. -/
namespace Go.Proofs.YtkgbfnmlpajblaaGreatDoor
open Go.RowKit Dig

end Go.Proofs.YtkgbfnmlpajblaaGreatDoor

/- The reference's Digits and Parse: what a text's digits are worth. -/
namespace Go.Proofs.YtkgbfnmlpajblaaGreatDoor
open Go.RowKit Dig

end Go.Proofs.YtkgbfnmlpajblaaGreatDoor

