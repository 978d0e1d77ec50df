/- The name of the library's table, taken off the given row. -/
import Derived.Test.YtkgbfnmlpajblaaGreatDoorRows
namespace Go.Proofs.YtkgbfnmlpajblaaGreatDoor
/-- The name of the library's table of the powers of ten, as the row spells it. -/
def p10 : String := Rows.fracKnownRow.named.headD ""
end Go.Proofs.YtkgbfnmlpajblaaGreatDoor
