/- The name of the library's table, taken off the given row. -/
import Derived.Test.YtpjibjcbaohlaacDoorRows
namespace Go.Proofs.YtpjibjcbaohlaacDoor
/-- The name of the library's table of the powers of ten, as the row spells it. -/
def p10 : String := Rows.natBackRow.named.headD ""
end Go.Proofs.YtpjibjcbaohlaacDoor
