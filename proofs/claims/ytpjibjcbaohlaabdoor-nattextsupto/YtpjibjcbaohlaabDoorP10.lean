/- The name of the library's table, taken off the given row. -/
import Derived.Test.YtpjibjcbaohlaabDoorRows
namespace Go.Proofs.YtpjibjcbaohlaabDoor
/-- The name of the library's table of the powers of ten, as the row spells it. -/
def p10 : String := Rows.natGcdsRow.named.headD ""
end Go.Proofs.YtpjibjcbaohlaabDoor
