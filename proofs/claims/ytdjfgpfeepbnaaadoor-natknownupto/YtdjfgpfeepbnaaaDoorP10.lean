/- The name of the library's table, taken off the given row. -/
import Derived.Test.YtdjfgpfeepbnaaaDoorRows
namespace Go.Proofs.YtdjfgpfeepbnaaaDoor
/-- The name of the library's table of the powers of ten, as the row spells it. -/
def p10 : String := Rows.natKnownRow.named.headD ""
end Go.Proofs.YtdjfgpfeepbnaaaDoor
