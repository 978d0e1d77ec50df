/- The name of the library's table, taken off the given row. -/
import Derived.Test.YtabmffenbkdgkaaDoorRows
namespace Go.Proofs.YtabmffenbkdgkaaDoor
/-- The name of the library's table of the powers of ten, as the row spells it. -/
def p10 : String := Rows.zintKnownRow.named.headD ""
end Go.Proofs.YtabmffenbkdgkaaDoor
