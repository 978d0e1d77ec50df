/- The name of the library's table, taken off the given row. -/
import Derived.Test.YtjcfhbekpmpbeaaDoorRows
namespace Go.Proofs.YtjcfhbekpmpbeaaDoor
/-- The name of the library's table of the powers of ten, as the row spells it. -/
def p10 : String := Rows.natKeptRow.named.headD ""
end Go.Proofs.YtjcfhbekpmpbeaaDoor
