/- The reference's Digits and Parse: what a text's digits are worth. -/
import Derived.Test.YtjcfhbekpmpbeaaDoorR4
import Derived.Test.YtjcfhbekpmpbeaaDoorW12
namespace Go.Proofs.YtjcfhbekpmpbeaaDoor
open Go.RowKit Dig
end Go.Proofs.YtjcfhbekpmpbeaaDoor
