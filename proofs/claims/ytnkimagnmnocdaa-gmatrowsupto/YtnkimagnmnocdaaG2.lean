/- gint: RoundDiv, Exact. -/
import Derived.Test.YtnkimagnmnocdaaWpToM4
namespace Go.Proofs.Ytnkimagnmnocdaa
open Go Go.RowKit Dig
set_option linter.unusedVariables false

section
variable {w : World} {va vb : Value} {x y u v : Int} {l m k n : Nat}
end
end Go.Proofs.Ytnkimagnmnocdaa

