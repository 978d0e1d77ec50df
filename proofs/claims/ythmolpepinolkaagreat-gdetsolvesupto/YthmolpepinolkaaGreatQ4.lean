/- frac: Add, Sub, Mul, Quo, Cmp, Floor, Round. -/
import Derived.Test.YthmolpepinolkaaGreatQ3
namespace Go.Proofs.YthmolpepinolkaaGreat
open Go Go.RowKit Dig
set_option linter.unusedVariables false
theorem zlen_opAdd {x y:Int} {l m:Nat} (hx:(dig x.natAbs).length≤l) (hy:(dig y.natAbs).length≤m):(dig (opAdd x y).natAbs).length≤l+m+1:=zlen_add hx hy
section
variable {w:World} {va vb:Value} {x y u v:Int} {l m k n:Nat}
end
end Go.Proofs.YthmolpepinolkaaGreat
