/- frac: Add, Sub, Mul, Quo. -/
import Derived.Test.YthmolpepinolkaaGreatGpToQ2
namespace Go.Proofs.YthmolpepinolkaaGreat
open Go Go.RowKit Dig
set_option linter.unusedVariables false
def opAdd (x y:Int):Int:=x+y
def opSub (x y:Int):Int:=x - y
section
variable {w:World} {pa pb:Nat} {n1 n2 n3 n4:Bool} {o1 o2 o3 o4:Option Addr} {k1 k2 k3 k4 c1 c2 c3 c4:Nat} {x y u v:Int} {l m k n:Nat}
end
end Go.Proofs.YthmolpepinolkaaGreat
