/- zint.FloorDiv. -/
import Derived.Test.YtpdfahompajbjaaDoorY5ToD1
import Derived.Test.YtpdfahompajbjaaDoorSxToD8
namespace Go.Proofs.YtpdfahompajbjaaDoor
open Go.RowKit Dig

def fr (na : Bool) (X Y : Nat) : Int := if na = true then -((X % Y : Nat) : Int) else ((X % Y : Nat) : Int)
end Go.Proofs.YtpdfahompajbjaaDoor

