/- zint.FloorDiv. -/
import Derived.Test.YtgjainmfilkjmaaDoorY5ToD1
import Derived.Test.YtgjainmfilkjmaaDoorSxToD8
namespace Go.Proofs.YtgjainmfilkjmaaDoor
open Go.RowKit Dig

def fr (na : Bool) (X Y : Nat) : Int := if na = true then -((X % Y : Nat) : Int) else ((X % Y : Nat) : Int)
end Go.Proofs.YtgjainmfilkjmaaDoor

